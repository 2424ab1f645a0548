import PyProof.Rows.All
import Wide.All
import OpenK.AllK
import Wide.FinOn
import HandS.Words
import HandS.List
import PyProof.Rows.ReprR
import HandS.SortRule
import HandS.Conv
import KE.KDictPairs
import HandS.More
import HandS.TupLe
import HandS.DictComp
import HandS.Defaults
import PyProof.ReprLen
import PyProof.FitsInt
import HandS.Comp
import HandS.IsInst
import HandS.Walk
import HandS.Style
import HandS.TupAny
import PyProof.Rows.IntBool
import PyProof.Rows.EqBoolInt
import PyProof.CallStr
import HandS.Text
import HandS.ExcOwn
import HandS.ExcInit
import HandS.Lambda
import HandS.ForMost
import HandS.TupSets
import KE.KeyNested
import HandS.SortOrd
import HandS.TupMul
import HandS.NoneIn
import HandS.SetBool
import KE.GoesSet
import PyProof.NeKinds
import HandS.HotCalls
import HandS.ExcIs
import HandS.ExcField
import KE.KExcIs
import HandS.Ends
import KE.KNestM
import PySem.Challenge.RW_askrights_k56_rows_left_told
set_option Elab.async false
set_option linter.all false
set_option maxRecDepth 100000
set_option maxHeartbeats 8000000
/-! Defs that are only called while nothing is being shown: calls whose surroundings hold no guard, so that repr gives the plain text. -/
namespace AskG
open PySem PySem.Spec PyProof.Rows L2

/-- what a def promises, nothing being raised -/
abbrev Pr := List V → Hp → VK → Prop

/-- room for k calls, and no guard around -/
structure RG (k : Nat) (A : Around) : Prop where
  room : Room k A
  still : A.guards = some []
theorem RG.mono {j k : Nat} {A : Around} (r : RG k A) (h : j ≤ k) : RG j A :=
  ⟨r.room.mono h, r.still⟩
theorem RG.deeper {k : Nat} {A : Around} (r : RG (k + 1) A) (env : Env) : RG k (A.deeper env) :=
  ⟨r.room.deeper env, r.still⟩

section
variable (P : Program) (w : World) (K : PySem.W.Frag) (mg : Str → Option Value) (base : Heap)
structure FnG (k : Nat) (f : Addr) (fd : FuncData) (ps : List Str) (pr : Pr) : Prop where
  many : ∀ vs H Q, pr vs H Q → vs.length = ps.length
  goes : ∀ (A : Around) (outer : List Env) (s : Shared) (H : Hp) (args : Args)
    (us : List Value) (vs : List V) (Q : VK), RG k A → Env0 P w K mg base A outer s H →
    BindsTo s fd args (ps.zip us) → Vals vs us → pr vs H Q →
    codeAny (model P w) A (.call (.ref f) args) (CR CX0 outer P w H s Q E0) s
end

section
variable {P : Program} {w : World} {K : PySem.W.Frag} {mg : Str → Option Value} {base : Heap}
theorem FnG.mono {j k : Nat} {f : Addr} {fd : FuncData} {ps : List Str} {pr : Pr}
    (F : FnG P w K mg base j f fd ps pr) (h : j ≤ k) : FnG P w K mg base k f fd ps pr :=
  ⟨F.many, fun A outer s H args us vs Q hr => F.goes A outer s H args us vs Q (hr.mono h)⟩

/-- a def of the text, by its body -/
theorem fnG_of {k : Nat} {f : Addr} {name qual : Str} {params : Arguments} {body : List Stmt}
    {scope : Scope} {dV kV doc pm cdv ct oc : Value} {an od : Option Addr}
    {osl : Array (Option Value)} {N ps : List Str} {pr : Pr}
    (at_f : K.lookup f = some ⟨oc, od, .func (PySem.W.fnOf name qual params body scope dV kV doc pm an cdv ct), osl⟩)
    (code : PySem.W.codeIn K cdv qual = true) (S : FnScope N ps scope)
    (many : ∀ vs H Q, pr vs H Q → vs.length = ps.length)
    (body_ok : ∀ (A : Around) (outer : List Env) (s : Shared) (H : Hp) (vs : List V) (Q : VK),
      RG k (A.deeper (envOfC qual scope s.heap.objs.size f cdv)) → pr vs H Q →
      ∃ t, PSs (cxOf CX0 P w K mg base N qual scope f cdv A outer s H E0).nox body t ∧
        t { nx := fun _ H' => Q .non H', rt := Q } (start N vs) H) :
    FnG P w K mg base (k + 1) f
      (PySem.W.fnOf name qual params body scope dV kV doc pm an cdv ct) ps pr := by
  constructor
  · exact many
  intro A outer s H args us vs Q hr e0 hb hv hp
  have hl := many _ _ _ hp
  have inK : K.In s.heap := e0.mod.kin.keeps fun b o q => (e0.bs b o q).1
  have nl : s.heap.NoLimit := e0.mod.nolimit.keeps fun b o q => (e0.bs b o q).1
  have kinds : ∀ y ∈ ps.zip us, scope.names.lookup y.1 = some .local ∨
      (scope.names.lookup y.1 = some .cell ∧
        ((cellsFrom (s.heap.objs.size + 1) scope.names []).lookup y.1).isSome = true) := by
    rintro ⟨n, v⟩ hy
    cases S.par n (List.of_mem_zip hy).1 with
    | inl q => exact Or.inl q
    | inr q => exact Or.inr ⟨q, PySem.W.cellsFrom_some _ _ _ (Or.inl q)⟩
  refine codeAny_call_function hr.room.depth (inK _ _ at_f) rfl S.co S.gen rfl
    (PySem.W.codeRec_of inK code) (hb _ _ _ _ ?_)
  refine wpAny_newFunctionEnv_cells S.kind kinds fun env he s1 x => ?_
  subst he
  refine ⟨nl.keeps x.toInCall.keep, codeAny_func ?_⟩
  obtain ⟨t, ht, hq⟩ := body_ok A outer s H vs Q (hr.deeper _) hp
  have I : Inv (cxOf CX0 P w K mg base N qual scope f cdv A outer s H E0) [] (start N vs) H s1 :=
    inv_start S hr.room.hd e0 hl hv x
  refine wpAny_mono (ht.nox.run [] s1 (start N vs) H _ I hq) (fun fl s' hs => ?_)
    fun e s' hs => hs
  cases fl with
  | ret u =>
    obtain ⟨v, σ', H', J, rv, q⟩ := hs
    exact ⟨v, H', J.os, J.bare, J.base, J.hok, rv, q⟩
  | next =>
    obtain ⟨σ', H', J, q⟩ := hs
    exact ⟨V.non, H', J.os, J.bare, J.base, J.hok, rfl, q⟩
  | brk => exact hs.elim fun _ z => z.elim fun _ z => False.elim z.2
  | cont => exact hs.elim fun _ z => z.elim fun _ z => False.elim z.2

theorem okG {x qual : Str} {st : Stmt} {f : Addr} {fd : FuncData} {N ps : List Str} {k : Nat} {pr : Pr}
    (F : Fun K x qual st f fd) (S : FnScope N ps (defScope st))
    (many : ∀ vs H Q, pr vs H Q → vs.length = ps.length)
    (body_ok : ∀ (cdv : Value) (A : Around) (outer : List Env) (s : Shared) (H : Hp) (vs : List V) (Q : VK),
      RG k (A.deeper (envOfC qual (defScope st) s.heap.objs.size f cdv)) → pr vs H Q →
      ∃ t, PSs (cxOf CX0 P w K mg base N qual (defScope st) f cdv A outer s H E0).nox (defBody st) t ∧
        t { nx := fun _ H' => Q .non H', rt := Q } (start N vs) H) :
    FnG P w K mg base (k + 1) f fd ps pr := by
  obtain ⟨oc, od, kV, doc, pm, an, cdv, ct, osl, rfl, lk, hcd⟩ := F.ex
  exact fnG_of lk hcd S many fun A outer s H vs Q hr hp => body_ok cdv A outer s H vs Q hr hp
end

/-! ### calls -/
/-- f(..): the written arguments, then the defaults -/
def tCallG (pr : Pr) (dvs : List V) (t : TA) : TE := fun σ H Q => t σ H fun vs H1 => pr (vs ++ dvs) H1 Q
/-- f(.., k = ..) -/
def tCallKG (pr : Pr) (gV : List V → List V → List V) (t tk : TA) : TE := fun σ H Q =>
  t σ H fun vs H1 => tk σ H1 fun zs H2 => pr (gV vs zs) H2 Q

section
variable {X : Cx} {k : Nat} {f : Addr} {fd : FuncData} {ps : List Str} {pr : Pr}
theorem goG {pins : List (Addr × Obj)} {σ : L2.St} {H : Hp} {s : Shared} {Q : VK} {args : Args}
    {us : List Value} {vs : List V} (F : FnG X.prog X.w X.K X.mg X.base k f fd ps pr)
    (hr : RG k X.A) (I : Inv X pins σ H s) (hb : BindsTo s fd args (ps.zip us)) (r : Vals vs us)
    (h : pr vs H Q) : wpAny (model X.prog X.w) X.A (call (.ref f) args.pos args.kw) (EP X pins σ Q) X.xe s := by
  refine wpAny_call (codeAny_mono (F.goes X.A X.stack s H args us vs Q hr I.env0 hb r h)
    fun r s' hq => ?_)
  match r, hq with
  | .error e, hq => exact hq.elim
  | .ok (.ret u), hq => exact I.after hq
  | .ok .next, hq => exact hq.elim
  | .ok .brk, hq => exact hq.elim
  | .ok .cont, hq => exact hq.elim
end
section
variable {X : Cx} {k : Nat} {f : Addr} {fd : FuncData} {ps : List Str} {pr : Pr} {dvs : List V} {ds : List Value}
  {x : Str} {p pos : Pos} {e : Expr} {es : List Expr} {t : TA}
theorem goP {pins : List (Addr × Obj)} {σ : L2.St} {H : Hp} {s : Shared} {Q : VK} {us : List Value} {vs : List V}
    (F : FnG X.prog X.w X.K X.mg X.base k f fd ps pr) (hr : RG k X.A) (hb : Binds X.K fd ps ds) (hd : Vals dvs ds)
    (I : Inv X pins σ H s) (r : Vals vs us) (h : pr (vs ++ dvs) H Q) :
    wpAny (model X.prog X.w) X.A (call (.ref f) us) (EP X pins σ Q) X.xe s := by
  have r2 : Vals (vs ++ dvs) (us ++ ds) := r.append hd
  have hl : (us ++ ds).length = ps.length := r2.length.symm.trans (F.many _ _ _ h)
  exact goG (args := ⟨us, []⟩) F hr I (hb s us I.kIn hl) r2 h

/-- f(e, ..) -/
theorem pe_g (F : FnG X.prog X.w X.K X.mg X.base k f fd ps pr) (hr : RG k X.A) (hg : Gl X x)
    (hm : X.mg x = some (.ref f)) (hk : PySem.W.keepIn X.K (.ref f) = true) (hb : Binds X.K fd ps ds) (hd : Vals dvs ds)
    (ha : PA X (e :: es) t) (hdb : (x == ("__debug__" : Str)) = false := by decide)
    (he : starEach (e :: es) X.env = (false, eval e X.env) :: starEach es X.env := by rfl)
    (hpl : (backTo pos (starEach es X.env)).any (·.1) = false := by rfl) :
    PE X (.Call (.Name x p) (e :: es) [] pos) (tCallG pr dvs t) := by
  constructor
  intro pins s σ H Q I h
  refine wpAny_Call_Name_kw (ld_glob I hg hm ?_ hdb)
  refine PySem.W.callWith_K (h₀ := X.base) I.ok.mod.kin hk (thn (ha.run pos pins s σ H _ I h) ?_) he hpl
  rintro us s1 ⟨vs, H1, I1, r, q⟩
  exact ⟨I1.kIn, goP F hr hb hd I1 r q⟩
/-- f() -/
theorem pe_g0 (F : FnG X.prog X.w X.K X.mg X.base k f fd ps pr) (hr : RG k X.A) (hg : Gl X x)
    (hm : X.mg x = some (.ref f)) (hk : PySem.W.keepIn X.K (.ref f) = true) (hb : Binds X.K fd ps ds) (hd : Vals dvs ds)
    (hdb : (x == ("__debug__" : Str)) = false := by decide) : PE X (.Call (.Name x p) [] [] pos) (tCallG pr dvs tNil) := by
  constructor
  intro pins s σ H Q I h
  refine wpAny_Call_Name_kw (ld_glob I hg hm ?_ hdb)
  exact PySem.W.callWith_K0 I.kIn hk (goP (us := []) F hr hb hd I .nil h)
variable {ks : List Str} {g : List Value → List Value → List Value} {gV : List V → List V → List V} {kws : List Keyword} {tk : TA}
theorem goK {pins : List (Addr × Obj)} {σ : L2.St} {H : Hp} {s : Shared} {Q : VK} {us ws : List Value} {vs zs : List V}
    (F : FnG X.prog X.w X.K X.mg X.base k f fd ps pr) (hr : RG k X.A) (hb : KBinds X.K fd ps ks g gV)
    (I : Inv X pins σ H s) (r : Vals vs us) (rz : Vals zs ws) (h : pr (gV vs zs) H Q) :
    wpAny (model X.prog X.w) X.A (call (.ref f) us (ks.zip ws)) (EP X pins σ Q) X.xe s := by
  have r2 := hb.rel r rz
  have hl : (g us ws).length = ps.length := r2.length.symm.trans (F.many _ _ _ h)
  exact goG (args := ⟨us, ks.zip ws⟩) F hr I (hb.to s us ws I.kIn hl) r2 h
/-- f(e, .., k = v, ..) -/
theorem pe_gk (F : FnG X.prog X.w X.K X.mg X.base k f fd ps pr) (hr : RG k X.A) (hg : Gl X x)
    (hm : X.mg x = some (.ref f)) (hk : PySem.W.keepIn X.K (.ref f) = true) (hb : KBinds X.K fd ps ks g gV)
    (ha : PA X (e :: es) t) (hkw : PK X kws tk)
    (hall : (backToKw pos (keywordEach kws X.env)).all (·.1.isSome) = true := by rfl)
    (hks : (backToKw pos (keywordEach kws X.env)).filterMap (·.1) = ks := by rfl)
    (hdb : (x == ("__debug__" : Str)) = false := by decide)
    (he : starEach (e :: es) X.env = (false, eval e X.env) :: starEach es X.env := by rfl)
    (hpl : ((backTo pos (starEach (e :: es) X.env)).any (·.1) || (backToKw pos (keywordEach kws X.env)).any (·.1.isNone)) = false := by rfl) :
    PE X (.Call (.Name x p) (e :: es) kws pos) (tCallKG pr gV t tk) := by
  constructor
  intro pins s σ H Q I h
  refine wpAny_Call_Name_kw (ld_glob I hg hm ?_ hdb)
  refine PySem.W.callWith_KW (h₀ := X.base) I.ok.mod.kin hk hall (thn (ha.run pos pins s σ H _ I h) ?_) hpl he
  rintro us s1 ⟨vs, H1, I1, r, q⟩
  refine thn (hkw.run pos pins s1 σ H1 _ I1 q) ?_
  rintro ws s2 ⟨zs, H2, I2, rz, q2⟩
  refine ⟨I2.kIn, ?_⟩
  rw [hks]
  exact goK F hr hb I2 r rz q2
end

/-! ### repr of data -/
section
variable {X : Cx}
def rRepr (K : PySem.W.Frag) : List V → Hp → VK → Prop := fun xs H Q => ∃ (a : Addr) (d : PyData), xs = [.ref a] ∧
  Dp K H (.ref a) d ∧ d.showable = true ∧ d.hasDict = false ∧ d.depth ≤ 60 ∧ d.shown.length ≤ sizeLine ∧ Q (.str d.shown) H
theorem call_repr {k : Nat} (hr : RG k X.A) : CallR X (.builtin "repr") (rRepr X.K) := by
  intro pins s σ H xs us Q I r q
  obtain ⟨a, d, ex, hD, hs, hnd, hdp, hsz, q⟩ := q
  subst ex
  obtain ⟨u, eu, rx⟩ := vals1 r
  subst eu
  cases rx
  obtain ⟨as, rd⟩ := Dp.reads I d (.ref a) (.ref a) hD rfl
  have hu := hr.room.units
  exact repr_of_reads' rd hs (PyData.noDict_hsm hnd) hr.still (by omega) (fun _ _ z => z)
    (fun h' u tk hk => ⟨.str d.shown, H, I.kept hk, ⟨u, rfl⟩, q⟩) hsz
end
end AskG
/-! Cells (a text, an int) as keys of dicts: their order, sorted(d). -/
namespace AskG
open PySem PySem.Spec PyProof.Rows L2

abbrev Cell := Str × Int
/-- a cell as a key -/
abbrev ck (c : Cell) : List Key := [Sum.inr c.1, Sum.inl c.2]
/-- the order of cells -/
def ltC (p q : Cell) : Bool := if p.1 = q.1 then decide (p.2 < q.2) else decide (p.1.cps.toList < q.1.cps.toList)

theorem str_ext {x y : Str} (h : x.cps.toList = y.cps.toList) : x = y := by
  obtain ⟨⟨a⟩⟩ := x
  obtain ⟨⟨b⟩⟩ := y
  have h : a = b := h
  rw [h]
theorem ltC_iff {p q : Cell} : ltC p q = true ↔ (p.1.cps.toList < q.1.cps.toList) ∨ (p.1 = q.1 ∧ p.2 < q.2) := by
  unfold ltC
  by_cases e : p.1 = q.1
  · rw [if_pos e, decide_eq_true_eq]
    constructor
    · intro h
      exact Or.inr ⟨e, h⟩
    · rintro (h | h)
      · rw [e] at h
        exact absurd h (List.lt_irrefl _)
      · exact h.2
  · rw [if_neg e, decide_eq_true_eq]
    constructor
    · intro h
      exact Or.inl h
    · rintro (h | h)
      · exact h
      · exact absurd h.1 e
theorem codes_tri (x y : List Nat) : x < y ∨ x = y ∨ y < x := by
  by_cases h1 : x < y
  · exact Or.inl h1
  · by_cases h2 : y < x
    · exact Or.inr (Or.inr h2)
    · exact Or.inr (Or.inl (List.le_antisymm (List.not_lt.mp h2) (List.not_lt.mp h1)))
theorem ltC_tri (p q : Cell) : ltC p q = true ∨ p = q ∨ ltC q p = true := by
  rcases codes_tri p.1.cps.toList q.1.cps.toList with h | h | h
  · exact Or.inl (ltC_iff.mpr (Or.inl h))
  · have e := str_ext h
    rcases Int.lt_trichotomy p.2 q.2 with g | g | g
    · exact Or.inl (ltC_iff.mpr (Or.inr ⟨e, g⟩))
    · exact Or.inr (Or.inl (Prod.ext e g))
    · exact Or.inr (Or.inr (ltC_iff.mpr (Or.inr ⟨e.symm, g⟩)))
  · exact Or.inr (Or.inr (ltC_iff.mpr (Or.inl h)))
theorem ltC_trans {p q r : Cell} (h1 : ltC p q = true) (h2 : ltC q r = true) : ltC p r = true := by
  refine ltC_iff.mpr ?_
  rcases ltC_iff.mp h1 with a | ⟨a, a'⟩ <;> rcases ltC_iff.mp h2 with b | ⟨b, b'⟩
  · exact Or.inl (List.lt_trans a b)
  · exact Or.inl (b ▸ a)
  · exact Or.inl (a ▸ b)
  · exact Or.inr ⟨a.trans b, Int.lt_trans a' b'⟩
theorem ltC_irr (p : Cell) : ltC p p = false := by
  cases h : ltC p p with
  | false => rfl
  | true =>
    rcases ltC_iff.mp h with a | ⟨_, a⟩
    · exact absurd a (List.lt_irrefl _)
    · exact absurd a (Int.lt_irrefl _)
theorem ltC_asym {p q : Cell} (h : ltC p q = true) : ltC q p = false := by
  cases g : ltC q p with
  | false => rfl
  | true =>
    have := ltC_trans h g
    rw [ltC_irr] at this
    cases this
theorem swo_cells {α : Type} (k : α → Cell) : SrtO.Swo fun v u => ltC (k v) (k u) := by
  refine ⟨fun x y h => ltC_asym h, fun x y z h1 h2 => ?_⟩
  cases g : ltC (k z) (k x) with
  | false => rfl
  | true =>
    rcases ltC_tri (k x) (k y) with a | a | a
    · have := ltC_trans g a
      rw [h2] at this
      cases this
    · rw [← a, g] at h2
      cases h2
    · rw [h1] at a
      cases a

/-- the value is a tuple of a text and an int -/
def IsCl (h : Heap) (v : Value) (c : Cell) : Prop := ∃ (a : Addr) (t u : Tok), v = .ref a ∧ IsTup h a #[.str c.1 t, .int c.2 u]
section
variable {prog : Program} {w : World} {A : Around} {E : Value → Shared → Prop} {s : Shared}
theorem cell_cmp {vs : List Value} {k : Value → Cell} (hp : ∀ v ∈ vs, IsCl s.heap v (k v)) :
    SrtO.Cmp prog w A s (tuples' true) (fun p => p.1 ∈ vs) (SrtO.lt2 fun v u => ltC (k v) (k u)) := by
  intro p q hm hm'
  have h1 := hp _ hm
  have h2 := hp _ hm'
  show wpAny (model prog w) A (keyLt' (tuples' true) p.1 q.1) (fun r s' => s' = s ∧ r = ltC (k p.1) (k q.1)) (fun _ _ => False) s
  generalize k p.1 = c at h1 ⊢
  generalize k q.1 = d at h2 ⊢
  obtain ⟨a, t, u, e, o, ho, hc, n, hd⟩ := h1
  obtain ⟨a', t', u', e', o', ho', hc', n', hd'⟩ := h2
  rw [e, e']
  refine PySem.W.kat_lt ho hd ho' hd' ?_
  show PySem.W.KatLex prog w A true (decide (2 < 2)) _ [(.str c.1 t, .str d.1 t'), (.int c.2 u, .int d.2 u')] 0 s
  refine PySem.W.kat_cons (SeqAt.EqAt.str_str c.1 t d.1 t' prog w _ _ ?_)
  refine PySem.W.kat_go (fun e1 => ?_) (fun e1 => ?_)
  · have ex : c.1 = d.1 := by simpa using e1
    refine PySem.W.kat_yes (PySem.W.kat_cons (SeqAt.EqAt.int_int c.2 u d.2 u' prog w _ _ ?_))
    refine PySem.W.kat_go (fun e2 => ?_) (fun e2 => ?_)
    · have ey : c.2 = d.2 := by simpa using e2
      have e3 : ltC c d = false := by
        rw [show c = d from Prod.ext ex ey]
        exact ltC_irr d
      exact PySem.W.kat_yes (PySem.W.kat_nil ⟨rfl, e3.symm⟩)
    · have e3 : ltC c d = decide (c.2 < d.2) := if_pos ex
      refine PySem.W.kat_no (PySem.W.kat_one _ _ (PyProof.Rows.lt_int ?_))
      exact (show s = s ∧ decide (c.2 < d.2) = ltC c d from ⟨rfl, e3.symm⟩)
  · have ex : ¬ c.1 = d.1 := by simpa using e1
    have e3 : ltC c d = decide (c.1.cps.toList < d.1.cps.toList) := if_neg ex
    exact PySem.W.kat_no (oneLt_str ⟨rfl, e3.symm⟩)
theorem cell_firsts {h : Heap} : ∀ {vs : List Value}, (∀ v ∈ vs, ∃ c, IsCl h v c) →
    ∃ fs : List Value, PySem.W.KatTups h vs fs ∧ fs.length = vs.length ∧ ∀ f ∈ fs, ∃ x t, f = Value.str x t
  | [], _ => ⟨[], .nil, rfl, fun f hf => absurd hf (by simp)⟩
  | v :: vs, x => by
    obtain ⟨fs, k, hl, hi⟩ := cell_firsts (vs := vs) fun u hu => x u (List.mem_cons_of_mem _ hu)
    obtain ⟨c, a, t, u, rfl, o, ho, hc, n, hd⟩ := x v List.mem_cons_self
    refine ⟨.str c.1 t :: fs, .cons ho hc hd rfl k, congrArg (· + 1) hl, fun f hf => ?_⟩
    rcases List.mem_cons.mp hf with rfl | hf
    · exact ⟨_, _, rfl⟩
    · exact hi f hf
theorem IsCl.keeps {h h' : Heap} {v : Value} {c : Cell} (x : IsCl h v c) (k : ∀ b o, h.get? b = some o → o.cls = .type "tuple" → h'.get? b = some o) : IsCl h' v c := by
  obtain ⟨a, t, u, e, o, ho, hc, r⟩ := x
  exact ⟨a, t, u, e, o, k _ _ ho hc, hc, r⟩
theorem cells_sortable {a : Addr} {vs : List Value} {k : Value → Cell} (h0 : 0 < vs.length) (hp : ∀ v ∈ vs, IsCl s.heap v (k v))
    (ha : ∀ o, s.heap.get? a = some o → o.cls ≠ .type "tuple") : SrtO.SortableO prog w A s a vs fun v u => ltC (k v) (k u) := by
  intro h' keep
  have hp' : ∀ v ∈ vs, IsCl h' v (k v) := fun v hm => (hp v hm).keeps fun b o e c => keep b o (fun z => by subst z; exact ha o e c) e
  obtain ⟨fs, h1, h2, h3⟩ := cell_firsts fun v hm => ⟨_, hp' v hm⟩
  refine ⟨tuples' true, fun Q E hq => ?_, cell_cmp hp'⟩
  refine PySem.W.kat_kind (T := .type "str") h1 (by omega) (fun f hm => ?_) (by rfl) ?_
  · obtain ⟨x, t, rfl⟩ := h3 f hm
    exact PySem.W.Looks.now
  · have e : (Value.type "str" != Value.type "tuple") = true := by first | decide +kernel | rfl | decide
    rw [e]
    exact hq
end
end AskG
/-! sorted(d), dict(pairs) of dicts whose keys are cells. -/
namespace AskG
open PySem PySem.Spec PyProof.Rows L2

/-- a tracked tuple of a text and an int -/
def CellAt (H : Hp) (b : Addr) (c : Cell) : Prop := H b = some (.tup [.str c.1, .int c.2])
/-- the cell that stands behind a value -/
def cellOf (H : Hp) : Value → Cell
  | .ref a => match H a with
    | some (.tup [.str x, .int y]) => (x, y)
    | _ => (⟨#[]⟩, 0)
  | _ => (⟨#[]⟩, 0)
theorem cellOf_at {H : Hp} {b : Addr} {c : Cell} (h : CellAt H b c) : cellOf H (.ref b) = c := by
  unfold CellAt at h
  show (match H b with
    | some (.tup [.str x, .int y]) => (x, y)
    | _ => ((⟨#[]⟩, 0) : Cell)) = c
  rw [h]
theorem isCl_of {P : Program} {w : World} {H : Hp} {h : Heap} {b : Addr} {c : Cell} (ok : HOk P w H h) (e : CellAt H b c) : IsCl h (.ref b) c := by
  obtain ⟨_, its, r, ht⟩ := (show ObjOk P w H h b (.tup [.str c.1, .int c.2]) from ok b _ e)
  obtain ⟨x, y, ei, rx, ry⟩ := vals2 r
  obtain ⟨t, rfl⟩ := rx
  obtain ⟨u, rfl⟩ := ry
  subst ei
  exact ⟨b, t, u, rfl, ht⟩
theorem ck_inj {c d : Cell} (h : ck c = ck d) : c = d := by
  injection h with h1 h2
  injection h1 with h1
  injection h2 with h2 _
  injection h2 with h2
  exact Prod.ext h1 h2

/-- sorted(d), d a dict whose keys are the cells cs -/
def rSortT : List V → Hp → VK → Prop := fun xs H Q => ∃ (d : Addr) (kvs : List (List Key × V)) (cs : List Cell),
  xs = [.ref d] ∧ Rd H d (.dT kvs) ∧ kvs.map (·.1) = cs.map ck ∧
  ∀ (ys : List Cell) (bs : List Addr) (p : Addr), ys.Perm cs → ys.Pairwise (fun a b => ltC a b = true) →
    Paired (CellAt H) bs ys → H p = none → Q (.ref p) (upd H p (.lst (bs.map V.ref)))
theorem paired_of {α β : Type} {R : α → β → Prop} (f : α → β) : ∀ {l : List α}, (∀ x ∈ l, R x (f x)) → Paired R l (l.map f)
  | [], _ => .nil
  | x :: l, h => .cons (h x List.mem_cons_self) (paired_of f fun y hy => h y (List.mem_cons_of_mem _ hy))
theorem strict_of : ∀ {ys : List Cell}, ys.Pairwise (fun a b => ltC b a = false) → ys.Nodup → ys.Pairwise (fun a b => ltC a b = true) := by
  intro ys h n
  refine (h.and n).imp ?_
  rintro a b ⟨h1, h2⟩
  rcases ltC_tri a b with g | g | g
  · exact g
  · exact absurd g h2
  · rw [h1] at g
    cases g
section
variable {X : Cx}
theorem cr_sortT (hc : X.calm = true) : CallR X (.builtin "sorted") rSortT := by
  intro pins s σ H xs us Q I r q
  obtain ⟨d, kvs, cs, ex, hd, hks, q⟩ := q
  subst ex
  obtain ⟨u, eu, rx⟩ := vals1 r
  subst eu
  cases rx
  obtain ⟨z, hs, ks, pr, o, es, ep, ho, hx, hdt, he, hn⟩ :=
    (show ObjOk X.prog X.w H s.heap d (.dT kvs) from hd.ok I.hok)
  have l1 : es.size = ks.length := size_of_entries he
  have l2 : kvs.length = ks.length := Paired.length pr
  have hkk : ks.map (·.1) = cs.map ck := by
    rw [← hks]
    clear q he hn hd l1 l2 hks z
    induction pr with
    | nil => rfl
    | cons h t ih => rw [List.map_cons, List.map_cons, ih, h.1]
  have atK : ∀ x ∈ ks, H x.2.1 = some (.tup (x.1.map kV)) := by
    clear q he hn hd l1 l2 hks z hkk
    induction pr with
    | nil => exact fun x hx => absurd hx (by simp)
    | cons h t ih =>
      intro x hx
      rcases List.mem_cons.mp hx with e | hx
      · subst e
        rw [← h.1]
        exact h.2.1
      · exact ih x hx
  have atC : ∀ x ∈ ks, ∃ c, x.1 = ck c ∧ CellAt H x.2.1 c := by
    intro x hx
    have : x.1 ∈ cs.map ck := by
      rw [← hkk]
      exact List.mem_map_of_mem hx
    obtain ⟨c, _, ec⟩ := List.mem_map.mp this
    refine ⟨c, ec.symm, ?_⟩
    have := atK x hx
    rw [← ec] at this
    exact this
  refine Calls.call_function_entry PyProof.Rows.kind_sorted PyProof.Rows.plain_sorted
    PyProof.Rows.entry_sorted (PyProof.Rows.args_sorted1 _) ?_
  unfold Builtin.«sorted»
  refine wpAny_bind (m := checkCount "sorted" 1 1 _) (wpAny_pure ?_)
  refine wpAny_bind (PySem.W.kdu_collect (A := X.A.in1) (kdl_raw hs hx hdt) (I.ok.hd hc) ho (by omega) ?_)
  intro h' tk acc hk it
  have ea : acc.toList = ks.map fun x => Value.ref x.2.1 := by
    have hl : acc.toList.length = ks.length := by
      rw [Array.length_toList, it.1]
      exact l1
    apply List.ext_getElem?
    intro j
    rw [List.getElem?_map]
    cases hj : acc.toList[j]? with
    | none =>
      have h1 := List.getElem?_eq_none_iff.mp hj
      rw [List.getElem?_eq_none (by omega)]
      all_goals rfl
    | some v =>
      obtain ⟨en, hen, hv⟩ := it.2 j v (by rw [← Array.getElem?_toList]; exact hj)
      have qe := entry_at he j
      rw [hen] at qe
      cases hb : ks[j]? with
      | none =>
        rw [hb] at qe
        exact nomatch (show some en = none from qe)
      | some b =>
        rw [hb] at qe
        have e2 : en = entryOfKey (tupleKind (mixKind X.prog X.w)) b := Option.some.inj qe
        rw [hv, e2]
        all_goals rfl
  generalize acc.toList = vs at ea ⊢
  subst ea
  have hz : (ks.map fun x => Value.ref x.2.1).length ≤ sizeLine := by
    rw [List.length_map]
    omega
  have I1 : Inv X pins σ H { s with heap := h', toks := tk } := I.kept hk
  refine wpAny_bind (wpAny_newList ?_ hz)
  generalize hvs : (ks.map fun x => Value.ref x.2.1) = vs at hz ⊢
  have hoL : (h'.push (seqObj "list" vs.toArray 0)).get? h'.objs.size = some (seqObj "list" vs.toArray 0) :=
    Heap.get?_push_size _ rfl
  have hcl : ∀ v ∈ vs, ∃ b c, v = .ref b ∧ CellAt H b c := by
    intro v hv
    rw [← hvs] at hv
    obtain ⟨x, hx, rfl⟩ := List.mem_map.mp hv
    obtain ⟨c, _, hc⟩ := atC x hx
    exact ⟨_, c, rfl, hc⟩
  show wpAny _ _ _ _ _ { s with heap := h'.push (seqObj "list" vs.toArray 0), toks := tk }
  refine wpAny_bind (wpAny_holding (wpAny_call_entry PyProof.Rows.slot_list_sort ⟨_, hoL, rfl⟩ PyProof.Rows.entry_list_sort
    (SrtO.list_sort_ord (ltv := fun v u => ltC (cellOf H v) (cellOf H u)) (swo_cells _) hoL hz (fun h2 => ?_) (fun out hs hb => ⟨_, rfl, ?_⟩))
    (PyProof.Rows.args_list_sort _)))
  · refine cells_sortable (by omega) (fun v hv => ?_) fun o' eo => ?_
    · obtain ⟨b, c, rfl, hc⟩ := hcl v hv
      rw [cellOf_at hc]
      exact (isCl_of I1.hok hc).keeps fun b o e _ => Heap.get?_push_of_some _ e
    · have e' : some o' = some (seqObj "list" vs.toArray 0) := eo.symm.trans hoL
      cases e'
      intro c
      exact absurd (Value.type.inj c) (by decide)
  · obtain ⟨e', he'⟩ := PyProof.Rows.sortedHeap_at (vs := vs) (out := out.toArray) hoL
    have hout : ∀ v ∈ out, ∃ b c, v = .ref b ∧ CellAt H b c := fun v hv => hcl v (hb.perm.mem_iff.mp hv)
    have hbs : ∃ bs : List Addr, out = bs.map Value.ref := by
      clear hb hs he'
      induction out with
      | nil => exact ⟨[], rfl⟩
      | cons v l ih =>
        obtain ⟨bs, rfl⟩ := ih fun u hu => hout u (List.mem_cons_of_mem _ hu)
        obtain ⟨b, c, rfl, _⟩ := hout v List.mem_cons_self
        exact ⟨b :: bs, rfl⟩
    obtain ⟨bs, rfl⟩ := hbs
    have hcs : (vs.map (cellOf H)) = cs := by
      rw [← hvs, List.map_map]
      have inj : ∀ {a b : List Cell}, a.map ck = b.map ck → a = b := by
        intro a
        induction a with
        | nil =>
          intro b h
          cases b with
          | nil => rfl
          | cons _ _ => cases h
        | cons x a ih =>
          intro b h
          cases b with
          | nil => cases h
          | cons y b =>
            rw [List.map_cons, List.map_cons] at h
            injection h with h1 h2
            rw [ck_inj h1, ih h2]
      refine inj ?_
      rw [List.map_map, ← hkk]
      refine List.map_congr_left fun x hx => ?_
      obtain ⟨c, ec, hc⟩ := atC x hx
      show ck (cellOf H (.ref x.2.1)) = x.1
      rw [cellOf_at hc, ec]
    have perm : ((bs.map Value.ref).map (cellOf H)).Perm cs := by
      rw [← hcs]
      exact hb.perm.map _
    have hcn : cs.Nodup := by
      have := hn
      rw [hkk] at this
      exact (List.pairwise_map.mp this).imp fun h e => h (congrArg ck e)
    have hst := strict_of (List.pairwise_map.mpr hs) (perm.nodup_iff.mpr hcn)
    have hlen : (bs.map V.ref).length ≤ sizeLine := by
      have := hb.perm.length_eq
      rw [List.length_map] at this ⊢
      omega
    refine wpAny_pure ⟨_, rfl, .ref h'.objs.size, upd H h'.objs.size (.lst (bs.map V.ref)), I1.laid (t' := tk) (fun b u e => ?_) (Nat.le_refl _)
      (show ObjOk X.prog X.w _ _ _ (.lst (bs.map V.ref)) from ⟨hlen, bs.map Value.ref, e', vals_refs _, he'⟩), rfl,
      q _ bs _ perm hst ?_ (I1.hok.fresh (Nat.le_refl _))⟩
    · have hb : b < h'.objs.size := Heap.lt_size e
      rw [PyProof.Rows.sortedHeap_old (Nat.ne_of_lt hb) (by rw [size_push']; exact Nat.lt_succ_of_lt hb)]
      exact Heap.get?_push_of_some _ e
    · rw [List.map_map]
      refine paired_of _ fun b hb' => ?_
      obtain ⟨b2, c, e2, hc⟩ := hout (.ref b) (List.mem_map_of_mem hb')
      cases e2
      show CellAt H b (cellOf H (.ref b))
      rw [cellOf_at hc]
      exact hc

/-! ### dict(pairs) -/
/-- one after another, later ones win -/
def putAll (kvs more : List (List Key × V)) : List (List Key × V) := more.foldl (fun acc kv => putK acc kv.1 kv.2) kvs
theorem length_putAll : ∀ (more kvs : List (List Key × V)), (putAll kvs more).length ≤ kvs.length + more.length
  | [], kvs => Nat.le_refl _
  | m :: more, kvs => by
    have h1 := length_putAll more (putK kvs m.1 m.2)
    have h2 := length_putK kvs m.1 m.2
    rw [List.length_cons]
    show (putAll (putK kvs m.1 m.2) more).length ≤ _
    omega
theorem ktAll {H : Hp} {more : List (List Key × V)} {ms : List (List Key × Addr × Value)} (r : KT H more ms) :
    ∀ {kvs : List (List Key × V)} {xs : List (List Key × Addr × Value)}, KT H kvs xs → KT H (putAll kvs more) (storedAllH xs ms) := by
  induction r with
  | nil => exact fun h => h
  | @cons p q _ _ h t ih =>
    intro kvs xs g
    show KT H (putAll (putK kvs p.1 p.2) _) (storedAllH (storedH xs q.1 q.2.1 q.2.2) _)
    refine ih ?_
    have := KT.put g p.1 (b := q.2.1) h.2.1 h.2.2
    rw [h.1] at this ⊢
    exact this
/-- a tracked pair: a key tuple and a value -/
def PairAt' (K : PySem.W.Frag) (H : Hp) (p : Addr) (kv : List Key × V) : Prop := ∃ b, SqT K H p [.ref b, kv.2] ∧ H b = some (.tup (kv.1.map kV))
theorem pairsT_of {pins : List (Addr × Obj)} {σ : L2.St} {H : Hp} {s : Shared} (I : Inv X pins σ H s) : ∀ {ps : List Addr} {kvs : List (List Key × V)}, Paired (PairAt' X.K H) ps kvs →
    ∃ ms : List (List Key × Addr × Value), KT H kvs ms ∧ ms.length = ps.length ∧ ∀ (j : Nat) (q : List Key × Addr × Value), ms[j]? = some q → ∃ b : Addr, ps[j]? = some b ∧ IsTup s.heap b #[.ref q.2.1, q.2.2]
  | _, _, .nil => ⟨[], .nil, rfl, fun j q e => by simp at e⟩
  | _, _, .cons (a := p) (b := kv) h t => by
    obtain ⟨ms, r, hl, hp⟩ := pairsT_of I t
    obtain ⟨b, hb, hk⟩ := h
    obtain ⟨its, rv, ht, _⟩ := I.tuple hb
    obtain ⟨u, y, ei, ru, ry⟩ := vals2 rv
    subst ei
    cases ru
    refine ⟨(kv.1, b, y) :: ms, .cons ⟨rfl, hk, ry⟩ r, congrArg (· + 1) hl, fun j q e => ?_⟩
    cases j with
    | zero =>
      have e' : (kv.1, b, y) = q := Option.some.inj e
      subst e'
      exact ⟨p, rfl, ht⟩
    | succ j =>
      obtain ⟨b', e1, e2⟩ := hp j q (by simpa using e)
      exact ⟨b', by simpa using e1, e2⟩
/-- dict(xs), xs a list of pairs whose keys are tuples -/
theorem call_dictT {k : Nat} (hc : X.calm = true) (hr : Room k X.A) : CallR X (.type "dict") (fun xs H Q => ∃ (a : Addr) (ps : List Addr) (kvs : List (List Key × V)), xs = [.ref a] ∧ SqL X.K H a (ps.map V.ref) ∧ Paired (PairAt' X.K H) ps kvs ∧
    ∀ p, H p = none → Q (.ref p) (upd H p (.dT (putAll [] kvs)))) := by
  intro pins s σ H xs us Q I r q
  obtain ⟨a, ps, kvs, ex, hq, hp, q⟩ := q
  subst ex
  obtain ⟨u, eu, rx⟩ := vals1 r
  subst eu
  cases rx
  obtain ⟨its, rv, pl, hz⟩ := I.list hq
  have ei := refs_at rv
  subst ei
  rw [List.length_map] at hz
  obtain ⟨ms, rel, hl, hpr⟩ := pairsT_of I hp
  obtain ⟨o, n, ho, hcl, hd, hdat⟩ := pl
  have hu := hr.units
  have isK : ∀ (h' : Heap), (∀ b o, s.heap.get? b = some o → h'.get? b = some o) → ∀ x ∈ ms, (tupleKind (mixKind X.prog X.w)).is h' x.1 x.2.1 := by
    intro h' kp x hx
    have ok' : HOk X.prog X.w H h' := (I.kept (t' := s.toks) kp).hok
    have all : ∀ {l : List (List Key × V)} {m : List (List Key × Addr × Value)}, KT H l m → ∀ x ∈ m, H x.2.1 = some (.tup (x.1.map kV)) := by
      intro l m q
      induction q with
      | nil => exact fun x hx => absurd hx (by simp)
      | cons h t ih =>
        intro x hx
        rcases List.mem_cons.mp hx with e | hx
        · subst e
          rw [← h.1]
          exact h.2.1
        · exact ih x hx
    exact key_of ok' (all rel x hx)
  have pit : PairItems s.heap (ps.map Value.ref).toArray (fun j => ps.getD j 0) (ms.map fun q => (Value.ref q.2.1, q.2.2)) := by
    refine ⟨by simp [hl], fun j k' v e => ?_⟩
    rw [List.getElem?_map] at e
    cases em : ms[j]? with
    | none =>
      rw [em] at e
      cases e
    | some q' =>
      rw [em] at e
      obtain ⟨b, e1, e2⟩ := hpr j q' em
      have e3 : (Value.ref q'.2.1, q'.2.2) = (k', v) := Option.some.inj e
      injection e3 with e4 e5
      have eg : ps.getD j 0 = b := by rw [List.getD_eq_getElem?_getD, e1]; rfl
      refine ⟨?_, ?_⟩
      · show _ = some (Value.ref (ps.getD j 0))
        rw [eg]
        simp [e1]
      · show PairAt s.heap (ps.getD j 0) k' v
        rw [eg, ← e4, ← e5]
        exact .inl e2
  have hsz : ms.length ≤ sizeLine := by rw [hl]; exact hz
  have P := PairArg.list (prog := X.prog) (w := X.w) a (ps.map Value.ref).toArray (fun j => ps.getD j 0) (ms.map fun q => (Value.ref q.2.1, q.2.2))
  refine call_dict_pairsH (knd := tupleKind (mixKind X.prog X.w)) (ps := ms) P (I.ok.hd hc) (tupleKind_room_in1 (A := X.A.in1) (by show X.A.units + 1 + 1 < _; omega)) ⟨⟨o, n, ho, hcl, hd, hdat⟩, pit⟩ ⟨by rw [List.length_map], fun i key v e => ?_⟩ (fun h' hk' x hx => ?_) (by rw [List.length_map]; exact hsz) fun h' tk hd' kp => ?_
  · have e : (ms.map fun q => (Value.ref q.2.1, q.2.2))[i]? = some (key, v) := e
    rw [List.getElem?_map] at e
    cases em : ms[i]? with
    | none =>
      rw [em] at e
      cases e
    | some q' =>
      rw [em] at e
      have e3 : (Value.ref q'.2.1, q'.2.2) = (key, v) := Option.some.inj e
      injection e3 with e4 e5
      exact ⟨q'.1, q'.2.1, by rw [← e5], e4.symm⟩
  · exact isK h' (fun b o e => hk' b o (Nat.ne_of_lt (Heap.lt_size e)) (by simp) e) x hx
  · have kp' : ∀ b o, s.heap.get? b = some o → h'.get? b = some o := fun b o e => kp b o (by simp) e
    have hm : (s.heap.objs.size == sysModules) = false := beq_eq_false_iff_ne.mpr (Nat.ne_of_gt I.big)
    have hfr : H s.heap.objs.size = none := I.hok.fresh (Nat.le_refl _)
    have hlen : (putAll [] kvs).length ≤ sizeLine := by
      refine Nat.le_trans (length_putAll kvs []) ?_
      rw [List.length_nil, Nat.zero_add, Paired.length rel]
      exact hsz
    obtain ⟨q1, es, ep, h1, h2, h3, h4, _, h5⟩ := hd'
    refine ⟨.ref s.heap.objs.size, upd H s.heap.objs.size (.dT (putAll [] kvs)), I.laid (t' := tk) kp' (Nat.le_refl _)
      (show ObjOk X.prog X.w _ _ _ (.dT (putAll [] kvs)) from ⟨hlen, hm, storedAllH [] ms, (ktAll rel .nil).keeps fun c ys ec => ?_, q1, es, ep, h1, h2, h3, h4, h5⟩), rfl, q _ hfr⟩
    rw [upd_ne (ne_of_none ec hfr)]
    exact ec
end
end AskG
/-! cell < cell -/
namespace AskG
open PySem PySem.Spec PyProof.Rows L2
def rLtC : R2 := fun x y H Q => ∃ (a b : Addr) (c d : Cell), x = .ref a ∧ y = .ref b ∧ CellAt H a c ∧ CellAt H b d ∧ Q (.bl (ltC c d)) H
theorem op_ltC {X : Cx} (hu : X.A.units < cLine) : OpR X (compareOp .Lt) rLtC := by
  intro pins s σ H x y v u Q I rx ry h
  obtain ⟨a, b, c, d, rfl, rfl, ha, hb, q⟩ := h
  cases rx
  cases ry
  obtain ⟨a', t, t', e, ht⟩ := isCl_of I.hok ha
  cases e
  obtain ⟨b', u, u', e, hu2⟩ := isCl_of I.hok hb
  cases e
  have R := Ob.RcOp.tuples_lt (A := X.A) (s := s) (e := fun j => if j = 0 then c.1 == d.1 else c.2 == d.2)
    (r := fun j => if j = 0 then decide (c.1.cps.toList < d.1.cps.toList) else decide (c.2 < d.2)) ht hu2 hu
    (fun j h1 h2 => by
      have h1 : j < 2 := h1
      match j, h1 with
      | 0, _ => exact SeqAt.EqAt.str_str c.1 t d.1 u
      | 1, _ => exact SeqAt.EqAt.int_int c.2 t' d.2 u')
    (fun j h1 h2 _ => by
      have h1 : j < 2 := h1
      match j, h1 with
      | 0, _ => exact fun _ _ _ _ h => PyProof.Rows.lt_str h
      | 1, _ => exact fun _ _ _ _ h => PyProof.Rows.lt_int h)
  have e : Ob.lexAt (fun j => if j = 0 then c.1 == d.1 else c.2 == d.2) (fun j => if j = 0 then decide (c.1.cps.toList < d.1.cps.toList) else decide (c.2 < d.2)) (decide (2 < 2)) 0 (min 2 2) = ltC c d := by
    show (if (c.1 == d.1) = true then (if (c.2 == d.2) = true then decide (2 < 2) else decide (c.2 < d.2)) else decide (c.1.cps.toList < d.1.cps.toList)) = ltC c d
    unfold ltC
    by_cases e1 : c.1 = d.1
    · rw [if_pos (beq_iff_eq.mpr e1), if_pos e1]
      by_cases e2 : c.2 = d.2
      · rw [if_pos (beq_iff_eq.mpr e2), e2, decide_eq_false (Int.lt_irrefl _)]
        rfl
      · rw [if_neg fun z => e2 (beq_iff_eq.mp z)]
    · rw [if_neg fun z => e1 (beq_iff_eq.mp z), if_neg e1]
  have R2 : Ob.RcOp .Lt X.A s (.ref a) (.ref b) (ltC c d) := by
    rw [← e]
    exact R
  have z : wpAny (model X.prog X.w) X.A (compareOp .Lt (.ref a) (.ref b)) (EP X pins σ Q) X.xe s :=
    R2 X.prog X.w X.xe (EP X pins σ Q) ⟨.bl _, H, I, rfl, q⟩
  exact z
end AskG
/-! {k: v for .. in ..}, the keys tuples. -/
namespace AskG
open PySem PySem.Spec PyProof.Rows L2

theorem setT {X : Cx} {pins : List (Addr × Obj)} {σ : L2.St} {H : Hp} {s : Shared} {E : Value → Shared → Prop} {D b : Addr}
    {kvs : List (List Key × V)} {k : List Key} {v : V} {r : Value} {Q : Unit → Shared → Prop} (hu : X.A.units + 1 < cLine)
    (I : Inv X pins σ H s) (hD : H D = some (.dT kvs)) (hb : H b = some (.tup (k.map kV))) (hz : kvs.length < sizeLine)
    (rv : RelV v r) (h : ∀ s', Inv X pins σ (upd H D (.dT (putK kvs k v))) s' → Q () s') :
    wpAny (model X.prog X.w) X.A (dictSet D (.ref b) r) Q E s := by
  obtain ⟨z, hd, xs, rel, dd⟩ := dt_of I.hok hD
  have hx : xs.length ≤ sizeLine := by
    rw [← Paired.length rel]
    exact z
  have hl : (putK kvs k v).length ≤ sizeLine := by
    have := length_putK kvs k v
    omega
  refine wpAny_dictSet_heap (hsz := hx) (knd := tupleKind (mixKind X.prog X.w)) (show X.A.units < cLine by omega)
    (key_of I.hok hb) dd fun h' dd' hs => h _ ?_
  obtain ⟨q, es, ep, hq, h2, h3, h4, _, h5⟩ := dd'
  refine d_write I (by rw [hD]; exact True.intro) hs ⟨q, hq⟩
    ⟨hl, hd, _, (rel.put k hb rv).keeps fun c ys ec => ?_, q, es, ep, hq, h2, h3, h4, h5⟩
  rw [upd_ne (ne_of ec hD (fun z => nomatch z))]
  exact ec

/-- the reading: D the new dict -/
def tDcT (wi : TI) (g : TG) (tk tv : TE) (vs : List Nat) : TE := fun σ H Q => wi σ H fun J H1 => ∀ D, H1 D = none →
  ∃ W : Nat → Nat → Hp → Prop, (∃ m, W 0 m (upd H1 D (.dT []))) ∧ ∀ i m H, W i m H →
    (J.stop i H ∧ Q (.ref D) H) ∨ (J.go i H ∧ ∃ Nx : Hp → Prop, (∀ H', Nx H' → ∃ m', m' < m ∧ W (i + 1) m' H') ∧
      ∀ x H', J.yld i H x H' → g x (wipe σ vs) H' fun σ2 H2 => wipe σ2 vs = wipe σ vs ∧
        tk σ2 H2 fun y H4 => tv σ2 H4 fun z H5 => ∃ b kvs k, y = .ref b ∧ H5 b = some (.tup (k.map kV)) ∧
          H5 D = some (.dT kvs) ∧ kvs.length < sizeLine ∧ Nx (upd H5 D (.dT (putK kvs k z))))

section
variable {X : Cx}
theorem pe_dcT {kx vx tg iter : Expr} {scope : Scope} {own : List (Str × Nat)} {pos : Pos} {wi : TI} {g : TG} {tk tv : TE}
    (hu : X.A.units + 1 < cLine) (hc : X.calm = true) (hN : X.N.Nodup) (hi : PI X tg iter wi) (ok : BlkOk X.N X.env.scope scope own)
    (hg : ∀ (s : Shared) (H : Hp) (C : Addr) (cl : List (Str × Addr)) (fp : List Addr),
      PG (X.blk s H scope (compEnvC scope cl C X.env) fp) tg g)
    (hk : ∀ (s : Shared) (H : Hp) (C : Addr) (cl : List (Str × Addr)) (fp : List Addr),
      PE (X.blk s H scope (compEnvC scope cl C X.env) fp) kx tk)
    (he : ∀ (s : Shared) (H : Hp) (C : Addr) (cl : List (Str × Addr)) (fp : List Addr),
      PE (X.blk s H scope (compEnvC scope cl C X.env) fp) vx tv)
    (hs : ∀ x, foldedSetIterable iter X.env x = pure x := by intro _; rfl) :
    PE X (.DictComp kx vx [⟨tg, iter, [], 0⟩] scope pos) (tDcT wi g tk tv (own.map (·.2))) := by
  constructor
  intro pins s σ H Q I h
  rw [arm_eval_DictComp]
  have hfree : ∀ y ∈ scope.names, y.2 = .free → ∃ c, X.env.cells.lookup y.1 = some c := by
    intro y hy e
    exact (ok.free y hy e).elim (fun k => I.ok.has _ (.inl k)) fun k => I.ok.has _ (.inr k)
  refine wpAny_comprehension_free rfl hs (closure_ok hfree) ok.kind (fun y hy e => by rw [ok.uniq y hy, e])
    (thn (hi.run pins s σ H _ I h) fun xv s1 hx => thn hx ?_)
  rintro itv s2 ⟨it, fp, tn, J, H2, e, I2, T, st2, f2, q⟩
  subst e
  refine wpAny_newObj_type (newEnv_comp ?_)
  generalize hD : s2.heap.objs.size = D
  have hDn : H2 D = none := I2.hok.fresh (Nat.le_of_eq hD)
  obtain ⟨W, ⟨m0, w0⟩, turn⟩ := q D hDn
  generalize hs3 : ({ s2 with heap := s2.heap.push { cls := .type "dict", data := .dict #[] } } : Shared) = s3
  have I3 : Inv X pins σ (upd H2 D (.dT [])) s3 := by
    rw [← hs3]
    refine I2.laid (t' := s2.toks) (fun b o e => Heap.get?_push_of_some _ e) (Nat.le_of_eq hD) ?_
    rw [← hD]
    exact dt_empty s2.heap I2.big
  have h3 : s3.heap = s2.heap.push { cls := .type "dict", data := .dict #[] } := by rw [← hs3]
  have sz : ∀ b ∈ fp, b < s2.heap.objs.size := fun b hb => (T.obj _ _ st2 b hb).elim fun o e => Heap.lt_size e.1
  have f3 : ∀ b ∈ fp, FpOk X pins (upd H2 D (.dT [])) b ∧ b < s3.heap.objs.size := by
    intro b hb
    have hlt := sz b hb
    refine ⟨⟨?_, (f2 b hb).2⟩, by rw [h3, Heap.size_push]; exact Nat.lt_succ_of_lt hlt⟩
    rw [upd_ne (by rw [← hD]; exact Nat.ne_of_lt hlt)]
    exact (f2 b hb).1
  have st3 : tn 0 s3.heap := T.keep _ _ _ st2 fun b _ o e => by
    rw [h3]
    exact Heap.get?_push_of_some _ e
  have I4 := block_start I3 ok hN f3
  have pg := hg s3 (upd H2 D (.dT [])) s3.heap.objs.size
    (cellsFrom (s3.heap.objs.size + 1) scope.names (cloFrom X.env.cells scope.names [])) fp
  have pk := hk s3 (upd H2 D (.dT [])) s3.heap.objs.size
    (cellsFrom (s3.heap.objs.size + 1) scope.names (cloFrom X.env.cells scope.names [])) fp
  have pe := he s3 (upd H2 D (.dT [])) s3.heap.objs.size
    (cellsFrom (s3.heap.objs.size + 1) scope.names (cloFrom X.env.cells scope.names [])) fp
  have nfp : ∀ b ∈ fp, (upd H2 D (.dT [])) b = none := fun b hb => (f3 b hb).1.1
  show codeAny _ _ (.compStart (.DictComp kx vx [⟨tg, iter, [], 0⟩] scope pos) 0 (.ref it) (.ref D)
    (compEnvC scope (cellsFrom (s3.heap.objs.size + 1) scope.names (cloFrom X.env.cells scope.names [])) s3.heap.objs.size X.env)) _
    { s3 with heap := pushCells (s3.heap.push { cls := .type "dict", data := .dict #[] }) scope.names }
  generalize hce : compEnvC scope (cellsFrom (s3.heap.objs.size + 1) scope.names (cloFrom X.env.cells scope.names [])) s3.heap.objs.size X.env = ce at I4 pg pk pe ⊢
  have cL : ce.locals = s3.heap.objs.size := by
    subst hce
    rfl
  generalize hH3 : upd H2 D (.dT []) = H3 at I3 I4 pg pk pe w0 nfp f3
  generalize hs4 : ({ s3 with heap := pushCells (s3.heap.push { cls := .type "dict", data := .dict #[] }) scope.names } : Shared) = s4 at I4 ⊢
  have st4 : tn 0 s4.heap := T.keep _ _ _ st3 fun b _ o e => by
    rw [← hs4]
    exact pushCells_keeps _ _ _ _ (Heap.get?_push_of_some _ e)
  have stat : ∀ {σ' : L2.St} {H' : Hp} {s' : Shared}, Inv (X.blk s3 H3 scope ce fp) [] σ' H' s' → (∀ b ∈ fp, H' b = none) →
      ∀ b ∈ fp, FpOk (X.blk s3 H3 scope ce fp) [] H' b := by
    intro σ' H' s' I' hn b hb
    exact ⟨hn b hb, (I'.ok.exf b hb).1, I'.ok.exfs b hb, .inl hb, fun x c e => (I'.ok.exf b hb).2 x c e,
      fun p hp => absurd (show p ∈ ([] : List (Addr × Obj)) ++ [] from hp) (by simp)⟩
  refine codeAny_compStart_dict ?loop (T.self X.A 0 _ _ _ st4 ?loop)
  refine compLoop_anyD (fun n s' => ∃ i H', Inv (X.blk s3 H3 scope ce fp) [] (wipe σ (own.map (·.2))) H' s' ∧ tn i s'.heap ∧
    (∀ b ∈ fp, H' b = none) ∧ W i n H') ?_ m0 ⟨0, H3, I4, st4, nfp, w0⟩
  rintro n s5 ⟨i, H5, I5, st5, n5, w5⟩
  rcases turn i n H5 w5 with ⟨stop, qq⟩ | ⟨go, Nx, hNx, step⟩
  · have td := T.done (X.blk s3 H3 scope ce fp) rfl rfl rfl hc i [] s5 _ H5 (fun _ _ => False) I5 (stat I5 n5) st5 stop
    refine thnF td ?_
    rintro r s6 ⟨hr, I6⟩
    subst hr
    have I7 : Inv X pins σ H5 s6 := I3.call' (ch := fp) I6.os I6.base I6.hok I6.bare fun b hb =>
      ⟨(f3 b hb).1.2.2.2.1, (f3 b hb).1.2.1, (f3 b hb).1.2.2.2.2.1, (f3 b hb).1.2.2.2.2.2⟩
    have nC : H5 s3.heap.objs.size = none := by
      have z : H5 ce.locals = none := I6.free
      rw [cL] at z
      exact z
    obtain ⟨m, hn, _⟩ := I6.loc
    have hn : s6.heap.Ns ce.locals m := hn
    rw [cL] at hn
    obtain ⟨f0, f1, f2, f3, f4, f5⟩ := I3.fpOk (Nat.le_refl _) nC
    refine ⟨m, hn, fun h'' sb => ?_⟩
    exact ⟨.ref D, H5, I7.turned (t' := s6.toks) (fun b o hb e => (sb.2 b hb).trans e) f0 f1 f3 f4 f5, rfl, qq⟩
  · have ti := T.item (X.blk s3 H3 scope ce fp) rfl rfl rfl hc i [] s5 _ H5 (fun _ _ => False) I5 (stat I5 n5) st5 go
    refine thnF ti ?_
    rintro r s6 ⟨u, hr, h6⟩
    subst hr
    refine thnF h6 ?_
    rintro _ s7 ⟨x, H7, I7, r7, y7, st7, n7⟩
    have I7' := I7.pinned (stat I7 n7) (T.obj _ _ st7)
    refine thnF (pg.run _ s7 _ H7 x u _ I7' r7 (step x H7 y7)) ?_
    rintro _ s8 ⟨σ8, H8, I8, hw8, q8⟩
    refine wpAny_pure ?_
    have fin : ∀ {s' : Shared} {H' : Hp}, Inv (X.blk s3 H3 scope ce fp) ([] ++ pinsAt fp s7.heap) σ8 H' s' → Nx H' →
        ∃ m, m < n ∧ ∃ i H', Inv (X.blk s3 H3 scope ce fp) [] (wipe σ (own.map (·.2))) H' s' ∧ tn i s'.heap ∧ (∀ b ∈ fp, H' b = none) ∧ W i m H' := by
      intro s' H' I' nx
      obtain ⟨m', hm, w'⟩ := hNx H' nx
      have pin' : ∀ b ∈ fp, ∀ o, s7.heap.get? b = some o → s'.heap.get? b = some o ∧ H' b = none := by
        intro b hb o e
        have z := I'.pin (b, o) (List.mem_append_right _ (List.mem_append_right _ (mem_pinsAt hb e)))
        exact ⟨z.1, z.2.1⟩
      have hl : (wipe σ (own.map (·.2))).length = σ8.length := by rw [← hw8, wipe_length]
      refine ⟨m', hm, i + 1, H', (I'.unpinned (pins := [])).weak hl (fun j v e => ?_),
        T.keep _ _ _ st7 fun b hb o e => (pin' b hb o e).1, fun b hb => ?_, w'⟩
      · rw [← hw8] at e
        exact (wipe_some e).1
      · obtain ⟨o, e, _⟩ := T.obj _ _ st7 b hb
        exact (pin' b hb o e).2
    show wpAny _ _ (eval kx ce) _ _ _
    refine thnF (pk.run _ s8 σ8 H8 _ I8 q8) ?_
    rintro z s10 ⟨yk, H10, I10, r10, q10⟩
    refine thnF (pe.run _ s10 σ8 H10 _ I10 q10) ?_
    rintro z2 s11 ⟨yv, H11, I11, r11, b, kvs, k, ek, hb, hD11, hz11, nx⟩
    subst ek
    cases r10
    exact setT (X := X.blk s3 H3 scope ce fp) hu I11 hD11 hb hz11 r11 fun s12 I12 => fin I12 nx
end
end AskG
/-! The mathematics of rows: sums, multiples, parts, effects. -/
namespace AskG
open PySem PySem.Spec PyProof.Rows L2

abbrev RowD := List (Cell × Int)
def getO (m : RowD) (c : Cell) : Option Int := (m.find? fun x => decide (x.1 = c)).map (·.2)
def get0 (m : RowD) (c : Cell) : Int := (getO m c).getD 0
def putC (m : RowD) (c : Cell) (w : Int) : RowD :=
  if m.any (fun x => decide (x.1 = c)) then m.map (fun x => if x.1 = c then (x.1, w) else x) else m ++ [(c, w)]
def keys (m : RowD) : List Cell := m.map (·.1)
/-- as the dict holds it -/
def dk (m : RowD) : List (List Key × V) := m.map fun x => (ck x.1, .int x.2)

theorem dk_keys (m : RowD) : (dk m).map (·.1) = (keys m).map ck := by
  unfold dk keys
  rw [List.map_map, List.map_map]
  rfl
theorem dk_length (m : RowD) : (dk m).length = m.length := List.length_map _
theorem getO_cons (x : Cell × Int) (m : RowD) (c : Cell) : getO (x :: m) c = if x.1 = c then some x.2 else getO m c := by
  unfold getO
  rw [List.find?_cons]
  by_cases h : x.1 = c <;> simp [h]
theorem get0_cons (x : Cell × Int) (m : RowD) (c : Cell) : get0 (x :: m) c = if x.1 = c then x.2 else get0 m c := by
  unfold get0
  rw [getO_cons]
  by_cases h : x.1 = c <;> simp [h]
theorem get0_nil (c : Cell) : get0 [] c = 0 := rfl
theorem dk_val : ∀ (m : RowD) (c : Cell), valV (dk m) (ck c) = (getO m c).map V.int
  | [], _ => rfl
  | x :: m, c => by
    rw [getO_cons]
    by_cases h : x.1 = c
    · rw [if_pos h]
      exact valV_pos (p := (ck x.1, V.int x.2)) (congrArg ck h)
    · rw [if_neg h]
      exact (valV_neg (p := (ck x.1, V.int x.2)) (fun e => h (ck_inj e))).trans (dk_val m c)
theorem dk_any (m : RowD) (c : Cell) : ((dk m).any fun kv => decide (kv.1 = ck c)) = m.any fun x => decide (x.1 = c) := by
  unfold dk
  rw [List.any_map]
  congr 1
  funext x
  show decide (ck x.1 = ck c) = decide (x.1 = c)
  by_cases h : x.1 = c
  · rw [h, decide_eq_true rfl, decide_eq_true rfl]
  · rw [decide_eq_false h, decide_eq_false fun e => h (ck_inj e)]
theorem dk_put (m : RowD) (c : Cell) (w : Int) : putK (dk m) (ck c) (.int w) = dk (putC m c w) := by
  unfold putK putC
  rw [dk_any]
  by_cases h : (m.any fun x => decide (x.1 = c)) = true
  · rw [if_pos h, if_pos h]
    unfold dk
    rw [List.map_map, List.map_map]
    refine List.map_congr_left fun x _ => ?_
    show (if ck x.1 = ck c then (ck x.1, V.int w) else (ck x.1, V.int x.2)) = _
    by_cases g : x.1 = c
    · rw [if_pos (congrArg ck g)]
      show _ = (fun x : Cell × Int => (ck x.1, V.int x.2)) (if x.1 = c then (x.1, w) else x)
      rw [if_pos g]
    · rw [if_neg fun e => g (ck_inj e)]
      show _ = (fun x : Cell × Int => (ck x.1, V.int x.2)) (if x.1 = c then (x.1, w) else x)
      rw [if_neg g]
  · rw [if_neg h, if_neg h]
    unfold dk
    rw [List.map_append]
    rfl
theorem mem_any {m : RowD} {c : Cell} : (m.any fun x => decide (x.1 = c)) = true ↔ c ∈ keys m := by
  rw [List.any_eq_true]
  unfold keys
  constructor
  · rintro ⟨x, hx, e⟩
    exact List.mem_map.mpr ⟨x, hx, of_decide_eq_true e⟩
  · intro h
    obtain ⟨x, hx, e⟩ := List.mem_map.mp h
    exact ⟨x, hx, decide_eq_true e⟩
theorem keys_put (m : RowD) (c : Cell) (w : Int) : keys (putC m c w) = if c ∈ keys m then keys m else keys m ++ [c] := by
  unfold putC
  by_cases h : (m.any fun x => decide (x.1 = c)) = true
  · rw [if_pos h, if_pos (mem_any.mp h)]
    unfold keys
    rw [List.map_map]
    refine List.map_congr_left fun x _ => ?_
    show (if x.1 = c then (x.1, w) else x).1 = x.1
    by_cases g : x.1 = c
    · rw [if_pos g]
    · rw [if_neg g]
  · rw [if_neg h, if_neg fun z => h (mem_any.mpr z)]
    unfold keys
    rw [List.map_append]
    rfl
theorem nodup_put {m : RowD} (n : (keys m).Nodup) (c : Cell) (w : Int) : (keys (putC m c w)).Nodup := by
  rw [keys_put]
  by_cases h : c ∈ keys m
  · rw [if_pos h]
    exact n
  · rw [if_neg h]
    refine List.nodup_append.mpr ⟨n, List.nodup_cons.mpr ⟨by simp, List.nodup_nil⟩, fun a ha b hb e => ?_⟩
    rw [List.mem_singleton.mp hb] at e
    exact h (e ▸ ha)
theorem length_put (m : RowD) (c : Cell) (w : Int) : (putC m c w).length ≤ m.length + 1 := by
  unfold putC
  split
  · rw [List.length_map]
    omega
  · rw [List.length_append]
    exact Nat.le_refl _
theorem mem_put {m : RowD} {c : Cell} {w : Int} {x : Cell × Int} (h : x ∈ putC m c w) : x ∈ m ∨ x = (c, w) := by
  unfold putC at h
  split at h
  · obtain ⟨y, hy, e⟩ := List.mem_map.mp h
    by_cases g : y.1 = c
    · rw [if_pos g] at e
      rw [← e, g]
      exact Or.inr rfl
    · rw [if_neg g] at e
      rw [← e]
      exact Or.inl hy
  · rcases List.mem_append.mp h with h | h
    · exact Or.inl h
    · exact Or.inr (List.mem_singleton.mp h)
theorem put_new {m : RowD} {c : Cell} {w : Int} (h : c ∉ keys m) : putC m c w = m ++ [(c, w)] := by
  unfold putC
  rw [if_neg fun z => h (mem_any.mp z)]
theorem getO_none {m : RowD} {c : Cell} (h : c ∉ keys m) : getO m c = none := by
  induction m with
  | nil => rfl
  | cons x m ih =>
    rw [getO_cons, if_neg fun e => h (by rw [← e]; exact List.mem_cons_self)]
    exact ih fun z => h (List.mem_cons_of_mem _ z)
theorem get0_none {m : RowD} {c : Cell} (h : c ∉ keys m) : get0 m c = 0 := by
  unfold get0
  rw [getO_none h]
  rfl
theorem getO_some {m : RowD} {c : Cell} (h : c ∈ keys m) : ∃ w, getO m c = some w ∧ (c, w) ∈ m := by
  induction m with
  | nil => cases h
  | cons x m ih =>
    rw [getO_cons]
    by_cases e : x.1 = c
    · rw [if_pos e]
      exact ⟨x.2, rfl, by rw [← e]; exact List.mem_cons_self⟩
    · rw [if_neg e]
      rcases List.mem_cons.mp h with g | g
      · exact absurd g.symm e
      · obtain ⟨w, h1, h2⟩ := ih g
        exact ⟨w, h1, List.mem_cons_of_mem _ h2⟩
theorem getO_mem {m : RowD} (n : (keys m).Nodup) {x : Cell × Int} (h : x ∈ m) : getO m x.1 = some x.2 := by
  induction m with
  | nil => cases h
  | cons y m ih =>
    rw [getO_cons]
    have n' := List.nodup_cons.mp n
    rcases List.mem_cons.mp h with e | h
    · rw [e, if_pos rfl]
    · rw [if_neg, ih n'.2 h]
      intro e
      refine n'.1 ?_
      show y.1 ∈ keys m
      rw [e]
      exact List.mem_map_of_mem h
theorem get0_mem {m : RowD} (n : (keys m).Nodup) {x : Cell × Int} (h : x ∈ m) : get0 m x.1 = x.2 := by
  unfold get0
  rw [getO_mem n h]
  rfl

/-! ### the dicts that are made -/
def ofRow (r : RowD) : RowD := r.foldl (fun m x => putC m x.1 x.2) []
def addF (m : RowD) (r : RowD) (t : Int) : RowD := r.foldl (fun m x => putC m x.1 (get0 m x.1 + t * x.2)) m
theorem nodup_fold (f : RowD → Cell × Int → Int) : ∀ (r m : RowD), (keys m).Nodup → (keys (r.foldl (fun m x => putC m x.1 (f m x)) m)).Nodup
  | [], _, h => h
  | x :: r, m, h => nodup_fold f r _ (nodup_put h _ _)
theorem length_fold (f : RowD → Cell × Int → Int) : ∀ (r m : RowD), (r.foldl (fun m x => putC m x.1 (f m x)) m).length ≤ m.length + r.length
  | [], m => Nat.le_refl _
  | x :: r, m => by
    have h1 := length_fold f r (putC m x.1 (f m x))
    have h2 := length_put m x.1 (f m x)
    rw [List.length_cons]
    show (r.foldl (fun m x => putC m x.1 (f m x)) (putC m x.1 (f m x))).length ≤ _
    omega
theorem ofRow_nodup (r : RowD) : (keys (ofRow r)).Nodup := nodup_fold (fun _ x => x.2) r [] List.nodup_nil
theorem addF_nodup {m : RowD} (h : (keys m).Nodup) (r : RowD) (t : Int) : (keys (addF m r t)).Nodup := nodup_fold (fun m x => get0 m x.1 + t * x.2) r m h
theorem ofRow_length (r : RowD) : (ofRow r).length ≤ r.length := by
  have := length_fold (fun _ x => x.2) r []
  rw [List.length_nil, Nat.zero_add] at this
  exact this
theorem addF_length (m r : RowD) (t : Int) : (addF m r t).length ≤ m.length + r.length := length_fold (fun m x => get0 m x.1 + t * x.2) r m
theorem fold_app : ∀ (r m : RowD), (keys (m ++ r)).Nodup → r.foldl (fun m x => putC m x.1 x.2) m = m ++ r
  | [], m, _ => (List.append_nil m).symm
  | x :: r, m, h => by
    have e : m ++ x :: r = (m ++ [x]) ++ r := by simp
    have hx : x.1 ∉ keys m := by
      unfold keys at h ⊢
      rw [List.map_append, List.map_cons] at h
      intro hm
      exact (List.nodup_append.mp h).2.2 _ hm _ List.mem_cons_self rfl
    show r.foldl _ (putC m x.1 x.2) = _
    rw [put_new hx, e]
    rw [e] at h
    exact fold_app r _ h
theorem ofRow_self {r : RowD} (h : (keys r).Nodup) : ofRow r = r := fold_app r [] h
theorem addF_app (t : Int) : ∀ (r m : RowD), (keys (m ++ r)).Nodup → addF m r t = m ++ r.map fun x => (x.1, t * x.2)
  | [], m, _ => (List.append_nil m).symm
  | x :: r, m, h => by
    have hx : x.1 ∉ keys m := by
      unfold keys at h ⊢
      rw [List.map_append, List.map_cons] at h
      intro hm
      exact (List.nodup_append.mp h).2.2 _ hm _ List.mem_cons_self rfl
    show addF (putC m x.1 (get0 m x.1 + t * x.2)) r t = _
    rw [put_new hx, get0_none hx, Int.zero_add]
    have e : (m ++ [(x.1, t * x.2)]) ++ r.map (fun x => (x.1, t * x.2)) = m ++ (x :: r).map fun x => (x.1, t * x.2) := by simp
    rw [← e]
    refine addF_app t r _ ?_
    unfold keys at h ⊢
    rw [show (m ++ [(x.1, t * x.2)] ++ r).map (·.1) = (m ++ x :: r).map (·.1) by simp]
    exact h

/-! ### sorted cells -/
def insC (c : Cell) : List Cell → List Cell
  | [] => [c]
  | d :: l => if ltC c d = true then c :: d :: l else d :: insC c l
def sortC (l : List Cell) : List Cell := l.foldr insC []
theorem insC_perm (c : Cell) : ∀ l, (insC c l).Perm (c :: l)
  | [] => List.Perm.refl _
  | d :: l => by
    unfold insC
    split
    · exact List.Perm.refl _
    · exact ((insC_perm c l).cons d).trans (List.Perm.swap c d l)
theorem sortC_perm : ∀ l, (sortC l).Perm l
  | [] => List.Perm.refl _
  | c :: l => (insC_perm c (sortC l)).trans ((sortC_perm l).cons c)
abbrev Rising (l : List Cell) : Prop := l.Pairwise fun a b => ltC a b = true
theorem insC_rising {c : Cell} : ∀ {l : List Cell}, Rising l → c ∉ l → Rising (insC c l)
  | [], _, _ => List.pairwise_singleton _ _
  | d :: l, h, n => by
    have hd := List.pairwise_cons.mp h
    unfold insC
    split
    · rename_i hc
      refine List.pairwise_cons.mpr ⟨fun a ha => ?_, h⟩
      rcases List.mem_cons.mp ha with e | ha
      · rw [e]
        exact hc
      · exact ltC_trans hc (hd.1 a ha)
    · rename_i hc
      have hdc : ltC d c = true := by
        rcases ltC_tri d c with g | g | g
        · exact g
        · exact absurd (g ▸ List.mem_cons_self) n
        · exact absurd g hc
      refine List.pairwise_cons.mpr ⟨fun a ha => ?_, insC_rising hd.2 fun z => n (List.mem_cons_of_mem _ z)⟩
      rcases List.mem_cons.mp ((insC_perm c l).mem_iff.mp ha) with e | ha
      · rw [e]
        exact hdc
      · exact hd.1 a ha
theorem sortC_rising : ∀ {l : List Cell}, l.Nodup → Rising (sortC l)
  | [], _ => List.Pairwise.nil
  | c :: l, n => insC_rising (sortC_rising (List.nodup_cons.mp n).2) fun z => (List.nodup_cons.mp n).1 ((sortC_perm l).mem_iff.mp z)
theorem rising_uniq : ∀ {a b : List Cell}, a.Perm b → Rising a → Rising b → a = b
  | [], b, p, _, _ => by
    cases b with
    | nil => rfl
    | cons y b => exact absurd (p.mem_iff.mpr List.mem_cons_self) (by simp)
  | x :: a, [], p, _, _ => absurd (p.mem_iff.mp List.mem_cons_self) (by simp)
  | x :: a, y :: b, p, ha, hb => by
    have hx := List.pairwise_cons.mp ha
    have hy := List.pairwise_cons.mp hb
    have e : x = y := by
      rcases List.mem_cons.mp (p.mem_iff.mp List.mem_cons_self) with e | h1
      · exact e
      · rcases List.mem_cons.mp (p.mem_iff.mpr List.mem_cons_self) with e | h2
        · exact e.symm
        · have := ltC_trans (hx.1 _ h2) (hy.1 _ h1)
          rw [ltC_irr] at this
          cases this
    subst e
    rw [rising_uniq (List.Perm.cons_inv p) hx.2 hy.2]
theorem rising_nodup {l : List Cell} (h : Rising l) : l.Nodup := h.imp fun h e => by
  rw [e, ltC_irr] at h
  cases h
theorem sortC_self {l : List Cell} (h : Rising l) : sortC l = l := rising_uniq (sortC_perm l) (sortC_rising (rising_nodup h)) h

/-! ### tidy rows -/
def pick (m : RowD) (ys : List Cell) : RowD := (ys.map fun c => (c, get0 m c)).filter fun x => decide (x.2 ≠ 0)
def tidy (m : RowD) : RowD := pick m (sortC (keys m))
structure OkRow (r : RowD) : Prop where
  up : Rising (keys r)
  nz : ∀ x ∈ r, x.2 ≠ 0
theorem keys_pick (m : RowD) (ys : List Cell) : (keys (pick m ys)).Sublist ys := by
  unfold pick keys
  have h := (List.filter_sublist (l := ys.map fun c => (c, get0 m c)) (p := fun x => decide (x.2 ≠ 0))).map (·.1)
  rw [List.map_map] at h
  have e : ys.map ((fun x : Cell × Int => x.1) ∘ fun c => (c, get0 m c)) = ys := by
    rw [show ((fun x : Cell × Int => x.1) ∘ fun c => (c, get0 m c)) = id from rfl]
    exact List.map_id _
  rw [e] at h
  exact h
theorem ok_tidy {m : RowD} (n : (keys m).Nodup) : OkRow (tidy m) :=
  ⟨(sortC_rising n).sublist (keys_pick m _), fun x hx => of_decide_eq_true (List.mem_filter.mp hx).2⟩
theorem tidy_length (m : RowD) : (tidy m).length ≤ m.length := by
  have h := (keys_pick m (sortC (keys m))).length_le
  rw [(sortC_perm (keys m)).length_eq] at h
  unfold keys at h
  rw [List.length_map, List.length_map] at h
  exact h
theorem tidy_mem {m : RowD} (n : (keys m).Nodup) {x : Cell × Int} (h : x ∈ tidy m) : x ∈ m := by
  have h := (List.mem_filter.mp h).1
  obtain ⟨c, hc, e⟩ := List.mem_map.mp h
  obtain ⟨w, h1, h2⟩ := getO_some ((sortC_perm (keys m)).mem_iff.mp hc)
  rw [← e]
  have : get0 m c = w := by
    unfold get0
    rw [h1]
    rfl
  rw [this]
  exact h2
def addR (a b : RowD) (t : Int) : RowD := tidy (addF (ofRow a) b t)
def scaleR (r : RowD) (t : Int) : RowD := if t = 0 then [] else r.map fun x => (x.1, x.2 * t)
theorem tidy_self {r : RowD} (h : Rising (keys r)) : tidy r = r.filter fun x => decide (x.2 ≠ 0) := by
  unfold tidy pick
  rw [sortC_self h]
  have n := rising_nodup h
  have e : (keys r).map (fun c => (c, get0 r c)) = r := by
    unfold keys
    rw [List.map_map]
    have : ∀ x ∈ r, ((fun c => (c, get0 r c)) ∘ fun x : Cell × Int => x.1) x = id x := by
      intro x hx
      show (x.1, get0 r x.1) = x
      rw [get0_mem n hx]
    rw [List.map_congr_left this]
    exact List.map_id _
  rw [e]
theorem addR_nil {r : RowD} (h : OkRow r) (t : Int) : addR [] r t = scaleR r t := by
  unfold addR
  have e0 : ofRow [] = [] := rfl
  rw [e0, addF_app t r [] (rising_nodup h.up), List.nil_append]
  have hk : keys (r.map fun x => (x.1, t * x.2)) = keys r := by
    unfold keys
    rw [List.map_map]
    rfl
  rw [tidy_self (by rw [hk]; exact h.up)]
  unfold scaleR
  by_cases ht : t = 0
  · rw [if_pos ht]
    refine List.filter_eq_nil_iff.mpr fun x hx => ?_
    obtain ⟨y, _, e⟩ := List.mem_map.mp hx
    rw [← e, ht]
    simp
  · rw [if_neg ht, List.filter_eq_self.mpr fun x hx => ?_]
    · refine List.map_congr_left fun x _ => ?_
      rw [Int.mul_comm]
    · obtain ⟨y, hy, e⟩ := List.mem_map.mp hx
      rw [← e]
      exact decide_eq_true (Int.mul_ne_zero ht (h.nz y hy))

/-! ### effects -/
def effR (a b : RowD) : Int := (a.map fun x => x.2 * get0 (ofRow b) x.1).sum
theorem sum_at (c : Cell) (v : Int) : ∀ {b : RowD}, (keys b).Nodup → (b.map fun y => y.2 * (if c = y.1 then v else 0)).sum = v * get0 b c
  | [], _ => by simp [get0_nil]
  | y :: b, n => by
    have n' := List.nodup_cons.mp n
    rw [List.map_cons, List.sum_cons, sum_at c v n'.2, get0_cons]
    by_cases e : c = y.1
    · rw [if_pos e, if_pos e.symm, get0_none (by rw [e]; exact n'.1)]
      rw [Int.mul_comm]
      omega
    · rw [if_neg e, if_neg fun z => e z.symm]
      omega
theorem sum_split (f g h : Cell × Int → Int) : ∀ b : RowD, (∀ y ∈ b, f y = g y + h y) → (b.map f).sum = (b.map g).sum + (b.map h).sum
  | [], _ => rfl
  | y :: b, e => by
    rw [List.map_cons, List.map_cons, List.map_cons, List.sum_cons, List.sum_cons, List.sum_cons,
      sum_split f g h b fun z hz => e z (List.mem_cons_of_mem _ hz), e y List.mem_cons_self]
    omega
theorem sum_sym : ∀ {a b : RowD}, (keys a).Nodup → (keys b).Nodup →
    (a.map fun x => x.2 * get0 b x.1).sum = (b.map fun y => y.2 * get0 a y.1).sum
  | [], b, _, _ => by
    have : ∀ b : RowD, (b.map fun y : Cell × Int => y.2 * get0 [] y.1).sum = 0 := by
      intro b
      induction b with
      | nil => rfl
      | cons y b ih =>
        rw [List.map_cons, List.sum_cons, ih, get0_nil]
        omega
    rw [this]
    rfl
  | x :: a, b, na, nb => by
    have n' := List.nodup_cons.mp na
    rw [List.map_cons, List.sum_cons, sum_sym n'.2 nb]
    rw [sum_split (fun y => y.2 * get0 (x :: a) y.1) (fun y => y.2 * (if x.1 = y.1 then x.2 else 0)) (fun y => y.2 * get0 a y.1) b]
    · rw [sum_at x.1 x.2 nb]
    · intro y _
      show y.2 * get0 (x :: a) y.1 = y.2 * (if x.1 = y.1 then x.2 else 0) + y.2 * get0 a y.1
      rw [get0_cons]
      by_cases e : x.1 = y.1
      · rw [if_pos e, if_pos e, get0_none (by rw [← e]; exact n'.1)]
        omega
      · rw [if_neg e, if_neg e]
        omega
theorem effR_sym {a b : RowD} (ha : OkRow a) (hb : OkRow b) : effR a b = effR b a := by
  unfold effR
  rw [ofRow_self (rising_nodup ha.up), ofRow_self (rising_nodup hb.up)]
  exact sum_sym (rising_nodup ha.up) (rising_nodup hb.up)

/-! ### what a sum holds -/
theorem getO_map {m : RowD} {c d : Cell} {w : Int} : getO (m.map fun x => if x.1 = c then (x.1, w) else x) d = if d = c then (getO m d).map (fun _ => w) else getO m d := by
  induction m with
  | nil => by_cases h : d = c <;> simp [getO, h]
  | cons x m ih =>
    rw [List.map_cons, getO_cons, getO_cons, ih]
    by_cases h1 : x.1 = c
    · rw [if_pos h1]
      by_cases h2 : d = c
      · simp [h1, h2]
      · have h3 : ¬ c = d := fun e => h2 e.symm
        simp [h1, h2, h3]
    · rw [if_neg h1]
      by_cases h2 : d = c
      · have h3 : ¬ x.1 = d := fun e => h1 (e.trans h2)
        simp [h1, h2]
      · simp [h2]
theorem getO_app {m : RowD} {x : Cell × Int} {d : Cell} : getO (m ++ [x]) d = (getO m d).or (if x.1 = d then some x.2 else none) := by
  induction m with
  | nil =>
    rw [List.nil_append, getO_cons]
    rfl
  | cons y m ih =>
    rw [List.cons_append, getO_cons, getO_cons, ih]
    by_cases h : y.1 = d <;> simp [h]
theorem get0_put (m : RowD) (c d : Cell) (w : Int) : get0 (putC m c w) d = if d = c then w else get0 m d := by
  unfold putC get0
  by_cases h : (m.any fun x => decide (x.1 = c)) = true
  · rw [if_pos h, getO_map]
    by_cases e : d = c
    · rw [if_pos e, if_pos e]
      obtain ⟨v, hv, _⟩ := getO_some (mem_any.mp h)
      rw [e, hv]
      rfl
    · rw [if_neg e, if_neg e]
  · rw [if_neg h, getO_app]
    by_cases e : d = c
    · rw [if_pos e, if_pos e.symm, e, getO_none fun z => h (mem_any.mpr z)]
      rfl
    · rw [if_neg e, if_neg fun z => e z.symm]
      cases getO m d <;> rfl
theorem addF_get (t : Int) (d : Cell) : ∀ (r m : RowD), (keys r).Nodup → get0 (addF m r t) d = get0 m d + t * get0 r d
  | [], m, _ => by
    rw [get0_nil, Int.mul_zero, Int.add_zero]
    rfl
  | x :: r, m, n => by
    have n' := List.nodup_cons.mp n
    show get0 (addF (putC m x.1 (get0 m x.1 + t * x.2)) r t) d = _
    rw [addF_get t d r _ n'.2, get0_put, get0_cons]
    by_cases e : d = x.1
    · rw [if_pos e, if_pos e.symm, e, get0_none n'.1, Int.mul_zero, Int.add_zero]
    · rw [if_neg e, if_neg fun z => e z.symm]
theorem addF_keys (t : Int) (d : Cell) : ∀ (r m : RowD), d ∈ keys (addF m r t) → d ∈ keys m ∨ d ∈ keys r
  | [], m, h => Or.inl h
  | x :: r, m, h => by
    rcases addF_keys t d r _ h with h | h
    · rw [keys_put] at h
      by_cases e : x.1 ∈ keys m
      · rw [if_pos e] at h
        exact Or.inl h
      · rw [if_neg e] at h
        rcases List.mem_append.mp h with h | h
        · exact Or.inl h
        · rw [List.mem_singleton.mp h]
          exact Or.inr List.mem_cons_self
    · exact Or.inr (List.mem_cons_of_mem _ h)
theorem sub_length : ∀ {l m : List Cell}, l.Nodup → (∀ x ∈ l, x ∈ m) → l.length ≤ m.length
  | [], _, _, _ => Nat.zero_le _
  | x :: l, m, n, h => by
    have n' := List.nodup_cons.mp n
    have hx := h x List.mem_cons_self
    have := sub_length (l := l) (m := m.erase x) n'.2 fun y hy => (List.mem_erase_of_ne (a := y) (b := x) fun e => n'.1 (by rw [← e]; exact hy)).mpr (h y (List.mem_cons_of_mem _ hy))
    rw [List.length_erase_of_mem hx] at this
    have : 0 < m.length := List.length_pos_of_mem hx
    rw [List.length_cons]
    omega
/-- rows on some cells, with bounded weights -/
structure DrawnR (cs : List Cell) (B : Int) (r : RowD) : Prop where
  ok : OkRow r
  on : ∀ c ∈ keys r, c ∈ cs
  lit : ∀ c, -B ≤ get0 r c ∧ get0 r c ≤ B
theorem DrawnR.mono {cs : List Cell} {B C : Int} {r : RowD} (h : DrawnR cs B r) (e : B ≤ C) : DrawnR cs C r := ⟨h.ok, h.on, fun c => by have := h.lit c; omega⟩
theorem DrawnR.many {cs : List Cell} {B : Int} {r : RowD} (h : DrawnR cs B r) : r.length ≤ cs.length := by
  have := sub_length (rising_nodup h.ok.up) h.on
  unfold keys at this
  rw [List.length_map] at this
  exact this
theorem DrawnR.at' {cs : List Cell} {B : Int} {r : RowD} (h : DrawnR cs B r) {x : Cell × Int} (hx : x ∈ r) : -B ≤ x.2 ∧ x.2 ≤ B := by
  have := h.lit x.1
  rw [get0_mem (rising_nodup h.ok.up) hx] at this
  exact this
theorem get0_tidy {m : RowD} (n : (keys m).Nodup) (c : Cell) : get0 (tidy m) c = get0 m c := by
  by_cases h : c ∈ keys (tidy m)
  · obtain ⟨w, h1, h2⟩ := getO_some h
    have e1 : get0 (tidy m) c = w := by
      unfold get0
      rw [h1]
      rfl
    have e2 := get0_mem n (tidy_mem n h2)
    rw [e1]
    exact e2.symm
  · rw [get0_none h]
    by_cases hm : c ∈ keys m
    · by_cases h0 : get0 m c = 0
      · exact h0.symm
      · exfalso
        refine h ?_
        have : (c, get0 m c) ∈ tidy m := List.mem_filter.mpr ⟨List.mem_map.mpr ⟨c, (sortC_perm (keys m)).mem_iff.mpr hm, rfl⟩, decide_eq_true h0⟩
        exact List.mem_map_of_mem (f := fun x : Cell × Int => x.1) this
    · exact (get0_none hm).symm
theorem get0_ofRow {a : RowD} (h : OkRow a) (c : Cell) : get0 (ofRow a) c = get0 a c := by rw [ofRow_self (rising_nodup h.up)]
theorem get0_addR {a b : RowD} (ha : OkRow a) (hb : OkRow b) (t : Int) (c : Cell) : get0 (addR a b t) c = get0 a c + t * get0 b c := by
  unfold addR
  rw [get0_tidy (addF_nodup (ofRow_nodup a) b t), addF_get t c b _ (rising_nodup hb.up), get0_ofRow ha]
theorem DrawnR.sum {cs : List Cell} {B C : Int} {a b : RowD} (ha : DrawnR cs B a) (hb : DrawnR cs C b) : DrawnR cs (B + C) (addR a b 1) := by
  have n := addF_nodup (ofRow_nodup a) b 1
  refine ⟨ok_tidy n, fun c hc => ?_, fun c => ?_⟩
  · have h1 : c ∈ keys (addF (ofRow a) b 1) := by
      obtain ⟨x, hx, e⟩ := List.mem_map.mp hc
      rw [← e]
      exact List.mem_map_of_mem (tidy_mem n hx)
    rcases addF_keys 1 c b _ h1 with h | h
    · rw [ofRow_self (rising_nodup ha.ok.up)] at h
      exact ha.on c h
    · exact hb.on c h
  · rw [get0_addR ha.ok hb.ok, Int.one_mul]
    have h1 := ha.lit c
    have h2 := hb.lit c
    omega
theorem ok_nil : OkRow [] := ⟨List.Pairwise.nil, fun x hx => absurd hx (by simp)⟩
theorem drawn_nil {cs : List Cell} {B : Int} (h : 0 ≤ B) : DrawnR cs B [] := ⟨ok_nil, fun c hc => absurd hc (by simp [keys]), fun c => by rw [get0_nil]; omega⟩
theorem drawn_tidy {m : RowD} {cs : List Cell} {B : Int} (hm : keys m = cs) (n : cs.Nodup) (h0 : 0 ≤ B) (hB : ∀ x ∈ m, -B ≤ x.2 ∧ x.2 ≤ B) : DrawnR cs B (tidy m) := by
  have nm : (keys m).Nodup := by
    rw [hm]
    exact n
  refine ⟨ok_tidy nm, fun c hc => ?_, fun c => ?_⟩
  · rw [← hm]
    obtain ⟨x, hx, e⟩ := List.mem_map.mp hc
    rw [← e]
    exact List.mem_map_of_mem (tidy_mem nm hx)
  · rw [get0_tidy nm]
    by_cases h : c ∈ keys m
    · obtain ⟨w, h1, h2⟩ := getO_some h
      have : get0 m c = w := by
        unfold get0
        rw [h1]
        rfl
      rw [this]
      exact hB _ h2
    · rw [get0_none h]
      omega
end AskG
/-! Rows in the heap. -/
namespace AskG
open PySem PySem.Spec PyProof.Rows L2

def PairRow (H : Hp) (p : Addr) (x : Cell × Int) : Prop := ∃ b, H p = some (.tup [.ref b, .int x.2]) ∧ CellAt H b x.1
def RowAt (H : Hp) (r : Addr) (ρ : RowD) : Prop := ∃ ps : List Addr, H r = some (.tup (ps.map V.ref)) ∧ Paired (PairRow H) ps ρ
/-- the tuples stay -/
def KeepT (H H' : Hp) : Prop := ∀ b xs, H b = some (.tup xs) → H' b = some (.tup xs)
theorem KeepT.of {H H' : Hp} (h : Same H H') : KeepT H H' := fun b xs e => h b _ e
theorem KeepT.trans {H H1 H2 : Hp} (h : KeepT H H1) (g : KeepT H1 H2) : KeepT H H2 := fun b xs e => g b xs (h b xs e)
theorem KeepT.refl (H : Hp) : KeepT H H := fun _ _ e => e
theorem KeepT.new {H : Hp} {p : Addr} {o : HO} (h : H p = none) : KeepT H (upd H p o) := fun b xs e => by
  rw [upd_ne (ne_of_none e h)]
  exact e
theorem KeepT.put {H : Hp} {p : Addr} {o u : HO} (h : H p = some u) (n : ∀ xs, u ≠ .tup xs) : KeepT H (upd H p o) := fun b xs e => by
  rw [upd_ne (ne_of e h fun z => n xs z.symm)]
  exact e
theorem CellAt.keep {H H' : Hp} {b : Addr} {c : Cell} (h : CellAt H b c) (k : KeepT H H') : CellAt H' b c := k _ _ h
theorem PairRow.keep {H H' : Hp} {p : Addr} {x : Cell × Int} (h : PairRow H p x) (k : KeepT H H') : PairRow H' p x := by
  obtain ⟨b, h1, h2⟩ := h
  exact ⟨b, k _ _ h1, h2.keep k⟩
theorem RowAt.keep {H H' : Hp} {r : Addr} {ρ : RowD} (h : RowAt H r ρ) (k : KeepT H H') : RowAt H' r ρ := by
  obtain ⟨ps, h1, h2⟩ := h
  exact ⟨ps, k _ _ h1, Paired.mapP h2 fun _ _ z => z.keep k⟩
theorem same_new {H : Hp} {p : Addr} {o : HO} (h : H p = none) : Same H (upd H p o) := fun b x e => by
  rw [upd_ne (ne_of_none e h)]
  exact e
theorem paired_at {α β : Type} {R : α → β → Prop} : ∀ {l : List α} {m : List β}, Paired R l m → ∀ {i : Nat} {y : β}, m[i]? = some y → ∃ x, l[i]? = some x ∧ R x y
  | _, _, .nil, i, y, e => by simp at e
  | _, _, .cons (a := a) h t, 0, y, e => ⟨a, rfl, by rw [← Option.some.inj e]; exact h⟩
  | _, _, .cons h t, i + 1, y, e => by
    obtain ⟨x, h1, h2⟩ := paired_at t (i := i) (by simpa using e)
    exact ⟨x, by simpa using h1, h2⟩
theorem paired_at' {α β : Type} {R : α → β → Prop} : ∀ {l : List α} {m : List β}, Paired R l m → ∀ {i : Nat} {x : α}, l[i]? = some x → ∃ y, m[i]? = some y ∧ R x y
  | _, _, .nil, i, y, e => by simp at e
  | _, _, .cons (b := b) h t, 0, y, e => ⟨b, rfl, by rw [← Option.some.inj e]; exact h⟩
  | _, _, .cons h t, i + 1, y, e => by
    obtain ⟨x, h1, h2⟩ := paired_at' t (i := i) (by simpa using e)
    exact ⟨x, by simpa using h1, h2⟩
theorem sqT {K : PySem.W.Frag} {H : Hp} {a : Addr} {xs : List V} (h : H a = some (.tup xs)) : SqT K H a xs := .inl (.inl h)
theorem sqL {K : PySem.W.Frag} {H : Hp} {a : Addr} {xs : List V} (h : H a = some (.lst xs)) : SqL K H a xs := .inl (.inl h)

/-! ### comprehensions of dicts over a tuple -/
theorem dcT_tup {K : PySem.W.Frag} {a : Addr} {xs : List V} {g : TG} {tk tv : TE} {vs : List Nat} {σ : L2.St} {H1 : Hp} {D : Addr} {Qd : Hp → Prop}
    (Pv : Nat → Hp → Prop) (h0 : Pv 0 (upd H1 D (.dT []))) (hl : ∀ i H, i ≤ xs.length → Pv i H → SqT K H a xs)
    (hs : ∀ i x H, xs[i]? = some x → Pv i H → g x (wipe σ vs) H fun σ2 H2 => wipe σ2 vs = wipe σ vs ∧ tk σ2 H2 fun y H4 => tv σ2 H4 fun z H5 =>
      ∃ b kvs k, y = .ref b ∧ H5 b = some (.tup (k.map kV)) ∧ H5 D = some (.dT kvs) ∧ kvs.length < sizeLine ∧ Pv (i + 1) (upd H5 D (.dT (putK kvs k z))))
    (hd : ∀ H, Pv xs.length H → Qd H) :
    ∃ W : Nat → Nat → Hp → Prop, (∃ m, W 0 m (upd H1 D (.dT []))) ∧ ∀ i m H, W i m H →
      ((Itt K a).stop i H ∧ Qd H) ∨ ((Itt K a).go i H ∧ ∃ Nx : Hp → Prop, (∀ H', Nx H' → ∃ m', m' < m ∧ W (i + 1) m' H') ∧
        ∀ x H', (Itt K a).yld i H x H' → g x (wipe σ vs) H' fun σ2 H2 => wipe σ2 vs = wipe σ vs ∧ tk σ2 H2 fun y H4 => tv σ2 H4 fun z H5 =>
          ∃ b kvs k, y = .ref b ∧ H5 b = some (.tup (k.map kV)) ∧ H5 D = some (.dT kvs) ∧ kvs.length < sizeLine ∧ Nx (upd H5 D (.dT (putK kvs k z)))) := by
  refine ⟨fun i m H => m = xs.length - i ∧ i ≤ xs.length ∧ Pv i H, ⟨xs.length, by simp, Nat.zero_le _, h0⟩, ?_⟩
  rintro i m H ⟨rfl, hi, p⟩
  have q := hl i H hi p
  by_cases hlt : i < xs.length
  · refine .inr ⟨⟨xs, xs[i], q, by simp [hlt]⟩, Pv (i + 1), fun H' p' => ⟨xs.length - (i + 1), by omega, rfl, hlt, p'⟩, ?_⟩
    rintro x H' ⟨e, y⟩
    subst e
    exact hs i x _ (y xs q) p
  · obtain rfl : i = xs.length := by omega
    exact .inl ⟨⟨xs, q, Nat.le_refl _⟩, hd H p⟩

theorem set2 {σ : L2.St} {a b : Nat} {v w : V} (ha : a < σ.length) (hb : b < σ.length) (hab : a ≠ b) :
    ((σ.set a (some v)).set b (some w))[a]? = some (some v) ∧ ((σ.set a (some v)).set b (some w))[b]? = some (some w) := by
  constructor
  · rw [List.getElem?_set_ne (fun e => hab e.symm), List.getElem?_set_self ha]
  · rw [List.getElem?_set_self (by rw [List.length_set]; exact hb)]
theorem set_over {σ : L2.St} (i : Nat) (x : Option V) : (σ.set i x).set i none = σ.set i none := List.set_set ..
theorem wipe2 {σ : L2.St} {a b : Nat} {v w : V} (hab : a ≠ b) : wipe (((wipe σ [a, b]).set a (some v)).set b (some w)) [a, b] = wipe σ [a, b] := by
  show ((((((σ.set b none).set a none)).set a (some v)).set b (some w)).set b none).set a none = (σ.set b none).set a none
  rw [List.set_set, List.set_set, List.set_comm _ _ hab, List.set_set, List.set_set]
theorem sizeBig : 100000 < sizeLine := by decide

/-- {cell: weight for cell, weight in row} -/
theorem dc_row {K : PySem.W.Frag} {i a b : Nat} {σ : L2.St} {H : Hp} {Q : VK} {r : Addr} {ρ : RowD} (hi : σ[i]? = some (some (.ref r))) (R : RowAt H r ρ)
    (ha : a < σ.length) (hb : b < σ.length) (hab : a ≠ b) (hz : ρ.length ≤ 1000)
    (q : ∀ D, H D = none → Q (.ref D) (upd H D (.dT (dk (ofRow ρ))))) :
    tDcT (iTup K (tVar i)) (gTup K 2 (gCons (gName a) (gCons (gName b) gNil))) (tVar a) (tVar b) [a, b] σ H Q := by
  obtain ⟨ps, hr, hp⟩ := R
  refine ⟨.ref r, hi, r, rfl, ⟨_, sqT hr⟩, fun D hD => ?_⟩
  refine dcT_tup (xs := ps.map V.ref) (fun i H' => H' = upd H D (.dT (dk (ofRow (ρ.take i))))) rfl (fun i H' _ e => ?_) (fun i x H' hx e => ?_) (fun H' e => ?_)
  · rw [e]
    refine sqT ?_
    rw [upd_ne (ne_of_none hr hD)]
    exact hr
  · subst e
    rw [List.getElem?_map] at hx
    cases hpi : ps[i]? with
    | none =>
      rw [hpi] at hx
      cases hx
    | some p =>
      rw [hpi] at hx
      have ex : V.ref p = x := Option.some.inj hx
      subst ex
      obtain ⟨y, hy, bb, h1, h2⟩ := paired_at' hp hpi
      have kp : KeepT H (upd H D (.dT (dk (ofRow (ρ.take i))))) := KeepT.new hD
      refine ⟨p, [.ref bb, .int y.2], rfl, sqT (kp _ _ h1), rfl, .ref bb, [.int y.2], rfl, .int y.2, [], rfl, rfl, ?_⟩
      refine ⟨wipe2 hab, .ref bb, (set2 (by rw [wipe_length]; exact ha) (by rw [wipe_length]; exact hb) hab).1, .int y.2, (set2 (by rw [wipe_length]; exact ha) (by rw [wipe_length]; exact hb) hab).2, bb, dk (ofRow (ρ.take i)), ck y.1, rfl, kp _ _ h2, upd_same, ?_, ?_⟩
      · rw [dk_length]
        have h1 := ofRow_length (ρ.take i)
        have h2 := List.length_take_le i ρ
        have := sizeBig
        have h3 : (ρ.take i).length ≤ ρ.length := by
          rw [List.length_take]
          omega
        omega
      · rw [upd_upd, dk_put, List.take_add_one, hy]
        show _ = upd H D (.dT (dk ((ρ.take i ++ [y]).foldl _ [])))
        rw [List.foldl_append]
        rfl
  · have : (ps.map V.ref).length = ρ.length := by rw [List.length_map, Paired.length hp]
    rw [e, this, List.take_length]
    exact q D hD

theorem ck_kV (c : Cell) : (ck c).map kV = [V.str c.1, V.int c.2] := rfl
theorem wipe1 {σ : L2.St} {a : Nat} {v : V} : wipe ((wipe σ [a]).set a (some v)) [a] = wipe σ [a] := by
  show (((σ.set a none).set a (some v)).set a none) = σ.set a none
  rw [List.set_set, List.set_set]
theorem wipe_at {σ : L2.St} {a i : Nat} (h : i ≠ a) : (wipe σ [a])[i]? = σ[i]? := by
  show (σ.set a none)[i]? = σ[i]?
  exact List.getElem?_set_ne (fun e => h e.symm)
theorem dget_of {H : Hp} {D b : Addr} {m : RowD} {c : Cell} (hD : H D = some (.dT (dk m))) (hb : CellAt H b c) : DGet H D (.ref b) ((getO m c).map V.int) := by
  have := DGet.t (k := ck c) hD (by rw [ck_kV]; exact hb)
  rw [dk_val] at this
  exact this
/-- [(cell, weights[cell]) for cell in sorted(weights) if weights[cell] != 0] -/
theorem lc_tidy {K : PySem.W.Frag} {iw ic : Nat} {σ : L2.St} {H : Hp} {Q : VK} {D : Addr} {m : RowD} (hw : σ[iw]? = some (some (.ref D))) (hne : iw ≠ ic) (hic : ic < σ.length)
    (hD : H D = some (.dT (dk m))) (n : (keys m).Nodup) (hz : m.length ≤ 1000)
    (q : ∀ H' L ps, Same H H' → H L = none → H' L = some (.lst (ps.map V.ref)) → Paired (PairRow H') ps (tidy m) → Q (.ref L) H') :
    tLc (iList K (tCB rSortT (tCons (tVar iw) tNil))) (gName ic) (tTest (tOp rNe (tDGet (tVar iw) (tVar ic)) (tC (V.int 0))))
      (tTup (tCons (tVar ic) (tCons (tDGet (tVar iw) (tVar ic)) tNil))) [ic] σ H Q := by
  refine ⟨.ref D, hw, D, dk m, keys m, rfl, .inl hD, dk_keys m, fun ys bs p hp hup hbs hpn => ?_⟩
  have ey : ys = sortC (keys m) := rising_uniq (hp.trans (sortC_perm (keys m)).symm) hup (sortC_rising n)
  have s1 : Same H (upd H p (.lst (bs.map V.ref))) := same_new hpn
  refine ⟨p, rfl, ⟨_, sqL upd_same⟩, fun L hL => ?_⟩
  have hLH : H L = none := s1.free hL
  refine lc_list (xs := bs.map V.ref) (fun i H' => Same (upd H p (.lst (bs.map V.ref))) H' ∧ ∃ ps, H' L = some (.lst (ps.map V.ref)) ∧ Paired (PairRow H') ps (pick m (ys.take i)) ∧ ps.length ≤ i)
    ⟨same_new hL, [], upd_same, .nil, Nat.le_refl _⟩ (fun i H' _ h => sqL (h.1 _ _ upd_same)) (fun i x H' hx h => ?_) (fun H' h => ?_)
  · obtain ⟨sm, ps, hps, hpp, hpl⟩ := h
    have smH : Same H H' := s1.trans sm
    rw [List.getElem?_map] at hx
    cases hbi : bs[i]? with
    | none =>
      rw [hbi] at hx
      cases hx
    | some b =>
      rw [hbi] at hx
      have ex : V.ref b = x := Option.some.inj hx
      subst ex
      obtain ⟨c, hc, hcb⟩ := paired_at' hbs hbi
      have hcm : c ∈ keys m := hp.mem_iff.mp (List.mem_of_getElem? hc)
      obtain ⟨w, hw1, hw2⟩ := getO_some hcm
      have hcb' : CellAt H' b c := hcb.keep (KeepT.of smH)
      have dg : DGet H' D (.ref b) (some (.int w)) := by
        have := dget_of (smH _ _ hD) hcb'
        rw [hw1] at this
        exact this
      have g0 : get0 m c = w := by
        unfold get0
        rw [hw1]
        rfl
      have bl : i < bs.length := (List.getElem?_eq_some_iff.mp hbi).1
      have ysl : bs.length = ys.length := Paired.length hbs
      have yml : ys.length = m.length := by
        rw [hp.length_eq]
        exact List.length_map _
      have big := sizeBig
      have aw : ((wipe σ [ic]).set ic (some (.ref b)))[iw]? = some (some (.ref D)) := by
        rw [List.getElem?_set_ne (fun e => hne e.symm), wipe_at hne]
        exact hw
      have ac : ((wipe σ [ic]).set ic (some (.ref b)))[ic]? = some (some (.ref b)) := List.getElem?_set_self (by rw [wipe_length]; exact hic)
      have pk : pick m (ys.take (i + 1)) = pick m (ys.take i) ++ (if w ≠ 0 then [(c, w)] else []) := by
        rw [List.take_add_one, hc]
        unfold pick
        rw [List.map_append, List.filter_append]
        congr 1
        show List.filter _ [(c, get0 m c)] = _
        rw [g0]
        by_cases h0 : w = 0
        · simp [h0]
        · simp [h0]
      refine ⟨wipe1, .ref D, aw, .ref b, ac, D, .int w, rfl, dg, rfl, _, rfl, ?_⟩
      by_cases h0 : w = 0
      · rw [h0]
        refine iteF ?_
        refine ⟨sm, ps, hps, ?_, by omega⟩
        rw [pk, if_neg (by simp [h0]), List.append_nil]
        exact hpp
      · have e0 : (!decide (V.int w = V.int 0)) = true := by
          rw [decide_eq_false fun z => h0 (V.int.inj z)]
          rfl
        rw [e0]
        refine iteT ?_
        refine ⟨.ref b, ac, .ref D, aw, .ref b, ac, D, .int w, rfl, dg, by show 2 ≤ sizeLine; decide, fun t ht => ?_⟩
        have nLt : L ≠ t := ne_of_none hps ht
        refine ⟨ps.map V.ref, by rw [upd_ne nLt]; exact hps, by rw [List.length_map]; omega, ?_, ps ++ [t], ?_, ?_, ?_⟩
        · intro b' o' e'
          have nb : b' ≠ L := ne_of_none e' hL
          rw [upd_ne nb, upd_ne (ne_of_none (sm _ _ e') ht)]
          exact sm _ _ e'
        · rw [upd_same, List.map_append]
          rfl
        · have kp : KeepT H' (upd (upd H' t (.tup [.ref b, .int w])) L (.lst (ps.map V.ref ++ [.ref t]))) :=
            (KeepT.new ht).trans (KeepT.put (u := .lst (ps.map V.ref)) (by rw [upd_ne nLt]; exact hps) (fun _ z => nomatch z))
          rw [pk, if_pos h0]
          refine Paired.snoc (Paired.mapP hpp fun _ _ z => z.keep kp) ⟨b, ?_, hcb'.keep kp⟩
          rw [upd_ne nLt.symm, upd_same]
        · rw [List.length_append]
          show ps.length + 1 ≤ i + 1
          omega
  · obtain ⟨sm, ps, hps, hpp, _⟩ := h
    have e : ys.take (bs.map V.ref).length = ys := List.take_of_length_le (by rw [List.length_map, Paired.length hbs]; exact Nat.le_refl _)
    rw [e, ey] at hpp
    exact q H' L ps (s1.trans sm) hLH hps hpp

/-- the row of a made list of pairs -/
theorem row_of_list {H : Hp} {L p : Addr} {ps : List Addr} {ρ : RowD} (hp : H p = none) (h : Paired (PairRow H) ps ρ) : RowAt (upd H p (.tup (ps.map V.ref))) p ρ :=
  ⟨ps, upd_same, Paired.mapP h fun _ _ z => z.keep (KeepT.new hp)⟩

/-- for cell, weight in row: weights[cell] = weights.get(cell, 0) + t * weight -/
theorem for_add {K : PySem.W.Frag} {io iw a b : Nat} {σ : L2.St} {H : Hp} {Dn : Ends} {Dd r : Addr} {π m : RowD} {t : Int} {tv : TE}
    (hio : σ[io]? = some (some (.ref r))) (hiw : σ[iw]? = some (some (.ref Dd))) (wa : iw ≠ a) (wb : iw ≠ b) (ha : a < σ.length) (hb : b < σ.length) (hab : a ≠ b)
    (R : RowAt H r π) (hD : H Dd = some (.dT (dk m))) (hz : m.length + π.length ≤ 1000)
    (htv : ∀ (σ' : L2.St) (H' : Hp) (c : Cell) (w : Int) (m' : RowD) (bb : Addr) (Q : VK), (c, w) ∈ π → (∀ j, j ≠ a → j ≠ b → σ'[j]? = σ[j]?) → σ'[a]? = some (some (.ref bb)) → σ'[b]? = some (some (.int w)) →
      H' Dd = some (.dT (dk m')) → CellAt H' bb c → Q (.int (get0 m' c + t * w)) H' → tv σ' H' Q)
    (q : ∀ σ', (∀ j, j ≠ a → j ≠ b → σ'[j]? = σ[j]?) → σ'.length = σ.length → Dn.nx σ' (upd H Dd (.dT (dk (addF m π t))))) :
    tFor (iTup K (tVar io)) (gTup K 2 (gCons (gName a) (gCons (gName b) gNil))) (sDPut (tVar iw) (tVar a) tv) Dn σ H := by
  obtain ⟨ps, hr, hp⟩ := R
  refine ⟨.ref r, hio, r, rfl, ⟨_, sqT hr⟩, ?_⟩
  refine for_tup (xs := ps.map V.ref) (fun i σ' H' => (∀ j, j ≠ a → j ≠ b → σ'[j]? = σ[j]?) ∧ σ'.length = σ.length ∧ H' = upd H Dd (.dT (dk (addF m (π.take i) t))))
    ⟨fun _ _ _ => rfl, rfl, ?_⟩ (fun i σ' H' _ h => ?_) (fun i x σ' H' hx h => ?_) (fun σ' H' h => ?_)
  · funext c
    show H c = upd H Dd (.dT (dk m)) c
    by_cases e : c = Dd
    · rw [e, upd_same, hD]
    · rw [upd_ne e]
  · rw [h.2.2]
    refine sqT ?_
    rw [upd_ne (ne_of hr hD fun z => nomatch z)]
    exact hr
  · obtain ⟨hj, hl, rfl⟩ := h
    rw [List.getElem?_map] at hx
    cases hpi : ps[i]? with
    | none =>
      rw [hpi] at hx
      cases hx
    | some p =>
      rw [hpi] at hx
      have ex : V.ref p = x := Option.some.inj hx
      subst ex
      obtain ⟨y, hy, bb, h1, h2⟩ := paired_at' hp hpi
      have kp : KeepT H (upd H Dd (.dT (dk (addF m (π.take i) t)))) := KeepT.put hD fun _ z => nomatch z
      have s2 := set2 (v := .ref bb) (w := .int y.2) (by rw [hl]; exact ha) (by rw [hl]; exact hb) hab
      have hj' : ∀ j, j ≠ a → j ≠ b → ((σ'.set a (some (.ref bb))).set b (some (.int y.2)))[j]? = σ[j]? := fun j h1 h2 => by
        rw [List.getElem?_set_ne (fun e => h2 e.symm), List.getElem?_set_ne (fun e => h1 e.symm)]
        exact hj j h1 h2
      refine ⟨p, [.ref bb, .int y.2], rfl, sqT (kp _ _ h1), rfl, .ref bb, [.int y.2], rfl, .int y.2, [], rfl, rfl, ?_⟩
      refine htv _ _ y.1 y.2 (addF m (π.take i) t) bb _ (List.mem_of_getElem? hy) hj' s2.1 s2.2 upd_same (kp _ _ h2) ?_
      have pl : (π.take i).length ≤ π.length := by
        rw [List.length_take]
        omega
      have al := addF_length m (π.take i) t
      have big := sizeBig
      refine ⟨.ref Dd, by rw [hj' iw wa wb]; exact hiw, .ref bb, s2.1, Dd, _, rfl, DPut.t (k := ck y.1) upd_same (by rw [ck_kV]; exact kp _ _ h2) (by rw [dk_length]; omega), ?_⟩
      refine ⟨hj', by rw [List.length_set, List.length_set]; exact hl, ?_⟩
      rw [upd_upd, dk_put, List.take_add_one, hy]
      show _ = upd H Dd (.dT (dk ((π.take i ++ [y]).foldl _ m)))
      rw [List.foldl_append]
      rfl
  · obtain ⟨hj, hl, rfl⟩ := h
    have e : π.take (ps.map V.ref).length = π := List.take_of_length_le (by rw [List.length_map, Paired.length hp]; exact Nat.le_refl _)
    rw [e]
    exact q σ' hj hl

/-! ### readings, opened one at a time -/
theorem iSeq {t u : TS} {D : Ends} {σ : L2.St} {H : Hp} (h : t { D with nx := u D } σ H) : tSeq t u D σ H := h
theorem iAsg {te : TE} {g : TG} {D : Ends} {σ : L2.St} {H : Hp} (h : te σ H fun x H1 => g x σ H1 D.nx) : tAsg te g D σ H := h
theorem iRet {te : TE} {D : Ends} {σ : L2.St} {H : Hp} (h : te σ H D.rt) : tRet te D σ H := h
theorem iCB {r : List V → Hp → VK → Prop} {t : TA} {σ : L2.St} {H : Hp} {Q : VK} (h : t σ H fun vs H1 => r vs H1 Q) : tCB r t σ H Q := h
theorem iCons {ta : TE} {tr : TA} {σ : L2.St} {H : Hp} {Q : List V → Hp → Prop} (h : ta σ H fun x H1 => tr σ H1 fun xs H2 => Q (x :: xs) H2) : tCons ta tr σ H Q := h
theorem iOp {r : R2} {ta tb : TE} {σ : L2.St} {H : Hp} {Q : VK} (h : ta σ H fun x H1 => tb σ H1 fun y H2 => r x y H2 Q) : tOp r ta tb σ H Q := h
theorem iTest {t : TE} {σ : L2.St} {H : Hp} {Q : Bool → Hp → Prop} (h : t σ H fun x H' => ∃ k, x = .bl k ∧ Q k H') : tTest t σ H Q := h
theorem iNext {D : Ends} {σ : L2.St} {H : Hp} (h : D.nx σ H) : tNext D σ H := h
theorem iName {i : Nat} {v : V} {σ : L2.St} {H : Hp} {Q : L2.St → Hp → Prop} (h : Q (σ.set i (some v)) H) : gName i v σ H Q := h
/-- a value by what holds of it -/
theorem split_k {t : TE} {σ : L2.St} {H : Hp} {Q : VK} (R : V → Hp → Prop) (h1 : ∀ Q' : VK, (∀ v H', R v H' → Q' v H') → t σ H Q') (h2 : ∀ v H', R v H' → Q v H') : t σ H Q := h1 Q h2
/-- a block by what holds behind it -/
theorem split_s {t : TS} {D : Ends} {σ : L2.St} {H : Hp} (R : L2.St → Hp → Prop) (h1 : ∀ nx : L2.St → Hp → Prop, (∀ σ' H', R σ' H' → nx σ' H') → t { D with nx := nx } σ H) (h2 : ∀ σ' H', R σ' H' → D.nx σ' H') : t D σ H := h1 D.nx h2
theorem iNil {σ : L2.St} {H : Hp} {Q : List V → Hp → Prop} (h : Q [] H) : tNil σ H Q := h
end AskG
/-! sorted(..) of a list of pairs of a cell and a weight. -/
namespace AskG
open PySem PySem.Spec PyProof.Rows L2
def ltX (x y : Cell × Int) : Bool := if x.1 = y.1 then decide (x.2 < y.2) else ltC x.1 y.1
theorem ltX_iff {x y : Cell × Int} : ltX x y = true ↔ ltC x.1 y.1 = true ∨ (x.1 = y.1 ∧ x.2 < y.2) := by
  unfold ltX
  by_cases e : x.1 = y.1
  · rw [if_pos e, decide_eq_true_eq]
    constructor
    · exact fun h => .inr ⟨e, h⟩
    · rintro (h | h)
      · rw [e, ltC_irr] at h
        cases h
      · exact h.2
  · rw [if_neg e]
    constructor
    · exact fun h => .inl h
    · rintro (h | h)
      · exact h
      · exact absurd h.1 e
theorem ltX_tri (x y : Cell × Int) : ltX x y = true ∨ x = y ∨ ltX y x = true := by
  rcases ltC_tri x.1 y.1 with h | h | h
  · exact .inl (ltX_iff.mpr (.inl h))
  · rcases Int.lt_trichotomy x.2 y.2 with g | g | g
    · exact .inl (ltX_iff.mpr (.inr ⟨h, g⟩))
    · exact .inr (.inl (Prod.ext h g))
    · exact .inr (.inr (ltX_iff.mpr (.inr ⟨h.symm, g⟩)))
  · exact .inr (.inr (ltX_iff.mpr (.inl h)))
theorem ltX_trans {x y z : Cell × Int} (h1 : ltX x y = true) (h2 : ltX y z = true) : ltX x z = true := by
  refine ltX_iff.mpr ?_
  rcases ltX_iff.mp h1 with a | ⟨a, a'⟩ <;> rcases ltX_iff.mp h2 with b | ⟨b, b'⟩
  · exact .inl (ltC_trans a b)
  · exact .inl (b ▸ a)
  · exact .inl (a ▸ b)
  · exact .inr ⟨a.trans b, Int.lt_trans a' b'⟩
theorem ltX_irr (x : Cell × Int) : ltX x x = false := by
  cases h : ltX x x with
  | false => rfl
  | true =>
    rcases ltX_iff.mp h with a | ⟨_, a⟩
    · rw [ltC_irr] at a
      cases a
    · exact absurd a (Int.lt_irrefl _)
theorem ltX_asym {x y : Cell × Int} (h : ltX x y = true) : ltX y x = false := by
  cases g : ltX y x with
  | false => rfl
  | true =>
    have := ltX_trans h g
    rw [ltX_irr] at this
    cases this
theorem swo_X {α : Type} (k : α → Cell × Int) : SrtO.Swo fun v u => ltX (k v) (k u) := by
  refine ⟨fun x y h => ltX_asym h, fun x y z h1 h2 => ?_⟩
  cases g : ltX (k z) (k x) with
  | false => rfl
  | true =>
    rcases ltX_tri (k x) (k y) with a | a | a
    · have := ltX_trans g a
      rw [h2] at this
      cases this
    · rw [← a, g] at h2
      cases h2
    · rw [h1] at a
      cases a
/-- the value is a tuple of a cell and an int -/
def IsPr (h : Heap) (v : Value) (x : Cell × Int) : Prop := ∃ (a b : Addr) (t : Tok), v = .ref a ∧ IsTup h a #[.ref b, .int x.2 t] ∧ IsCl h (.ref b) x.1
theorem IsPr.keeps {h h' : Heap} {v : Value} {x : Cell × Int} (p : IsPr h v x) (k : ∀ b o, h.get? b = some o → o.cls = .type "tuple" → h'.get? b = some o) : IsPr h' v x := by
  obtain ⟨a, b, t, e, ⟨o, ho, hc, r⟩, c⟩ := p
  exact ⟨a, b, t, e, ⟨o, k _ _ ho hc, hc, r⟩, c.keeps k⟩
section
variable {prog : Program} {w : World} {A : Around} {E : Value → Shared → Prop} {s : Shared}
theorem cells_lt {a b : Addr} {c d : Cell} (ha : IsCl s.heap (.ref a) c) (hb : IsCl s.heap (.ref b) d) (hu : A.units < cLine) : Ob.RcOp .Lt A s (.ref a) (.ref b) (ltC c d) := by
  obtain ⟨a', t, t', e, ht⟩ := ha
  cases e
  obtain ⟨b', u, u', e, hu2⟩ := hb
  cases e
  have R := Ob.RcOp.tuples_lt (A := A) (s := s) (e := fun j => if j = 0 then c.1 == d.1 else c.2 == d.2)
    (r := fun j => if j = 0 then decide (c.1.cps.toList < d.1.cps.toList) else decide (c.2 < d.2)) ht hu2 hu
    (fun j h1 h2 => by
      have h1 : j < 2 := h1
      match j, h1 with
      | 0, _ => exact SeqAt.EqAt.str_str c.1 t d.1 u
      | 1, _ => exact SeqAt.EqAt.int_int c.2 t' d.2 u')
    (fun j h1 h2 _ => by
      have h1 : j < 2 := h1
      match j, h1 with
      | 0, _ => exact fun _ _ _ _ h => PyProof.Rows.lt_str h
      | 1, _ => exact fun _ _ _ _ h => PyProof.Rows.lt_int h)
  have e : Ob.lexAt (fun j => if j = 0 then c.1 == d.1 else c.2 == d.2) (fun j => if j = 0 then decide (c.1.cps.toList < d.1.cps.toList) else decide (c.2 < d.2)) (decide (2 < 2)) 0 (min 2 2) = ltC c d := by
    show (if (c.1 == d.1) = true then (if (c.2 == d.2) = true then decide (2 < 2) else decide (c.2 < d.2)) else decide (c.1.cps.toList < d.1.cps.toList)) = ltC c d
    unfold ltC
    by_cases e1 : c.1 = d.1
    · rw [if_pos (beq_iff_eq.mpr e1), if_pos e1]
      by_cases e2 : c.2 = d.2
      · rw [if_pos (beq_iff_eq.mpr e2), e2, decide_eq_false (Int.lt_irrefl _)]
        rfl
      · rw [if_neg fun z => e2 (beq_iff_eq.mp z)]
    · rw [if_neg fun z => e1 (beq_iff_eq.mp z), if_neg e1]
  rw [← e]
  exact R
theorem cells_eq {a b : Addr} {c d : Cell} (ha : IsCl s.heap (.ref a) c) (hb : IsCl s.heap (.ref b) d) (hu : A.units < cLine) : SeqAt.EqAt A s (.ref a) (.ref b) (decide (c = d)) := by
  obtain ⟨a', t, t', e, ht⟩ := ha
  cases e
  obtain ⟨b', u, u', e, hu2⟩ := hb
  cases e
  by_cases z : a = b
  · subst z
    obtain ⟨o, ho, _, n, hd⟩ := ht
    obtain ⟨o', ho', _, n', hd'⟩ := hu2
    rw [ho] at ho'
    cases ho'
    rw [hd] at hd'
    have e : c = d := by
      injection hd' with e1 _
      have e1 := congrArg Array.toList e1
      simp only [List.cons.injEq, Value.str.injEq, Value.int.injEq] at e1
      exact Prod.ext e1.1.1 e1.2.1.1
    rw [decide_eq_true e]
    exact SeqAt.EqAt.same _
  · have R := SeqAt.RcAt.tuples (A := A) (s := s) (e := fun j => if j = 0 then c.1 == d.1 else c.2 == d.2) ht hu2 hu
      (fun j h1 h2 => by
        have h1 : j < 2 := h1
        match j, h1 with
        | 0, _ => exact SeqAt.EqAt.str_str c.1 t d.1 u
        | 1, _ => exact SeqAt.EqAt.int_int c.2 t' d.2 u')
    have e : ((List.range (min 2 2)).all (fun j => if j = 0 then c.1 == d.1 else c.2 == d.2) && (2 : Nat) == 2) = decide (c = d) := by
      show ((c.1 == d.1 && (c.2 == d.2 && true)) && true) = decide (c = d)
      by_cases q : c = d
      · rw [q, decide_eq_true rfl]
        simp
      · rw [decide_eq_false q]
        by_cases q1 : c.1 = d.1
        · have q2 : ¬ c.2 = d.2 := fun q2 => q (Prod.ext q1 q2)
          simp [q2]
        · simp [q1]
    rw [← e]
    exact SeqAt.EqAt.of_refs z R
theorem pr_cmp {vs : List Value} {k : Value → Cell × Int} (hu : A.units < cLine) (hp : ∀ v ∈ vs, IsPr s.heap v (k v)) :
    SrtO.Cmp prog w A s (tuples' false) (fun p => p.1 ∈ vs) (SrtO.lt2 fun v u => ltX (k v) (k u)) := by
  intro p q hm hm'
  have h1 := hp _ hm
  have h2 := hp _ hm'
  show wpAny (model prog w) A (keyLt' (tuples' false) p.1 q.1) (fun r s' => s' = s ∧ r = ltX (k p.1) (k q.1)) (fun _ _ => False) s
  generalize k p.1 = x at h1 ⊢
  generalize k q.1 = y at h2 ⊢
  obtain ⟨a, b, t, e, ⟨o, ho, hc, n, hd⟩, cb⟩ := h1
  obtain ⟨a', b', t', e', ⟨o', ho', hc', n', hd'⟩, cb'⟩ := h2
  rw [e, e']
  refine PySem.W.kat_lt ho hd ho' hd' ?_
  show PySem.W.KatLex prog w A false (decide (2 < 2)) _ [(.ref b, .ref b'), (.int x.2 t, .int y.2 t')] 0 s
  refine PySem.W.kat_cons (cells_eq cb cb' hu prog w _ _ ?_)
  refine PySem.W.kat_go (fun e1 => ?_) (fun e1 => ?_)
  · have ex : x.1 = y.1 := of_decide_eq_true e1
    refine PySem.W.kat_yes (PySem.W.kat_cons (SeqAt.EqAt.int_int x.2 t y.2 t' prog w _ _ ?_))
    refine PySem.W.kat_go (fun e2 => ?_) (fun e2 => ?_)
    · have ey : x.2 = y.2 := by simpa using e2
      have e3 : ltX x y = false := by
        rw [show x = y from Prod.ext ex ey]
        exact ltX_irr y
      exact PySem.W.kat_yes (PySem.W.kat_nil ⟨rfl, e3.symm⟩)
    · have e3 : ltX x y = decide (x.2 < y.2) := if_pos ex
      refine PySem.W.kat_no (PySem.W.kat_one _ _ (PyProof.Rows.lt_int ?_))
      exact (show s = s ∧ decide (x.2 < y.2) = ltX x y from ⟨rfl, e3.symm⟩)
  · have ex : ¬ x.1 = y.1 := of_decide_eq_false e1
    have e3 : ltX x y = ltC x.1 y.1 := if_neg ex
    refine PySem.W.kat_no (PySem.W.kat_one _ _ (cells_lt cb cb' hu prog w _ _ ?_))
    exact (show s = s ∧ ltC x.1 y.1 = ltX x y from ⟨rfl, e3.symm⟩)
theorem pr_firsts {h : Heap} : ∀ {vs : List Value}, (∀ v ∈ vs, ∃ c, IsPr h v c) →
    ∃ fs : List Value, PySem.W.KatTups h vs fs ∧ fs.length = vs.length ∧ ∀ f ∈ fs, ∃ b c, f = Value.ref b ∧ IsCl h (.ref b) c
  | [], _ => ⟨[], .nil, rfl, fun f hf => absurd hf (by simp)⟩
  | v :: vs, x => by
    obtain ⟨fs, k, hl, hi⟩ := pr_firsts (vs := vs) fun u hu => x u (List.mem_cons_of_mem _ hu)
    obtain ⟨c, a, b, t, rfl, ⟨o, ho, hc, n, hd⟩, hb⟩ := x v List.mem_cons_self
    refine ⟨.ref b :: fs, .cons ho hc hd rfl k, congrArg (· + 1) hl, fun f hf => ?_⟩
    rcases List.mem_cons.mp hf with rfl | hf
    · exact ⟨_, _, rfl, hb⟩
    · exact hi f hf
theorem pr_sortable {a : Addr} {vs : List Value} {k : Value → Cell × Int} (hu : A.units < cLine) (h0 : 0 < vs.length) (hp : ∀ v ∈ vs, IsPr s.heap v (k v))
    (ha : ∀ o, s.heap.get? a = some o → o.cls ≠ .type "tuple") : SrtO.SortableO prog w A s a vs fun v u => ltX (k v) (k u) := by
  intro h' keep
  have hp' : ∀ v ∈ vs, IsPr h' v (k v) := fun v hm => (hp v hm).keeps fun b o e c => keep b o (fun z => by subst z; exact ha o e c) e
  obtain ⟨fs, h1, h2, h3⟩ := pr_firsts fun v hm => ⟨_, hp' v hm⟩
  refine ⟨tuples' false, fun Q E hq => ?_, pr_cmp hu hp'⟩
  refine PySem.W.kat_kind (T := .type "tuple") h1 (by omega) (fun f hm => ?_) (by rfl) ?_
  · obtain ⟨b, c, rfl, b', _, _, e, o, ho, hc, _⟩ := h3 f hm
    cases e
    exact fun A Q E s k q => wpAny_typeOf ⟨o, k _ _ ho, hc⟩ q
  · have e : (Value.type "tuple" != Value.type "tuple") = false := by first | decide +kernel | rfl | decide
    rw [e]
    exact hq
end
/-- the pair that stands behind a value -/
def pairOf (H : Hp) : Value → Cell × Int
  | .ref a => match H a with
    | some (.tup [.ref b, .int w]) => (cellOf H (.ref b), w)
    | _ => ((⟨#[]⟩, 0), 0)
  | _ => ((⟨#[]⟩, 0), 0)
theorem pairOf_at {H : Hp} {p : Addr} {x : Cell × Int} (h : PairRow H p x) : pairOf H (.ref p) = x := by
  obtain ⟨b, h1, h2⟩ := h
  show (match H p with
    | some (.tup [.ref b, .int w]) => (cellOf H (.ref b), w)
    | _ => (((⟨#[]⟩, 0), 0) : Cell × Int)) = x
  rw [h1]
  show (cellOf H (.ref b), x.2) = x
  rw [cellOf_at h2]
theorem isPr_of {P : Program} {w : World} {H : Hp} {h : Heap} {p : Addr} {x : Cell × Int} (ok : HOk P w H h) (e : PairRow H p x) : IsPr h (.ref p) x := by
  obtain ⟨b, h1, h2⟩ := e
  obtain ⟨_, its, r, ht⟩ := (show ObjOk P w H h p (.tup [.ref b, .int x.2]) from ok p _ h1)
  obtain ⟨u, v, ei, ru, rv⟩ := vals2 r
  obtain ⟨t, rfl⟩ := rv
  cases ru
  subst ei
  exact ⟨p, b, t, rfl, ht, isCl_of ok h2⟩
/-- sorted(l), l a list of pairs of a cell and a weight -/
def rSortX (K : PySem.W.Frag) : List V → Hp → VK → Prop := fun xs H Q => ∃ (a : Addr) (ps : List Addr) (ρ : RowD), xs = [.ref a] ∧ SqL K H a (ps.map V.ref) ∧ Paired (PairRow H) ps ρ ∧
  ∀ (ys : List Addr) (π : RowD) (p : Addr), π.Perm ρ → π.Pairwise (fun a b => ltX b a = false) → Paired (PairRow H) ys π → H p = none → Q (.ref p) (upd H p (.lst (ys.map V.ref)))
theorem paired_map {α β : Type} {R : α → β → Prop} (f : α → β) (h : ∀ a b, R a b → f a = b) : ∀ {l : List α} {m : List β}, Paired R l m → l.map f = m
  | _, _, .nil => rfl
  | _, _, .cons h1 t => by rw [List.map_cons, h _ _ h1, paired_map f h t]
theorem paired_mem {α β : Type} {R : α → β → Prop} : ∀ {l : List α} {m : List β}, Paired R l m → ∀ a ∈ l, ∃ b, R a b
  | _, _, .nil, a, h => absurd h (by simp)
  | _, _, .cons h1 t, a, h => by
    rcases List.mem_cons.mp h with rfl | h
    · exact ⟨_, h1⟩
    · exact paired_mem t a h
section
variable {X : Cx}
theorem cr_sortX (hu : X.A.units + 64 < cLine) : CallR X (.builtin "sorted") (rSortX X.K) := by
  intro pins s σ H vs us Q I r h
  obtain ⟨a, ps, ρ, rfl, hs, hx, q⟩ := h
  obtain ⟨its, rv, hl, hz⟩ := I.list hs
  obtain ⟨u, rfl, ru⟩ := vals1 r
  obtain rfl : u = Value.ref a := ru
  have ei : its = ps.map Value.ref := by
    clear hl hz q hx hs
    induction ps generalizing its with
    | nil =>
      cases rv
      rfl
    | cons p ps ih =>
      cases rv with
      | cons h1 t =>
        cases h1
        rw [List.map_cons, ih _ t]
  subst ei
  have hp : ∀ v ∈ ps.map Value.ref, ∃ p x, v = .ref p ∧ PairRow H p x := fun v hv => by
    obtain ⟨p, hp, rfl⟩ := List.mem_map.mp hv
    obtain ⟨x, hx'⟩ := paired_mem hx p hp
    exact ⟨p, x, rfl, hx'⟩
  refine SrtO.sorted_ord (ltv := fun v u => ltX (pairOf H v) (pairOf H u)) (swo_X _) hl.isList (by rw [← rv.length]; exact hz) (fun h2 h₁ a' ha kk => ?_) fun out h1 h2 => ?_
  · refine pr_sortable (s := { s with heap := h₁ }) (by show X.A.units + 1 + 1 < cLine; omega) (by omega) (fun v hv => ?_) fun o e => ?_
    · obtain ⟨p, x, rfl, hx'⟩ := hp v hv
      rw [pairOf_at hx']
      exact (isPr_of I.hok hx').keeps fun b o e _ => (kk b o e).2
    · have e' : some o = some (seqObj "list" (ps.map Value.ref).toArray 0) := e.symm.trans ha
      cases e'
      intro c
      exact absurd (Value.type.inj c) (by decide)
  · have hout : ∀ v ∈ out, ∃ p x, v = .ref p ∧ PairRow H p x := fun v hv => hp v (h2.perm.mem_iff.mp hv)
    have hys : ∃ ys : List Addr, out = ys.map Value.ref := by
      clear h1 h2
      induction out with
      | nil => exact ⟨[], rfl⟩
      | cons v l ih =>
        obtain ⟨ys, rfl⟩ := ih fun u hu => hout u (List.mem_cons_of_mem _ hu)
        obtain ⟨p, x, rfl, _⟩ := hout v List.mem_cons_self
        exact ⟨p :: ys, rfl⟩
    obtain ⟨ys, rfl⟩ := hys
    obtain ⟨n, hn⟩ := PyProof.Rows.sortedAll_at s.heap (ps.map Value.ref) (ys.map Value.ref).toArray
    have hlen : (ys.map V.ref).length ≤ sizeLine := by
      have := h2.perm.length_eq
      rw [List.length_map, List.length_map] at this
      rw [List.length_map] at hz ⊢
      omega
    have em : (ps.map Value.ref).map (pairOf H) = ρ := by
      rw [List.map_map]
      exact paired_map (R := PairRow H) _ (fun p x h => pairOf_at h) hx
    refine ⟨.ref (s.heap.objs.size + 1), upd H (s.heap.objs.size + 1) (.lst (ys.map V.ref)), I.laid (t' := s.toks) (fun b o e => PyProof.Rows.sortedAll_old e) (Nat.le_succ _) ⟨hlen, ys.map Value.ref, n, vals_refs _, hn⟩, rfl, q ys ((ys.map Value.ref).map (pairOf H)) _ ?_ (List.pairwise_map.mpr h1) ?_ (I.hok.fresh (Nat.le_succ _))⟩
    · rw [← em]
      exact h2.perm.map _
    · rw [List.map_map]
      refine paired_of _ fun p hp' => ?_
      obtain ⟨p2, x, e2, hx'⟩ := hout (.ref p) (List.mem_map_of_mem hp')
      cases e2
      show PairRow H p (pairOf H (.ref p))
      rw [pairOf_at hx']
      exact hx'
end
end AskG
/-! Comprehensions over rows. -/
namespace AskG
open PySem PySem.Spec PyProof.Rows L2
abbrev g2 (K : PySem.W.Frag) (a b : Nat) : TG := gTup K 2 (gCons (gName a) (gCons (gName b) gNil))
/-- the slots at a turn: the two targets, all else as it was -/
structure Turn2 (σ σ' : L2.St) (a b : Nat) (v w : V) : Prop where
  fst : σ'[a]? = some (some v)
  snd : σ'[b]? = some (some w)
  old : ∀ j, j ≠ a → j ≠ b → σ'[j]? = σ[j]?
theorem turn2 {σ : L2.St} {a b : Nat} {v w : V} (ha : a < σ.length) (hb : b < σ.length) (hab : a ≠ b) :
    Turn2 σ (((wipe σ [a, b]).set a (some v)).set b (some w)) a b v w := by
  have s2 := set2 (σ := wipe σ [a, b]) (v := v) (w := w) (by rw [wipe_length]; exact ha) (by rw [wipe_length]; exact hb) hab
  refine ⟨s2.1, s2.2, fun j h1 h2 => ?_⟩
  rw [List.getElem?_set_ne (fun e => h2 e.symm), List.getElem?_set_ne (fun e => h1 e.symm)]
  show ((σ.set b none).set a none)[j]? = _
  rw [List.getElem?_set_ne (fun e => h1 e.symm), List.getElem?_set_ne (fun e => h2 e.symm)]

/-- [(cell, g weight) for cell, weight in row if ..] -/
theorem lc_rows {K : PySem.W.Frag} {i a b : Nat} {σ : L2.St} {H : Hp} {Q : VK} {r : Addr} {ρ : RowD} {tt : TT} {tw : TE} (keep : Cell × Int → Bool) (g : Cell × Int → Int)
    (hi : σ[i]? = some (some (.ref r))) (R : RowAt H r ρ) (ha : a < σ.length) (hb : b < σ.length) (hab : a ≠ b) (hz : ρ.length ≤ 1000)
    (htt : ∀ σ' H' bb x (Q : Bool → Hp → Prop), x ∈ ρ → Same H H' → Turn2 σ σ' a b (.ref bb) (.int x.2) → CellAt H' bb x.1 → (∀ H'', Same H' H'' → Q (keep x) H'') → tt σ' H' Q)
    (htw : ∀ σ' H' bb x (Q : VK), x ∈ ρ → Same H H' → Turn2 σ σ' a b (.ref bb) (.int x.2) → CellAt H' bb x.1 → Q (.int (g x)) H' → tw σ' H' Q)
    (q : ∀ H' L ps, Same H H' → H L = none → H' L = some (.lst (ps.map V.ref)) → Paired (PairRow H') ps ((ρ.filter keep).map fun x => (x.1, g x)) → Q (.ref L) H') :
    tLc (iTup K (tVar i)) (g2 K a b) tt (tTup (tCons (tVar a) (tCons tw tNil))) [a, b] σ H Q := by
  obtain ⟨qs, hr, hp⟩ := R
  refine ⟨.ref r, hi, r, rfl, ⟨_, sqT hr⟩, fun L hL => ?_⟩
  refine lc_tup (xs := qs.map V.ref) (fun i H' => Same H H' ∧ ∃ ps, H' L = some (.lst (ps.map V.ref)) ∧ Paired (PairRow H') ps (((ρ.take i).filter keep).map fun x => (x.1, g x)) ∧ ps.length ≤ i)
    ⟨same_new hL, [], upd_same, .nil, Nat.le_refl _⟩ (fun i H' _ h => sqT (h.1 _ _ hr)) (fun i x H' hx h => ?_) (fun H' h => ?_)
  · obtain ⟨sm, ps, hps, hpp, hpl⟩ := h
    rw [List.getElem?_map] at hx
    cases hqi : qs[i]? with
    | none =>
      rw [hqi] at hx
      cases hx
    | some p =>
      rw [hqi] at hx
      have ex : V.ref p = x := Option.some.inj hx
      subst ex
      obtain ⟨y, hy, bb, h1, h2⟩ := paired_at' hp hqi
      have hym := List.mem_of_getElem? hy
      have kp := KeepT.of sm
      have il : i < qs.length := (List.getElem?_eq_some_iff.mp hqi).1
      have ql : qs.length = ρ.length := Paired.length hp
      have big := sizeBig
      have T := turn2 (v := .ref bb) (w := .int y.2) ha hb hab
      refine ⟨p, [.ref bb, .int y.2], rfl, sqT (kp _ _ h1), rfl, .ref bb, [.int y.2], rfl, .int y.2, [], rfl, rfl, ?_⟩
      refine ⟨wipe2 hab, htt _ _ bb y _ hym sm T (h2.keep kp) fun H2 sm2 => ?_⟩
      have kp2 := KeepT.of sm2
      have pk : ((ρ.take (i + 1)).filter keep).map (fun x => (x.1, g x)) = ((ρ.take i).filter keep).map (fun x => (x.1, g x)) ++ (if keep y = true then [(y.1, g y)] else []) := by
        rw [List.take_add_one, hy, List.filter_append, List.map_append]
        congr 1
        show List.map _ (List.filter keep [y]) = _
        cases hk : keep y with
        | true => simp [hk]
        | false => simp [hk]
      cases hk : keep y with
      | false =>
        refine iteF ⟨sm.trans sm2, ps, sm2 _ _ hps, ?_, by omega⟩
        rw [pk, hk, if_neg (by decide), List.append_nil]
        exact Paired.mapP hpp fun _ _ z => z.keep kp2
      | true =>
        refine iteT ⟨.ref bb, T.fst, htw _ _ bb y _ hym (sm.trans sm2) T ((h2.keep kp).keep kp2) ⟨by show 2 ≤ sizeLine; decide, fun t ht => ?_⟩⟩
        have hps2 := sm2 _ _ hps
        have nLt : L ≠ t := ne_of_none hps2 ht
        refine ⟨ps.map V.ref, by rw [upd_ne nLt]; exact hps2, by rw [List.length_map]; omega, ?_, ps ++ [t], ?_, ?_, ?_⟩
        · intro b' o' e'
          have e2 := sm2 _ _ (sm _ _ e')
          rw [upd_ne (ne_of_none e' hL), upd_ne (ne_of_none e2 ht)]
          exact e2
        · rw [upd_same, List.map_append]
          rfl
        · have kp3 : KeepT H2 (upd (upd H2 t (.tup [.ref bb, .int (g y)])) L (.lst (ps.map V.ref ++ [.ref t]))) :=
            (KeepT.new ht).trans (KeepT.put (u := .lst (ps.map V.ref)) (by rw [upd_ne nLt]; exact hps2) (fun _ z => nomatch z))
          rw [pk, hk, if_pos rfl]
          refine Paired.snoc (Paired.mapP hpp fun _ _ z => (z.keep kp2).keep kp3) ⟨bb, ?_, ((h2.keep kp).keep kp2).keep kp3⟩
          rw [upd_ne nLt.symm, upd_same]
        · rw [List.length_append]
          show ps.length + 1 ≤ i + 1
          omega
  · obtain ⟨sm, ps, hps, hpp, _⟩ := h
    have e : ρ.take (qs.map V.ref).length = ρ := List.take_of_length_le (by rw [List.length_map, Paired.length hp]; exact Nat.le_refl _)
    rw [e] at hpp
    exact q H' L ps sm hL hps hpp

theorem iYes {σ : L2.St} {H : Hp} {Q : Bool → Hp → Prop} (h : Q true H) : tYes σ H Q := h
/-- [g of cell, weight for cell, weight in row] -/
theorem lc_ints {K : PySem.W.Frag} {i a b : Nat} {σ : L2.St} {H : Hp} {Q : VK} {r : Addr} {ρ : RowD} {tw : TE} (g : Cell × Int → Int)
    (hi : σ[i]? = some (some (.ref r))) (R : RowAt H r ρ) (ha : a < σ.length) (hb : b < σ.length) (hab : a ≠ b) (hz : ρ.length ≤ 1000)
    (htw : ∀ σ' H' bb x (Q : VK), x ∈ ρ → Same H H' → Turn2 σ σ' a b (.ref bb) (.int x.2) → CellAt H' bb x.1 → Q (.int (g x)) H' → tw σ' H' Q)
    (q : ∀ H' L, Same H H' → H L = none → H' L = some (.lst ((ρ.map g).map V.int)) → Q (.ref L) H') :
    tLc (iTup K (tVar i)) (g2 K a b) tYes tw [a, b] σ H Q := by
  obtain ⟨qs, hr, hp⟩ := R
  refine ⟨.ref r, hi, r, rfl, ⟨_, sqT hr⟩, fun L hL => ?_⟩
  refine lc_tup (xs := qs.map V.ref) (fun i H' => Same H H' ∧ H' L = some (.lst (((ρ.take i).map g).map V.int)))
    ⟨same_new hL, upd_same⟩ (fun i H' _ h => sqT (h.1 _ _ hr)) (fun i x H' hx h => ?_) (fun H' h => ?_)
  · obtain ⟨sm, hps⟩ := h
    rw [List.getElem?_map] at hx
    cases hqi : qs[i]? with
    | none =>
      rw [hqi] at hx
      cases hx
    | some p =>
      rw [hqi] at hx
      have ex : V.ref p = x := Option.some.inj hx
      subst ex
      obtain ⟨y, hy, bb, h1, h2⟩ := paired_at' hp hqi
      have kp := KeepT.of sm
      have big := sizeBig
      have T := turn2 (v := .ref bb) (w := .int y.2) ha hb hab
      refine ⟨p, [.ref bb, .int y.2], rfl, sqT (kp _ _ h1), rfl, .ref bb, [.int y.2], rfl, .int y.2, [], rfl, rfl, ?_⟩
      refine ⟨wipe2 hab, iYes (iteT (htw _ _ bb y _ (List.mem_of_getElem? hy) sm T (h2.keep kp) ⟨_, hps, ?_, ?_, ?_⟩))⟩
      · rw [List.length_map, List.length_map, List.length_take]
        omega
      · intro b' o' e'
        rw [upd_ne (ne_of_none e' hL)]
        exact sm _ _ e'
      · rw [upd_same, List.take_add_one, hy]
        show _ = some (HO.lst (((ρ.take i ++ [y]).map g).map V.int))
        rw [List.map_append, List.map_append]
        rfl
  · obtain ⟨sm, hps⟩ := h
    have e : ρ.take (qs.map V.ref).length = ρ := List.take_of_length_le (by rw [List.length_map, Paired.length hp]; exact Nat.le_refl _)
    rw [e] at hps
    exact q H' L sm hL hps

theorem set1_at {σ : L2.St} {a : Nat} {v : V} (ha : a < σ.length) : ((wipe σ [a]).set a (some v))[a]? = some (some v) := List.getElem?_set_self (by rw [wipe_length]; exact ha)
theorem set1_old {σ : L2.St} {a j : Nat} {v : V} (h : j ≠ a) : ((wipe σ [a]).set a (some v))[j]? = σ[j]? := by
  rw [List.getElem?_set_ne (fun e => h e.symm), wipe_at h]
/-- one turn of [pair for pair in pairs if ..] -/
theorem pairs_turn {a : Nat} {σ : L2.St} {H H' : Hp} {L : Addr} {qs : List Addr} {ρ : RowD} {tt : TT} (keep : Cell × Int → Bool)
    (ha : a < σ.length) (hp : Paired (PairRow H) qs ρ) (hz : ρ.length ≤ 1000) (hL : H L = none)
    (htt : ∀ σ' H' p x (Q : Bool → Hp → Prop), x ∈ ρ → Same H H' → σ'[a]? = some (some (.ref p)) → (∀ j, j ≠ a → σ'[j]? = σ[j]?) → PairRow H' p x → (∀ H'', Same H' H'' → Q (keep x) H'') → tt σ' H' Q)
    {i : Nat} {x : V} (hx : (qs.map V.ref)[i]? = some x) (h : Same H H' ∧ ∃ ps, H' L = some (.lst (ps.map V.ref)) ∧ Paired (PairRow H') ps ((ρ.take i).filter keep) ∧ ps.length ≤ i) :
    gName a x (wipe σ [a]) H' fun σ2 H2 => wipe σ2 [a] = wipe σ [a] ∧ tt σ2 H2 fun b H3 => if b = true then tVar a σ2 H3 fun y H4 => ∃ acc, H4 L = some (.lst acc) ∧ acc.length < sizeLine ∧
      (Same H (upd H4 L (.lst (acc ++ [y]))) ∧ ∃ ps, (upd H4 L (.lst (acc ++ [y]))) L = some (.lst (ps.map V.ref)) ∧ Paired (PairRow (upd H4 L (.lst (acc ++ [y])))) ps ((ρ.take (i + 1)).filter keep) ∧ ps.length ≤ i + 1)
      else (Same H H3 ∧ ∃ ps, H3 L = some (.lst (ps.map V.ref)) ∧ Paired (PairRow H3) ps ((ρ.take (i + 1)).filter keep) ∧ ps.length ≤ i + 1) := by
  obtain ⟨sm, ps, hps, hpp, hpl⟩ := h
  rw [List.getElem?_map] at hx
  cases hqi : qs[i]? with
  | none =>
    rw [hqi] at hx
    cases hx
  | some p =>
    rw [hqi] at hx
    have ex : V.ref p = x := Option.some.inj hx
    subst ex
    obtain ⟨y, hy, hpy⟩ := paired_at' hp hqi
    have kp := KeepT.of sm
    have il : i < qs.length := (List.getElem?_eq_some_iff.mp hqi).1
    have ql : qs.length = ρ.length := Paired.length hp
    have big := sizeBig
    refine ⟨wipe1, htt _ _ p y _ (List.mem_of_getElem? hy) sm (set1_at ha) (fun j hj => set1_old hj) (hpy.keep kp) fun H2 sm2 => ?_⟩
    have kp2 := KeepT.of sm2
    have pk : (ρ.take (i + 1)).filter keep = (ρ.take i).filter keep ++ (if keep y = true then [y] else []) := by
      rw [List.take_add_one, hy, List.filter_append]
      congr 1
      show List.filter keep [y] = _
      cases hk : keep y with
      | true => simp [hk]
      | false => simp [hk]
    cases hk : keep y with
    | false =>
      refine iteF ⟨sm.trans sm2, ps, sm2 _ _ hps, ?_, by omega⟩
      rw [pk, hk, if_neg (by decide), List.append_nil]
      exact Paired.mapP hpp fun _ _ z => z.keep kp2
    | true =>
      have hps2 := sm2 _ _ hps
      refine iteT ⟨.ref p, set1_at ha, ps.map V.ref, hps2, by rw [List.length_map]; omega, ?_, ps ++ [p], ?_, ?_, ?_⟩
      · intro b' o' e'
        rw [upd_ne (ne_of_none e' hL)]
        exact sm2 _ _ (sm _ _ e')
      · rw [upd_same, List.map_append]
        rfl
      · have kp3 : KeepT H2 (upd H2 L (.lst (ps.map V.ref ++ [.ref p]))) := KeepT.put (u := .lst (ps.map V.ref)) hps2 (fun _ z => nomatch z)
        rw [pk, hk, if_pos rfl]
        exact Paired.snoc (Paired.mapP hpp fun _ _ z => (z.keep kp2).keep kp3) (((hpy.keep kp).keep kp2).keep kp3)
      · rw [List.length_append]
        show ps.length + 1 ≤ i + 1
        omega
/-- [pair for pair in row if ..] -/
theorem lc_pairsT {K : PySem.W.Frag} {i a : Nat} {σ : L2.St} {H : Hp} {Q : VK} {r : Addr} {qs : List Addr} {ρ : RowD} {tt : TT} (keep : Cell × Int → Bool)
    (hi : σ[i]? = some (some (.ref r))) (hr : H r = some (.tup (qs.map V.ref))) (hp : Paired (PairRow H) qs ρ) (ha : a < σ.length) (hz : ρ.length ≤ 1000)
    (htt : ∀ σ' H' p x (Q : Bool → Hp → Prop), x ∈ ρ → Same H H' → σ'[a]? = some (some (.ref p)) → (∀ j, j ≠ a → σ'[j]? = σ[j]?) → PairRow H' p x → (∀ H'', Same H' H'' → Q (keep x) H'') → tt σ' H' Q)
    (q : ∀ H' L ps, Same H H' → H L = none → H' L = some (.lst (ps.map V.ref)) → Paired (PairRow H') ps (ρ.filter keep) → Q (.ref L) H') :
    tLc (iTup K (tVar i)) (gName a) tt (tVar a) [a] σ H Q := by
  refine ⟨.ref r, hi, r, rfl, ⟨_, sqT hr⟩, fun L hL => ?_⟩
  refine lc_tup (xs := qs.map V.ref) (fun i H' => Same H H' ∧ ∃ ps, H' L = some (.lst (ps.map V.ref)) ∧ Paired (PairRow H') ps ((ρ.take i).filter keep) ∧ ps.length ≤ i)
    ⟨same_new hL, [], upd_same, .nil, Nat.le_refl _⟩ (fun i H' _ h => sqT (h.1 _ _ hr)) (fun i x H' hx h => pairs_turn keep ha hp hz hL htt hx h) (fun H' h => ?_)
  obtain ⟨sm, ps, hps, hpp, _⟩ := h
  have e : ρ.take (qs.map V.ref).length = ρ := List.take_of_length_le (by rw [List.length_map, Paired.length hp]; exact Nat.le_refl _)
  rw [e] at hpp
  exact q H' L ps sm hL hps hpp
theorem lc_pairsL {K : PySem.W.Frag} {i a : Nat} {σ : L2.St} {H : Hp} {Q : VK} {r : Addr} {qs : List Addr} {ρ : RowD} {tt : TT} (keep : Cell × Int → Bool)
    (hi : σ[i]? = some (some (.ref r))) (hr : H r = some (.lst (qs.map V.ref))) (hp : Paired (PairRow H) qs ρ) (ha : a < σ.length) (hz : ρ.length ≤ 1000)
    (htt : ∀ σ' H' p x (Q : Bool → Hp → Prop), x ∈ ρ → Same H H' → σ'[a]? = some (some (.ref p)) → (∀ j, j ≠ a → σ'[j]? = σ[j]?) → PairRow H' p x → (∀ H'', Same H' H'' → Q (keep x) H'') → tt σ' H' Q)
    (q : ∀ H' L ps, Same H H' → H L = none → H' L = some (.lst (ps.map V.ref)) → Paired (PairRow H') ps (ρ.filter keep) → Q (.ref L) H') :
    tLc (iList K (tVar i)) (gName a) tt (tVar a) [a] σ H Q := by
  refine ⟨.ref r, hi, r, rfl, ⟨_, sqL hr⟩, fun L hL => ?_⟩
  refine lc_list (xs := qs.map V.ref) (fun i H' => Same H H' ∧ ∃ ps, H' L = some (.lst (ps.map V.ref)) ∧ Paired (PairRow H') ps ((ρ.take i).filter keep) ∧ ps.length ≤ i)
    ⟨same_new hL, [], upd_same, .nil, Nat.le_refl _⟩ (fun i H' _ h => sqL (h.1 _ _ hr)) (fun i x H' hx h => pairs_turn keep ha hp hz hL htt hx h) (fun H' h => ?_)
  obtain ⟨sm, ps, hps, hpp, _⟩ := h
  have e : ρ.take (qs.map V.ref).length = ρ := List.take_of_length_le (by rw [List.length_map, Paired.length hp]; exact Nat.le_refl _)
  rw [e] at hpp
  exact q H' L ps sm hL hps hpp
end AskG
/-! Calls with keywords. -/
namespace AskG
open PySem PySem.Spec PyProof.Rows L2
section
variable {P : Program} {w : World} {K : PySem.W.Frag} {mg : Str → Option Value} {base : Heap}
theorem okGD {x qual : Str} {params : Arguments} {body : List Stmt} {scope : Scope} {dvs : List V} {kws : List (Str × V)} {f : Addr} {fd : FuncData} {N ps : List Str} {k : Nat} {pr : Pr}
    (F : FunD K x qual params body scope dvs kws f fd) (S : FnScope N ps scope) (many : ∀ vs H Q, pr vs H Q → vs.length = ps.length)
    (body_ok : ∀ (cdv : Value) (A : Around) (outer : List Env) (s : Shared) (H : Hp) (vs : List V) (Q : VK),
      RG k (A.deeper (envOfC qual scope s.heap.objs.size f cdv)) → pr vs H Q →
      ∃ t, PSs (cxOf CX0 P w K mg base N qual scope f cdv A outer s H E0).nox body t ∧
        t { nx := fun _ H' => Q .non H', rt := Q } (start N vs) H) : FnG P w K mg base (k + 1) f fd ps pr := by
  obtain ⟨oc, od, dV, kV, doc, pm, an, cdv, ct, osl, rfl, lk, hcd, _, _⟩ := F.ex
  exact fnG_of lk hcd S many fun A outer s H vs Q hr hp => body_ok cdv A outer s H vs Q hr hp
end
def tCallNG (n m : Nat) (pr : Pr) (gV : List V → List V → List V) (t tk : TA) : TE := fun σ H Q =>
  t σ H fun vs H1 => tk σ H1 fun zs H2 => vs.length = n ∧ zs.length = m ∧ pr (gV vs zs) H2 Q
section
variable {X : Cx} {k n : Nat} {f : Addr} {fd : FuncData} {ps ks : List Str} {pr : Pr} {x : Str} {p pos : Pos} {e : Expr} {es : List Expr} {kws : List Keyword}
  {t tk : TA} {g : List Value → List Value → List Value} {gV : List V → List V → List V}
theorem goN {pins : List (Addr × Obj)} {σ : L2.St} {H : Hp} {s : Shared} {Q : VK} {us ws : List Value} {vs zs : List V}
    (F : FnG X.prog X.w X.K X.mg X.base k f fd ps pr) (hr : RG k X.A) (hb : KBn X.K fd ps n ks g gV)
    (I : Inv X pins σ H s) (r : Vals vs us) (rz : Vals zs ws) (l1 : vs.length = n) (l2 : zs.length = ks.length) (h : pr (gV vs zs) H Q) :
    wpAny (model X.prog X.w) X.A (call (.ref f) us (ks.zip ws)) (EP X pins σ Q) X.xe s :=
  goG (args := ⟨us, ks.zip ws⟩) F hr I (hb.to s us ws I.kIn (r.length.symm.trans l1) (rz.length.symm.trans l2)) (hb.rel r rz) h
/-- f(e, .., k = v, ..) -/
theorem pe_gn (F : FnG X.prog X.w X.K X.mg X.base k f fd ps pr) (hr : RG k X.A) (hg : Gl X x)
    (hm : X.mg x = some (.ref f)) (hk : PySem.W.keepIn X.K (.ref f) = true) (hb : KBn X.K fd ps n ks g gV)
    (ha : PA X (e :: es) t) (hkw : PK X kws tk)
    (hall : (backToKw pos (keywordEach kws X.env)).all (·.1.isSome) = true := by rfl)
    (hks : (backToKw pos (keywordEach kws X.env)).filterMap (·.1) = ks := by rfl)
    (hdb : (x == ("__debug__" : Str)) = false := by decide)
    (he : starEach (e :: es) X.env = (false, eval e X.env) :: starEach es X.env := by rfl)
    (hpl : ((backTo pos (starEach (e :: es) X.env)).any (·.1) || (backToKw pos (keywordEach kws X.env)).any (·.1.isNone)) = false := by rfl) :
    PE X (.Call (.Name x p) (e :: es) kws pos) (tCallNG n ks.length pr gV t tk) := by
  constructor
  intro pins s σ H Q I h
  refine wpAny_Call_Name_kw (ld_glob I hg hm ?_ hdb)
  refine PySem.W.callWith_KW (h₀ := X.base) I.ok.mod.kin hk hall (thn (ha.run pos pins s σ H _ I h) ?_) hpl he
  rintro us s1 ⟨vs, H1, I1, r, q⟩
  refine thn (hkw.run pos pins s1 σ H1 _ I1 q) ?_
  rintro ws s2 ⟨zs, H2, I2, rz, l1, l2, q2⟩
  refine ⟨I2.kIn, ?_⟩
  rw [hks]
  exact goN F hr hb I2 r rz l1 l2 q2
/-- f(k = v, ..) -/
theorem pe_gn0 (F : FnG X.prog X.w X.K X.mg X.base k f fd ps pr) (hr : RG k X.A) (hg : Gl X x)
    (hm : X.mg x = some (.ref f)) (hk : PySem.W.keepIn X.K (.ref f) = true) (hb : KBn X.K fd ps 0 ks g gV)
    (hkw : PK X kws tk)
    (hall : (backToKw pos (keywordEach kws X.env)).all (·.1.isSome) = true := by rfl)
    (hks : (backToKw pos (keywordEach kws X.env)).filterMap (·.1) = ks := by rfl)
    (hdb : (x == ("__debug__" : Str)) = false := by decide)
    (hpl : ((backTo pos (starEach [] X.env)).any (·.1) || (backToKw pos (keywordEach kws X.env)).any (·.1.isNone)) = false := by rfl) :
    PE X (.Call (.Name x p) [] kws pos) (tCallNG 0 ks.length pr gV tNil tk) := by
  constructor
  intro pins s σ H Q I h
  refine wpAny_Call_Name_kw (ld_glob I hg hm ?_ hdb)
  refine PySem.W.callWith_KW0 (h₀ := X.base) I.ok.mod.kin hk hall ?_ hpl
  refine thn (hkw.run pos pins s σ H _ I h) ?_
  rintro ws s2 ⟨zs, H2, I2, rz, l1, l2, q2⟩
  refine ⟨I2.kIn, ?_⟩
  rw [hks]
  exact goN (us := []) F hr hb I2 .nil rz l1 l2 q2
end
end AskG
/-! Rows as data: what repr shows of them, == with []. -/
namespace AskG
open PySem PySem.Spec PyProof.Rows L2
/-- data that repr shows in at most n signs -/
structure Fine (k n : Nat) (d : PyData) : Prop where
  shw : d.showable = true
  nod : d.hasDict = false
  dep : d.depth ≤ k
  len : d.shown.length ≤ n
theorem Fine.mono {k n k' n' : Nat} {d : PyData} (h : Fine k n d) (hk : k ≤ k') (hn : n ≤ n') : Fine k' n' d :=
  ⟨h.shw, h.nod, Nat.le_trans h.dep hk, Nat.le_trans h.len hn⟩
theorem all_fine {k n : Nat} : ∀ {ds : List PyData}, (∀ d ∈ ds, Fine k n d) →
    PyData.showableAll ds = true ∧ PyData.hasDictAll ds = false ∧ PyData.depthAll ds ≤ k ∧ ((PyData.shownAll ds).map (·.length)).sum ≤ ds.length * n ∧ (PyData.shownAll ds).length = ds.length
  | [], _ => ⟨rfl, rfl, Nat.zero_le _, Nat.zero_le _, rfl⟩
  | d :: ds, h => by
    obtain ⟨h1, h2, h3, h4, h5⟩ := all_fine (ds := ds) fun e he => h e (List.mem_cons_of_mem _ he)
    have f := h d List.mem_cons_self
    refine ⟨?_, ?_, ?_, ?_, ?_⟩
    · show (d.showable && PyData.showableAll ds) = true
      rw [f.shw, h1]
      rfl
    · show (d.hasDict || PyData.hasDictAll ds) = false
      rw [f.nod, h2]
      rfl
    · show max d.depth (PyData.depthAll ds) ≤ k
      exact Nat.max_le.mpr ⟨f.dep, h3⟩
    · show ((d.shown :: PyData.shownAll ds).map (·.length)).sum ≤ _
      rw [List.map_cons, List.sum_cons, List.length_cons, Nat.succ_mul]
      have := f.len
      omega
    · show (d.shown :: PyData.shownAll ds).length = _
      rw [List.length_cons, List.length_cons, h5]
theorem Fine.tup {k n m : Nat} {ds : List PyData} (h : ∀ d ∈ ds, Fine k n d) (hm : ds.length ≤ m) : Fine (k + 1) (m * (n + 2) + 3) (.tuple ds) := by
  obtain ⟨h1, h2, h3, h4, h5⟩ := all_fine h
  refine ⟨h1, h2, Nat.succ_le_succ h3, ?_⟩
  have := tupleText_len_le (PyData.shownAll ds)
  show (tupleText (PyData.shownAll ds)).length ≤ _
  have e : ds.length * (n + 2) ≤ m * (n + 2) := Nat.mul_le_mul_right _ hm
  have e2 : ds.length * (n + 2) = ds.length * n + 2 * ds.length := by rw [Nat.mul_add, Nat.mul_comm ds.length 2]
  rw [h5] at this
  omega
theorem Fine.lst {k n m : Nat} {ds : List PyData} (h : ∀ d ∈ ds, Fine k n d) (hm : ds.length ≤ m) : Fine (k + 1) (m * (n + 2) + 3) (.list ds) := by
  obtain ⟨h1, h2, h3, h4, h5⟩ := all_fine h
  refine ⟨h1, h2, Nat.succ_le_succ h3, ?_⟩
  have := listText_len_le (PyData.shownAll ds)
  show (listText (PyData.shownAll ds)).length ≤ _
  have e : ds.length * (n + 2) ≤ m * (n + 2) := Nat.mul_le_mul_right _ hm
  have e2 : ds.length * (n + 2) = ds.length * n + 2 * ds.length := by rw [Nat.mul_add, Nat.mul_comm ds.length 2]
  rw [h5] at this
  omega
theorem fine_int {i : Int} (h : i.natAbs.log2 < 1920) : Fine 0 1921 (.int i) :=
  ⟨decide_eq_true h, rfl, Nat.le_refl _, int_text_len_1921 h⟩
theorem fine_str {x : Str} (h : x.length ≤ 8) (hx : ∀ c ∈ x.cps.toList, c < 16 ^ 8) : Fine 0 1921 (.str x) :=
  ⟨rfl, rfl, Nat.le_refl _, by
    have := StrLaws.reprText_len x hx
    show (reprText x).length ≤ _
    omega⟩

/-- sizes of what rows hold -/
structure CellOk (c : Cell) : Prop where
  short : c.1.length ≤ 8
  plain : ∀ n ∈ c.1.cps.toList, n < 16 ^ 8
  ok : PyData.strOk c.1 = true
  lit : c.2.natAbs.log2 < 1920
def cellD (c : Cell) : PyData := .tuple [.str c.1, .int c.2]
def pairD (x : Cell × Int) : PyData := .tuple [cellD x.1, .int x.2]
def rowPD (ρ : RowD) : PyData := .tuple (ρ.map pairD)
structure RowOk (ρ : RowD) : Prop where
  many : ρ.length ≤ 100
  cells : ∀ x ∈ ρ, CellOk x.1
  lit : ∀ x ∈ ρ, x.2.natAbs.log2 < 1920
theorem fine_cell {c : Cell} (h : CellOk c) : Fine 1 3849 (cellD c) := by
  refine Fine.tup (k := 0) (n := 1921) (m := 2) (fun d hd => ?_) (Nat.le_refl _)
  rcases List.mem_cons.mp hd with e | hd
  · rw [e]
    exact fine_str h.short h.plain
  · rw [List.mem_singleton.mp hd]
    exact fine_int h.lit
theorem fine_pair {x : Cell × Int} (h : CellOk x.1) (hw : x.2.natAbs.log2 < 1920) : Fine 2 7705 (pairD x) := by
  refine Fine.tup (k := 1) (n := 3849) (m := 2) (fun d hd => ?_) (Nat.le_refl _)
  rcases List.mem_cons.mp hd with e | hd
  · rw [e]
    exact fine_cell h
  · rw [List.mem_singleton.mp hd]
    exact (fine_int hw).mono (by decide) (by decide)
theorem fine_row {ρ : RowD} (h : RowOk ρ) : Fine 3 770703 (rowPD ρ) := by
  refine Fine.tup (k := 2) (n := 7705) (m := 100) (fun d hd => ?_) (by rw [List.length_map]; exact h.many)
  obtain ⟨x, hx, rfl⟩ := List.mem_map.mp hd
  exact fine_pair (h.cells x hx) (h.lit x hx)

section
variable {K : PySem.W.Frag} {H : Hp}
theorem dp_cell {b : Addr} {c : Cell} (h : CellAt H b c) : Dp K H (.ref b) (cellD c) := .tup (sqT h) (.cons (.str _) (.cons (.int _) .nil))
theorem dp_pair {p : Addr} {x : Cell × Int} (h : PairRow H p x) : Dp K H (.ref p) (pairD x) := by
  obtain ⟨b, h1, h2⟩ := h
  exact .tup (sqT h1) (.cons (dp_cell h2) (.cons (.int _) .nil))
theorem dp_all {R : Addr → α → Prop} {f : α → PyData} (h : ∀ p x, R p x → Dp K H (.ref p) (f x)) : ∀ {ps : List Addr} {l : List α}, Paired R ps l → DpAll K H (ps.map V.ref) (l.map f)
  | _, _, .nil => .nil
  | _, _, .cons h1 t => .cons (h _ _ h1) (dp_all h t)
theorem dp_row {r : Addr} {ρ : RowD} (h : RowAt H r ρ) : Dp K H (.ref r) (rowPD ρ) := by
  obtain ⟨ps, h1, h2⟩ := h
  exact .tup (sqT h1) (dp_all (f := pairD) (R := PairRow H) (fun _ _ z => dp_pair z) h2)
end
/-! ### == of lists -/
theorem shaped_nil : SeqAt.shaped (.list []) = true := by decide
theorem can_all {f : α → PyData} : ∀ {l : List α}, (∀ x ∈ l, (f x).canLay0 = true) → PyData.canLayAll0 (l.map f) = true
  | [], _ => rfl
  | x :: l, h => by
    show ((f x).canLay0 && PyData.canLayAll0 (l.map f)) = true
    rw [h x List.mem_cons_self, can_all fun y hy => h y (List.mem_cons_of_mem _ hy)]
    rfl
theorem depth_all {f : α → PyData} {k : Nat} : ∀ {l : List α}, (∀ x ∈ l, (f x).depth ≤ k) → PyData.depthAll (l.map f) ≤ k
  | [], _ => Nat.zero_le _
  | x :: l, h => by
    show max (f x).depth (PyData.depthAll (l.map f)) ≤ k
    exact Nat.max_le.mpr ⟨h x List.mem_cons_self, depth_all fun y hy => h y (List.mem_cons_of_mem _ hy)⟩
theorem shaped_ints (ns : List Int) : SeqAt.shaped (.list (ns.map PyData.int)) = true := by
  have h1 : PyData.canLayAll0 (ns.map PyData.int) = true := can_all fun _ _ => rfl
  have h2 : PyData.depthAll (ns.map PyData.int) ≤ 0 := depth_all fun _ _ => Nat.le_refl _
  show (PyData.canLayAll0 (ns.map PyData.int) && decide (PyData.depthAll (ns.map PyData.int) + 1 ≤ 64)) = true
  rw [h1, decide_eq_true (by omega)]
  rfl
theorem shaped_pairs {ρ : RowD} (h : ∀ x ∈ ρ, CellOk x.1) : SeqAt.shaped (.list (ρ.map pairD)) = true := by
  have h1 : PyData.canLayAll0 (ρ.map pairD) = true := can_all fun x hx => by
    show (((PyData.strOk x.1.1) && (true && true)) && (true && true)) = true
    rw [(h x hx).ok]
    rfl
  have h2 : PyData.depthAll (ρ.map pairD) ≤ 2 := depth_all fun x _ => by
    show max (max 0 (max 0 0) + 1) (max 0 0) + 1 ≤ 2
    decide
  show (PyData.canLayAll0 (ρ.map pairD) && decide (PyData.depthAll (ρ.map pairD) + 1 ≤ 64)) = true
  rw [h1, decide_eq_true (by omega)]
  rfl
theorem dp_ints {K : PySem.W.Frag} {H : Hp} : ∀ ns : List Int, DpAll K H (ns.map V.int) (ns.map PyData.int)
  | [] => .nil
  | n :: ns => .cons (.int n) (dp_ints ns)
/-- the same by computation -/
def cellB (c : Cell) : Bool := decide (c.1.length ≤ 8) && c.1.cps.toList.all (fun n => decide (n < 16 ^ 8)) && PyData.strOk c.1 && decide (c.2.natAbs.log2 < 1920)
theorem cellOk_of {c : Cell} (h : cellB c = true) : CellOk c := by
  unfold cellB at h
  rw [Bool.and_eq_true, Bool.and_eq_true, Bool.and_eq_true] at h
  obtain ⟨⟨⟨h1, h2⟩, h3⟩, h4⟩ := h
  exact ⟨of_decide_eq_true h1, fun n hn => of_decide_eq_true (List.all_eq_true.mp h2 n hn), h3, of_decide_eq_true h4⟩
end AskG
/-! Rights: their kinds, their questions; a comprehension with two fors. -/
namespace AskG
open PySem PySem.Spec PyProof.Rows L2
inductive KindM
  | tot (s : Int)
  | win (l : Int)
  | per (b e : Int)
def KindM.vals : KindM → List V
  | .tot s => [.str "total", .int s]
  | .win l => [.str "window", .int l]
  | .per b e => [.str "period", .int b, .int e]
def KindM.data : KindM → PyData
  | .tot s => .tuple [.str "total", .int s]
  | .win l => .tuple [.str "window", .int l]
  | .per b e => .tuple [.str "period", .int b, .int e]
def KindM.lo (t : Int) : KindM → Int
  | .tot s => s
  | .win l => if t - l + 1 > 0 then t - l + 1 else 0
  | .per b _ => b
def KindM.hi (t : Int) : KindM → Int
  | .tot _ => t
  | .win _ => t
  | .per _ e => if t < e then t else e
structure KindM.Ok (k : KindM) : Prop where
  nn : match k with
    | .tot s => 0 ≤ s ∧ s ≤ 30
    | .win l => 0 ≤ l ∧ l ≤ 30
    | .per b e => 0 ≤ b ∧ b ≤ 30 ∧ 0 ≤ e ∧ e ≤ 30
structure Rt where
  person : Str
  ws : List Cell
  first : Int
  last : Int
  kind : KindM
def RightAt (H : Hp) (a : Addr) (R : Rt) : Prop := ∃ (wa : Addr) (ps : List Addr) (ka : Addr), H a = some (.tup [.str R.person, .ref wa, .int R.first, .int R.last, .ref ka]) ∧
  H wa = some (.tup (ps.map V.ref)) ∧ Paired (CellAt H) ps R.ws ∧ H ka = some (.tup R.kind.vals)
theorem CellAt.keepT {H H' : Hp} {b : Addr} {c : Cell} (h : CellAt H b c) (k : KeepT H H') : CellAt H' b c := k _ _ h
theorem RightAt.keep {H H' : Hp} {a : Addr} {R : Rt} (h : RightAt H a R) (k : KeepT H H') : RightAt H' a R := by
  obtain ⟨wa, ps, ka, h1, h2, h3, h4⟩ := h
  exact ⟨wa, ps, ka, k _ _ h1, k _ _ h2, Paired.mapP h3 fun _ _ z => z.keepT k, k _ _ h4⟩
def rightD (R : Rt) : PyData := .tuple [.str R.person, .tuple (R.ws.map cellD), .int R.first, .int R.last, R.kind.data]
theorem dp_kind {K : PySem.W.Frag} {H : Hp} {a : Addr} {k : KindM} (h : H a = some (.tup k.vals)) : Dp K H (.ref a) k.data := by
  cases k with
  | tot s => exact .tup (sqT h) (.cons (.str _) (.cons (.int _) .nil))
  | win l => exact .tup (sqT h) (.cons (.str _) (.cons (.int _) .nil))
  | per b e => exact .tup (sqT h) (.cons (.str _) (.cons (.int _) (.cons (.int _) .nil)))
theorem dp_right {K : PySem.W.Frag} {H : Hp} {a : Addr} {R : Rt} (h : RightAt H a R) : Dp K H (.ref a) (rightD R) := by
  obtain ⟨wa, ps, ka, h1, h2, h3, h4⟩ := h
  exact .tup (sqT h1) (.cons (.str _) (.cons (.tup (sqT h2) (dp_all (f := cellD) (R := CellAt H) (fun _ _ z => dp_cell z) h3)) (.cons (.int _) (.cons (.int _) (.cons (dp_kind h4) .nil)))))
structure RtOk (R : Rt) : Prop where
  name : CellOk (R.person, 0)
  many : R.ws.length ≤ 3
  ws : ∀ x ∈ R.ws, CellOk x
  f0 : 0 ≤ R.first
  f1 : R.first ≤ 30
  l0 : 0 ≤ R.last
  l1 : R.last ≤ 30
  kind : R.kind.Ok
def daysOf (lo hi : Int) : List Int := (List.range (hi + 1 - lo).toNat).map fun (i : Nat) => lo + (i : Int)
def rowOn (ws : List Cell) (lo hi : Int) : RowD := ws.flatMap fun x => (daysOf lo hi).map fun d => ((x.1, d), x.2)
def usedB (R : Rt) (t : Int) : Bool := decide (R.first ≤ t) && decide (t ≤ R.last)
def rowQ (R : Rt) (t : Int) : RowD := rowOn R.ws (R.kind.lo t) (R.kind.hi t)
theorem kind_bounds {k : KindM} (h : k.Ok) {t : Int} (t0 : 0 ≤ t) (t9 : t ≤ 9) : 0 ≤ k.lo t ∧ k.lo t ≤ 30 ∧ k.hi t ≤ 9 ∧ 0 ≤ k.hi t := by
  have h := h.nn
  cases k with
  | tot s =>
    refine ⟨h.1, h.2, t9, t0⟩
  | win l =>
    have h : 0 ≤ l ∧ l ≤ 30 := h
    show 0 ≤ (if t - l + 1 > 0 then t - l + 1 else 0) ∧ (if t - l + 1 > 0 then t - l + 1 else 0) ≤ 30 ∧ t ≤ 9 ∧ 0 ≤ t
    split <;> omega
  | per b e =>
    have h : 0 ≤ b ∧ b ≤ 30 ∧ 0 ≤ e ∧ e ≤ 30 := h
    show 0 ≤ b ∧ b ≤ 30 ∧ (if t < e then t else e) ≤ 9 ∧ 0 ≤ (if t < e then t else e)
    split <;> omega
theorem days_len (lo hi : Int) : (daysOf lo hi).length = (hi + 1 - lo).toNat := by
  unfold daysOf
  rw [List.length_map, List.length_range]
theorem rowOn_len : ∀ (ws : List Cell) (lo hi : Int), (rowOn ws lo hi).length = ws.length * (hi + 1 - lo).toNat
  | [], _, _ => by
    rw [List.length_nil, Nat.zero_mul]
    rfl
  | x :: ws, lo, hi => by
    show ((daysOf lo hi).map (fun d => ((x.1, d), x.2)) ++ rowOn ws lo hi).length = _
    rw [List.length_append, List.length_map, days_len, rowOn_len ws lo hi, List.length_cons, Nat.succ_mul]
    omega
/-! ### [.. for x in t for d in range(..)] -/
section
variable {K : PySem.W.Frag} {a : Addr} {xs : List V} {g : TG} {wi1 : TI} {g1 : TG} {te : TE} {vs vs1 : List Nat} {σ : L2.St} {H1 : Hp} {D : Addr} {Qd : Hp → Prop} {lo : Int} {n : Nat}
theorem lc2_go (P : Nat → Nat → Hp → Prop) (h0 : P 0 0 (upd H1 D (.lst []))) (hl : ∀ i H, P i 0 H → SqT K H a xs)
    (hg : ∀ x σ H (Q Q' : L2.St → Hp → Prop), (∀ σ2 H2, Q σ2 H2 → Q' σ2 H2) → g x σ H Q → g x σ H Q')
    (hg1 : ∀ x σ H (Q Q' : L2.St → Hp → Prop), (∀ σ2 H2, Q σ2 H2 → Q' σ2 H2) → g1 x σ H Q → g1 x σ H Q')
    (hte : ∀ σ H (Q Q' : VK), (∀ v H2, Q v H2 → Q' v H2) → te σ H Q → te σ H Q')
    (hs : ∀ i x H, xs[i]? = some x → P i 0 H → g x (wipe σ vs) H fun σ2 H2 => wipe σ2 vs = wipe σ vs ∧ P i 0 H2 ∧ (∀ R : It → Hp → Prop, R (Itr lo n) H2 → wi1 σ2 H2 R) ∧
      ∀ j H', j < n → P i j H' → g1 (.int (lo + j)) (wipe σ2 vs1) H' fun σ3 H5 => wipe σ3 vs1 = wipe σ2 vs1 ∧ te σ3 H5 fun y H7 => ∃ acc, H7 D = some (.lst acc) ∧ acc.length < sizeLine ∧ P i (j + 1) (upd H7 D (.lst (acc ++ [y]))))
    (hn : ∀ i H, P i n H → P (i + 1) 0 H) (hd : ∀ H, P xs.length 0 H → Qd H) :
    ∃ W : Nat → Nat → Hp → Prop, (∃ m, W 0 m (upd H1 D (.lst []))) ∧ ∀ i m H, W i m H →
      ((Itt K a).stop i H ∧ Qd H) ∨ ((Itt K a).go i H ∧ ∃ Nx : Hp → Prop, (∀ H', Nx H' → ∃ m', m' < m ∧ W (i + 1) m' H') ∧ ∀ x H', (Itt K a).yld i H x H' → g x (wipe σ vs) H' fun σ2 H2 => wipe σ2 vs = wipe σ vs ∧ tYes σ2 H2 fun b H3 =>
        if b = true then wi1 σ2 H3 fun J1 H4 => ∃ W1 : Nat → Nat → Hp → Prop, (∃ m, W1 0 m H4) ∧ ∀ j k H, W1 j k H →
          (J1.stop j H ∧ Nx H) ∨ (J1.go j H ∧ ∃ Nx1 : Hp → Prop, (∀ H', Nx1 H' → ∃ k', k' < k ∧ W1 (j + 1) k' H') ∧ ∀ x H', J1.yld j H x H' → g1 x (wipe σ2 vs1) H' fun σ3 H5 => wipe σ3 vs1 = wipe σ2 vs1 ∧ tYes σ3 H5 fun b H6 =>
            if b = true then te σ3 H6 fun y H7 => ∃ acc, H7 D = some (.lst acc) ∧ acc.length < sizeLine ∧ Nx1 (upd H7 D (.lst (acc ++ [y]))) else Nx1 H6)
        else Nx H3) := by
  refine ⟨fun i m H => m = xs.length - i ∧ i ≤ xs.length ∧ P i 0 H, ⟨xs.length, by simp, Nat.zero_le _, h0⟩, ?_⟩
  rintro i m H ⟨rfl, hi, p⟩
  have q := hl i H p
  by_cases hlt : i < xs.length
  · refine .inr ⟨⟨xs, xs[i], q, by simp [hlt]⟩, fun H' => P (i + 1) 0 H', fun H' p' => ⟨xs.length - (i + 1), by omega, rfl, hlt, p'⟩, fun x H' y => ?_⟩
    obtain ⟨e, y⟩ := y
    subst e
    refine hg _ _ _ _ _ (fun σ2 H2 z => ?_) (hs i x _ (y xs q) p)
    obtain ⟨z1, z2, z3, z4⟩ := z
    refine ⟨z1, iYes (iteT (z3 _ ?_))⟩
    refine ⟨fun j k H => k = n - j ∧ j ≤ n ∧ P i j H, ⟨n, by simp, Nat.zero_le _, z2⟩, ?_⟩
    rintro j k H5 ⟨rfl, hj, pj⟩
    by_cases hjn : j < n
    · refine .inr ⟨hjn, fun H' => P i (j + 1) H', fun H' p' => ⟨n - (j + 1), by omega, rfl, hjn, p'⟩, fun x H' y => ?_⟩
      obtain ⟨rfl, rfl⟩ := y
      refine hg1 _ _ _ _ _ (fun σ3 H6 u => ?_) (z4 j _ hjn pj)
      exact ⟨u.1, iYes (iteT u.2)⟩
    · have e : j = n := by omega
      subst e
      exact .inl ⟨Nat.le_refl _, hn i _ pj⟩
  · have e : i = xs.length := by omega
    subst e
    exact .inl ⟨⟨xs, q, Nat.le_refl _⟩, hd H p⟩
end
end AskG
/-! Values of any kind, and what the kind checks say of them. -/
namespace AskG
open PySem PySem.Spec PyProof.Rows L2
mutual
/-- the data that lies at a value; D is no part of it -/
inductive DH (D : Addr) (H : Hp) : V → PyData → Prop
  | non : DH D H .non .none
  | bl (b : Bool) : DH D H (.bl b) (.bool b)
  | int (i : Int) : DH D H (.int i) (.int i)
  | str (x : Str) : DH D H (.str x) (.str x)
  | lst {a : Addr} {xs : List V} {ds : List PyData} (n : a ≠ D) (e : H a = some (.lst xs)) (t : DHs D H xs ds) : DH D H (.ref a) (.list ds)
  | tup {a : Addr} {xs : List V} {ds : List PyData} (e : H a = some (.tup xs)) (t : DHs D H xs ds) : DH D H (.ref a) (.tuple ds)
inductive DHs (D : Addr) (H : Hp) : List V → List PyData → Prop
  | nil : DHs D H [] []
  | cons {v : V} {vs : List V} {d : PyData} {ds : List PyData} (h : DH D H v d) (t : DHs D H vs ds) : DHs D H (v :: vs) (d :: ds)
end
structure KeepD (D : Addr) (H H' : Hp) : Prop where
  tup : ∀ b xs, H b = some (.tup xs) → H' b = some (.tup xs)
  lst : ∀ b xs, b ≠ D → H b = some (.lst xs) → H' b = some (.lst xs)
theorem KeepD.of {D : Addr} {H H' : Hp} (h : Same H H') : KeepD D H H' := ⟨fun b _ e => h b _ e, fun b _ _ e => h b _ e⟩
theorem KeepD.trans {D : Addr} {H H1 H2 : Hp} (h : KeepD D H H1) (g : KeepD D H1 H2) : KeepD D H H2 := ⟨fun b xs e => g.tup b xs (h.tup b xs e), fun b xs n e => g.lst b xs n (h.lst b xs n e)⟩
mutual
theorem DH.keep {D : Addr} {H H' : Hp} (k : KeepD D H H') : ∀ {v : V} {d : PyData}, DH D H v d → DH D H' v d
  | _, _, .non => .non
  | _, _, .bl b => .bl b
  | _, _, .int i => .int i
  | _, _, .str x => .str x
  | _, _, .lst n e t => .lst n (k.lst _ _ n e) (DHs.keep k t)
  | _, _, .tup e t => .tup (k.tup _ _ e) (DHs.keep k t)
theorem DHs.keep {D : Addr} {H H' : Hp} (k : KeepD D H H') : ∀ {vs : List V} {ds : List PyData}, DHs D H vs ds → DHs D H' vs ds
  | _, _, .nil => .nil
  | _, _, .cons h t => .cons (DH.keep k h) (DHs.keep k t)
end
mutual
/-- an address that is still free is no part -/
theorem DH.shun {D E : Addr} {H : Hp} (f : H E = none) : ∀ {v : V} {d : PyData}, DH D H v d → DH E H v d
  | _, _, .non => .non
  | _, _, .bl b => .bl b
  | _, _, .int i => .int i
  | _, _, .str x => .str x
  | _, _, .lst n e t => .lst (fun z => by rw [z, f] at e; cases e) e (DHs.shun f t)
  | _, _, .tup e t => .tup e (DHs.shun f t)
theorem DHs.shun {D E : Addr} {H : Hp} (f : H E = none) : ∀ {vs : List V} {ds : List PyData}, DHs D H vs ds → DHs E H vs ds
  | _, _, .nil => .nil
  | _, _, .cons h t => .cons (DH.shun f h) (DHs.shun f t)
end
mutual
theorem DH.dp {K : PySem.W.Frag} {D : Addr} {H : Hp} : ∀ {v : V} {d : PyData}, DH D H v d → Dp K H v d
  | _, _, .non => .non
  | _, _, .bl b => .bl b
  | _, _, .int i => .int i
  | _, _, .str x => .str x
  | _, _, .lst _ e t => .lst (sqL e) (DHs.dp t)
  | _, _, .tup e t => .tup (sqT e) (DHs.dp t)
theorem DHs.dp {K : PySem.W.Frag} {D : Addr} {H : Hp} : ∀ {vs : List V} {ds : List PyData}, DHs D H vs ds → DpAll K H vs ds
  | _, _, .nil => .nil
  | _, _, .cons h t => .cons (DH.dp h) (DHs.dp t)
end
theorem DHs.len {D : Addr} {H : Hp} : ∀ {vs : List V} {ds : List PyData}, DHs D H vs ds → vs.length = ds.length
  | _, _, .nil => rfl
  | _, _, .cons _ t => by rw [List.length_cons, List.length_cons, DHs.len t]
theorem DHs.at {D : Addr} {H : Hp} : ∀ {vs : List V} {ds : List PyData}, DHs D H vs ds → ∀ {i : Nat} {v : V}, vs[i]? = some v → ∃ d, ds[i]? = some d ∧ DH D H v d
  | _, _, .nil, i, v, e => by cases i <;> cases e
  | _, _, .cons h t, 0, v, e => by
    cases e
    exact ⟨_, rfl, h⟩
  | _, _, .cons h t, i + 1, v, e => DHs.at t e
theorem DHs.app {D : Addr} {H : Hp} : ∀ {vs ws : List V} {ds es : List PyData}, DHs D H vs ds → DHs D H ws es → DHs D H (vs ++ ws) (ds ++ es)
  | _, _, _, _, .nil, h => h
  | _, _, _, _, .cons h t, g => .cons h (DHs.app t g)
/-! ### sizes -/
mutual
def smallD : PyData → Bool
  | .str s => decide (s.length ≤ 1000) && PyData.strOk s
  | .list ds => decide (ds.length ≤ 1000) && smallDs ds
  | .tuple ds => decide (ds.length ≤ 1000) && smallDs ds
  | .dict _ => false
  | _ => true
def smallDs : List PyData → Bool
  | [] => true
  | d :: ds => smallD d && smallDs ds
end
theorem smallDs_at : ∀ {ds : List PyData} {i : Nat} {d : PyData}, smallDs ds = true → ds[i]? = some d → smallD d = true
  | [], i, _, _, e => by cases i <;> cases e
  | x :: ds, 0, _, h, e => by
    cases e
    unfold smallDs at h
    rw [Bool.and_eq_true] at h
    exact h.1
  | x :: ds, i + 1, _, h, e => by
    unfold smallDs at h
    rw [Bool.and_eq_true] at h
    exact smallDs_at (ds := ds) (i := i) h.2 e
theorem small_tup {ds : List PyData} (h : smallD (.tuple ds) = true) : ds.length ≤ 1000 ∧ smallDs ds = true := by
  unfold smallD at h
  rw [Bool.and_eq_true] at h
  exact ⟨of_decide_eq_true h.1, h.2⟩
theorem small_lst {ds : List PyData} (h : smallD (.list ds) = true) : ds.length ≤ 1000 ∧ smallDs ds = true := by
  unfold smallD at h
  rw [Bool.and_eq_true] at h
  exact ⟨of_decide_eq_true h.1, h.2⟩
theorem small_str {s : Str} (h : smallD (.str s) = true) : s.length ≤ 1000 := by
  unfold smallD at h
  rw [Bool.and_eq_true] at h
  exact of_decide_eq_true h.1
theorem small_strOk {s : Str} (h : smallD (.str s) = true) : PyData.strOk s = true := by
  unfold smallD at h
  rw [Bool.and_eq_true] at h
  exact h.2
mutual
theorem small_lay : ∀ {d : PyData}, smallD d = true → d.canLay0 = true
  | .none, _ => rfl
  | .bool _, _ => rfl
  | .int _, _ => rfl
  | .str _, h => small_strOk h
  | .list _, h => small_lays (small_lst h).2
  | .tuple _, h => small_lays (small_tup h).2
  | .dict _, h => by cases h
theorem small_lays : ∀ {ds : List PyData}, smallDs ds = true → PyData.canLayAll0 ds = true
  | [], _ => rfl
  | d :: ds, h => by
    unfold smallDs at h
    rw [Bool.and_eq_true] at h
    show (d.canLay0 && PyData.canLayAll0 ds) = true
    rw [small_lay h.1, small_lays h.2]
    rfl
end
/-! ### kinds -/
def tyN : PyData → String
  | .none => "NoneType"
  | .bool _ => "bool"
  | .int _ => "int"
  | .str _ => "str"
  | .list _ => "list"
  | .tuple _ => "tuple"
  | .dict _ => "dict"
theorem DH.ty {K : PySem.W.Frag} {D : Addr} {H : Hp} {v : V} {d : PyData} (h : DH D H v d) : TyX K H v (.type (tyN d)) := by
  cases h with
  | non => exact .base .non
  | bl b => exact .base (.bl b)
  | int i => exact .base (.int i)
  | str x => exact .base (.str x)
  | lst _ e _ => exact .base (.lst e)
  | tup e _ => exact .base (.tup e)
def intB : PyData → Bool
  | .bool _ => true
  | .int _ => true
  | _ => false
def boolB : PyData → Bool
  | .bool _ => true
  | _ => false
def strB : PyData → Bool
  | .str _ => true
  | _ => false
def tupB : PyData → Bool
  | .tuple _ => true
  | _ => false
theorem kit_int : ∀ d : PyData, kitB (tyN d) "int" = some (intB d)
  | .none => show kitB "NoneType" "int" = some false from by decide +kernel
  | .bool _ => show kitB "bool" "int" = some true from by decide +kernel
  | .int _ => show kitB "int" "int" = some true from by decide +kernel
  | .str _ => show kitB "str" "int" = some false from by decide +kernel
  | .list _ => show kitB "list" "int" = some false from by decide +kernel
  | .tuple _ => show kitB "tuple" "int" = some false from by decide +kernel
  | .dict _ => show kitB "dict" "int" = some false from by decide +kernel
theorem kit_bool : ∀ d : PyData, kitB (tyN d) "bool" = some (boolB d)
  | .none => show kitB "NoneType" "bool" = some false from by decide +kernel
  | .bool _ => show kitB "bool" "bool" = some true from by decide +kernel
  | .int _ => show kitB "int" "bool" = some false from by decide +kernel
  | .str _ => show kitB "str" "bool" = some false from by decide +kernel
  | .list _ => show kitB "list" "bool" = some false from by decide +kernel
  | .tuple _ => show kitB "tuple" "bool" = some false from by decide +kernel
  | .dict _ => show kitB "dict" "bool" = some false from by decide +kernel
theorem kit_str : ∀ d : PyData, kitB (tyN d) "str" = some (strB d)
  | .none => show kitB "NoneType" "str" = some false from by decide +kernel
  | .bool _ => show kitB "bool" "str" = some false from by decide +kernel
  | .int _ => show kitB "int" "str" = some false from by decide +kernel
  | .str _ => show kitB "str" "str" = some true from by decide +kernel
  | .list _ => show kitB "list" "str" = some false from by decide +kernel
  | .tuple _ => show kitB "tuple" "str" = some false from by decide +kernel
  | .dict _ => show kitB "dict" "str" = some false from by decide +kernel
theorem kit_tup : ∀ d : PyData, kitB (tyN d) "tuple" = some (tupB d)
  | .none => show kitB "NoneType" "tuple" = some false from by decide +kernel
  | .bool _ => show kitB "bool" "tuple" = some false from by decide +kernel
  | .int _ => show kitB "int" "tuple" = some false from by decide +kernel
  | .str _ => show kitB "str" "tuple" = some false from by decide +kernel
  | .list _ => show kitB "list" "tuple" = some false from by decide +kernel
  | .tuple _ => show kitB "tuple" "tuple" = some true from by decide +kernel
  | .dict _ => show kitB "dict" "tuple" = some false from by decide +kernel
def itemD (d : PyData) (i : Nat) : PyData := match d with
  | .tuple ds => ds.getD i .none
  | _ => .none
def isIntD (d : PyData) : Bool := intB d && !boolB d
def geD (d : PyData) : Bool := match d with
  | .int i => decide (0 ≤ i)
  | _ => false
def isNumD (d : PyData) : Bool := isIntD d && geD d
def lettersD : Str := "abcdefghijklmnopqrstuvwxyz"
def nameS (s : Str) : Bool := (decide (1 ≤ s.length) && decide (s.length ≤ 8)) && s.cps.toList.all fun n => decide (n ∈ lettersD.cps.toList)
def isNameD (d : PyData) : Bool := match d with
  | .str s => nameS s
  | _ => false
def isPairD (d : PyData) : Bool := match d with
  | .tuple ds => decide (ds.length = 2)
  | _ => false
def isCellD (d : PyData) : Bool := isPairD d && (isNameD (itemD d 0) && isNumD (itemD d 1))
def nzD (d : PyData) : Bool := match d with
  | .int i => decide (i ≠ 0)
  | _ => true
def isWtD (d : PyData) : Bool := isPairD d && (isCellD (itemD d 0) && (isIntD (itemD d 1) && nzD (itemD d 1)))
theorem int_of {d : PyData} (h : isIntD d = true) : ∃ i, d = .int i := by
  cases d with
  | int i => exact ⟨i, rfl⟩
  | bool b => cases h
  | none => cases h
  | str _ => cases h
  | list _ => cases h
  | tuple _ => cases h
  | dict _ => cases h
theorem pair_of {d : PyData} (h : isPairD d = true) : ∃ x y, d = .tuple [x, y] := by
  cases d with
  | tuple ds =>
    have e : ds.length = 2 := of_decide_eq_true h
    match ds, e with
    | [x, y], _ => exact ⟨x, y, rfl⟩
  | _ => cases h
theorem DH.int_inv {D : Addr} {H : Hp} {v : V} {i : Int} (h : DH D H v (.int i)) : v = .int i := by
  cases h
  rfl
theorem DH.str_inv {D : Addr} {H : Hp} {v : V} {s : Str} (h : DH D H v (.str s)) : v = .str s := by
  cases h
  rfl
theorem DH.tup_inv {D : Addr} {H : Hp} {v : V} {ds : List PyData} (h : DH D H v (.tuple ds)) : ∃ a xs, v = .ref a ∧ H a = some (.tup xs) ∧ DHs D H xs ds := by
  cases h with
  | tup e t => exact ⟨_, _, rfl, e, t⟩
theorem DH.pair_inv {D : Addr} {H : Hp} {v : V} {x y : PyData} (h : DH D H v (.tuple [x, y])) : ∃ a p q, v = .ref a ∧ H a = some (.tup [p, q]) ∧ DH D H p x ∧ DH D H q y := by
  obtain ⟨a, xs, rfl, e, t⟩ := h.tup_inv
  cases t with
  | cons h1 t =>
    cases t with
    | cons h2 t =>
      cases t
      exact ⟨a, _, _, rfl, e, h1, h2⟩
/-- a check of one value -/
def prKind (f : PyData → Bool) : Pr := fun vs H Q => ∃ (v : V) (d : PyData) (D : Addr), vs = [v] ∧ DH D H v d ∧ smallD d = true ∧ ∀ H', Same H H' → Q (.bl (f d)) H'
end AskG
/-! How long the text of data is. -/
namespace AskG
open PySem PySem.Spec PyProof.Rows L2
mutual
/-- whole numbers of at most eighty digits -/
def litD : PyData → Bool
  | .int i => decide (i.natAbs < 10 ^ 80)
  | .list ds => litDs ds
  | .tuple ds => litDs ds
  | .dict _ => false
  | _ => true
def litDs : List PyData → Bool
  | [] => true
  | d :: ds => litD d && litDs ds
end
mutual
def wtD : PyData → Nat
  | .none => 5
  | .bool _ => 5
  | .int _ => 81
  | .str s => 10 * s.length + 2
  | .list ds => wtDs ds + 2 * ds.length + 3
  | .tuple ds => wtDs ds + 2 * ds.length + 3
  | .dict _ => 0
def wtDs : List PyData → Nat
  | [] => 0
  | d :: ds => wtD d + wtDs ds
end
structure Told (d : PyData) : Prop where
  shw : d.showable = true
  nod : d.hasDict = false
  len : d.shown.length ≤ wtD d
structure Tolds (ds : List PyData) : Prop where
  shw : PyData.showableAll ds = true
  nod : PyData.hasDictAll ds = false
  len : ((PyData.shownAll ds).map (·.length)).sum ≤ wtDs ds
  cnt : (PyData.shownAll ds).length = ds.length
theorem told_int {i : Int} (h : i.natAbs < 10 ^ 80) : Told (.int i) := by
  have h2 : i.natAbs < 2 ^ 1900 := Nat.lt_trans h (by decide)
  have h3 : i.natAbs.log2 < 1920 := by
    by_cases z : i.natAbs = 0
    · rw [z]
      decide
    · have := (Nat.log2_lt z).mpr h2
      omega
  refine ⟨decide_eq_true h3, rfl, ?_⟩
  show (PySem.Str.ofString (toString i)).length ≤ 81
  rw [PySem.ofString_length]
  exact PySem.int_text_length_le10 (k := 80) (by decide) h
theorem told_str {s : Str} (h : PyData.strOk s = true) : Told (.str s) := by
  refine ⟨rfl, rfl, ?_⟩
  show (reprText s).length ≤ 10 * s.length + 2
  refine StrLaws.reprText_len s fun c hc => ?_
  have := Array.all_eq_true'.mp h c (Array.mem_toList_iff.mp hc)
  have := of_decide_eq_true this
  omega
mutual
theorem told : ∀ {d : PyData}, smallD d = true → litD d = true → Told d
  | .none, _, _ => ⟨rfl, rfl, by decide +kernel⟩
  | .bool true, _, _ => ⟨rfl, rfl, by decide +kernel⟩
  | .bool false, _, _ => ⟨rfl, rfl, by decide +kernel⟩
  | .int i, _, h => told_int (of_decide_eq_true h)
  | .str s, h, _ => told_str (small_strOk h)
  | .list ds, h, g => by
    have t := tolds (small_lst h).2 (show litDs ds = true from g)
    refine ⟨t.shw, t.nod, ?_⟩
    have := listText_len_le (PyData.shownAll ds)
    show (listText (PyData.shownAll ds)).length ≤ wtDs ds + 2 * ds.length + 3
    rw [t.cnt] at this
    have := t.len
    omega
  | .tuple ds, h, g => by
    have t := tolds (small_tup h).2 (show litDs ds = true from g)
    refine ⟨t.shw, t.nod, ?_⟩
    have := tupleText_len_le (PyData.shownAll ds)
    show (tupleText (PyData.shownAll ds)).length ≤ wtDs ds + 2 * ds.length + 3
    rw [t.cnt] at this
    have := t.len
    omega
  | .dict _, h, _ => by cases h
theorem tolds : ∀ {ds : List PyData}, smallDs ds = true → litDs ds = true → Tolds ds
  | [], _, _ => ⟨rfl, rfl, Nat.le_refl _, rfl⟩
  | d :: ds, h, g => by
    unfold smallDs at h
    unfold litDs at g
    rw [Bool.and_eq_true] at h g
    have a := told h.1 g.1
    have b := tolds h.2 g.2
    refine ⟨?_, ?_, ?_, ?_⟩
    · show (d.showable && PyData.showableAll ds) = true
      rw [a.shw, b.shw]
      rfl
    · show (d.hasDict || PyData.hasDictAll ds) = false
      rw [a.nod, b.nod]
      rfl
    · show ((d.shown :: PyData.shownAll ds).map (·.length)).sum ≤ wtD d + wtDs ds
      rw [List.map_cons, List.sum_cons]
      have := a.len
      have := b.len
      omega
    · show (d.shown :: PyData.shownAll ds).length = _
      rw [List.length_cons, List.length_cons, b.cnt]
end
theorem wtDs_app : ∀ xs ys : List PyData, wtDs (xs ++ ys) = wtDs xs + wtDs ys
  | [], ys => by
    show wtDs ys = 0 + wtDs ys
    omega
  | x :: xs, ys => by
    show wtD x + wtDs (xs ++ ys) = wtD x + wtDs xs + wtDs ys
    rw [wtDs_app xs ys]
    omega
/-- the text of data at a value -/
theorem repr_told {K : PySem.W.Frag} {D H a d} {Q : VK} (h : DH D H (.ref a) d) (s : smallD d = true) (l : litD d = true) (dep : d.depth ≤ 60) (w : wtD d ≤ 16777216) (q : Q (.str d.shown) H) : rRepr K [.ref a] H Q := by
  have t := told s l
  exact ⟨a, d, rfl, h.dp, t.shw, t.nod, dep, by rw [sizeLine_eq]; exact Nat.le_trans t.len w, q⟩
end AskG
/-! Measures of data: lengths, numbers, depth, weight; how they go with lists. -/
namespace AskG
open PySem PySem.Spec PyProof.Rows L2
/-- plain signs only -/
def ascS (s : Str) : Bool := s.cps.toList.all fun c => decide (c < 128)
theorem asc_ok {s : Str} (h : ascS s = true) : PyData.strOk s = true :=
  Array.all_eq_true'.mpr fun c hc => decide_eq_true (by
    have := of_decide_eq_true (List.all_eq_true.mp h c (Array.mem_toList_iff.mpr hc))
    omega)
theorem asc_app {s z : Str} (h : ascS s = true) (g : ascS z = true) : ascS (s ++ z) = true := by
  show ((s.cps ++ z.cps).toList.all fun c => decide (c < 128)) = true
  rw [Array.toList_append, List.all_append]
  exact Bool.and_eq_true_iff.mpr ⟨h, g⟩
theorem asc_sub {s z : Str} (h : ascS s = true) (g : ∀ c ∈ z.cps.toList, c ∈ s.cps.toList) : ascS z = true :=
  List.all_eq_true.mpr fun c hc => List.all_eq_true.mp h c (g c hc)
mutual
/-- strings of plain signs, no dicts -/
def okS : PyData → Bool
  | .str s => ascS s
  | .list ds => okSs ds
  | .tuple ds => okSs ds
  | .dict _ => false
  | _ => true
def okSs : List PyData → Bool
  | [] => true
  | d :: ds => okS d && okSs ds
end
mutual
/-- the greatest length of a string, a list, a tuple in it -/
def bigD : PyData → Nat
  | .str s => s.length
  | .list ds => max ds.length (bigDs ds)
  | .tuple ds => max ds.length (bigDs ds)
  | _ => 0
def bigDs : List PyData → Nat
  | [] => 0
  | d :: ds => max (bigD d) (bigDs ds)
end
mutual
/-- the greatest whole number in it, without sign -/
def topD : PyData → Nat
  | .int i => i.natAbs
  | .list ds => topDs ds
  | .tuple ds => topDs ds
  | _ => 0
def topDs : List PyData → Nat
  | [] => 0
  | d :: ds => max (topD d) (topDs ds)
end
mutual
theorem small_by : ∀ {d : PyData}, okS d = true → bigD d ≤ 1000 → smallD d = true
  | .none, _, _ => rfl
  | .bool _, _, _ => rfl
  | .int _, _, _ => rfl
  | .str s, h, g => by
    have h : PyData.strOk s = true := asc_ok h
    have g : s.length ≤ 1000 := g
    unfold smallD
    rw [decide_eq_true g, h]
    rfl
  | .list ds, h, g => by
    have g : max ds.length (bigDs ds) ≤ 1000 := g
    unfold smallD
    rw [decide_eq_true (by omega), smalls_by (ds := ds) h (by omega)]
    rfl
  | .tuple ds, h, g => by
    have g : max ds.length (bigDs ds) ≤ 1000 := g
    unfold smallD
    rw [decide_eq_true (by omega), smalls_by (ds := ds) h (by omega)]
    rfl
  | .dict _, h, _ => by cases h
theorem smalls_by : ∀ {ds : List PyData}, okSs ds = true → bigDs ds ≤ 1000 → smallDs ds = true
  | [], _, _ => rfl
  | d :: ds, h, g => by
    unfold okSs at h
    rw [Bool.and_eq_true] at h
    have g : max (bigD d) (bigDs ds) ≤ 1000 := g
    unfold smallDs
    rw [small_by h.1 (by omega), smalls_by h.2 (by omega)]
    rfl
end
mutual
theorem lit_by : ∀ {d : PyData}, okS d = true → topD d < 10 ^ 80 → litD d = true
  | .none, _, _ => rfl
  | .bool _, _, _ => rfl
  | .int _, _, g => decide_eq_true g
  | .str _, _, _ => rfl
  | .list ds, h, g => lits_by (ds := ds) h g
  | .tuple ds, h, g => lits_by (ds := ds) h g
  | .dict _, h, _ => by cases h
theorem lits_by : ∀ {ds : List PyData}, okSs ds = true → topDs ds < 10 ^ 80 → litDs ds = true
  | [], _, _ => rfl
  | d :: ds, h, g => by
    unfold okSs at h
    rw [Bool.and_eq_true] at h
    have g : max (topD d) (topDs ds) < 10 ^ 80 := g
    unfold litDs
    rw [lit_by h.1 (by omega), lits_by h.2 (by omega)]
    rfl
end
/-- measures of a list's items, all at once -/
structure All (b t k n : Nat) (ds : List PyData) : Prop where
  ok : okSs ds = true
  big : bigDs ds ≤ b
  top : topDs ds ≤ t
  dep : PyData.depthAll ds ≤ k
  wt : wtDs ds ≤ n
structure Of (b t k n : Nat) (d : PyData) : Prop where
  ok : okS d = true
  big : bigD d ≤ b
  top : topD d ≤ t
  dep : d.depth ≤ k
  wt : wtD d ≤ n
theorem All.nil {b t k n : Nat} : All b t k n [] := ⟨rfl, Nat.zero_le _, Nat.zero_le _, Nat.zero_le _, Nat.zero_le _⟩
theorem All.cons {b t k n m : Nat} {d : PyData} {ds : List PyData} (h : Of b t k m d) (g : All b t k n ds) : All b t k (m + n) (d :: ds) := by
  refine ⟨?_, ?_, ?_, ?_, ?_⟩
  · unfold okSs
    rw [h.ok, g.ok]
    rfl
  · show max (bigD d) (bigDs ds) ≤ b
    exact Nat.max_le.mpr ⟨h.big, g.big⟩
  · show max (topD d) (topDs ds) ≤ t
    exact Nat.max_le.mpr ⟨h.top, g.top⟩
  · show max d.depth (PyData.depthAll ds) ≤ k
    exact Nat.max_le.mpr ⟨h.dep, g.dep⟩
  · show wtD d + wtDs ds ≤ m + n
    have := h.wt
    have := g.wt
    omega
theorem All.head {b t k n : Nat} {d : PyData} {ds : List PyData} (h : All b t k n (d :: ds)) : Of b t k n d := by
  have h1 := h.ok
  unfold okSs at h1
  rw [Bool.and_eq_true] at h1
  have h2 : max (bigD d) (bigDs ds) ≤ b := h.big
  have h3 : max (topD d) (topDs ds) ≤ t := h.top
  have h4 : max d.depth (PyData.depthAll ds) ≤ k := h.dep
  have h5 : wtD d + wtDs ds ≤ n := h.wt
  exact ⟨h1.1, by omega, by omega, by omega, by omega⟩
theorem All.tail {b t k n : Nat} {d : PyData} {ds : List PyData} (h : All b t k n (d :: ds)) : All b t k n ds := by
  have h1 := h.ok
  unfold okSs at h1
  rw [Bool.and_eq_true] at h1
  have h2 : max (bigD d) (bigDs ds) ≤ b := h.big
  have h3 : max (topD d) (topDs ds) ≤ t := h.top
  have h4 : max d.depth (PyData.depthAll ds) ≤ k := h.dep
  have h5 : wtD d + wtDs ds ≤ n := h.wt
  exact ⟨h1.2, by omega, by omega, by omega, by omega⟩
theorem All.mono {b t k n b' t' k' n' : Nat} {ds : List PyData} (h : All b t k n ds) (hb : b ≤ b') (ht : t ≤ t') (hk : k ≤ k') (hn : n ≤ n') : All b' t' k' n' ds :=
  ⟨h.ok, Nat.le_trans h.big hb, Nat.le_trans h.top ht, Nat.le_trans h.dep hk, Nat.le_trans h.wt hn⟩
theorem Of.mono {b t k n b' t' k' n' : Nat} {d : PyData} (h : Of b t k n d) (hb : b ≤ b') (ht : t ≤ t') (hk : k ≤ k') (hn : n ≤ n') : Of b' t' k' n' d :=
  ⟨h.ok, Nat.le_trans h.big hb, Nat.le_trans h.top ht, Nat.le_trans h.dep hk, Nat.le_trans h.wt hn⟩
theorem All.app {b t k : Nat} : ∀ {xs ys : List PyData} {n m : Nat}, All b t k n xs → All b t k m ys → All b t k (n + m) (xs ++ ys)
  | [], ys, n, m, _, g => g.mono (Nat.le_refl _) (Nat.le_refl _) (Nat.le_refl _) (by omega)
  | x :: xs, ys, n, m, h, g => by
    have w : wtD x + wtDs xs ≤ n := h.wt
    have hx : Of b t k (wtD x) x := ⟨h.head.ok, h.head.big, h.head.top, h.head.dep, Nat.le_refl _⟩
    have hxs : All b t k (wtDs xs) xs := ⟨h.tail.ok, h.tail.big, h.tail.top, h.tail.dep, Nat.le_refl _⟩
    exact (All.cons hx (All.app hxs g)).mono (Nat.le_refl _) (Nat.le_refl _) (Nat.le_refl _) (by omega)
theorem All.drop {b t k n : Nat} : ∀ {ds : List PyData} (i : Nat), All b t k n ds → All b t k n (ds.drop i)
  | _, 0, h => h
  | [], _ + 1, _ => .nil
  | _ :: _, i + 1, h => All.drop i h.tail
theorem All.take {b t k : Nat} : ∀ {ds : List PyData} {n : Nat} (i : Nat), All b t k n ds → All b t k n (ds.take i)
  | _, _, 0, _ => .nil
  | [], _, _ + 1, _ => .nil
  | x :: ds, n, i + 1, h => by
    have w : wtD x + wtDs ds ≤ n := h.wt
    have hx : Of b t k (wtD x) x := ⟨h.head.ok, h.head.big, h.head.top, h.head.dep, Nat.le_refl _⟩
    have hxs : All b t k (wtDs ds) ds := ⟨h.tail.ok, h.tail.big, h.tail.top, h.tail.dep, Nat.le_refl _⟩
    exact (All.cons hx (All.take i hxs)).mono (Nat.le_refl _) (Nat.le_refl _) (Nat.le_refl _) w
theorem All.rev {b t k : Nat} : ∀ {ds : List PyData} {n : Nat}, All b t k n ds → All b t k n ds.reverse
  | [], _, h => .nil
  | x :: ds, n, h => by
    have w : wtD x + wtDs ds ≤ n := h.wt
    have hx : Of b t k (wtD x) x := ⟨h.head.ok, h.head.big, h.head.top, h.head.dep, Nat.le_refl _⟩
    have hxs : All b t k (wtDs ds) ds := ⟨h.tail.ok, h.tail.big, h.tail.top, h.tail.dep, Nat.le_refl _⟩
    rw [List.reverse_cons]
    exact (All.app (All.rev hxs) (All.cons hx (All.nil (n := 0)))).mono (Nat.le_refl _) (Nat.le_refl _) (Nat.le_refl _) (by omega)
theorem All.at {b t k n : Nat} : ∀ {ds : List PyData} {i : Nat} {d : PyData}, All b t k n ds → ds[i]? = some d → Of b t k n d
  | [], i, _, _, e => by cases i <;> cases e
  | x :: ds, 0, _, h, e => by
    cases e
    exact h.head
  | x :: ds, i + 1, _, h, e => All.at h.tail e
theorem Of.tup {b t k n : Nat} {ds : List PyData} (h : All b t k n ds) (hl : ds.length ≤ b) : Of b t (k + 1) (n + 2 * ds.length + 3) (.tuple ds) :=
  ⟨h.ok, Nat.max_le.mpr ⟨hl, h.big⟩, h.top, Nat.succ_le_succ h.dep, by
    show wtDs ds + 2 * ds.length + 3 ≤ _
    have := h.wt
    omega⟩
theorem Of.lst {b t k n : Nat} {ds : List PyData} (h : All b t k n ds) (hl : ds.length ≤ b) : Of b t (k + 1) (n + 2 * ds.length + 3) (.list ds) :=
  ⟨h.ok, Nat.max_le.mpr ⟨hl, h.big⟩, h.top, Nat.succ_le_succ h.dep, by
    show wtDs ds + 2 * ds.length + 3 ≤ _
    have := h.wt
    omega⟩
theorem Of.items {b t k n : Nat} {ds : List PyData} (h : Of b t (k + 1) n (.tuple ds)) : All b t k n ds ∧ ds.length ≤ b ∧ wtDs ds + 2 * ds.length + 3 ≤ n := by
  have h2 : max ds.length (bigDs ds) ≤ b := h.big
  have h5 : wtDs ds + 2 * ds.length + 3 ≤ n := h.wt
  exact ⟨⟨h.ok, by omega, h.top, Nat.le_of_succ_le_succ h.dep, by omega⟩, by omega, h5⟩
theorem Of.small {b t k n : Nat} {d : PyData} (h : Of b t k n d) (hb : b ≤ 1000) : smallD d = true := small_by h.ok (Nat.le_trans h.big hb)
theorem Of.lit {b t k n : Nat} {d : PyData} (h : Of b t k n d) (ht : t < 10 ^ 80) : litD d = true := lit_by h.ok (Nat.lt_of_le_of_lt h.top ht)
end AskG
/-! t[::-1] of a tuple. -/
namespace AskG
open PySem PySem.Spec PyProof.Rows L2 HT
section
variable {prog : Program} {w : World} {A : Around} {E : Value → Shared → Prop} {s : Shared}
theorem adjust_rev (n : Nat) : Builtin.Slice.sliceAdjust none none (-1) (n : Int) = ((n : Int) - 1, -1) := rfl
theorem places_rev (n : Nat) : Builtin.Slice.slicePlaces ((n : Int) - 1) (-1) (-1) = n := by
  unfold Builtin.Slice.slicePlaces
  by_cases h : n = 0
  · subst h
    rfl
  · simp
    try omega
theorem sliceApplied_rev {sl : Addr} {vs : Value} {n : Nat} {Q : Int × Int × Nat → Shared → Prop} (hs : s.heap.IsSliceOf sl .none .none vs) (ps : IsPart vs (some (-1)))
    (h : Q ((n : Int) - 1, -1, n) s) : wpAny (model prog w) A (Builtin.Slice.sliceApplied (.ref sl) (pure (n : Int))) Q E s := by
  obtain ⟨os, hos, hcs, hds⟩ := id hs
  unfold Builtin.Slice.sliceApplied Builtin.Slice.sliceFields
  refine wpAny_bind (wpAny_bind (wpAny_field hos hds (x := .none) rfl (wpAny_bind (wpAny_field hos hds (x := .none) rfl (wpAny_bind (wpAny_field hos hds (x := vs) rfl (wpAny_pure ?_)))))))
  refine wpAny_bind (slicePart_ ps ?_)
  show wpAny _ _ (if ((-1 : Int) == 0) = true then _ else _) _ _ s
  rw [if_neg (by decide)]
  refine wpAny_bind (slicePart_none (wpAny_bind (slicePart_none (wpAny_bind (wpAny_pure ?_)))))
  show wpAny _ _ (match Builtin.Slice.sliceAdjust none none (-1) (n : Int) with | (lo, hi) => pure (lo, (-1 : Int), Builtin.Slice.slicePlaces lo hi (-1))) _ _ s
  rw [adjust_rev]
  show wpAny _ _ (pure ((n : Int) - 1, (-1 : Int), Builtin.Slice.slicePlaces ((n : Int) - 1) (-1) (-1))) _ _ s
  rw [places_rev]
  exact wpAny_pure h
theorem fm_congr {α β : Type} {f g : α → Option β} : ∀ {l : List α}, (∀ m ∈ l, f m = g m) → l.filterMap f = l.filterMap g
  | [], _ => rfl
  | x :: l, h => by
    rw [List.filterMap_cons, List.filterMap_cons, h x List.mem_cons_self, fm_congr fun m hm => h m (List.mem_cons_of_mem _ hm)]
theorem pick_rev (xs : Array Value) : ((List.range xs.size).filterMap fun (m : Nat) => xs[(((xs.size : Int) - 1) + (m : Int) * (-1)).toNat]?).toArray = xs.toList.reverse.toArray := by
  have g := pick_gen xs.toList.reverse.toArray 0 xs.size
  have e : ((xs.toList.reverse.toArray.toList.drop 0).take xs.size) = xs.toList.reverse := by
    show (xs.toList.reverse.drop 0).take xs.size = xs.toList.reverse
    rw [List.drop_zero]
    exact List.take_of_length_le (by rw [List.length_reverse, Array.length_toList]; exact Nat.le_refl _)
  rw [e] at g
  rw [← g]
  congr 1
  refine fm_congr fun m hm => ?_
  have hm' := List.mem_range.mp hm
  have e1 : (((xs.size : Int) - 1) + (m : Int) * (-1)).toNat = xs.size - 1 - m := by omega
  have e2 : (((0 : Nat) : Int) + (m : Int) * 1).toNat = m := by omega
  rw [e1, e2]
  show xs[xs.size - 1 - m]? = xs.toList.reverse.toArray[m]?
  have r : xs.toList.reverse.toArray[m]? = xs.toList.reverse[m]? := by simp
  rw [r, List.getElem?_reverse (by rw [Array.length_toList]; exact hm'), Array.length_toList, Array.getElem?_toList]
theorem getItem_tuple_rev {t sl : Addr} {items : Array Value} {vs : Value} {Q : Value → Shared → Prop} (ht : IsTup s.heap t items) (hs : s.heap.IsSliceOf sl .none .none vs) (ps : IsPart vs (some (-1)))
    (h : Q (.ref s.heap.objs.size) { s with heap := s.heap.push { cls := .type "tuple", data := .seq items.toList.reverse.toArray } })
    (hsz : items.size ≤ sizeLine) : wpAny (model prog w) A (getItem (.ref t) (.ref sl)) Q E s := by
  have htake : sizeOk (.seq items.toList.reverse.toArray) := by
    show items.toList.reverse.toArray.size ≤ sizeLine
    rw [List.size_toArray, List.length_reverse, Array.length_toList]
    exact hsz
  obtain ⟨os, hos, hcs, hds⟩ := id hs
  have hTs : s.TypeIs (.ref sl) "slice" := ⟨os, hos, hcs⟩
  unfold getItem
  try with_reducible refine wpAny_holding ?_
  try refine wpAny_bind (wpAny_pure ?_)
  refine wpAny_bind (wpAny_sequenceKey ht.typeIs (by decide) (wpAny_bind (wpAny_callSpecial?_slot (name := Str.ofString "__getitem__") ht.typeIs PyProof.Rows.slot_tuple_getitem (wpAny_call_entry PyProof.Rows.slot_tuple_getitem ht.typeIs entry_tuple_getitem ?_ (args_tuple_getitem _ _)))))
  change wpAny _ _ (Builtin.Tuple.tupleItemsOf (.ref t) >>= _) _ _ s
  refine wpAny_bind (tupleItemsOf_ ht (wpAny_bind (wpAny_typeOf hTs ?_)))
  rw [if_pos (by decide)]
  refine wpAny_bind (sliceApplied_rev hs ps ?_)
  have hno : ¬ ((((items.size : Int) - 1) == 0 && (-1 : Int) == 1 && items.size == items.size) = true) := by
    intro q
    rw [Bool.and_eq_true, Bool.and_eq_true] at q
    exact absurd q.1.2 (by decide)
  show wpAny _ _ (if ((((items.size : Int) - 1) == 0 && (-1 : Int) == 1 && items.size == items.size) = true) then _ else _) _ _ s
  rw [if_neg hno, pick_rev]
  have fin : ∀ (B : Around) (R : Value → Shared → Prop), (R (.ref s.heap.objs.size) { s with heap := s.heap.push { cls := .type "tuple", data := .seq items.toList.reverse.toArray } }) → wpAny (model prog w) B (Builtin.Tuple.tupleExact items.toList.reverse.toArray) R E s := fun B R hR => wpAny_newObj_type hR htake
  first
    | exact wpAny_bind (fin _ _ (wpAny_pure ⟨_, rfl, wpAny_pure h⟩))
    | exact wpAny_bind (wpAny_bind (fin _ _ (wpAny_pure (wpAny_pure ⟨_, rfl, wpAny_pure h⟩))))
    | exact wpAny_bind (wpAny_bind (fin _ _ (wpAny_pure ⟨_, rfl, wpAny_pure h⟩)))
    | exact wpAny_bind (fin _ _ (wpAny_bind (wpAny_pure (wpAny_pure ⟨_, rfl, wpAny_pure h⟩))))
end
/-- t[::-1] -/
def tRevT (K : PySem.W.Frag) (te : TE) : TE := fun σ H Q => te σ H fun x H1 => ∃ a xs, x = .ref a ∧ SqT K H1 a xs ∧ ∀ p, H1 p = none → Q (.ref p) (upd H1 p (.tup xs.reverse))
section
variable {X : Cx}
theorem pe_revT {e : Expr} {te : TE} {k : Nat} {p1 p2 p3 pos : Pos} (he : PE X e te) : PE X (.Subscript e (.Slice none none (some (.UnaryOp .USub (.Constant (.int 1) k p1) p2)) p3) pos) (tRevT X.K te) := by
  constructor
  intro pins s σ H Q I h
  have st : PO X (some (.UnaryOp .USub (.Constant (.int 1) k p1) p2)) (tPart (tUn (rU fun i => .int (-i)) (tC (.int 1)))) := po_some (pe_un un_neg pe_int)
  refine Subscript_ (thn (he.run pins s σ H _ I h) ?_)
  rintro v s1 ⟨x, H1, I1, r1, a, xs, rfl, hx, q⟩
  cases r1
  refine wpAny_Slice (thn (po_none.run pins s1 σ H1 (fun o G => o = none ∧ G = H1) I1 ⟨rfl, rfl⟩) ?_)
  rintro vl s2 ⟨_, _, I2, pl, rfl, rfl⟩
  refine thn (po_none.run pins s2 σ _ (fun o G => o = none ∧ G = _) I2 ⟨rfl, rfl⟩) ?_
  rintro vu s3 ⟨_, _, I3, pu, rfl, rfl⟩
  refine thn (st.run pins s3 σ _ (fun o G => o = some (-1) ∧ G = _) I3 ⟨1, rfl, -1, rfl, rfl, rfl⟩) ?_
  rintro vs s4 ⟨_, G, I4, ps, rfl, rfl⟩
  cases pl
  cases pu
  have I5 : Inv X pins σ G { s4 with heap := s4.heap.push { cls := .type "slice", data := .fields #[.none, .none, vs] } } := I4.kept (t' := s4.toks) fun _ _ z => Heap.get?_push_of_some _ z
  obtain ⟨its, r, ht, hz⟩ := I5.tuple hx
  have hl : its.toArray.size = xs.length := by rw [List.size_toArray]; exact r.length.symm
  change wpAny (model X.prog X.w) X.A (subscriptTail e _ (.ref a) (.ref s4.heap.objs.size)) (EP X pins σ Q) X.xe _
  refine tail_any (ops := [.ref a, .ref s4.heap.objs.size]) ht.typeIs (PyProof.Rows.slot_tuple_getitem.lookup) (getItem_tuple_rev ht (Heap.IsSliceOf.new _ _ _ _) ps ?_ (by rw [hl]; exact hz)) (by with_unfolding_all rfl)
  refine ⟨.ref _, _, I5.laid (t' := s4.toks) (o := .tup xs.reverse) (fun _ _ z => Heap.get?_push_of_some _ z) (Nat.le_refl _) ⟨by rw [List.length_reverse]; exact hz, _, r.reverse, IsTup.new _ _⟩, rfl, q _ (I5.hok.fresh (Nat.le_refl _))⟩
end
end AskG
/-! Displays of data: what is written down is new, and taken addresses are no part of it. -/
namespace AskG
open PySem PySem.Spec PyProof.Rows L2
abbrev Taken (H : Hp) (D : Addr) : Prop := ∃ o, H D = some o
theorem Taken.keep {H H' : Hp} {D : Addr} (h : Taken H D) (s : Same H H') : Taken H' D := by
  obtain ⟨o, e⟩ := h
  exact ⟨o, s _ _ e⟩
/-- an expression whose value is the data d, made anew -/
def tNew (d : PyData) : TE := fun _ H Q => ∀ H' v, Same H H' → (∀ D, Taken H D → DH D H' v d) → Q v H'
def tNews (ds : List PyData) : TA := fun _ H Q => ∀ H' vs, Same H H' → (∀ D, Taken H D → DHs D H' vs ds) → vs.length = ds.length → Q vs H'
section
variable {X : Cx} {e : Expr} {es : List Expr} {t t' : TE} {d : PyData} {ds : List PyData}
theorem PE.less (h : PE X e t) (m : ∀ σ H Q, t' σ H Q → t σ H Q) : PE X e t' := ⟨fun pins s σ H Q I q => h.run pins s σ H Q I (m σ H Q q)⟩
theorem new_non (h : PE X e (tC .non)) : PE X e (tNew .none) := PE.less h fun _ H _ q => q H _ (Same.refl _) fun _ _ => .non
theorem new_bl {b : Bool} (h : PE X e (tC (.bl b))) : PE X e (tNew (.bool b)) := PE.less h fun _ H _ q => q H _ (Same.refl _) fun _ _ => .bl b
theorem new_int {i : Int} (h : PE X e (tC (.int i))) : PE X e (tNew (.int i)) := PE.less h fun _ H _ q => q H _ (Same.refl _) fun _ _ => .int i
theorem new_str {x : Str} (h : PE X e (tC (.str x))) : PE X e (tNew (.str x)) := PE.less h fun _ H _ q => q H _ (Same.refl _) fun _ _ => .str x
theorem news_nil : PA X [] (tNews []) := ⟨fun pos pins s σ H Q I q => (pa_nil (X := X)).run pos pins s σ H Q I (q H [] (Same.refl _) (fun _ _ => .nil) rfl)⟩
theorem news_cons (h : PE X e (tNew d)) (g : PA X es (tNews ds)) (hs : starEach (e :: es) X.env = (false, eval e X.env) :: starEach es X.env := by rfl) : PA X (e :: es) (tNews (d :: ds)) := by
  refine ⟨fun pos pins s σ H Q I q => (pa_cons h g hs).run pos pins s σ H Q I fun H1 v s1 h1 => ?_⟩
  intro H2 vs s2 h2 l2
  refine q H2 (v :: vs) (s1.trans s2) (fun D hD => ?_) (by rw [List.length_cons, List.length_cons, l2])
  exact .cons ((h1 D hD).keep (KeepD.of s2)) (h2 D (hD.keep s1))
theorem new_tup {x1} {pos : Pos} (h : PA X es (tNews ds)) (hz : ds.length ≤ 1000) : PE X (.Tuple es x1 pos) (tNew (.tuple ds)) := by
  refine PE.less (pe_tup h) fun σ H Q q => ?_
  intro H1 vs s1 h1 l1
  refine ⟨by have := sizeBig; omega, fun p hp => ?_⟩
  have s2 := same_new (o := .tup vs) hp
  exact q _ _ (s1.trans s2) fun D hD => .tup upd_same ((h1 D hD).keep (KeepD.of s2))
theorem new_lst {pos : Pos} (h : PA X es (tNews ds)) (hz : ds.length ≤ 1000) : PE X (.List es pos) (tNew (.list ds)) := by
  refine PE.less (pe_lst h) fun σ H Q q => ?_
  intro H1 vs s1 h1 l1
  refine ⟨by have := sizeBig; omega, fun p hp => ?_⟩
  have s2 := same_new (o := .lst vs) hp
  refine q _ _ (s1.trans s2) fun D hD => .lst (fun z => ?_) upd_same ((h1 D hD).keep (KeepD.of s2))
  obtain ⟨o, ho⟩ := hD.keep s1
  rw [z, ho] at hp
  cases hp
end
end AskG
/-! Whole numbers and bools together. -/
namespace AskG
open PySem PySem.Spec PyProof.Rows L2
section
variable {X : Cx}
def b1 (k : Bool) : Int := if k = true then 1 else 0
theorem op_add_bi : OpR X (binaryOp .Add) (fun x y H Q => ∃ k i, x = .bl k ∧ y = .int i ∧ Q (.int (b1 k + i)) H) := by
  rintro pins s σ H x y v u Q I rx ry ⟨k, i, rfl, rfl, q⟩
  cases rx
  obtain ⟨t, rfl⟩ := ry
  exact PySem.IntBool.add_bool_int ⟨.int (b1 k + i), H, I.tok _, ⟨_, rfl⟩, q⟩
theorem op_sub_bi : OpR X (binaryOp .Sub) (fun x y H Q => ∃ k i, x = .bl k ∧ y = .int i ∧ Q (.int (b1 k - i)) H) := by
  rintro pins s σ H x y v u Q I rx ry ⟨k, i, rfl, rfl, q⟩
  cases rx
  obtain ⟨t, rfl⟩ := ry
  exact PySem.IntBool.sub_bool_int ⟨.int (b1 k - i), H, I.tok _, ⟨_, rfl⟩, q⟩
theorem op_sub_ib : OpR X (binaryOp .Sub) (fun x y H Q => ∃ i k, x = .int i ∧ y = .bl k ∧ Q (.int (i - b1 k)) H) := by
  rintro pins s σ H x y v u Q I rx ry ⟨i, k, rfl, rfl, q⟩
  obtain ⟨t, rfl⟩ := rx
  cases ry
  exact PySem.IntBool.sub_int_bool ⟨.int (i - b1 k), H, I.tok _, ⟨_, rfl⟩, q⟩
theorem op_eq_bi : OpR X (compareOp .Eq) (fun x y H Q => ∃ k i, x = .bl k ∧ y = .int i ∧ Q (.bl (b1 k == i)) H) := by
  rintro pins s σ H x y v u Q I rx ry ⟨k, i, rfl, rfl, q⟩
  cases rx
  obtain ⟨t, rfl⟩ := ry
  exact PySem.EqBoolInt.eq_bool_int ⟨.bl (b1 k == i), H, I, rfl, q⟩
theorem call_str_bl : CallR X (.type "str") (fun xs H Q => ∃ k : Bool, xs = [.bl k] ∧ Q (.str (if k then "True" else "False")) H) := by
  rintro pins s σ H xs us Q I r ⟨k, rfl, q⟩
  obtain ⟨u, rfl, t⟩ := vals1 r
  cases t
  exact PySem.P.str_of_bool ⟨.str (if k then "True" else "False"), H, I.tok _, ⟨_, rfl⟩, q⟩
end
end AskG
/-! Values made from one value that a name holds; what the bent values of data are. -/
namespace AskG
open PySem PySem.Spec PyProof.Rows L2
/-- the name in slot i holds the data d -/
def Src (i : Nat) (D : Addr) (d : PyData) (σ : L2.St) (H : Hp) : Prop := (∃ v, σ[i]? = some (some v) ∧ DH D H v d) ∧ Taken H D
theorem Src.keep {i : Nat} {D : Addr} {d : PyData} {σ : L2.St} {H H' : Hp} (h : Src i D d σ H) (s : Same H H') : Src i D d σ H' := by
  obtain ⟨⟨v, hv, hd⟩, t⟩ := h
  exact ⟨⟨v, hv, hd.keep (KeepD.of s)⟩, t.keep s⟩
def tFrom (i : Nat) (D : Addr) (d0 d : PyData) : TE := fun σ H Q => Src i D d0 σ H ∧ ∀ H' v, Same H H' → DH D H' v d → Q v H'
def tFroms (i : Nat) (D : Addr) (d0 : PyData) (ds : List PyData) : TA := fun σ H Q => Src i D d0 σ H ∧ ∀ H' vs, Same H H' → DHs D H' vs ds → Q vs H'
section
variable {X : Cx} {e : Expr} {es : List Expr} {i : Nat} {D : Addr} {d0 d : PyData} {ds : List PyData}
theorem from_nil : PA X [] (tFroms i D d0 []) := ⟨fun pos pins s σ H Q I q => (pa_nil (X := X)).run pos pins s σ H Q I (q.2 H [] (Same.refl _) .nil)⟩
theorem from_cons (h : PE X e (tFrom i D d0 d)) (g : PA X es (tFroms i D d0 ds)) (hs : starEach (e :: es) X.env = (false, eval e X.env) :: starEach es X.env := by rfl) : PA X (e :: es) (tFroms i D d0 (d :: ds)) := by
  refine ⟨fun pos pins s σ H Q I q => (pa_cons h g hs).run pos pins s σ H Q I ⟨q.1, fun H1 v s1 h1 => ⟨q.1.keep s1, fun H2 vs s2 h2 => ?_⟩⟩⟩
  exact q.2 H2 (v :: vs) (s1.trans s2) (.cons (h1.keep (KeepD.of s2)) h2)
theorem from_new (h : PE X e (tNew d)) : PE X e (tFrom i D d0 d) := PE.less h fun σ H Q q H' v s n => q.2 H' v s (n D q.1.2)
theorem from_var (h : PE X e (tVar i)) : PE X e (tFrom i D d d) := PE.less h fun σ H Q q => by
  obtain ⟨⟨⟨v, hv, hd⟩, _⟩, q⟩ := q
  exact ⟨v, hv, q H v (Same.refl _) hd⟩
theorem from_tup {x1} {pos : Pos} (h : PA X es (tFroms i D d0 ds)) (hz : ds.length ≤ 1000) : PE X (.Tuple es x1 pos) (tFrom i D d0 (.tuple ds)) := by
  refine PE.less (pe_tup h) fun σ H Q q => ?_
  refine ⟨q.1, fun H1 vs s1 h1 => ⟨by have := sizeBig; have := h1.len; omega, fun p hp => ?_⟩⟩
  have s2 := same_new (o := .tup vs) hp
  exact q.2 _ _ (s1.trans s2) (.tup upd_same (h1.keep (KeepD.of s2)))
theorem from_lst {pos : Pos} (h : PA X es (tFroms i D d0 ds)) (hz : ds.length ≤ 1000) : PE X (.List es pos) (tFrom i D d0 (.list ds)) := by
  refine PE.less (pe_lst h) fun σ H Q q => ?_
  refine ⟨q.1, fun H1 vs s1 h1 => ⟨by have := sizeBig; have := h1.len; omega, fun p hp => ?_⟩⟩
  have s2 := same_new (o := .lst vs) hp
  refine q.2 _ _ (s1.trans s2) (.lst (fun z => ?_) upd_same (h1.keep (KeepD.of s2)))
  obtain ⟨o, ho⟩ := q.1.2.keep s1
  rw [z, ho] at hp
  cases hp
end
/-! ### tuples -/
def cutD (ds : List PyData) (lo hi : Option Int) : List PyData := (ds.drop (HT.sIx ds.length 0 lo)).take (HT.sIx ds.length ds.length hi - HT.sIx ds.length 0 lo)
theorem DHs.drop {D : Addr} {H : Hp} : ∀ {vs : List V} {ds : List PyData} (i : Nat), DHs D H vs ds → DHs D H (vs.drop i) (ds.drop i)
  | _, _, 0, h => h
  | _, _, _ + 1, .nil => .nil
  | _, _, i + 1, .cons _ t => DHs.drop i t
theorem DHs.take {D : Addr} {H : Hp} : ∀ {vs : List V} {ds : List PyData} (i : Nat), DHs D H vs ds → DHs D H (vs.take i) (ds.take i)
  | _, _, 0, _ => .nil
  | _, _, _ + 1, .nil => .nil
  | _, _, i + 1, .cons h t => .cons h (DHs.take i t)
theorem DHs.rev {D : Addr} {H : Hp} : ∀ {vs : List V} {ds : List PyData}, DHs D H vs ds → DHs D H vs.reverse ds.reverse
  | _, _, .nil => .nil
  | _, _, .cons h t => by
    rw [List.reverse_cons, List.reverse_cons]
    exact DHs.app (DHs.rev t) (.cons h .nil)
theorem DHs.cut {D : Addr} {H : Hp} {vs : List V} {ds : List PyData} (h : DHs D H vs ds) (lo hi : Option Int) : DHs D H (cutV vs lo hi) (cutD ds lo hi) := by
  unfold cutV cutD
  rw [h.len]
  exact (h.drop _).take _
section
variable {K : PySem.W.Frag} {H : Hp} {D a b : Addr} {xs ys : List V} {ds es : List PyData} {Q : VK}
theorem sl_from {lo hi : Option Int} (ha : H a = some (.tup xs)) (hd : DHs D H xs ds) (q : ∀ H' v, Same H H' → DH D H' v (.tuple (cutD ds lo hi)) → Q v H') : rSlA K (.ref a) lo hi H Q := by
  have c := hd.cut lo hi
  refine ⟨a, xs, rfl, sqT ha, fun w => q H _ (Same.refl _) ?_, fun _ p hp => ?_⟩
  · have e : cutD ds lo hi = ds := by
      unfold cutD
      rw [← hd.len, w.1, w.2, List.drop_zero]
      exact List.take_of_length_le (by rw [hd.len]; omega)
    rw [e]
    exact .tup ha hd
  · have s2 := same_new (o := .tup (cutV xs lo hi)) hp
    exact q _ _ s2 (.tup upd_same (c.keep (KeepD.of s2)))
theorem sl_fromN {σ : L2.St} {lo : Option Int} (ha : H a = some (.tup xs)) (hd : DHs D H xs ds) (q : ∀ H' v, Same H H' → DH D H' v (.tuple (cutD ds lo none)) → Q v H') : tNoPart σ H fun u H3 => rSlA K (.ref a) lo u H3 Q := sl_from ha hd q
theorem cat_from (ha : H a = some (.tup xs)) (hd : DHs D H xs ds) (hb : H b = some (.tup ys)) (he : DHs D H ys es) (l1 : ds.length ≤ 1000) (l2 : es.length ≤ 1000)
    (q : ∀ H' v, Same H H' → DH D H' v (.tuple (ds ++ es)) → Q v H') : rCatA K (.ref a) (.ref b) H Q := by
  have big := sizeBig
  have c := hd.app he
  refine ⟨a, b, xs, ys, rfl, rfl, sqT ha, sqT hb, by rw [hd.len, he.len]; omega, fun e => ?_, fun _ e => ?_, fun _ _ p hp => ?_⟩
  · subst e
    cases hd
    exact q H _ (Same.refl _) (.tup hb he)
  · subst e
    cases he
    rw [List.append_nil] at q
    exact q H _ (Same.refl _) (.tup ha hd)
  · have s2 := same_new (o := .tup (xs ++ ys)) hp
    exact q _ _ s2 (.tup upd_same (c.keep (KeepD.of s2)))
end
theorem All.cut {b t k n : Nat} {ds : List PyData} (h : All b t k n ds) (lo hi : Option Int) : All b t k n (cutD ds lo hi) := All.take _ (All.drop _ h)
theorem cutD_len (ds : List PyData) (lo hi : Option Int) : (cutD ds lo hi).length ≤ ds.length := by
  unfold cutD
  rw [List.length_take, List.length_drop]
  omega
theorem cutD_pre (ds : List PyData) (n : Nat) (h : n ≤ ds.length) : cutD ds none (some (n : Int)) = ds.take n := by
  unfold cutD
  rw [HT.sIx_nat, HT.sIx_none, List.drop_zero, Nat.sub_zero, Nat.min_eq_left h]
theorem cutD_post (ds : List PyData) (n : Nat) (h : n ≤ ds.length) : cutD ds (some (n : Int)) none = ds.drop n := by
  unfold cutD
  rw [HT.sIx_nat, HT.sIx_none, Nat.min_eq_left h]
  exact List.take_of_length_le (by rw [List.length_drop]; exact Nat.le_refl _)
/-! ### strings -/
theorem asc_cut {s : Str} (h : ascS s = true) (lo hi : Option Int) : ascS (cutS s lo hi) = true := asc_sub h fun c hc => List.mem_of_mem_drop (List.mem_of_mem_take hc)
theorem cutS_len (s : Str) (lo hi : Option Int) : (cutS s lo hi).length ≤ s.length := by
  show ((s.cps.toList.drop _).take _).toArray.size ≤ s.cps.size
  rw [List.size_toArray, List.length_take, List.length_drop, Array.length_toList]
  omega
theorem up_one : ∀ c : Nat, c < 128 → ∀ x ∈ Unicode.upperOf c, x < 128 := by
  have h : ∀ c : Fin 128, ((Unicode.upperOf c.val).all fun x => decide (x < 128)) = true := by decide +kernel
  exact fun c hc x hx => of_decide_eq_true (List.all_eq_true.mp (h ⟨c, hc⟩) x hx)
theorem asc_upper {s : Str} (h : ascS s = true) : ascS (Txt.upper s) = true := by
  refine List.all_eq_true.mpr fun x hx => decide_eq_true ?_
  have hx : x ∈ (s.cps.mapIdx fun i c => (Unicode.upperOf c).toArray).flatten := Array.mem_toList_iff.mp hx
  obtain ⟨a, ha, hxa⟩ := Array.mem_flatten.mp hx
  obtain ⟨i, hi, e⟩ := Array.mem_mapIdx.mp ha
  subst e
  refine up_one _ ?_ x (by simpa using hxa)
  exact of_decide_eq_true (List.all_eq_true.mp h _ (Array.mem_toList_iff.mpr (Array.getElem_mem hi)))
theorem asc_int (i : Int) : ascS (toString i) = true := by
  refine List.all_eq_true.mpr fun c hc => decide_eq_true ?_
  refine Decidable.byContradiction fun z => ?_
  exact int_text_free' c ⟨by omega, by omega⟩ i hc
/-! ### how the measures of a bent value go -/
theorem Of.str {b t k n : Nat} {s : Str} (h : ascS s = true) (hb : s.length ≤ b) (hn : 10 * s.length + 2 ≤ n) : Of b t k n (.str s) := ⟨h, hb, Nat.zero_le _, Nat.zero_le _, hn⟩
theorem Of.int {b t k n : Nat} {i : Int} (ht : i.natAbs ≤ t) (hn : 81 ≤ n) : Of b t k n (.int i) := ⟨rfl, Nat.zero_le _, ht, Nat.zero_le _, hn⟩
theorem Of.bl {b t k n : Nat} {v : Bool} (hn : 5 ≤ n) : Of b t k n (.bool v) := ⟨rfl, Nat.zero_le _, Nat.zero_le _, Nat.zero_le _, hn⟩
theorem Of.non {b t k n : Nat} (hn : 5 ≤ n) : Of b t k n .none := ⟨rfl, Nat.zero_le _, Nat.zero_le _, Nat.zero_le _, hn⟩
theorem Of.exact {b t k n : Nat} {d : PyData} (h : Of b t k n d) : Of b t k (wtD d) d := ⟨h.ok, h.big, h.top, h.dep, Nat.le_refl _⟩
theorem All.exact {b t k n : Nat} {ds : List PyData} (h : All b t k n ds) : All b t k (wtDs ds) ds := ⟨h.ok, h.big, h.top, h.dep, Nat.le_refl _⟩
theorem str_len {b t k n : Nat} {s : Str} (h : Of b t k n (.str s)) : ascS s = true ∧ s.length ≤ b ∧ 10 * s.length + 2 ≤ n := ⟨h.ok, h.big, h.wt⟩
/-- the weights of what stands before, at and after a place -/
theorem wt_split : ∀ {ds : List PyData} {i : Nat} {d : PyData}, ds[i]? = some d → wtDs ds = wtDs (ds.take i) + wtD d + wtDs (ds.drop (i + 1))
  | [], i, _, e => by cases i <;> cases e
  | x :: ds, 0, _, e => by
    cases e
    show wtD x + wtDs ds = 0 + wtD x + wtDs ds
    omega
  | x :: ds, i + 1, _, e => by
    have := wt_split (ds := ds) (i := i) e
    show wtD x + wtDs ds = wtD x + wtDs (ds.take i) + wtD _ + wtDs (ds.drop (i + 1))
    omega
/-! ### what a name's data says of the value -/
section
variable {i : Nat} {D : Addr} {σ : L2.St} {H : Hp}
theorem src_str {s : Str} (h : Src i D (.str s) σ H) : σ[i]? = some (some (.str s)) := by
  obtain ⟨⟨v, hv, hd⟩, _⟩ := h
  obtain rfl := hd.str_inv
  exact hv
theorem src_int {j : Int} (h : Src i D (.int j) σ H) : σ[i]? = some (some (.int j)) := by
  obtain ⟨⟨v, hv, hd⟩, _⟩ := h
  obtain rfl := hd.int_inv
  exact hv
theorem src_bl {b : Bool} (h : Src i D (.bool b) σ H) : σ[i]? = some (some (.bl b)) := by
  obtain ⟨⟨v, hv, hd⟩, _⟩ := h
  cases hd
  exact hv
theorem src_tup {ds : List PyData} (h : Src i D (.tuple ds) σ H) : ∃ a xs, σ[i]? = some (some (.ref a)) ∧ H a = some (.tup xs) ∧ DHs D H xs ds := by
  obtain ⟨⟨v, hv, hd⟩, _⟩ := h
  obtain ⟨a, xs, rfl, ha, t⟩ := hd.tup_inv
  exact ⟨a, xs, hv, ha, t⟩
theorem DH.lst_inv {v : V} {ds : List PyData} (h : DH D H v (.list ds)) : ∃ a xs, v = .ref a ∧ a ≠ D ∧ H a = some (.lst xs) ∧ DHs D H xs ds := by
  cases h with
  | lst n e t => exact ⟨_, _, rfl, n, e, t⟩
theorem Taken.ne {p : Addr} (h : Taken H D) (hp : H p = none) : p ≠ D := fun z => by
  obtain ⟨o, ho⟩ := h
  rw [z, ho] at hp
  cases hp
theorem pickD {vs : List V} {es : List PyData} (h : DHs D H vs es) {w : Int} (w0 : 0 ≤ w) (w1 : w < (es.length : Int)) : ∃ v d, atI vs w = some v ∧ d ∈ es ∧ DH D H v d := by
  obtain ⟨n, rfl⟩ : ∃ n : Nat, w = (n : Int) := ⟨w.toNat, by omega⟩
  have hl := h.len
  have hx : vs[n]? = some vs[n] := List.getElem?_eq_getElem (by omega)
  obtain ⟨d, hd, hh⟩ := h.at hx
  exact ⟨_, d, atI_nat hx, List.mem_of_getElem? hd, hh⟩
end
end AskG
/-! AskXe: defs that may raise; defs called where nothing is known of guards. -/
namespace AskG
open PySem PySem.Spec PyProof.Rows L2
section
variable (P : Program) (w : World) (K : PySem.W.Frag) (mg : Str → Option Value) (base : Heap)
/-- a def's promise, what it raises told by its last argument -/
abbrev FnX (k : Nat) (f : Addr) (fd : FuncData) (ps : List Str) (sp : Sp) : Prop := FnOk P w K mg base (L2.CX P w) k f fd ps sp
/-- the context of a body that may raise -/
abbrev cxX (N : List Str) (qual : Str) (scope : Scope) (f : Addr) (cd : Value) (A : Around) (outer : List Env) (s : Shared) (H : Hp) (E : XK) : Cx := cxOf (L2.CX P w) P w K mg base N qual scope f cd A outer s H E
end
/-- nothing raised -/
abbrev quiet (pr : Pr) : Sp := fun vs H Q _ => pr vs H Q
section
variable {P : Program} {w : World} {K : PySem.W.Frag} {mg : Str → Option Value} {base : Heap}
theorem FnX.mono {j k : Nat} {f : Addr} {fd : FuncData} {ps : List Str} {sp : Sp} (F : FnX P w K mg base j f fd ps sp) (h : j ≤ k) : FnX P w K mg base k f fd ps sp :=
  ⟨F.len, fun A outer s H args us vs Q E hr => F.run A outer s H args us vs Q E (hr.mono h)⟩
theorem okX {x qual : Str} {st : Stmt} {f : Addr} {fd : FuncData} {N ps : List Str} {k : Nat} {sp : Sp} (F : Fun K x qual st f fd) (S : FnScope N ps (defScope st))
    (many : ∀ vs H Q E, sp vs H Q E → vs.length = ps.length)
    (body_ok : ∀ (cdv : Value) (A : Around) (outer : List Env) (s : Shared) (H : Hp) (vs : List V) (Q : VK) (E : XK),
      Room k (A.deeper (envOfC qual (defScope st) s.heap.objs.size f cdv)) → Takes (cxX P w K mg base N qual (defScope st) f cdv A outer s H E) (fun cls d _ H' => E cls d H') →
      PassesOwn (model P w) (A.deeper (envOfC qual (defScope st) s.heap.objs.size f cdv)) (envOfC qual (defScope st) s.heap.objs.size f cdv) (cxX P w K mg base N qual (defScope st) f cdv A outer s H E).xe → sp vs H Q E →
      ∃ t, PSs (cxX P w K mg base N qual (defScope st) f cdv A outer s H E) (defBody st) t ∧ t { nx := fun _ H' => Q .non H', rt := Q } (start N vs) H) :
    FnX P w K mg base (k + 1) f fd ps sp := by
  obtain ⟨oc, od, kV, doc, pm, an, cdv, ct, osl, rfl, lk, hcd⟩ := F.ex
  refine ⟨many, fun A outer s H args us vs Q E hr e0 hb r h => ?_⟩
  refine LamX.run_ofS lk hcd S hr e0 hb r (many _ _ _ _ h) fun hr' => ?_
  exact body_ok cdv A outer s H vs Q E hr' (takes_of rfl rfl rfl rfl) (passes_of rfl) h
/-- a def that raises nothing, where nothing is known of guards -/
theorem okN {x qual : Str} {st : Stmt} {f : Addr} {fd : FuncData} {N ps : List Str} {k : Nat} {pr : Pr} (F : Fun K x qual st f fd) (S : FnScope N ps (defScope st))
    (many : ∀ vs H Q, pr vs H Q → vs.length = ps.length)
    (body_ok : ∀ (cdv : Value) (A : Around) (outer : List Env) (s : Shared) (H : Hp) (E : XK) (vs : List V) (Q : VK),
      Room k (A.deeper (envOfC qual (defScope st) s.heap.objs.size f cdv)) → pr vs H Q →
      ∃ t, PSs (cxX P w K mg base N qual (defScope st) f cdv A outer s H E).nox (defBody st) t ∧ t { nx := fun _ H' => Q .non H', rt := Q } (start N vs) H) :
    FnX P w K mg base (k + 1) f fd ps (quiet pr) := by
  refine okX F S (fun vs H Q _ h => many vs H Q h) fun cdv A outer s H vs Q E hr _ _ h => ?_
  obtain ⟨t, ht, hq⟩ := body_ok cdv A outer s H E vs Q hr h
  exact ⟨t, ht.nox, hq⟩
/-- where it raises nothing, it may be called as the other defs are -/
theorem FnX.toG {k : Nat} {f : Addr} {fd : FuncData} {ps : List Str} {sp : Sp} {pr : Pr} (F : FnX P w K mg base k f fd ps sp) (h : ∀ vs H Q, pr vs H Q → sp vs H Q E0) : FnG P w K mg base k f fd ps pr := by
  refine ⟨fun vs H Q z => F.len vs H Q E0 (h vs H Q z), fun A outer s H args us vs Q hr e0 hb r z => ?_⟩
  refine codeAny_mono (F.run A outer s H args us vs Q E0 hr.room e0 hb r (h _ _ _ z)) fun res s' q => ?_
  cases res with
  | ok fl => cases fl <;> exact q
  | error e =>
    obtain ⟨_, _, _, _, _, _, _, _, _, _, _, _, z⟩ := q
    exact z.elim
end
/-! ### calls -/
/-- f(..), what it raises taken by W -/
def tCallX (sp : Sp) (W : WX) (t : TA) : TE := fun σ H Q => t σ H fun vs H1 => sp vs H1 Q fun cls d H' => W cls d σ H'
def tCallXN (m : Nat) (sp : Sp) (W : WX) (gV : List V → List V → List V) (tk : TA) : TE := fun σ H Q => tk σ H fun zs H2 => zs.length = m ∧ sp (gV [] zs) H2 Q fun cls d H' => W cls d σ H'
section
variable {X : Cx} {k : Nat} {f : Addr} {fd : FuncData} {ps ks : List Str} {sp : Sp} {pr : Pr} {x : Str} {p pos : Pos} {e : Expr} {es : List Expr} {kws : List Keyword} {t tk : TA} {W : WX}
  {g : List Value → List Value → List Value} {gV : List V → List V → List V}
theorem pe_x (F : FnX X.prog X.w X.K X.mg X.base k f fd ps sp) (hr : Room k X.A) (hg : Gl X x) (hm : X.mg x = some (.ref f)) (hk : PySem.W.keepIn X.K (.ref f) = true) (hb : Binds X.K fd ps []) (tk : Takes X W) (ha : PA X (e :: es) t)
    (hdb : (x == ("__debug__" : Str)) = false := by decide) (he : starEach (e :: es) X.env = (false, eval e X.env) :: starEach es X.env := by rfl) (hpl : (backTo pos (starEach es X.env)).any (·.1) = false := by rfl) :
    PE X (.Call (.Name x p) (e :: es) [] pos) (tCallX sp W t) := pe_callS F hr hg hm hk hb (fun σ => passAt tk σ) ha hdb he hpl
/-- a def that raises nothing -/
theorem pe_n (F : FnX X.prog X.w X.K X.mg X.base k f fd ps (quiet pr)) (hr : Room k X.A) (hg : Gl X x) (hm : X.mg x = some (.ref f)) (hk : PySem.W.keepIn X.K (.ref f) = true) (hb : Binds X.K fd ps []) (ha : PA X (e :: es) t)
    (hdb : (x == ("__debug__" : Str)) = false := by decide) (he : starEach (e :: es) X.env = (false, eval e X.env) :: starEach es X.env := by rfl) (hpl : (backTo pos (starEach es X.env)).any (·.1) = false := by rfl) :
    PE X (.Call (.Name x p) (e :: es) [] pos) (tCallG pr [] t) := by
  refine PE.less (pe_x F hr hg hm hk hb LamX.takes0 ha hdb he hpl) fun σ H Q q => ?_
  have e0 : (tCallG pr [] t) = fun σ H Q => t σ H fun vs H1 => pr vs H1 Q := by
    funext σ H Q
    unfold tCallG
    simp only [List.append_nil]
  rw [e0] at q
  exact q
/-- f(k = v, ..), what it raises taken by W -/
theorem pe_xk (F : FnX X.prog X.w X.K X.mg X.base k f fd ps sp) (hr : Room k X.A) (hg : Gl X x) (hm : X.mg x = some (.ref f)) (hk : PySem.W.keepIn X.K (.ref f) = true) (hb : KBn X.K fd ps 0 ks g gV) (tx : Takes X W) (hkw : PK X kws tk)
    (hall : (backToKw pos (keywordEach kws X.env)).all (·.1.isSome) = true := by rfl)
    (hks : (backToKw pos (keywordEach kws X.env)).filterMap (·.1) = ks := by rfl)
    (hdb : (x == ("__debug__" : Str)) = false := by decide)
    (hpl : ((backTo pos (starEach [] X.env)).any (·.1) || (backToKw pos (keywordEach kws X.env)).any (·.1.isNone)) = false := by rfl) :
    PE X (.Call (.Name x p) [] kws pos) (tCallXN ks.length sp W gV tk) := by
  constructor
  intro pins s σ H Q I h
  refine wpAny_Call_Name_kw (ld_glob I hg hm ?_ hdb)
  refine PySem.W.callWith_KW0 (h₀ := X.base) I.ok.mod.kin hk hall ?_ hpl
  refine thn (hkw.run pos pins s σ H _ I h) ?_
  rintro ws s2 ⟨zs, H2, I2, rz, l2, q2⟩
  refine ⟨I2.kIn, ?_⟩
  rw [hks]
  have b := hb.to s2 [] ws I2.kIn rfl (rz.length.symm.trans l2)
  have hx := passAt tx σ
  refine wpAny_call (codeAny_mono (F.run X.A X.stack s2 H2 ⟨[], ks.zip ws⟩ _ _ Q (WE W σ) hr I2.env0 b (hb.rel .nil rz) q2) fun res s' hq => ?_)
  cases res with
  | error e => exact hx pins H2 s2 e s' I2 hq
  | ok fl =>
    cases fl with
    | ret u => exact I2.after hq
    | next => exact False.elim hq
    | brk => exact False.elim hq
    | cont => exact False.elim hq
end
end AskG
namespace P56
open PySem PySem.Spec PyProof.Rows L2 AskG
def topS (i : Nat) : Stmt := PySem.Challenge.pw_askrights_k56_rows_left_told.main.body.getD i (.Pass ⟨0, 0, 0, 0⟩)
abbrev sUsed : Stmt := topS 1
abbrev sAsked : Stmt := topS 2
abbrev sOnDays : Stmt := topS 3
abbrev sQ : Stmt := topS 4
theorem scUsed : FnScope ["right", "day"] ["right", "day"] (defScope sUsed) := ⟨rfl, rfl, rfl, by decide +kernel, rfl, by decide +kernel, by decide +kernel⟩
theorem scAsked : FnScope ["right", "day", "kind"] ["right", "day"] (defScope sAsked) := ⟨rfl, rfl, rfl, by decide +kernel, rfl, by decide +kernel, by decide +kernel⟩
theorem scOnDays : FnScope ["right", "low", "high", "account", "weight", "day"] ["right", "low", "high"] (defScope sOnDays) := ⟨rfl, rfl, rfl, by decide +kernel, rfl, by decide +kernel, by decide +kernel⟩
theorem scQ : FnScope ["right", "day", "low", "high"] ["right", "day"] (defScope sQ) := ⟨rfl, rfl, rfl, by decide +kernel, rfl, by decide +kernel, by decide +kernel⟩
/-- the days j of the account at i -/
def rowPart (ws : List Cell) (lo hi : Int) (i j : Nat) : RowD := match ws[i]? with
  | some x => ((daysOf lo hi).take j).map fun d => ((x.1, d), x.2)
  | none => []
theorem part_zero (ws : List Cell) (lo hi : Int) (i : Nat) : rowPart ws lo hi i 0 = [] := by
  unfold rowPart
  cases ws[i]? <;> rfl
theorem part_len (ws : List Cell) (lo hi : Int) (i j : Nat) : (rowPart ws lo hi i j).length ≤ (hi + 1 - lo).toNat := by
  unfold rowPart
  cases ws[i]? with
  | none => exact Nat.zero_le _
  | some x =>
    show (((daysOf lo hi).take j).map _).length ≤ _
    rw [List.length_map, List.length_take, days_len]
    omega
theorem rowOn_app (a b : List Cell) (lo hi : Int) : rowOn (a ++ b) lo hi = rowOn a lo hi ++ rowOn b lo hi := List.flatMap_append
theorem part_n (ws : List Cell) (lo hi : Int) (i : Nat) : rowOn (ws.take i) lo hi ++ rowPart ws lo hi i (hi + 1 - lo).toNat = rowOn (ws.take (i + 1)) lo hi := by
  rw [List.take_add_one, rowOn_app]
  congr 1
  unfold rowPart
  cases ws[i]? with
  | none => rfl
  | some x =>
    show ((daysOf lo hi).take _).map _ = (daysOf lo hi).map _ ++ []
    rw [List.append_nil, List.take_of_length_le (by rw [days_len]; exact Nat.le_refl _)]
theorem part_succ {ws : List Cell} {lo hi : Int} {i j : Nat} {c : Cell} (h : ws[i]? = some c) (hj : j < (hi + 1 - lo).toNat) : rowPart ws lo hi i (j + 1) = rowPart ws lo hi i j ++ [((c.1, lo + (j : Int)), c.2)] := by
  unfold rowPart
  rw [h]
  show ((daysOf lo hi).take (j + 1)).map _ = ((daysOf lo hi).take j).map _ ++ _
  have : (daysOf lo hi)[j]? = some (lo + (j : Int)) := by
    unfold daysOf
    rw [List.getElem?_map, List.getElem?_range hj]
    rfl
  rw [List.take_add_one, this, List.map_append]
  rfl
section
variable {P : Program} {w : World} {K : PySem.W.Frag} {mg : Str → Option Value} {base : Heap}
def prUsed : Pr := fun vs H Q => ∃ (a : Addr) (R : Rt) (t : Int), vs = [.ref a, .int t] ∧ RightAt H a R ∧ Q (.bl (usedB R t)) H
theorem ok_used {f : Addr} {fd : FuncData} {k : Nat} (F : Fun K "is_used_on" "is_used_on" sUsed f fd) : FnX P w K mg base (k + 1) f fd ["right", "day"] (quiet prUsed) := by
  refine okN F scUsed (fun vs H Q h => ?_) (fun cdv A outer s H E vs Q hr h => ?_)
  · obtain ⟨_, _, _, rfl, _⟩ := h
    rfl
  · obtain ⟨a, R, t, rfl, hR, q⟩ := h
    obtain ⟨wa, ps, ka, h1, h2, h3, h4⟩ := hR
    refine ⟨_, pss_one (ps_ret (pe_chain op_le op_le (pe_ix (ix_tup : IxR _ (rIxT K)) (pv 0) pe_int (fun _ _ => rfl)) (pv 1) (pe_ix (ix_tup : IxR _ (rIxT K)) (pv 0) pe_int (fun _ _ => rfl)))), ?_⟩
    refine iRet ⟨.ref a, rfl, a, _, _, _, rfl, rfl, sqT h1, atI_nat (j := 2) rfl, .int t, rfl, R.first, t, rfl, rfl, _, rfl, ?_⟩
    unfold usedB at q
    by_cases e : R.first ≤ t
    · rw [decide_eq_true e] at q ⊢
      refine iteT ⟨.ref a, rfl, a, _, _, _, rfl, rfl, sqT h1, atI_nat (j := 3) rfl, t, R.last, rfl, rfl, ?_⟩
      rw [Bool.true_and] at q
      exact q
    · rw [decide_eq_false e] at q ⊢
      exact iteF q
def prAsked : Pr := fun vs H Q => ∃ (a : Addr) (R : Rt) (t : Int), vs = [.ref a, .int t] ∧ RightAt H a R ∧ ∀ p, H p = none → Q (.ref p) (upd H p (.tup [.int (R.kind.lo t), .int (R.kind.hi t)]))
theorem ok_asked {f : Addr} {fd : FuncData} {k : Nat} (F : Fun K "asked_days" "asked_days" sAsked f fd) (mx : mg "max" = none) (mn : mg "min" = none) : FnX P w K mg base (k + 1) f fd ["right", "day"] (quiet prAsked) := by
  refine okN F scAsked (fun vs H Q h => ?_) (fun cdv A outer s H E vs Q hr h => ?_)
  · obtain ⟨_, _, _, rfl, _⟩ := h
    rfl
  · obtain ⟨a, ⟨pn, ws, fi, la, kd⟩, t, rfl, hR, q⟩ := h
    obtain ⟨wa, ps, ka, h1, h2, h3, h4⟩ := hR
    refine ⟨_, pss_cons (ps_set (i := 2) scAsked.nd rfl (.inl rfl) (pe_ix (ix_tup : IxR _ (rIxT K)) (pv 0) pe_int (fun _ _ => rfl)))
      (pss_cons (ps_if (pt_cmpR op_eq (pe_ix (ix_tup : IxR _ (rIxT K)) (pv 2) pe_int (fun _ _ => rfl)) pe_str (nomark _)) (pss_one (ps_ret (pe_tup (pa_cons (pe_ix (ix_tup : IxR _ (rIxT K)) (pv 2) pe_int (fun _ _ => rfl)) (pa_cons (pv 1) pa_nil))))) pss_nil)
      (pss_cons (ps_if (pt_cmpR op_eq (pe_ix (ix_tup : IxR _ (rIxT K)) (pv 2) pe_int (fun _ _ => rfl)) pe_str (nomark _)) (pss_one (ps_ret (pe_tup (pa_cons (pe_callB (call_max2 rfl) (by rfl) mx (by decide +kernel) (pa_cons pe_int (pa_cons (pe_op op_add (pe_op op_sub (pv 1) (pe_ix (ix_tup : IxR _ (rIxT K)) (pv 2) pe_int (fun _ _ => rfl))) pe_int) pa_nil))) (pa_cons (pv 1) pa_nil))))) pss_nil)
      (pss_one (ps_ret (pe_tup (pa_cons (pe_ix (ix_tup : IxR _ (rIxT K)) (pv 2) pe_int (fun _ _ => rfl)) (pa_cons (pe_callB (call_min2 rfl) (by rfl) mn (by decide +kernel) (pa_cons (pe_ix (ix_tup : IxR _ (rIxT K)) (pv 2) pe_int (fun _ _ => rfl)) (pa_cons (pv 1) pa_nil))) pa_nil)))))))  , ?_⟩
    refine iSeq (iAsg ⟨.ref a, rfl, a, _, _, _, rfl, rfl, sqT h1, atI_nat (j := 4) rfl, ?_⟩)
    refine iName ?_
    dsimp only
    refine iSeq ?_
    cases kd with
    | tot s0 =>
      refine ⟨.ref ka, rfl, ka, _, _, _, rfl, rfl, sqT h4, atI_nat (j := 0) rfl, rfl, _, rfl, ?_⟩
      refine iteT (iRet ⟨.ref ka, rfl, ka, _, _, _, rfl, rfl, sqT h4, atI_nat (j := 1) rfl, .int t, rfl, by show 2 ≤ sizeLine; decide, fun p hp => q p hp⟩)
    | win l =>
      refine ⟨.ref ka, rfl, ka, _, _, _, rfl, rfl, sqT h4, atI_nat (j := 0) rfl, rfl, _, rfl, ?_⟩
      refine iteF (iNext ?_)
      dsimp only
      refine iSeq ⟨.ref ka, rfl, ka, _, _, _, rfl, rfl, sqT h4, atI_nat (j := 0) rfl, rfl, _, rfl, ?_⟩
      refine iteT (iRet ⟨.int t, rfl, .ref ka, rfl, ka, _, _, _, rfl, rfl, sqT h4, atI_nat (j := 1) rfl, t, l, rfl, rfl, t - l, 1, rfl, rfl, 0, t - l + 1, rfl, .int t, rfl, by show 2 ≤ sizeLine; decide, fun p hp => q p hp⟩)
    | per b e =>
      refine ⟨.ref ka, rfl, ka, _, _, _, rfl, rfl, sqT h4, atI_nat (j := 0) rfl, rfl, _, rfl, ?_⟩
      refine iteF (iNext ?_)
      dsimp only
      refine iSeq ⟨.ref ka, rfl, ka, _, _, _, rfl, rfl, sqT h4, atI_nat (j := 0) rfl, rfl, _, rfl, ?_⟩
      refine iteF (iNext ?_)
      dsimp only
      refine iRet ⟨.ref ka, rfl, ka, _, _, _, rfl, rfl, sqT h4, atI_nat (j := 1) rfl, .ref ka, rfl, ka, _, _, _, rfl, rfl, sqT h4, atI_nat (j := 2) rfl, .int t, rfl, e, t, rfl, by show 2 ≤ sizeLine; decide, fun p hp => q p hp⟩
def prOnDays : Pr := fun vs H Q => ∃ (a : Addr) (R : Rt) (lo hi : Int), vs = [.ref a, .int lo, .int hi] ∧ RightAt H a R ∧ R.ws.length ≤ 3 ∧ 0 ≤ lo ∧ lo ≤ 100 ∧ -1 ≤ hi ∧ hi ≤ 100 ∧
  ∀ H' p, Same H H' → RowAt H' p (rowOn R.ws lo hi) → Q (.ref p) H'
theorem g2_mono {i j : Nat} : ∀ (x : V) (σ : L2.St) (H : Hp) (Q Q' : L2.St → Hp → Prop), (∀ σ2 H2, Q σ2 H2 → Q' σ2 H2) → g2 K i j x σ H Q → g2 K i j x σ H Q' := by
  rintro x σ H Q Q' m ⟨a, xs, e, hs, hl, v, r, e1, v2, r2, e2, e3, q⟩
  exact ⟨a, xs, e, hs, hl, v, r, e1, v2, r2, e2, e3, m _ _ q⟩
theorem ok_onDays {f : Addr} {fd : FuncData} {k : Nat} (F : Fun K "row_on_days" "row_on_days" sOnDays f fd) (mt : mg "tuple" = none) (mr : mg "range" = none) : FnX P w K mg base (k + 1) f fd ["right", "low", "high"] (quiet prOnDays) := by
  refine okN F scOnDays (fun vs H Q h => ?_) (fun cdv A outer s H E vs Q hr h => ?_)
  · obtain ⟨_, _, _, _, rfl, _⟩ := h
    rfl
  · obtain ⟨a, R, lo, hi, rfl, hR, l3, lo0, lo1, hi0, hi1, q⟩ := h
    obtain ⟨wa, ps, ka, h1, h2, h3, h4⟩ := hR
    have big := sizeBig
    refine ⟨_, pss_one (ps_ret (pe_callTy call_tuple_of (by rfl) mt (by decide +kernel) (pa_cons (pe_lc2 (own := [("account", 3), ("weight", 4), ("day", 5)]) (vs1 := [5]) (g := g2 K 3 4) (g1 := gName 5) (tt := tYes) (tt1 := tYes) rfl scOnDays.nd (pi_tup (pe_ix (ix_tup : IxR _ (rIxT K)) (pv 0) pe_int (fun _ _ => rfl)))
      (blkOk_by (N := ["right", "low", "high", "account", "weight", "day"]) (sc := defScope sOnDays) (by decide +kernel)) (by decide)
      (fun _ _ _ _ _ => pg_tup rfl (pgs_cons (pg_name (i := 3) scOnDays.nd rfl (.inl rfl)) (pgs_cons (pg_name (i := 4) scOnDays.nd rfl (.inl rfl)) pgs_nil)))
      (fun _ _ _ _ _ => pts_nil)
      (fun _ _ _ _ _ => pi_range2 (by rfl) mr (pa_cons (pv 1) (pa_cons (pe_op op_add (pv 2) pe_int) pa_nil)))
      (fun _ _ _ _ _ => pg_name (i := 5) scOnDays.nd rfl (.inl rfl))
      (fun _ _ _ _ _ => pts_nil)
      (fun _ _ _ _ _ => pe_tup (pa_cons (pe_tup (pa_cons (pv 3) (pa_cons (pv 5) pa_nil))) (pa_cons (pv 4) pa_nil)))) pa_nil))), ?_⟩
    refine iRet ?_
    refine ⟨.ref a, rfl, a, _, _, _, rfl, rfl, sqT h1, atI_nat (j := 1) rfl, wa, rfl, ⟨_, sqT h2⟩, fun D hD => ?_⟩
    have hlen := Paired.length h3
    refine lc2_go (K := K) (a := wa) (xs := ps.map V.ref) (lo := lo) (n := (hi + 1 - lo).toNat)
      (fun i j H' => Same H H' ∧ ∃ qs, H' D = some (.lst (qs.map V.ref)) ∧ Paired (PairRow H') qs (rowOn (R.ws.take i) lo hi ++ rowPart R.ws lo hi i j))
      ⟨same_new hD, [], upd_same, ?_⟩ (fun i H' h => sqT (h.1 _ _ h2)) g2_mono (fun _ _ _ _ _ m z => m _ _ z) (fun σ H Q Q' m z => ?_) (fun i x H' hx h => ?_) (fun i H' h => ?_) (fun H' h => ?_)
    · rw [part_zero, List.take_zero]
      exact .nil
    · obtain ⟨v3, e3, v5, e5, s1, z⟩ := z
      exact ⟨v3, e3, v5, e5, s1, fun p hp => by
        obtain ⟨v4, e4, s2, z⟩ := z p hp
        exact ⟨v4, e4, s2, fun p2 hp2 => m _ _ (z p2 hp2)⟩⟩
    · rw [List.getElem?_map] at hx
      obtain ⟨pi, hpi, rfl⟩ := Option.map_eq_some_iff.mp hx
      obtain ⟨c, hc, hcell⟩ := paired_at' h3 hpi
      have il : i < R.ws.length := (List.getElem?_eq_some_iff.mp hc).1
      obtain ⟨sm, qs, hqs, hqq⟩ := h
      refine ⟨pi, _, rfl, sqT (sm _ _ hcell), rfl, .str c.1, _, rfl, .int c.2, _, rfl, rfl, rfl, ⟨sm, qs, hqs, hqq⟩, fun R' hR' => ⟨.int lo, rfl, .int hi, rfl, hi, 1, rfl, rfl, lo, hi + 1, rfl, ⟨by omega, by omega, by omega, by omega⟩, hR'⟩, fun j H2 hj h => ?_⟩
      obtain ⟨sm, qs, hqs, hqq⟩ := h
      have ql := Paired.length hqq
      have qb : (rowOn (R.ws.take i) lo hi ++ rowPart R.ws lo hi i j).length ≤ 1000 := by
        rw [List.length_append, rowOn_len, List.length_take]
        have h1 : min i R.ws.length * (hi + 1 - lo).toNat ≤ 3 * 101 := Nat.mul_le_mul (by omega) (by omega)
        have h2 := part_len R.ws lo hi i j
        omega
      refine ⟨rfl, .str c.1, rfl, .int (lo + j), rfl, by show 2 ≤ sizeLine; omega, fun p1 hp1 => ⟨.int c.2, rfl, by show 2 ≤ sizeLine; omega, fun p2 hp2 => ?_⟩⟩
      have s1 := same_new (o := .tup [.str c.1, .int (lo + j)]) hp1
      have s2 := same_new (o := .tup [.ref p1, .int c.2]) hp2
      have s12 := s1.trans s2
      have hDp := s12 _ _ hqs
      refine ⟨_, hDp, by rw [List.length_map]; omega, fun b o e => ?_, qs ++ [p2], by rw [upd_same, List.map_append]; rfl, ?_⟩
      · rw [upd_ne (ne_of_none e hD)]
        exact s12 _ _ (sm _ _ e)
      · have kp : KeepT _ (upd _ D (.lst (qs.map V.ref ++ [.ref p2]))) := KeepT.put hDp fun _ z => nomatch z
        rw [part_succ hc hj, ← List.append_assoc]
        exact Paired.snoc (Paired.mapP hqq fun _ _ z => (z.keep (KeepT.of s12)).keep kp) ⟨p1, kp _ _ upd_same, kp _ _ (s2 _ _ upd_same)⟩
    · obtain ⟨sm, qs, hqs, hqq⟩ := h
      refine ⟨sm, qs, hqs, ?_⟩
      rw [part_zero, List.append_nil, ← part_n]
      exact hqq
    · obtain ⟨sm, qs, hqs, hqq⟩ := h
      rw [part_zero, List.append_nil, List.length_map, hlen, List.take_length] at hqq
      refine ⟨D, _, rfl, .inl ⟨sqL hqs, fun p hp => ?_⟩⟩
      have s5 := same_new (o := .tup (qs.map V.ref)) hp
      exact q _ p (sm.trans s5) ⟨qs, upd_same, Paired.mapP hqq fun _ _ z => z.keep (KeepT.of s5)⟩
def prQ : Pr := fun vs H Q => ∃ (a : Addr) (R : Rt) (t : Int), vs = [.ref a, .int t] ∧ RightAt H a R ∧ RtOk R ∧ 0 ≤ t ∧ t ≤ 9 ∧
  ∀ H', Same H H' → (usedB R t = false → Q .non H') ∧ (usedB R t = true → ∀ p, RowAt H' p (rowQ R t) → Q (.ref p) H')
variable {fU fA fR : Addr} {fdU fdA fdR : FuncData}
theorem ok_q {f : Addr} {fd : FuncData} {k : Nat} (F : Fun K "question_on" "question_on" sQ f fd)
    (FU : Fun K "is_used_on" "is_used_on" sUsed fU fdU) (bU : Binds K fdU ["right", "day"] []) (gU : mg "is_used_on" = some (.ref fU))
    (FA : Fun K "asked_days" "asked_days" sAsked fA fdA) (bA : Binds K fdA ["right", "day"] []) (gA : mg "asked_days" = some (.ref fA))
    (FR : Fun K "row_on_days" "row_on_days" sOnDays fR fdR) (bR : Binds K fdR ["right", "low", "high"] []) (gR : mg "row_on_days" = some (.ref fR))
    (mx : mg "max" = none) (mn : mg "min" = none) (mt : mg "tuple" = none) (mr : mg "range" = none) : FnX P w K mg base (k + 2) f fd ["right", "day"] (quiet prQ) := by
  have GU : FnX P w K mg base (k + 1) fU fdU ["right", "day"] (quiet prUsed) := ok_used FU
  have GA : FnX P w K mg base (k + 1) fA fdA ["right", "day"] (quiet prAsked) := ok_asked FA mx mn
  have GR : FnX P w K mg base (k + 1) fR fdR ["right", "low", "high"] (quiet prOnDays) := ok_onDays FR mt mr
  refine okN F scQ (fun vs H Q h => ?_) (fun cdv A outer s H E vs Q hr h => ?_)
  · obtain ⟨_, _, _, rfl, _⟩ := h
    rfl
  · obtain ⟨a, R, t, rfl, hR, ok, t0, t9, q⟩ := h
    refine ⟨_, pss_cons (ps_if (pt_not (pt_val (pe_n GU hr (by rfl) gU FU.kp bU (pa_cons (pv 0) (pa_cons (pv 1) pa_nil))))) (pss_one (ps_ret pe_non)) pss_nil)
      (pss_cons (ps_asg (pe_n GA hr (by rfl) gA FA.kp bA (pa_cons (pv 0) (pa_cons (pv 1) pa_nil))) (pg_tup (by rfl) (pgs_cons (pg_name (i := 2) scQ.nd rfl (.inl rfl)) (pgs_cons (pg_name (i := 3) scQ.nd rfl (.inl rfl)) pgs_nil))))
      (pss_one (ps_ret (pe_n GR hr (by rfl) gR FR.kp bR (pa_cons (pv 0) (pa_cons (pv 2) (pa_cons (pv 3) pa_nil))))))), ?_⟩
    refine iSeq ?_
    refine ⟨.ref a, rfl, .int t, rfl, a, R, t, rfl, hR, _, rfl, ?_⟩
    cases e : usedB R t with
    | false => exact iteT ((q H (Same.refl _)).1 e)
    | true =>
      refine iteF (iNext ?_)
      dsimp only
      refine iSeq (iAsg ⟨.ref a, rfl, .int t, rfl, a, R, t, rfl, hR, fun p hp => ?_⟩)
      have s1 := same_new (o := .tup [.int (R.kind.lo t), .int (R.kind.hi t)]) hp
      refine ⟨p, _, rfl, sqT upd_same, rfl, _, _, rfl, _, _, rfl, rfl, ?_⟩
      dsimp only
      obtain ⟨b1, b2, b3, b4⟩ := kind_bounds ok.kind t0 t9
      refine iRet ⟨.ref a, rfl, .int (R.kind.lo t), rfl, .int (R.kind.hi t), rfl, a, R, R.kind.lo t, R.kind.hi t, rfl, hR.keep (KeepT.of s1), ok.many, b1, by omega, by omega, by omega, fun H' p' s2 hp' => ?_⟩
      exact (q H' (s1.trans s2)).2 e p' hp'
end
end P56
/-! AskNk: what a set asks of its elements, told for nested keys (texts, numbers, tuples of them). -/
namespace Ask
open PySem PySem.Spec PyProof.Rows L2

/-- v is of no class statement, told n levels down -/
def NoCls (P : Program) (w : World) (n : Nat) (s : Shared) (v : Value) : Prop :=
  ∀ (A : Around) (E : Value → Shared → Prop) (Q : Bool → Shared → Prop), Q false s → wpAny (model P w) A (ofAClassStatement n v) Q E s

theorem NoCls.flat {P : Program} {w : World} {n : Nat} {s : Shared} {v : Value} (e : ofAClassStatement n v = pure false) : NoCls P w n s v :=
  fun A E Q hq => e ▸ wpAny_pure hq

theorem NoCls.tup {P : Program} {w : World} {n : Nat} {s : Shared} {b : Addr} {o : Obj} {items : Array Value} {m : Nat}
    (ho : s.heap.get? b = some o) (hc : o.cls = .type "tuple") (hd : o.data = .seq items m) (hall : ∀ v ∈ items.toList, NoCls P w n s v) :
    NoCls P w (n + 1) s (.ref b) := by
  intro A E Q hq
  have ty : s.TypeIs (.ref b) "tuple" := ⟨o, ho, hc⟩
  unfold ofAClassStatement
  refine wpAny_bind (wpAny_typeOf ty ?_)
  dsimp only
  simp only [show (("tuple" : String) == "tuple") = true from rfl, if_true, Bool.not_true, Bool.false_eq_true, if_false]
  try refine wpAny_bind (wpAny_pure ?_)
  try simp only [Bool.not_true, Bool.false_eq_true, if_false]
  refine wpAny_bind (m := seqItems? (.ref b)) (wpAny_seqItems ho hd ?_)
  dsimp only
  refine wpAny_bind (m := forIn items _ _) ?_
  rw [← Array.forIn_toList]
  let J : List Value → (Option Bool × PUnit) → Shared → Prop := fun r acc u => acc.1 = none ∧ u = s ∧ ∀ v ∈ r, NoCls P w n s v
  refine wpAny_forIn_list _ J _ ?_ ?_ _ _ ⟨rfl, rfl, hall⟩
  · intro v r acc u hJ
    obtain ⟨_, eu, hr⟩ := hJ
    subst eu
    refine wpAny_bind (hr v (List.mem_cons.mpr (.inl rfl)) _ _ _ ?_)
    simp only [Bool.false_eq_true, if_false]
    exact wpAny_pure ⟨rfl, rfl, fun z hz => hr z (List.mem_cons.mpr (.inr hz))⟩
  · intro acc u hJ
    obtain ⟨a1, a2⟩ := acc
    obtain ⟨e1, eu, _⟩ := hJ
    cases e1
    subst eu
    exact wpAny_pure hq

mutual
theorem noCls_key {P : Program} {w : World} : ∀ (k : NestedKey) (v : Value) (n : Nat) (s : Shared), NestedIs s.heap k v → k.depth ≤ n → NoCls P w n s v
  | .none, _, n, s, x, _ => by cases x; exact .flat (by cases n <;> rfl)
  | .num _, _, n, s, x, _ => by cases x <;> exact .flat (by cases n <;> rfl)
  | .text _, _, n, s, x, _ => by cases x; exact .flat (by cases n <;> rfl)
  | .tup ks, _, 0, s, _, hn => absurd hn (by simp only [NestedKey.depth]; omega)
  | .tup ks, _, n + 1, s, x, hn => by
    cases x with
    | tup hg hc hd hk => exact .tup hg hc hd (noCls_keys ks _ n s hk (by simp only [NestedKey.depth] at hn; omega))
theorem noCls_keys {P : Program} {w : World} : ∀ (ks : List NestedKey) (vs : List Value) (n : Nat) (s : Shared), NestedAll s.heap ks vs → NestedKey.depthAll ks ≤ n → ∀ v ∈ vs, NoCls P w n s v
  | [], _, n, s, x, _, v, hv => by cases x; cases hv
  | k :: ks, _, n, s, x, hn, v, hv => by
    cases x with
    | cons x1 x2 =>
      simp only [NestedKey.depthAll] at hn
      cases hv with
      | head => exact noCls_key k _ n s x1 (by omega)
      | tail _ hv => exact noCls_keys ks _ n s x2 (by omega) v hv
end

/-- the element at b is the key k -/
abbrev IsK (P : Program) (w : World) (h : Heap) (k : NestedKey) (b : Addr) : Prop := (nestedKind P w).is h k b

section
variable {P : Program} {w : World} {A : Around} {E : Value → Shared → Prop} {s : Shared}

/-- looking among keys for a key can't be seen -/
theorem seen_key {k : NestedKey} {b : Addr} {Q : Bool → Shared → Prop} (hk : IsK P w s.heap k b) {ys : List Value} (hy : ∀ y ∈ ys, ∃ k' c, y = Value.ref c ∧ IsK P w s.heap k' c) (hq : Q false s) :
    wpAny (model P w) A (searchCouldBeSeen (.ref b) ys) Q E s := by
  unfold searchCouldBeSeen
  let J : List Value → (Option Bool × PUnit) → Shared → Prop := fun r acc u => acc.1 = none ∧ u = s ∧ ∀ y ∈ r, ∃ k' c, y = Value.ref c ∧ IsK P w s.heap k' c
  refine wpAny_bind (wpAny_forIn_list _ J _ ?_ ?_ _ _ ⟨rfl, rfl, hy⟩)
  · intro v r acc u hJ
    obtain ⟨_, eu, hr⟩ := hJ
    subst eu
    obtain ⟨k', c, ev, hc⟩ := hr v (List.mem_cons.mpr (.inl rfl))
    subst ev
    have next : ∀ y ∈ r, ∃ k' c, y = Value.ref c ∧ IsK P w u.heap k' c := fun z hz => hr z (List.mem_cons.mpr (.inr hz))
    dsimp only
    rcases Bool.eq_false_or_eq_true (b == c || (carriedByValue (.ref b) && carriedByValue (.ref c))) with hv | hv
    · exact wp_if_pos hv (wpAny_pure ⟨rfl, rfl, next⟩)
    · refine wp_if_neg (by rw [hv]; decide) ?_
      refine wpAny_bind ((nestedKind P w).quiet hk ?_)
      simp only [Bool.not_true, Bool.false_eq_true, if_false]
      refine wpAny_bind ((nestedKind P w).quiet hc ?_)
      simp only [Bool.not_true, Bool.false_eq_true, if_false]
      refine wpAny_bind (noCls_key k _ 8 u hk.1 hk.2 _ _ _ ?_)
      simp only [Bool.false_eq_true, if_false]
      refine wpAny_bind (noCls_key k' _ 8 u hc.1 hc.2 _ _ _ ?_)
      simp only [Bool.false_eq_true, if_false]
      exact wpAny_pure ⟨rfl, rfl, next⟩
  · intro acc u hJ
    obtain ⟨a1, a2⟩ := acc
    obtain ⟨e1, eu, _⟩ := hJ
    cases e1
    subst eu
    exact wpAny_pure hq
end
end Ask
/-! AskSk: sets of nested keys, fewer than 64: looking for a key. -/
namespace Ask
open PySem PySem.Spec PyProof.Rows L2

abbrev legAt (m : Nat) (h : Int) (c : Nat) : SetTable.Probe := nth m (runAt m (SetTable.bits h % (m + 1)) (SetTable.bits h)) c
theorem adv_clean {m : Nat} {p : SetTable.Probe} (e : p.dummy = none) : (adv m p).dummy = none := by
  unfold adv
  by_cases z : p.more > 0
  · rw [if_pos z]; exact e
  · rw [if_neg z]; exact e
theorem stand_clean (m : Nat) (h : Int) : ∀ c, (legAt m h c).dummy = none
  | 0 => rfl
  | c + 1 => by
    show (nth m _ (c + 1)).dummy = none
    rw [nth_succ]
    exact adv_clean (stand_clean m h c)
theorem stand_on (m : Nat) (h : Int) (c q : Nat) : nth m (legAt m h c) q = legAt m h (c + q) := (nth_add m c _ q).symm

/-- the set at a has the keys of L, each in the object beside it -/
structure SetK (P : Program) (w : World) (h : Heap) (a : Addr) (L : List (Addr × NestedKey)) (es : Array (Int × Value)) (ep : Nat) (t : SetTable) : Prop where
  obj : ∃ o, h.get? a = some o ∧ o.ExactSet ∧ o.data = .set es ep t
  ent : es.toList = L.map fun p => (p.2.hash w, Value.ref p.1)
  tab : TabOk t (L.map fun p => p.2.hash w)
  one : (L.map Prod.snd).Nodup
  keys : ∀ p ∈ L, IsK P w h p.2 p.1
  lead : w.params.followText "set-order" = true ∨ t.led = true
  air : L.length * 5 < t.mask * 3
  few : L.length < 64

section
variable {P : Program} {w : World} {A : Around} {E : Value → Shared → Prop} {s : Shared}
variable {a : Addr} {L : List (Addr × NestedKey)} {es : Array (Int × Value)} {ep : Nat} {t : SetTable}

theorem ent_len {L : List (Addr × NestedKey)} {es : Array (Int × Value)} (e : es.toList = L.map fun p => (p.2.hash w, Value.ref p.1)) : es.size = L.length := by
  rw [← Array.length_toList, e, List.length_map]
theorem fits_of {t : SetTable} {n : Nat} (h1 : t.place.size = n) (h2 : t.dummies = #[]) (h3 : n ≤ t.mask) : t.fits n = true := by
  unfold SetTable.fits SetTable.fill
  rw [h2, Bool.and_eq_true]
  exact ⟨beq_iff_eq.mpr h1, decide_eq_true (by rw [h1]; exact h3)⟩
theorem SetK.places (S : SetK P w s.heap a L es ep t) : t.place.size = L.length := by
  have z := S.tab.sz
  rw [List.length_map] at z
  exact z
theorem SetK.fit (S : SetK P w s.heap a L es ep t) : t.fits es.size = true := by
  have z1 := S.air
  have z2 := ent_len S.ent
  exact fits_of (by rw [z2]; exact S.places) S.tab.dm (by omega)
theorem SetK.at (S : SetK P w s.heap a L es ep t) {i : Nat} {p : Addr × NestedKey} (e : L[i]? = some p) : es[i]? = some (p.2.hash w, Value.ref p.1) := by
  rw [← Array.getElem?_toList, S.ent, List.getElem?_map, e]
  rfl
theorem SetK.hashes (S : SetK P w s.heap a L es ep t) {i : Nat} {p : Addr × NestedKey} (e : L[i]? = some p) : (es[i]?.map (·.1)).getD 0 = p.2.hash w := by
  rw [S.at e]
  rfl
theorem SetK.stays (S : SetK P w s.heap a L es ep t) : ¬ t.gaveWay = true := by
  unfold SetTable.gaveWay
  rw [mask_odd S.tab.mok]
  decide

/-- what lies behind a candidate p whose slot is the q-th of the way -/
theorem behind (S : SetK P w s.heap a L es ep t) {x : Addr} {k : NestedKey} (hx : IsK P w s.heap k x) (room : A.units + 8 < cLine) {Q : SetFound → Shared → Prop} {i q f : Nat} {p : Addr × NestedKey}
    (hp : L[i]? = some p) (hi : t.place.toList[i]? = some (way t.mask (k.hash w) q)) {nx : SetTable.Probe}
    (same : p.2 = k → Q (.there none) s) (other : p.2 ≠ k → wpAny (model P w) A (setSearchFrom a (.ref x) (k.hash w) true f (some nx)) Q E s) :
    wpAny (model P w) A (searchRest a (.ref x) (k.hash w) true f es t (way t.mask (k.hash w) q) i nx) Q E s := by
  obtain ⟨o, ho, _, hd⟩ := S.obj
  have live := slot_live S.tab.ris hi
  have hpk := S.keys p (List.mem_of_getElem? hp)
  unfold searchRest
  rw [S.at hp]
  dsimp only
  refine wpAny_bind (wpAny_holding ((nestedKind P w).eqBool room hpk hx (wpAny_bind (wpAny_setState_of ho hd S.fit ?_))))
  dsimp only
  rcases Classical.em (p.2 = k) with c | c
  · exact wp_if_pos (by simp [c]) (wpAny_pure (same c))
  · refine wp_if_neg (by simp [c]) ?_
    try refine wpAny_bind (wpAny_pure ?_)
    rw [sameMem]
    dsimp only
    simp only [if_true, live, S.at hp]
    refine wpAny_bind (wpAny_isSame_ref_self (wpAny_bind (wpAny_pure ?_)))
    simp only [if_true]
    exact wp_if_neg (by simp [c]) (other c)

/-- from the c-th stand on; K is the first empty slot of the way -/
theorem look (S : SetK P w s.heap a L es ep t) {x : Addr} {k : NestedKey} (hx : IsK P w s.heap k x) (room : A.units + 8 < cLine) {K : Nat} (hb : K < 10 * SetTable.turns t.mask)
    (free : way t.mask (k.hash w) K ∉ t.place.toList) (taken : ∀ c, c < K → way t.mask (k.hash w) c ∈ t.place.toList) {Q : SetFound → Shared → Prop}
    (yes : k ∈ L.map Prod.snd → Q (.there none) s) (no : k ∉ L.map Prod.snd → Q (.free (way t.mask (k.hash w) K) false) s) (f : Nat) :
    ∀ (c : Nat) (st : Option SetTable.Probe), st.getD (t.probeStart (k.hash w)) = legAt t.mask (k.hash w) c → c ≤ K → K < c + f →
      (∀ (i : Nat) (p : Addr × NestedKey), L[i]? = some p → p.2 = k → ∃ d, c ≤ d ∧ d < K ∧ t.place.toList[i]? = some (way t.mask (k.hash w) d)) →
      wpAny (model P w) A (setSearchFrom a (.ref x) (k.hash w) true f st) Q E s := by
  obtain ⟨o, ho, _, hd⟩ := S.obj
  induction f with
  | zero => intro c st _ h1 h2; exact absurd h2 (by omega)
  | succ f ih =>
    intro c st est hc hf ahead
    have onj : ∀ q, (nth t.mask (legAt t.mask (k.hash w) c) q).j = way t.mask (k.hash w) (c + q) := fun q => by rw [stand_on]
    have toK : c + (K - c) = K := by omega
    -- a place before c's way that has the key's hash and is not ahead
    have gone : ∀ (i : Nat) (p : Addr × NestedKey), L[i]? = some p → p.2 = k → (es[i]?.map (·.1)).getD 0 = k.hash w := fun i p e1 e2 => by rw [S.hashes e1, e2]
    rw [setSearchFrom_succ]
    refine wpAny_bind (wpAny_setState_of ho hd S.fit ?_)
    dsimp only
    refine wp_if_neg S.stays ?_
    try refine wpAny_bind (wpAny_pure ?_)
    have told := go_spec t S.tab.ris S.tab.dm (fun i => (es[i]?.map (·.1)).getD 0) (k.hash w) (10 * SetTable.turns t.mask) (K - c) (legAt t.mask (k.hash w) c) (stand_clean _ _ c) (by omega)
      (fun q hq => by rw [onj]; exact taken _ (by omega)) (by rw [onj, toK]; exact free)
    cases told with
    | inr z =>
      obtain ⟨none_, got⟩ := z
      have got' : t.probe (fun i => (es[i]?.map (·.1)).getD 0) (k.hash w) (st.getD (t.probeStart (k.hash w))) = some (.empty (way t.mask (k.hash w) K) none) := by
        rw [est]
        rw [onj, toK] at got
        exact got
      rw [got']
      dsimp only
      refine wpAny_pure (no fun hm => ?_)
      obtain ⟨p, pm, pk⟩ := List.mem_map.mp hm
      obtain ⟨i, hi⟩ := List.mem_iff_getElem?.mp pm
      obtain ⟨d, d1, d2, d3⟩ := ahead i p hi pk
      have ed : c + (d - c) = d := by omega
      exact none_ (d - c) i (by omega) (by rw [onj, ed]; exact d3) (gone i p hi pk)
    | inl z =>
      obtain ⟨q, i, hq, hi, _, before, got⟩ := z
      rw [onj] at hi
      have got' : t.probe (fun i => (es[i]?.map (·.1)).getD 0) (k.hash w) (st.getD (t.probeStart (k.hash w))) = some (.candidate (way t.mask (k.hash w) (c + q)) i (legAt t.mask (k.hash w) (c + (q + 1)))) := by
        rw [est]
        rw [onj, stand_on] at got
        exact got
      rw [got']
      dsimp only
      have il : i < L.length := by
        have := (List.getElem?_eq_some_iff.mp hi).1
        rw [Array.length_toList, S.places] at this
        exact this
      obtain ⟨p, hp⟩ : ∃ p, L[i]? = some p := ⟨_, List.getElem?_eq_getElem il⟩
      have rest : wpAny (model P w) A (searchRest a (.ref x) (k.hash w) true f es t (way t.mask (k.hash w) (c + q)) i (legAt t.mask (k.hash w) (c + (q + 1)))) Q E s := by
        refine behind S hx room hp hi (fun e => yes (List.mem_map.mpr ⟨p, List.mem_of_getElem? hp, e⟩)) fun ne => ?_
        refine ih (c + (q + 1)) _ rfl (by omega) (by omega) fun i' p' h' k' => ?_
        obtain ⟨d, d1, d2, d3⟩ := ahead i' p' h' k'
        refine ⟨d, ?_, d2, d3⟩
        rcases Nat.lt_trichotomy d (c + q) with y | y | y
        · have ed : c + (d - c) = d := by omega
          exact absurd (gone i' p' h' k') (before (d - c) i' (by omega) (by rw [onj, ed]; exact d3))
        · rw [y] at d3
          have e1 := (slot_live S.tab.ris d3).symm.trans (slot_live S.tab.ris hi)
          injection e1 with e1
          rw [e1, hp] at h'
          cases h'
          exact absurd k' ne
        · omega
      rcases Classical.em (t.led = true) with c1 | c1
      · refine wp_if_neg (by simp [c1]) ?_
        try refine wpAny_bind (wpAny_pure ?_)
        exact rest
      · refine wp_if_pos (by simp [c1]) (wpAny_bind (seen_key hx (fun y hy => ?_) (wp_if_neg (by decide) ?_)))
        · obtain ⟨e, he, rfl⟩ := List.mem_map.mp hy
          have m : e ∈ es.toList := by
            have z : e ∈ es ∧ e.1 = k.hash w := by simpa using he
            simpa using z.1
          rw [S.ent] at m
          obtain ⟨p2, m2, rfl⟩ := List.mem_map.mp m
          exact ⟨p2.2, p2.1, rfl, S.keys p2 m2⟩
        · try refine wpAny_bind (wpAny_pure ?_)
          exact rest

/-- looking for a key that is to be put in -/
theorem lookup (S : SetK P w s.heap a L es ep t) {x : Addr} {k : NestedKey} (hx : IsK P w s.heap k x) (room : A.units + 8 < cLine) {Q : SetFound → Shared → Prop} (yes : k ∈ L.map Prod.snd → Q (.there none) s)
    (no : ∀ K, k ∉ L.map Prod.snd → way t.mask (k.hash w) K ∉ t.place.toList → (∀ c, c < K → way t.mask (k.hash w) c ∈ t.place.toList) → Q (.free (way t.mask (k.hash w) K) false) s) :
    wpAny (model P w) A (setSearch a (.ref x) (k.hash w) true) Q E s := by
  have air := S.air
  obtain ⟨K, small, free, taken⟩ := S.tab.first (by rw [List.length_map]; omega) (k.hash w)
  have tm : SetTable.turns t.mask ≤ 142 := by
    unfold SetTable.turns
    rcases S.tab.mok with e | e | e <;> omega
  unfold setSearch
  refine look S hx room small free taken yes (fun n => no K n free taken) 100000 0 none rfl (Nat.zero_le _) (by omega) fun i p hp pk => ?_
  have il : i < t.place.toList.length := by
    rw [Array.length_toList, S.places]
    exact (List.getElem?_eq_some_iff.mp hp).1
  have hh : (L.map fun p => p.2.hash w)[i]? = some (k.hash w) := by
    rw [List.getElem?_map, hp, ← pk]
    rfl
  obtain ⟨d, d1, d2⟩ := S.tab.before free hh (List.getElem?_eq_getElem il)
  exact ⟨d, Nat.zero_le _, d1, by rw [List.getElem?_eq_getElem il, d2]⟩
end
end Ask
/-! AskAk: sets of nested keys, fewer than 64: putting a key in. -/
namespace Ask
open PySem PySem.Spec PyProof.Rows L2

/-- asked whether its hash is one by value, v answers something, n levels down -/
def ByVal (P : Program) (w : World) (n : Nat) (s : Shared) (v : Value) : Prop :=
  ∀ (A : Around) (E : Value → Shared → Prop) (Q : Bool → Shared → Prop), (∀ b, Q b s) → wpAny (model P w) A (hashByValue n v) Q E s
theorem ByVal.flat {P : Program} {w : World} {n : Nat} {s : Shared} {v : Value} {c : Bool} (e : hashByValue n v = pure c) : ByVal P w n s v :=
  fun A E Q hq => e ▸ wpAny_pure (hq c)
theorem ByVal.tup {P : Program} {w : World} {n : Nat} {s : Shared} {b : Addr} {o : Obj} {items : Array Value} {m : Nat}
    (ho : s.heap.get? b = some o) (hc : o.cls = .type "tuple") (hd : o.data = .seq items m) (hall : ∀ v ∈ items.toList, ByVal P w n s v) :
    ByVal P w (n + 1) s (.ref b) := by
  intro A E Q hq
  have ty : s.TypeIs (.ref b) "tuple" := ⟨o, ho, hc⟩
  unfold hashByValue
  refine wpAny_bind (wpAny_specialOf ty F.slot_tuple_hash.lookup ?_)
  refine wpAny_bind (m := seqItems? (.ref b)) (wpAny_seqItems ho hd ?_)
  refine wpAny_bind (m := forIn items _ _) ?_
  rw [← Array.forIn_toList]
  let J : List Value → (Option Bool × PUnit) → Shared → Prop := fun r acc u => acc.1 = none ∧ u = s ∧ ∀ v ∈ r, ByVal P w n s v
  refine wpAny_forIn_list _ J _ ?_ ?_ _ _ ⟨rfl, rfl, hall⟩
  · intro v r acc u hJ
    obtain ⟨_, eu, hr⟩ := hJ
    subst eu
    refine wpAny_bind (hr v (List.mem_cons.mpr (.inl rfl)) _ _ _ fun c => ?_)
    cases c with
    | true =>
      simp only [Bool.not_true, Bool.false_eq_true, if_false]
      exact wpAny_pure ⟨rfl, rfl, fun z hz => hr z (List.mem_cons.mpr (.inr hz))⟩
    | false =>
      simp only [Bool.not_false, if_true]
      exact wpAny_pure (wpAny_pure (hq false))
  · intro acc u hJ
    obtain ⟨a1, a2⟩ := acc
    obtain ⟨e1, eu, _⟩ := hJ
    cases e1
    subst eu
    exact wpAny_pure (hq true)
mutual
theorem byVal_key {P : Program} {w : World} : ∀ (k : NestedKey) (v : Value) (n : Nat) (s : Shared), NestedIs s.heap k v → k.depth ≤ n → ByVal P w n s v
  | .none, _, n, s, x, _ => by cases x; exact .flat (c := true) (by cases n <;> rfl)
  | .num _, _, n, s, x, _ => by cases x <;> exact .flat (c := true) (by cases n <;> rfl)
  | .text _, _, n, s, x, _ => by cases x; exact .flat (c := false) (by cases n <;> rfl)
  | .tup ks, _, 0, s, _, hn => absurd hn (by simp only [NestedKey.depth]; omega)
  | .tup ks, _, n + 1, s, x, hn => by
    cases x with
    | tup hg hc hd hk => exact .tup hg hc hd (byVal_keys ks _ n s hk (by simp only [NestedKey.depth] at hn; omega))
theorem byVal_keys {P : Program} {w : World} : ∀ (ks : List NestedKey) (vs : List Value) (n : Nat) (s : Shared), NestedAll s.heap ks vs → NestedKey.depthAll ks ≤ n → ∀ v ∈ vs, ByVal P w n s v
  | [], _, n, s, x, _, v, hv => by cases x; cases hv
  | k :: ks, _, n, s, x, hn, v, hv => by
    cases x with
    | cons x1 x2 =>
      simp only [NestedKey.depthAll] at hn
      cases hv with
      | head => exact byVal_key k _ n s x1 (by omega)
      | tail _ hv => exact byVal_keys ks _ n s x2 (by omega) v hv
end

/-- a key stays when a set changes -/
theorem isK_past {P : Program} {w : World} {h h' : Heap} {k : NestedKey} {a b : Addr} {o : Obj} {es : Array (Int × Value)} {ep : Nat} {t : SetTable}
    (hb : IsK P w h k b) (ho : h.get? a = some o) (hd : o.data = .set es ep t) (sb : Heap.SameBut a h h') : IsK P w h' k b := by
  refine ⟨NestedIs.at (fun c u vs n hc hv => ?_) k _ hb.1, hb.2⟩
  refine (sb.2 c fun e => ?_).trans hc
  rw [e, ho] at hc
  cases hc
  rw [hd] at hv
  exact nomatch hv
theorem isK_kept {P : Program} {w : World} {h h' : Heap} {k : NestedKey} {b : Addr} (hb : IsK P w h k b) (keep : ∀ c o, h.get? c = some o → h'.get? c = some o) : IsK P w h' k b :=
  ⟨NestedIs.at (fun c u _ _ hc _ => keep c u hc) k _ hb.1, hb.2⟩

section
variable {P : Program} {w : World}
abbrev entOf (w : World) (L : List (Addr × NestedKey)) : List (Int × Value) := L.map fun p => (p.2.hash w, Value.ref p.1)

/-- what a new order of the places makes of the entries -/
theorem picked {α : Type} (L : List α) : ∀ n, n ≤ L.length → (List.range n).filterMap (fun i => L[i]?) = L.take n
  | 0, _ => rfl
  | n + 1, h => by
    have z : L[n]? = some L[n] := List.getElem?_eq_getElem h
    rw [List.range_succ, List.filterMap_append, picked L n (by omega), List.take_succ, z, List.filterMap_cons_some z]
    rfl
theorem reorder {L : List (Addr × NestedKey)} {es : Array (Int × Value)} {order : Array Nat} (hr : es.toList = entOf w L) (hp : order.toList.Perm (List.range L.length)) :
    ∃ M, (order.filterMap (es[·]?)).toList = entOf w M ∧ M.Perm L ∧ (M.map fun p => p.2.hash w) = order.toList.map fun i => (es.map (·.1)).getD i 0 := by
  have one : ∀ i, i < L.length → ∃ p, L[i]? = some p ∧ es[i]? = some (p.2.hash w, Value.ref p.1) := fun i h => by
    refine ⟨L[i], List.getElem?_eq_getElem h, ?_⟩
    rw [← Array.getElem?_toList, hr, List.getElem?_map, List.getElem?_eq_getElem h]
    rfl
  have all : ∀ l : List Nat, (∀ i ∈ l, i < L.length) → l.filterMap (fun i => es[i]?) = entOf w (l.filterMap fun i => L[i]?) ∧
      (l.filterMap fun i => L[i]?).map (fun p => p.2.hash w) = l.map fun i => (es.map (·.1)).getD i 0 := by
    intro l
    induction l with
    | nil => exact fun _ => ⟨rfl, rfl⟩
    | cons i l ih =>
      intro hl
      obtain ⟨p, e1, e2⟩ := one i (hl i (List.mem_cons.mpr (.inl rfl)))
      obtain ⟨i1, i2⟩ := ih fun j hj => hl j (List.mem_cons.mpr (.inr hj))
      have e3 : (es.map (·.1)).getD i 0 = p.2.hash w := by
        have e4 : (es.map (·.1))[i]? = some (p.2.hash w) := by
          rw [Array.getElem?_map, e2]
          rfl
        simp [Array.getD_eq_getD_getElem?, e4]
      refine ⟨?_, ?_⟩
      · rw [List.filterMap_cons_some e2, List.filterMap_cons_some e1, i1]
        rfl
      · rw [List.filterMap_cons_some e1, List.map_cons, List.map_cons, i2, e3]
  obtain ⟨z1, z2⟩ := all order.toList fun i hi => List.mem_range.mp (hp.mem_iff.mp hi)
  refine ⟨_, by first | (rw [Array.toList_filterMap]; exact z1) | simpa using z1, ?_, z2⟩
  have z3 := hp.filterMap fun i => L[i]?
  rw [picked L L.length (Nat.le_refl _), List.take_length] at z3
  exact z3

variable {A : Around} {E : Value → Shared → Prop} {s : Shared} {a : Addr} {L : List (Addr × NestedKey)} {es : Array (Int × Value)} {ep : Nat} {t : SetTable}

/-- all laid anew in a larger table -/
theorem regrow {o : Obj} (ho : s.heap.get? a = some o) (hex : o.ExactSet) (hd : o.data = .set es ep t) (ent : es.toList = entOf w L) (hsz : t.place.size = es.size) (hdm : t.dummies = #[]) (hfl : es.size ≤ t.mask)
    (one : (L.map Prod.snd).Nodup) (keys : ∀ p ∈ L, IsK P w s.heap p.2 p.1) (lead : w.params.followText "set-order" = true ∨ t.led = true) (few : L.length < 64) {want M : Nat}
    (big : SetTable.sizeAbove want - 1 = M) (mok : MaskOk M) (top : SetTable.sizeAbove want ≤ 128) (air : L.length * 5 < M * 3) {Q : Unit → Shared → Prop}
    (hQ : ∀ h' L' es' ep' t', Heap.SameBut a s.heap h' → SetK P w h' a L' es' ep' t' → L'.Perm L → Q () { s with heap := h' }) : wpAny (model P w) A (setRelay a want) Q E s := by
  have n1 : es.size = L.length := ent_len ent
  obtain ⟨u, order, e, hp, tab, em, el, _, _⟩ := relaid_ok t (hs := es.map (·.1)) (wanted := want) big mok (by rw [Array.size_map, n1]; omega)
  rw [Array.size_map, n1] at hp
  obtain ⟨M', m1, m2, m3⟩ := reorder ent hp
  rw [← m3] at tab
  have n2 : (order.filterMap (es[·]?)).size = es.size := by rw [ent_len m1, m2.length_eq, n1]
  rw [setRelay_eq]
  refine wpAny_bind (wpAny_setState_of ho hd (fits_of hsz hdm hfl) ?_)
  dsimp only
  refine wp_if_neg (by rw [sizeLine_eq]; omega) ?_
  try refine wpAny_bind (wpAny_pure ?_)
  rw [e]
  dsimp only
  refine wpAny_bind (wp_if_neg (by rw [n2]; simp) ?_)
  try refine wpAny_bind (wpAny_pure ?_)
  refine wpAny_pure ?_
  dsimp only
  refine wpAny_storeSet_of ho hd ?_ (by rw [n2, n1, sizeLine_eq]; omega)
  have sb : Heap.SameBut a s.heap (s.heap.update a (Obj.putSet (order.filterMap (es[·]?)) u)) := Heap.SameBut.update ..
  refine hQ _ M' _ (ep + 1) u sb ⟨⟨_, store_at ho hd, ⟨hex.1, hex.2.1, hex.2.2⟩, rfl⟩, m1, tab, (m2.map Prod.snd).nodup_iff.mpr one, fun p hpm => isK_past (keys p (m2.mem_iff.mp hpm)) ho hd sb, el ▸ lead, ?_, ?_⟩ m2
  · rw [m2.length_eq, em]; exact air
  · rw [m2.length_eq]; exact few
end
end Ask
/-! AskBk: one key put into a set of nested keys. -/
namespace Ask
open PySem PySem.Spec PyProof.Rows L2
theorem tab_flag {t : SetTable} {hs : List Int} (T : TabOk t hs) (b : Bool) : TabOk { t with plain := b } hs :=
  ⟨T.ris, T.dm, T.sz, T.mok, T.bd, T.reach⟩
section
variable {P : Program} {w : World} {A : Around} {E : Value → Shared → Prop} {s : Shared} {a : Addr} {L : List (Addr × NestedKey)} {es : Array (Int × Value)} {ep : Nat} {t : SetTable}

/-- the end of putting in: the new entries e1 and the new table u are stored, and all is laid anew if it is too full -/
theorem putEnd (S : SetK P w s.heap a L es ep t) {x : Addr} {k : NestedKey} (hx : IsK P w s.heap k x) (nw : k ∉ L.map Prod.snd) (few : L.length + 1 < 64) {e1 : Array (Int × Value)} {u : SetTable} {L1 : List (Addr × NestedKey)}
    (pm : L1.Perm ((x, k) :: L)) (ent : e1.toList = entOf w L1) (tab : TabOk u (L1.map fun p => p.2.hash w)) (em : u.mask = t.mask) (el : u.led = t.led) (ef : u.fill = L.length + 1) {Q : Bool → Shared → Prop}
    (hQ : ∀ h' L' es' ep' t', Heap.SameBut a s.heap h' → SetK P w h' a L' es' ep' t' → L'.Perm ((x, k) :: L) → Q true { s with heap := h' }) :
    wpAny (model P w) A (do
      storeSet a e1 u
      if !false && u.tooFull then setRelay a (SetTable.grown (es.size + 1))
      return true) Q E s := by
  obtain ⟨o, ho, hex, hd⟩ := S.obj
  have n0 := ent_len S.ent
  have air := S.air
  have n1 : L1.length = L.length + 1 := pm.length_eq
  have n2 : e1.size = L.length + 1 := by rw [ent_len ent, n1]
  refine wpAny_bind (wpAny_storeSet_of ho hd ?_ (by rw [n2, sizeLine_eq]; omega))
  have sb : Heap.SameBut a s.heap (s.heap.update a (Obj.putSet e1 u)) := Heap.SameBut.update ..
  have ho1 := store_at (es' := e1) (t' := u) ho hd
  generalize s.heap.update a (Obj.putSet e1 u) = h1 at sb ho1 ⊢
  have keys : ∀ p ∈ L1, IsK P w h1 p.2 p.1 := fun p hp => by
    cases List.mem_cons.mp (pm.mem_iff.mp hp) with
    | inl e => exact e ▸ isK_past hx ho hd sb
    | inr m => exact isK_past (S.keys p m) ho hd sb
  have one : (L1.map Prod.snd).Nodup := (pm.map Prod.snd).nodup_iff.mpr (List.nodup_cons.mpr ⟨nw, S.one⟩)
  have lead : w.params.followText "set-order" = true ∨ u.led = true := el ▸ S.lead
  have full : u.tooFull = decide ((L.length + 1) * 5 ≥ u.mask * 3) := by
    unfold SetTable.tooFull
    rw [ef]
  rcases Classical.em ((L.length + 1) * 5 ≥ u.mask * 3) with c | c
  · have hf : u.tooFull = true := by rw [full]; exact decide_eq_true c
    have size : (t.mask = 7 ∧ L.length = 4) ∨ (t.mask = 31 ∧ L.length = 18) := by
      rw [em] at c
      rcases S.tab.mok with e | e | e
      · exact .inl ⟨e, by rw [e] at c air; omega⟩
      · exact .inr ⟨e, by rw [e] at c air; omega⟩
      · rw [e] at c; omega
    have hp : u.place.size = e1.size := by
      have z := tab.sz
      rw [List.length_map, n1] at z
      rw [z, n2]
    have go : ∀ M, SetTable.sizeAbove (SetTable.grown (L.length + 1)) = M + 1 → MaskOk M → M ≤ 127 → (L.length + 1) * 5 < M * 3 →
        wpAny (model P w) A (setRelay a (SetTable.grown (L.length + 1))) (fun _ s' => wpAny (model P w) A (pure true) Q E s') E { s with heap := h1 } := fun M g1 g2 g3 g4 => by
      refine regrow (s := { s with heap := h1 }) ho1 ⟨hex.1, hex.2.1, hex.2.2⟩ rfl ent hp tab.dm (by rw [n2, em]; rcases size with ⟨e, e'⟩ | ⟨e, e'⟩ <;> omega) one keys lead (by omega) (M := M) (by omega) g2 (by omega) (by omega) ?_
      intro h2 L2 es2 ep2 t2 sb2 S2 pm2
      exact wpAny_pure (hQ h2 L2 es2 ep2 t2 (sb.trans sb2) S2 (pm2.trans pm))
    rw [n0]
    first
      | (refine wpAny_bind ?_; refine wp_if_pos (by simp [hf]) ?_)
      | (refine wp_if_pos (by simp [hf]) ?_; refine wpAny_bind ?_)
    rcases size with ⟨_, e⟩ | ⟨_, e⟩
    · exact go 31 (by rw [e]; exact size_20) (.inr (.inl rfl)) (by decide) (by omega)
    · exact go 127 (by rw [e]; exact size_76) (.inr (.inr rfl)) (by decide) (by omega)
  · have hf : u.tooFull = false := by rw [full]; exact decide_eq_false c
    first
      | refine wp_if_neg (by simp [hf]) ?_
      | (refine wpAny_bind ?_; refine wp_if_neg (by simp [hf]) ?_; refine wpAny_pure ?_)
    refine wpAny_pure (hQ h1 L1 e1 (ep + 1) u sb ⟨⟨_, ho1, ⟨hex.1, hex.2.1, hex.2.2⟩, rfl⟩, ent, tab, one, keys, lead, by omega, by omega⟩ pm)

/-- a key put in -/
theorem putKey (S : SetK P w s.heap a L es ep t) {x : Addr} {k : NestedKey} (hx : IsK P w s.heap k x) (room : A.units + 8 < cLine) (few : L.length + 1 < 64) {Q : Bool → Shared → Prop}
    (hQ : ∀ b h' L' es' ep' t', Heap.SameBut a s.heap h' → SetK P w h' a L' es' ep' t' → (k ∈ L.map Prod.snd → L' = L) → (k ∉ L.map Prod.snd → L'.Perm ((x, k) :: L)) → Q b { s with heap := h' }) :
    wpAny (model P w) A (setAddHashed a (.ref x) (k.hash w)) Q E s := by
  obtain ⟨o, ho, hex, hd⟩ := S.obj
  unfold setAddHashed
  refine wpAny_holding ?_
  rw [show (100000 : Nat) = 99999 + 1 from rfl, setAddHashedIn_succ]
  refine wpAny_bind (wpAny_setState_of ho hd S.fit ?_)
  dsimp only
  refine wp_if_neg (by simp [byScan, Value.scannable]) ?_
  try refine wpAny_bind (wpAny_pure ?_)
  refine wpAny_bind (lookup S hx room (fun m => ?_) fun K m free taken => ?_)
  · exact wpAny_pure (hQ false s.heap L es ep t (Heap.SameBut.refl a s.heap) S (fun _ => rfl) fun z => absurd m z)
  · dsimp only
    refine wpAny_bind (wpAny_setState_of ho hd S.fit ?_)
    dsimp only
    obtain ⟨q1, q2, q3, q4, q5, q6, q7, q8, q9⟩ := S.tab.put free taken
    generalize hpt : t.put (way t.mask (k.hash w) K) = pt at q1 q3 q4 q5 q6 q7 q8 q9 ⊢
    obtain ⟨u, p⟩ := pt
    dsimp only at q1 q3 q4 q5 q6 q7 q8 q9 ⊢
    subst q1
    generalize hpp : SetTable.below t.place (way t.mask (k.hash w) K) = p at q2 q3 ⊢
    have pm := put_perm L p (x, k)
    have ent : (SetTable.insertAt es p (k.hash w, Value.ref x)).toList = entOf w (L.take p ++ (x, k) :: L.drop p) := by
      rw [SetTable.toList_insertAt, S.ent]
      show _ = List.map _ _
      rw [List.map_append, List.map_cons, List.map_take, List.map_drop]
    have hh : (L.take p ++ (x, k) :: L.drop p).map (fun p => p.2.hash w) = (L.map fun p => p.2.hash w).take p ++ k.hash w :: (L.map fun p => p.2.hash w).drop p := by
      rw [List.map_append, List.map_cons, List.map_take, List.map_drop]
    rw [← hh] at q3
    have q9' : u.fill = L.length + 1 := by rw [q9, List.length_map]
    have fin : ∀ b : Bool, wpAny (model P w) A (do
        let t2 := if b then u else { u with plain := false }
        storeSet a (SetTable.insertAt es p (k.hash w, Value.ref x)) t2
        if !false && t2.tooFull then setRelay a (SetTable.grown (es.size + 1))
        return true) Q E s := fun b => by
      cases b with
      | true => exact putEnd S hx m few pm ent q3 q4 q5 q9' fun h' L' es' ep' t' r1 r2 r3 => hQ true h' L' es' ep' t' r1 r2 (fun z => absurd z m) fun _ => r3
      | false => exact putEnd S hx m few pm ent (tab_flag q3 false) q4 q5 q9' fun h' L' es' ep' t' r1 r2 r3 => hQ true h' L' es' ep' t' r1 r2 (fun z => absurd z m) fun _ => r3
    rcases Bool.eq_false_or_eq_true u.plain with c | c
    · first
        | (refine wpAny_bind ?_; refine wp_if_pos c ?_; exact byVal_key k _ 8 s hx.1 hx.2 _ _ _ fin)
        | exact wp_if_pos c (wpAny_bind (byVal_key k _ 8 s hx.1 hx.2 _ _ _ fin))
    · have c' : ¬ u.plain = true := by rw [c]; decide
      first
        | (refine wpAny_bind ?_; refine wp_if_neg c' ?_; exact wpAny_pure (fin true))
        | exact wp_if_neg c' (fin true)
end
end Ask
/-! AskSo: sorted of a set of nested keys, by any order that the keys can be told by. -/
namespace Ask
open PySem PySem.Spec PyProof.Rows L2
section
variable {P : Program} {w : World} {A : Around} {E : Value → Shared → Prop} {s : Shared} {a : Addr} {L : List (Addr × NestedKey)} {es : Array (Int × Value)} {ep : Nat} {t : SetTable}
theorem sortedK (S : SetK P w s.heap a L es ep t) (calm : A.handled = none) {ltv : Value → Value → Bool} (O : SrtO.Swo ltv)
    (can : ∀ (vs : List Value), vs.Perm (L.map fun p => Value.ref p.1) → 2 ≤ vs.length → ∀ (s1 : Shared) (l : Addr), s1.heap.get? l = some (seqObj "list" vs.toArray 0) →
      (∀ b o, s.heap.get? b = some o → b ≠ l ∧ s1.heap.get? b = some o) → SrtO.SortableO P w A.in1.in1 s1 l vs ltv) {Q : Value → Shared → Prop}
    (hQ : ∀ (s' : Shared) (p : Addr) (out : List Value) (c : Nat), (∀ b o, s.heap.get? b = some o → s'.heap.get? b = some o) → s'.gens = s.gens → s'.os = s.os → s.heap.objs.size ≤ p →
      s'.heap.get? p = some (seqObj "list" out.toArray c) → out.Perm (L.map fun p => Value.ref p.1) → SrtO.Srtd ltv out → Q (.ref p) s') :
    wpAny (model P w) A (call (.builtin "sorted") [.ref a]) Q E s := by
  obtain ⟨o, ho, hex, hd⟩ := S.obj
  have n0 := ent_len S.ent
  have few := S.few
  refine Calls.call_function_entry kind_sorted plain_sorted entry_sorted (args_sorted1 _) ?_
  unfold Builtin.«sorted»
  refine wpAny_bind (m := checkCount "sorted" 1 1 _) (wpAny_pure ?_)
  refine wpAny_bind (collect_set (A := A.in1) calm ⟨o, ho, hex.1, hd⟩ S.fit (by unfold scanBound; omega) S.tab.ris S.lead ?_)
  intro s1 vs keep grow g1 o1 pm
  have vals : es.toList.map (·.2) = L.map fun p => Value.ref p.1 := by
    rw [S.ent, List.map_map]
    rfl
  rw [vals] at pm
  have short : vs.length < 64 := by
    rw [pm.length_eq, List.length_map]
    exact few
  refine wpAny_bind (wpAny_newList ?_ (by rw [sizeLine_eq]; omega))
  have at0 : (s1.heap.push (seqObj "list" vs.toArray 0)).get? s1.heap.objs.size = some (seqObj "list" vs.toArray 0) := Heap.get?_push_size _ rfl
  have past : ∀ b u, s.heap.get? b = some u → b ≠ s1.heap.objs.size ∧ (s1.heap.push (seqObj "list" vs.toArray 0)).get? b = some u := fun b u e =>
    ⟨Nat.ne_of_lt (Heap.lt_size (keep b u e)), Heap.get?_push_of_some _ (keep b u e)⟩
  refine wpAny_bind (wpAny_holding (wpAny_call_entry slot_list_sort ⟨_, at0, rfl⟩ entry_list_sort
    (SrtO.list_sort_ord (s := { s1 with heap := s1.heap.push (seqObj "list" vs.toArray 0) }) O at0 (by rw [sizeLine_eq]; omega) (fun h2 => can vs pm h2 _ _ at0 past) fun out ord stb => ⟨_, rfl, ?_⟩) (args_list_sort _)))
  obtain ⟨c, hc⟩ := sortedHeap_at (vs := vs) (out := out.toArray) at0
  refine wpAny_pure ⟨_, rfl, hQ _ s1.heap.objs.size out c (fun b u e => ?_) g1 o1 grow hc (stb.perm.trans pm) ord⟩
  obtain ⟨ne, e2⟩ := past b u e
  show (sortedHeap (s1.heap.push (seqObj "list" vs.toArray 0)) s1.heap.objs.size vs out.toArray).get? b = some u
  rw [sortedHeap_old ne (Heap.lt_size e2)]
  exact e2
end
end Ask
/-! The question of a right: account by account, and day by day and then sorted. -/
namespace AskG
open PySem PySem.Spec PyProof.Rows L2
def NamesUp (ws : List Cell) : Prop := ws.Pairwise fun a b => a.1.cps.toList < b.1.cps.toList
def flatDays (ws : List Cell) (ds : List Int) : RowD := ds.flatMap fun d => ws.map fun x => ((x.1, d), x.2)
theorem flat_split {α β : Type} (f : α → β) (g : α → List β) : ∀ ds : List α, (ds.flatMap fun d => f d :: g d).Perm (ds.map f ++ ds.flatMap g)
  | [] => .nil
  | d :: ds => by
    rw [List.flatMap_cons, List.map_cons, List.flatMap_cons, List.cons_append, List.cons_append]
    refine .cons _ ?_
    have h := flat_split f g ds
    refine (List.Perm.append_left (g d) h).trans ?_
    rw [← List.append_assoc, ← List.append_assoc]
    exact List.Perm.append_right _ List.perm_append_comm
theorem flat_perm (ds : List Int) : ∀ ws : List Cell, (flatDays ws ds).Perm (ws.flatMap fun x => ds.map fun d => ((x.1, d), x.2))
  | [] => by
    have : flatDays [] ds = [] := by
      unfold flatDays
      induction ds with
      | nil => rfl
      | cons d ds ih => exact ih
    rw [this]
    exact .nil
  | x :: ws => by
    have h1 := flat_split (fun d : Int => (((x.1, d), x.2) : Cell × Int)) (fun d => ws.map fun (y : Cell) => (((y.1, d), y.2) : Cell × Int)) ds
    exact h1.trans (List.Perm.append_left _ (flat_perm ds ws))
theorem days_up (lo hi : Int) : (daysOf lo hi).Pairwise (· < ·) := by
  unfold daysOf
  refine List.pairwise_map.mpr (List.pairwise_lt_range.imp fun h => ?_)
  omega
theorem rowOn_up (lo hi : Int) : ∀ {ws : List Cell}, NamesUp ws → (rowOn ws lo hi).Pairwise fun a b => ltX a b = true
  | [], _ => .nil
  | x :: ws, h => by
    have h := List.pairwise_cons.mp h
    show ((daysOf lo hi).map (fun d => ((x.1, d), x.2)) ++ rowOn ws lo hi).Pairwise _
    refine List.pairwise_append.mpr ⟨List.pairwise_map.mpr ((days_up lo hi).imp fun e => ?_), rowOn_up lo hi h.2, fun a ha b hb => ?_⟩
    · exact ltX_iff.mpr (.inl (ltC_iff.mpr (.inr ⟨rfl, e⟩)))
    · obtain ⟨d, _, rfl⟩ := List.mem_map.mp ha
      obtain ⟨y, hy, hb⟩ := List.mem_flatMap.mp hb
      obtain ⟨d', _, rfl⟩ := List.mem_map.mp hb
      exact ltX_iff.mpr (.inl (ltC_iff.mpr (.inl (h.1 y hy))))
theorem sortX_uniq : ∀ {a b : RowD}, a.Perm b → a.Pairwise (fun x y => ltX y x = false) → b.Pairwise (fun x y => ltX x y = true) → a = b
  | [], b, p, _, _ => (List.nil_perm.mp p).symm
  | x :: a, [], p, _, _ => absurd p.length_eq (by simp)
  | x :: a, y :: b, p, h, g => by
    have h := List.pairwise_cons.mp h
    have g := List.pairwise_cons.mp g
    have e : x = y := by
      by_cases z : x = y
      · exact z
      · have h1 : x ∈ b := by
          rcases List.mem_cons.mp (p.mem_iff.mp List.mem_cons_self) with q | q
          · exact absurd q z
          · exact q
        have h2 : y ∈ a := by
          rcases List.mem_cons.mp (p.mem_iff.mpr List.mem_cons_self) with q | q
          · exact absurd q.symm z
          · exact q
        have := h.1 y h2
        rw [g.1 x h1] at this
        cases this
    subst e
    rw [sortX_uniq p.cons_inv h.2 g.2]
theorem sorted_flat {ws : List Cell} {lo hi : Int} (h : NamesUp ws) {π : RowD} (p : π.Perm (flatDays ws (daysOf lo hi))) (s : π.Pairwise fun a b => ltX b a = false) : π = rowOn ws lo hi :=
  sortX_uniq (p.trans (flat_perm (daysOf lo hi) ws)) s (rowOn_up lo hi h)
theorem flat_snoc {ws : List Cell} {ds : List Int} {i : Nat} {d : Int} (h : ds[i]? = some d) : flatDays ws (ds.take (i + 1)) = flatDays ws (ds.take i) ++ ws.map fun x => ((x.1, d), x.2) := by
  unfold flatDays
  rw [List.take_add_one, h, List.flatMap_append]
  congr 1
  show _ ++ [] = _
  rw [List.append_nil]
theorem flat_len (ws : List Cell) : ∀ ds : List Int, (flatDays ws ds).length = ds.length * ws.length
  | [] => by
    rw [List.length_nil, Nat.zero_mul]
    rfl
  | d :: ds => by
    show (ws.map (fun x => ((x.1, d), x.2)) ++ flatDays ws ds).length = _
    rw [List.length_append, List.length_map, flat_len ws ds, List.length_cons, Nat.succ_mul]
    omega
end AskG
/-! Displays over several names; a list that is extended by displays. -/
namespace AskG
open PySem PySem.Spec PyProof.Rows L2
/-- the names in these slots hold these data -/
def SrcM (l : List (Nat × PyData)) (D : Addr) (σ : L2.St) (H : Hp) : Prop := (∀ x ∈ l, ∃ v, σ[x.1]? = some (some v) ∧ DH D H v x.2) ∧ Taken H D
theorem SrcM.keep {l : List (Nat × PyData)} {D : Addr} {σ : L2.St} {H H' : Hp} (h : SrcM l D σ H) (s : Same H H') : SrcM l D σ H' :=
  ⟨fun x hx => by
    obtain ⟨v, hv, hd⟩ := h.1 x hx
    exact ⟨v, hv, hd.keep (KeepD.of s)⟩, h.2.keep s⟩
theorem SrcM.keepD {l : List (Nat × PyData)} {D : Addr} {σ : L2.St} {H H' : Hp} (h : SrcM l D σ H) (s : KeepD D H H') (t : Taken H' D) : SrcM l D σ H' :=
  ⟨fun x hx => by
    obtain ⟨v, hv, hd⟩ := h.1 x hx
    exact ⟨v, hv, hd.keep s⟩, t⟩
def tFm {α : Type} (l : α → List (Nat × PyData)) (d : α → PyData) : TE := fun σ H Q => ∃ a D, SrcM (l a) D σ H ∧ ∀ H' v, Same H H' → DH D H' v (d a) → Q v H'
def tFms {α : Type} (l : α → List (Nat × PyData)) (ds : α → List PyData) : TA := fun σ H Q => ∃ a D, SrcM (l a) D σ H ∧ ∀ H' vs, Same H H' → DHs D H' vs (ds a) → Q vs H'
/-- a name that holds a whole number -/
theorem SrcM.int {l : List (Nat × PyData)} {D : Addr} {σ : L2.St} {H : Hp} {i : Nat} {j : Int} (h : SrcM l D σ H) (m : (i, .int j) ∈ l) : σ[i]? = some (some (.int j)) := by
  obtain ⟨v, hv, hd⟩ := h.1 _ m
  obtain rfl := DH.int_inv hd
  exact hv
theorem SrcM.tup {l : List (Nat × PyData)} {D : Addr} {σ : L2.St} {H : Hp} {i : Nat} {ds : List PyData} (h : SrcM l D σ H) (m : (i, .tuple ds) ∈ l) : ∃ a xs, σ[i]? = some (some (.ref a)) ∧ H a = some (.tup xs) ∧ DHs D H xs ds := by
  obtain ⟨v, hv, hd⟩ := h.1 _ m
  obtain ⟨a, xs, rfl, ha, t⟩ := DH.tup_inv hd
  exact ⟨a, xs, hv, ha, t⟩
section
variable {X : Cx} {e : Expr} {es : List Expr} {α : Type} {l : α → List (Nat × PyData)} {d : α → PyData} {ds : α → List PyData}
theorem fm_nil : PA X [] (tFms l fun _ => []) := ⟨fun pos pins s σ H Q I ⟨_, _, q⟩ => (pa_nil (X := X)).run pos pins s σ H Q I (q.2 H [] (Same.refl _) .nil)⟩
theorem fm_cons (h : PE X e (tFm l d)) (g : PA X es (tFms l ds)) (hs : starEach (e :: es) X.env = (false, eval e X.env) :: starEach es X.env := by rfl) : PA X (e :: es) (tFms l fun a => d a :: ds a) := by
  refine ⟨fun pos pins s σ H Q I ⟨a, D, q⟩ => (pa_cons h g hs).run pos pins s σ H Q I ⟨a, D, q.1, fun H1 v s1 h1 => ⟨a, D, q.1.keep s1, fun H2 vs s2 h2 => ?_⟩⟩⟩
  exact q.2 H2 (v :: vs) (s1.trans s2) (.cons (h1.keep (KeepD.of s2)) h2)
theorem fm_new {d : PyData} (h : PE X e (tNew d)) : PE X e (tFm l fun _ => d) := PE.less h fun σ H Q ⟨a, D, q⟩ H' v s n => q.2 H' v s (n D q.1.2)
theorem fm_var {i : Nat} (h : PE X e (tVar i)) (m : ∀ a, (i, d a) ∈ l a) : PE X e (tFm l d) := PE.less h fun σ H Q ⟨a, D, q⟩ => by
  obtain ⟨v, hv, hd⟩ := q.1.1 _ (m a)
  exact ⟨v, hv, q.2 H v (Same.refl _) hd⟩
theorem fm_tup {x1} {pos : Pos} (h : PA X es (tFms l ds)) (hz : ∀ a, (ds a).length ≤ 1000) : PE X (.Tuple es x1 pos) (tFm l fun a => .tuple (ds a)) := by
  refine PE.less (pe_tup h) fun σ H Q ⟨a, D, q⟩ => ?_
  refine ⟨a, D, q.1, fun H1 vs s1 h1 => ⟨by have := sizeBig; have := h1.len; have := hz a; omega, fun p hp => ?_⟩⟩
  have s2 := same_new (o := .tup vs) hp
  exact q.2 _ _ (s1.trans s2) (.tup upd_same (h1.keep (KeepD.of s2)))
theorem fm_lst {pos : Pos} (h : PA X es (tFms l ds)) (hz : ∀ a, (ds a).length ≤ 1000) : PE X (.List es pos) (tFm l fun a => .list (ds a)) := by
  refine PE.less (pe_lst h) fun σ H Q ⟨a, D, q⟩ => ?_
  refine ⟨a, D, q.1, fun H1 vs s1 h1 => ⟨by have := sizeBig; have := h1.len; have := hz a; omega, fun p hp => ?_⟩⟩
  have s2 := same_new (o := .lst vs) hp
  refine q.2 _ _ (s1.trans s2) (.lst ((q.1.2.keep s1).ne hp) upd_same (h1.keep (KeepD.of s2)))
theorem new_neg {i : Int} (h : PE X e (tUn (rU fun i => .int (-i)) (tC (.int i)))) : PE X e (tNew (.int (-i))) := PE.less h fun _ H _ q => ⟨i, rfl, q H _ (Same.refl _) fun _ _ => .int _⟩
/-- t * k -/
theorem fm_rep {te : TE} {k : Int} (h : PE X e (tOp (rRepT X.K) te (tC (.int k)))) (ht : ∀ σ H Q, tFm l (fun a => .tuple (ds a)) σ H Q → te σ H Q) (n0 : ∀ a, ds a ≠ []) (k2 : 2 ≤ k) (k3 : k ≤ 1000) (hl : ∀ a, (ds a).length ≤ 1000) : PE X e (tFm l fun a => .tuple (List.replicate k.toNat (ds a)).flatten) := by
  refine PE.less h fun σ H Q ⟨a, D, q⟩ => ht σ H _ ⟨a, D, q.1, fun H1 v s1 h1 => ?_⟩
  obtain ⟨b, xs, rfl, hb, t⟩ := h1.tup_inv
  have e := t.len
  have := hl a
  refine ⟨b, k, xs, rfl, rfl, sqT hb, fun z => n0 a ?_, k2, k3, by omega, fun p hp => ?_⟩
  · rw [z] at e
    exact List.eq_nil_of_length_eq_zero e.symm
  · have s2 := same_new (o := .tup (List.replicate k.toNat xs).flatten) hp
    refine q.2 _ _ (s1.trans s2) (.tup upd_same ?_)
    have t2 := t.keep (KeepD.of s2)
    clear s2
    generalize upd H1 p (.tup (List.replicate k.toNat xs).flatten) = H2 at t2 ⊢
    generalize k.toNat = n
    induction n with
    | zero => exact .nil
    | succ n ih =>
      rw [List.replicate_succ, List.replicate_succ, List.flatten_cons, List.flatten_cons]
      exact t2.app ih
end
/-- a list that is being filled, and the names that hold data -/
structure FoundAt (H0 : Hp) (l : List (Nat × PyData)) (σ : L2.St) (Lf : Addr) (ds : List PyData) (H : Hp) : Prop where
  new : H0 Lf = none
  keep : Same H0 H
  list : ∃ vs, H Lf = some (.lst vs) ∧ DHs Lf H vs ds
  src : SrcM l Lf σ H
theorem keepD_put {H : Hp} {Lf : Addr} {vs ws : List V} (h : H Lf = some (.lst vs)) : KeepD Lf H (upd H Lf (.lst ws)) :=
  ⟨fun b xs e => by rw [upd_ne (ne_of e h fun z => nomatch z)]; exact e, fun b xs n e => by rw [upd_ne n]; exact e⟩
/-- found.extend([..]) -/
theorem ext_read {K : PySem.W.Frag} {H0 H : Hp} {α : Type} {l : α → List (Nat × PyData)} {es : α → List PyData} {σ : L2.St} {s : Nat} {Lf : Addr} {ds : List PyData} {Q : VK} (a : α) (h : FoundAt H0 (l a) σ Lf ds H) (hs : σ[s]? = some (some (.ref Lf))) (len : ds.length + (es a).length ≤ 1000)
    (q : ∀ v H', FoundAt H0 (l a) σ Lf (ds ++ es a) H' → KeepD Lf H H' → Q v H') : tBM K "list" rExtend (tVar s) (tCons (tFm l fun a => .list (es a)) tNil) σ H Q := by
  obtain ⟨vs, hv, hd⟩ := h.list
  refine ⟨.ref Lf, hs, .inl ⟨rfl, _, sqL hv⟩, a, Lf, h.src, fun H1 v s1 h1 => ?_⟩
  obtain ⟨p, ys, rfl, np, hp, hys⟩ := h1.lst_inv
  have big := sizeBig
  have l1 := hd.len
  have l2 := hys.len
  refine ⟨Lf, p, vs, ys, rfl, rfl, s1 _ _ hv, hp, by omega, ?_⟩
  have kd := keepD_put (ws := vs ++ ys) (s1 _ _ hv)
  refine q _ _ ⟨h.new, fun b o e => ?_, ⟨vs ++ ys, upd_same, ((hd.keep (KeepD.of s1)).app hys).keep kd⟩, (h.src.keep s1).keepD kd ⟨_, upd_same⟩⟩ ((KeepD.of s1).trans kd)
  rw [upd_ne (ne_of_none e h.new)]
  exact s1 _ _ (h.keep _ _ e)
/-- found + [..] -/
theorem cat_read {H0 H : Hp} {α : Type} {l : α → List (Nat × PyData)} {es : α → List PyData} {σ : L2.St} {s : Nat} {Lf : Addr} {ds : List PyData} {Q : VK} (a : α) (h : FoundAt H0 (l a) σ Lf ds H) (hs : σ[s]? = some (some (.ref Lf))) (len : ds.length + (es a).length ≤ 1000)
    (q : ∀ p H' ys, Same H0 H' → Same H H' → H p = none → H' p = some (.lst ys) → DHs Lf H' ys (ds ++ es a) → Q (.ref p) H') : tOp rCat (tVar s) (tFm l fun a => .list (es a)) σ H Q := by
  obtain ⟨vs, hv, hd⟩ := h.list
  refine ⟨.ref Lf, hs, a, Lf, h.src, fun H1 v s1 h1 => ?_⟩
  obtain ⟨p, ys, rfl, np, hp, hys⟩ := h1.lst_inv
  have big := sizeBig
  have l1 := hd.len
  have l2 := hys.len
  refine ⟨Lf, p, vs, ys, rfl, rfl, s1 _ _ hv, hp, by omega, fun c hc => ?_⟩
  have s2 := same_new (o := .lst (vs ++ ys)) hc
  have s12 := s1.trans s2
  have hc0 : H c = none := by
    cases e : H c with
    | none => rfl
    | some o =>
      have := s1 _ _ e
      rw [hc] at this
      cases this
  exact q c _ _ (h.keep.trans s12) s12 hc0 upd_same (((hd.keep (KeepD.of s1)).app hys).keep (KeepD.of s2))
theorem iDrop {te : TE} {D : Ends} {σ : L2.St} {H : Hp} (h : te σ H fun _ H1 => D.nx σ H1) : tDrop te D σ H := h
end AskG
/-! repr of any value; rights and rows out of data; append. -/
namespace AskG
open PySem PySem.Spec PyProof.Rows L2
def rReprV (K : PySem.W.Frag) : List V → Hp → VK → Prop := fun xs H Q => rRepr K xs H Q ∨ (xs = [.non] ∧ Q (.str PyData.none.shown) H)
theorem call_reprV {X : Cx} {k : Nat} (hr : RG k X.A) : CallR X (.builtin "repr") (rReprV X.K) := by
  intro pins s σ H xs us Q I r q
  rcases q with q | ⟨rfl, q⟩
  · exact call_repr hr pins s σ H xs us Q I r q
  · obtain ⟨u, rfl, rx⟩ := vals1 r
    cases rx
    exact PySem.P.repr_of_none ⟨.str PyData.none.shown, H, I.tok _, ⟨_, rfl⟩, q⟩
theorem reprV_ref {K : PySem.W.Frag} {H : Hp} {a : Addr} {d : PyData} {n m : Nat} {Q : VK} (h : Dp K H (.ref a) d) (f : Fine n m d) (hn : n ≤ 60) (hm : m ≤ 16777216) (q : Q (.str d.shown) H) : rReprV K [.ref a] H Q :=
  .inl ⟨a, d, rfl, h, f.shw, f.nod, Nat.le_trans f.dep hn, by rw [sizeLine_eq]; exact Nat.le_trans f.len hm, q⟩
/-- None or a row -/
def OptAt (H : Hp) (v : V) : Option RowD → Prop
  | none => v = .non
  | some ρ => ∃ p, v = .ref p ∧ RowAt H p ρ
def optD : Option RowD → PyData
  | none => .none
  | some ρ => rowPD ρ
theorem OptAt.keep {H H' : Hp} {v : V} {o : Option RowD} (h : OptAt H v o) (k : KeepT H H') : OptAt H' v o := by
  cases o with
  | none => exact h
  | some ρ =>
    obtain ⟨p, rfl, h⟩ := h
    exact ⟨p, rfl, h.keep k⟩
theorem reprV_opt {K : PySem.W.Frag} {H : Hp} {v : V} {o : Option RowD} {Q : VK} (h : OptAt H v o) (f : ∀ ρ, o = some ρ → RowOk ρ) (q : Q (.str (optD o).shown) H) : rReprV K [v] H Q := by
  cases o with
  | none =>
    obtain rfl : v = .non := h
    exact .inr ⟨rfl, q⟩
  | some ρ =>
    obtain ⟨p, rfl, h⟩ := h
    exact reprV_ref (dp_row h) (fine_row (f ρ rfl)) (by decide) (by decide) q
/-! ### out of data -/
theorem dhs_cells {D : Addr} {H : Hp} : ∀ {ws : List Cell} {xs : List V}, DHs D H xs (ws.map cellD) → ∃ ps : List Addr, xs = ps.map V.ref ∧ Paired (CellAt H) ps ws
  | [], _, .nil => ⟨[], rfl, .nil⟩
  | c :: ws, _, .cons h t => by
    obtain ⟨ps, rfl, hp⟩ := dhs_cells t
    obtain ⟨a, p, q, rfl, ha, h1, h2⟩ := DH.pair_inv h
    obtain rfl := h1.str_inv
    obtain rfl := h2.int_inv
    exact ⟨a :: ps, rfl, .cons ha hp⟩
theorem dh_kind_inv {D : Addr} {H : Hp} {v : V} {k : KindM} (h : DH D H v k.data) : ∃ a, v = .ref a ∧ H a = some (.tup k.vals) := by
  cases k with
  | tot s =>
    obtain ⟨a, p, q, rfl, ha, h1, h2⟩ := DH.pair_inv h
    obtain rfl := h1.str_inv
    obtain rfl := h2.int_inv
    exact ⟨a, rfl, ha⟩
  | win l =>
    obtain ⟨a, p, q, rfl, ha, h1, h2⟩ := DH.pair_inv h
    obtain rfl := h1.str_inv
    obtain rfl := h2.int_inv
    exact ⟨a, rfl, ha⟩
  | per b e =>
    obtain ⟨a, xs, rfl, ha, t⟩ := DH.tup_inv h
    cases t with
    | cons h1 t => cases t with
      | cons h2 t => cases t with
        | cons h3 t =>
          cases t
          obtain rfl := h1.str_inv
          obtain rfl := h2.int_inv
          obtain rfl := h3.int_inv
          exact ⟨a, rfl, ha⟩
theorem right_inv {D : Addr} {H : Hp} {v : V} {R : Rt} (h : DH D H v (rightD R)) : ∃ a, v = .ref a ∧ RightAt H a R := by
  obtain ⟨a, xs, rfl, ha, t⟩ := DH.tup_inv h
  cases t with
  | cons h1 t => cases t with
    | cons h2 t => cases t with
      | cons h3 t => cases t with
        | cons h4 t => cases t with
          | cons h5 t =>
            cases t
            obtain rfl := h1.str_inv
            obtain ⟨wa, ys, rfl, hwa, hys⟩ := h2.tup_inv
            obtain ⟨ps, rfl, hp⟩ := dhs_cells hys
            obtain rfl := h3.int_inv
            obtain rfl := h4.int_inv
            obtain ⟨ka, rfl, hka⟩ := dh_kind_inv h5
            exact ⟨a, rfl, wa, ps, ka, ha, hwa, hp, hka⟩
theorem dhs_pairs {D : Addr} {H : Hp} : ∀ {ρ : RowD} {xs : List V}, DHs D H xs (ρ.map pairD) → ∃ ps : List Addr, xs = ps.map V.ref ∧ Paired (PairRow H) ps ρ
  | [], _, .nil => ⟨[], rfl, .nil⟩
  | x :: ρ, _, .cons h t => by
    obtain ⟨ps, rfl, hp⟩ := dhs_pairs t
    obtain ⟨a, p, q, rfl, ha, h1, h2⟩ := DH.pair_inv h
    obtain ⟨b, p', q', rfl, hb, h3, h4⟩ := DH.pair_inv h1
    obtain rfl := h2.int_inv
    obtain rfl := h3.str_inv
    obtain rfl := h4.int_inv
    exact ⟨a :: ps, rfl, .cons ⟨b, ha, hb⟩ hp⟩
theorem row_inv {D : Addr} {H : Hp} {v : V} {ρ : RowD} (h : DH D H v (rowPD ρ)) : ∃ a, v = .ref a ∧ RowAt H a ρ := by
  obtain ⟨a, xs, rfl, ha, t⟩ := DH.tup_inv h
  obtain ⟨ps, rfl, hp⟩ := dhs_pairs t
  exact ⟨a, rfl, ps, ha, hp⟩
/-! ### found.append(..) -/
theorem app_read {K : PySem.W.Frag} {H0 H : Hp} {α : Type} {l : α → List (Nat × PyData)} {d : α → PyData} {σ : L2.St} {s : Nat} {Lf : Addr} {ds : List PyData} {Q : VK} (a : α) (h : FoundAt H0 (l a) σ Lf ds H) (hs : σ[s]? = some (some (.ref Lf))) (len : ds.length < 1000)
    (q : ∀ v H', FoundAt H0 (l a) σ Lf (ds ++ [d a]) H' → KeepD Lf H H' → Q v H') : tBM K "list" rAppend (tVar s) (tCons (tFm l d) tNil) σ H Q := by
  obtain ⟨vs, hv, hd⟩ := h.list
  refine ⟨.ref Lf, hs, .inl ⟨rfl, _, sqL hv⟩, a, Lf, h.src, fun H1 v s1 h1 => ?_⟩
  have big := sizeBig
  have l1 := hd.len
  refine ⟨Lf, vs, v, rfl, rfl, s1 _ _ hv, by omega, ?_⟩
  have kd := keepD_put (ws := vs ++ [v]) (s1 _ _ hv)
  refine q _ _ ⟨h.new, fun b o e => ?_, ⟨vs ++ [v], upd_same, ((hd.keep (KeepD.of s1)).app (.cons h1 .nil)).keep kd⟩, (h.src.keep s1).keepD kd ⟨_, upd_same⟩⟩ ((KeepD.of s1).trans kd)
  rw [upd_ne (ne_of_none e h.new)]
  exact s1 _ _ (h.keep _ _ e)
/-! ### the question of a right, or None -/
def qOf (R : Rt) (t : Int) : Option RowD := if usedB R t = true then some (rowQ R t) else none
theorem qOf_ok {R : Rt} (h : RtOk R) {t : Int} (t0 : 0 ≤ t) (t9 : t ≤ 9) : ∀ ρ, qOf R t = some ρ → RowOk ρ := by
  intro ρ e
  unfold qOf at e
  by_cases u : usedB R t = true
  · rw [if_pos u] at e
    cases e
    obtain ⟨b1, b2, b3, b4⟩ := kind_bounds h.kind t0 t9
    have lit : ∀ {i : Int}, -1000 ≤ i → i ≤ 1000 → i.natAbs.log2 < 1920 := fun {i} h1 h2 => by
      by_cases z : i.natAbs = 0
      · rw [z]
        decide
      · have : i.natAbs < 2 ^ 10 := by omega
        have := (Nat.log2_lt z).mpr this
        omega
    have mem : ∀ x ∈ rowQ R t, ∃ c ∈ R.ws, ∃ d ∈ daysOf (R.kind.lo t) (R.kind.hi t), x = ((c.1, d), c.2) := fun x hx => by
      obtain ⟨c, hc, hx⟩ := List.mem_flatMap.mp hx
      obtain ⟨d, hd, rfl⟩ := List.mem_map.mp hx
      exact ⟨c, hc, d, hd, rfl⟩
    refine ⟨?_, fun x hx => ?_, fun x hx => ?_⟩
    · show (rowOn R.ws (R.kind.lo t) (R.kind.hi t)).length ≤ 100
      rw [rowOn_len]
      have : R.ws.length * (R.kind.hi t + 1 - R.kind.lo t).toNat ≤ 3 * 10 := Nat.mul_le_mul h.many (by omega)
      omega
    · obtain ⟨c, hc, d, hd, rfl⟩ := mem x hx
      have k := h.ws c hc
      obtain ⟨i, hi, rfl⟩ := List.mem_map.mp hd
      have hi := List.mem_range.mp hi
      exact ⟨k.short, k.plain, k.ok, lit (by show -1000 ≤ R.kind.lo t + (i : Int); omega) (by show R.kind.lo t + (i : Int) ≤ 1000; omega)⟩
    · obtain ⟨c, hc, d, hd, rfl⟩ := mem x hx
      exact (h.ws c hc).lit
  · rw [if_neg u] at e
    cases e
/-- how the promises of the two questions are used -/
theorem q_opt {R : Rt} {t : Int} {H' : Hp} {Q : VK} (h : ∀ v, OptAt H' v (qOf R t) → Q v H') : (usedB R t = false → Q .non H') ∧ (usedB R t = true → ∀ p, RowAt H' p (rowQ R t) → Q (.ref p) H') := by
  refine ⟨fun e => h _ ?_, fun e p hp => h _ ?_⟩
  · unfold qOf
    rw [e]
    exact rfl
  · unfold qOf
    rw [if_pos e]
    exact ⟨p, rfl, hp⟩
end AskG
/-! More displays: items of a list that a name holds, a tuple that a name holds + a tuple. -/
namespace AskG
open PySem PySem.Spec PyProof.Rows L2
theorem SrcM.lst {l : List (Nat × PyData)} {D : Addr} {σ : L2.St} {H : Hp} {i : Nat} {ds : List PyData} (h : SrcM l D σ H) (m : (i, .list ds) ∈ l) : ∃ a xs, σ[i]? = some (some (.ref a)) ∧ H a = some (.lst xs) ∧ DHs D H xs ds := by
  obtain ⟨v, hv, hd⟩ := h.1 _ m
  obtain ⟨a, xs, rfl, _, ha, t⟩ := DH.lst_inv hd
  exact ⟨a, xs, hv, ha, t⟩
theorem DHs.get {D : Addr} {H : Hp} : ∀ {xs : List V} {ds : List PyData}, DHs D H xs ds → ∀ {k : Nat} {d : PyData}, ds[k]? = some d → ∃ v, xs[k]? = some v ∧ DH D H v d
  | _, _, .nil, k, d, e => by cases k <;> cases e
  | _, _, .cons h t, 0, d, e => by
    cases e
    exact ⟨_, rfl, h⟩
  | _, _, .cons h t, k + 1, d, e => DHs.get t e
section
variable {X : Cx} {e : Expr} {α : Type} {l : α → List (Nat × PyData)}
theorem fm_ix {i k : Nat} {ds : List PyData} {d : PyData} (h : PE X e (tOp (rIxL X.K) (tVar i) (tC (.int (k : Int))))) (m : ∀ a, (i, .list ds) ∈ l a) (hd : ds[k]? = some d) : PE X e (tFm l fun _ => d) := PE.less h fun σ H Q ⟨a, D, q⟩ => by
  obtain ⟨b, xs, hv, hb, t⟩ := q.1.lst (m a)
  obtain ⟨v, hk, hh⟩ := t.get hd
  exact ⟨_, hv, b, xs, _, v, rfl, rfl, sqL hb, atI_nat hk, q.2 H v (Same.refl _) hh⟩
theorem fm_cat {i : Nat} {te : TE} {ds : List PyData} {es : α → List PyData} (h : PE X e (tOp (rCatA X.K) (tVar i) te)) (ht : ∀ σ H Q, tFm l (fun a => .tuple (es a)) σ H Q → te σ H Q) (m : ∀ a, (i, .tuple ds) ∈ l a) (l1 : ds.length ≤ 1000) (l2 : ∀ a, (es a).length ≤ 1000) : PE X e (tFm l fun a => .tuple (ds ++ es a)) := PE.less h fun σ H Q ⟨a, D, q⟩ => by
  obtain ⟨b, xs, hv, hb, t⟩ := q.1.tup (m a)
  refine ⟨_, hv, ht σ H _ ⟨a, D, q.1, fun H1 v1 s1 h1 => ?_⟩⟩
  obtain ⟨c, ys, rfl, hc, t2⟩ := h1.tup_inv
  exact cat_from (s1 _ _ hb) (t.keep (KeepD.of s1)) hc t2 l1 (l2 a) fun H2 v2 s2 h2 => q.2 _ _ (s1.trans s2) h2
end
end AskG
/-! AskTk: the set of nested keys as a thing of the hand layer; set.add. -/
namespace Ask
open PySem PySem.Spec PyProof.Rows L2

mutual
/-- the value v is the key k -/
def HKey (K : PySem.W.Frag) (H : Hp) : NestedKey → V → Prop
  | .none, v => v = .non
  | .num i, v => v = .int i
  | .text x, v => v = .str x
  | .tup ks, v => ∃ a xs, v = .ref a ∧ SqT K H a xs ∧ HKeys K H ks xs
def HKeys (K : PySem.W.Frag) (H : Hp) : List NestedKey → List V → Prop
  | [], xs => xs = []
  | k :: ks, xs => ∃ y ys, xs = y :: ys ∧ HKey K H k y ∧ HKeys K H ks ys
end
mutual
theorem hkey_is {X : Cx} {pins : List (Addr × Obj)} {σ : L2.St} {H : Hp} {s : Shared} (I : Inv X pins σ H s) : ∀ (k : NestedKey) (v : V) (u : Value), HKey X.K H k v → RelV v u → NestedIs s.heap k u
  | .none, v, u, h, r => by
    have e : v = .non := h
    subst e
    cases r
    exact .none
  | .num i, v, u, h, r => by
    have e : v = .int i := h
    subst e
    obtain ⟨t, rfl⟩ := r
    exact .int i t
  | .text x, v, u, h, r => by
    have e : v = .str x := h
    subst e
    obtain ⟨t, rfl⟩ := r
    exact .text x t
  | .tup ks, v, u, h, r => by
    obtain ⟨a, xs, e, hq, hs⟩ := h
    subst e
    cases r
    obtain ⟨its, rv, ⟨o, ho, hc, n, hd⟩, _⟩ := I.tuple hq
    exact .tup ho hc hd (by simpa using hkeys_are I ks xs its hs rv)
theorem hkeys_are {X : Cx} {pins : List (Addr × Obj)} {σ : L2.St} {H : Hp} {s : Shared} (I : Inv X pins σ H s) : ∀ (ks : List NestedKey) (xs : List V) (us : List Value), HKeys X.K H ks xs → Vals xs us → NestedAll s.heap ks us
  | [], xs, us, h, r => by
    have e : xs = [] := h
    subst e
    cases r
    exact .nil
  | k :: ks, xs, us, h, r => by
    obtain ⟨y, ys, e, h1, h2⟩ := h
    subst e
    cases r with
    | cons r1 r2 => exact .cons (hkey_is I k y _ h1 r1) (hkeys_are I ks ys _ h2 r2)
end

/-- the set at a, its keys aside -/
structure SetK0 (w : World) (h : Heap) (a : Addr) (L : List (Addr × NestedKey)) : Prop where
  has : ∃ (es : Array (Int × Value)) (ep : Nat) (t : SetTable), (∃ o, h.get? a = some o ∧ o.ExactSet ∧ o.data = .set es ep t) ∧ es.toList = entOf w L ∧ TabOk t (L.map fun p => p.2.hash w) ∧ (L.map Prod.snd).Nodup ∧
    (w.params.followText "set-order" = true ∨ t.led = true) ∧ L.length * 5 < t.mask * 3 ∧ L.length < 64
def SetKO (w : World) (a : Addr) (L : List (Addr × NestedKey)) : HO := .ext fun h => SetK0 w h a L
theorem SetK.bare {P : Program} {w : World} {h : Heap} {a : Addr} {L : List (Addr × NestedKey)} {es : Array (Int × Value)} {ep : Nat} {t : SetTable} (S : SetK P w h a L es ep t) : SetK0 w h a L :=
  ⟨es, ep, t, S.obj, S.ent, S.tab, S.one, S.lead, S.air, S.few⟩
theorem SetK0.whole {P : Program} {w : World} {h : Heap} {a : Addr} {L : List (Addr × NestedKey)} (S : SetK0 w h a L) (keys : ∀ p ∈ L, IsK P w h p.2 p.1) : ∃ es ep t, SetK P w h a L es ep t := by
  obtain ⟨es, ep, t, z1, z2, z3, z4, z5, z6, z7⟩ := S.has
  exact ⟨es, ep, t, z1, z2, z3, z4, keys, z5, z6, z7⟩
theorem setKO_ok {P : Program} {w : World} {H : Hp} {h : Heap} {a : Addr} {L : List (Addr × NestedKey)} (S : SetK0 w h a L) : ObjOk P w H h a (SetKO w a L) := by
  obtain ⟨es, ep, t, ⟨o, ho, r⟩, q⟩ := id S.has
  refine ⟨S, ⟨o, ho⟩, fun h1 h2 p k => ?_⟩
  obtain ⟨es', ep', t', ⟨o', ho', r'⟩, q'⟩ := SetK0.has p
  exact ⟨es', ep', t', ⟨o', k o' ho', r'⟩, q'⟩
theorem setK_empty {P : Program} {w : World} {h : Heap} {a : Addr} (ho : h.get? a = some { cls := .type "set", dict := none, data := .set #[] 0 (.fresh 0 0 (!w.params.followText "set-order")) }) : SetK0 w h a [] := by
  refine ⟨#[], 0, _, ⟨_, ho, ⟨rfl, rfl, rfl⟩, rfl⟩, rfl, ⟨List.Pairwise.nil, rfl, rfl, .inl rfl, fun x hx => ?_, fun i h j e => ?_⟩, List.Pairwise.nil, ?_, (show 0 * 5 < 7 * 3 by decide), (show 0 < 64 by decide)⟩
  · exact absurd hx (by simp [SetTable.fresh])
  · exact absurd e (by simp)
  · show _ ∨ (!w.params.followText "set-order") = true
    cases w.params.followText "set-order" <;> simp

section
variable {X : Cx} {pins : List (Addr × Obj)} {σ : L2.St} {H : Hp} {s : Shared} {E : Value → Shared → Prop}
/-- the keys of the list L stand where it says -/
def KeysAt (K : PySem.W.Frag) (H : Hp) (L : List (Addr × NestedKey)) : Prop := ∀ p ∈ L, HKey K H p.2 (.ref p.1) ∧ p.2.depth ≤ 8
theorem KeysAt.are {L : List (Addr × NestedKey)} (h : KeysAt X.K H L) (I : Inv X pins σ H s) : ∀ p ∈ L, IsK X.prog X.w s.heap p.2 p.1 :=
  fun p hp => ⟨hkey_is I p.2 (.ref p.1) (.ref p.1) (h p hp).1 rfl, (h p hp).2⟩
theorem KeysAt.put {L L' : List (Addr × NestedKey)} {x : Addr} {k : NestedKey} (h : KeysAt X.K H L) (hk : HKey X.K H k (.ref x)) (hd : k.depth ≤ 8) (pm : L'.Perm ((x, k) :: L)) : KeysAt X.K H L' := fun p hp => by
  cases List.mem_cons.mp (pm.mem_iff.mp hp) with
  | inl e => exact e ▸ ⟨hk, hd⟩
  | inr m => exact h p m

/-- D.add(x), x a key -/
theorem addK_ok {D x : Addr} {L : List (Addr × NestedKey)} {k : NestedKey} {Q : Value → Shared → Prop} (I : Inv X pins σ H s) (room : X.A.units + 10 < cLine) (hD : H D = some (SetKO X.w D L)) (hL : KeysAt X.K H L) (few : L.length + 1 < 64)
    (hk : HKey X.K H k (.ref x)) (hd : k.depth ≤ 8)
    (h : ∀ s' L', Inv X pins σ (upd H D (SetKO X.w D L')) s' → (k ∈ L.map Prod.snd → L' = L) → (k ∉ L.map Prod.snd → L'.Perm ((x, k) :: L)) → Q .none s') :
    wpAny (model X.prog X.w) X.A (call (.builtin "set.add") [.ref D, .ref x]) Q E s := by
  have S0 : SetK0 X.w s.heap D L := (I.hok D _ hD).1
  obtain ⟨es, ep, t, S⟩ := S0.whole (P := X.prog) (hL.are I)
  have kx : IsK X.prog X.w s.heap k x := ⟨hkey_is I k (.ref x) (.ref x) hk rfl, hd⟩
  obtain ⟨o, ho, hex, _⟩ := S.obj
  have ty : s.TypeIs (.ref D) "set" := ⟨o, ho, hex.1⟩
  refine wpAny_call_entry F.slot_set_add ty F.entry_set_add ?_ (F.args_set_add_2 _ _)
  unfold Builtin.«set.add» Builtin.Frozenset.oneOther
  simp only [List.isEmpty_nil, bind_assoc]
  unfold Builtin.Frozenset.addrOf setAdd
  refine wpAny_bind (wpAny_pure ?_)
  try dsimp only
  refine wpAny_bind (wpAny_pure ?_)
  try dsimp only
  refine wpAny_bind (wpAny_holding (wpAny_bind ((nestedKind X.prog X.w).pyHash (show X.A.in1.units + 8 < cLine by rw [Around.in1_units]; omega) kx ?_)))
  refine putKey (s := { s with toks := s.toks + k.draws }) S kx (by rw [Around.in1_units]; omega) few fun b h' L' es' ep' t' sb S' q1 q2 => ?_
  refine wpAny_pure ⟨_, rfl, h _ L' ?_ q1 q2⟩
  obtain ⟨o', ho', _⟩ := S'.obj
  exact I.write (e := D) (t' := s.toks + k.draws) (by rw [hD]; trivial) (.inl rfl) (fun b u hb hu => (sb.2 b hb).trans hu) ⟨o', ho'⟩ (setKO_ok S'.bare)
end
end Ask
/-! AskUk: the loops of a set comprehension with two for. -/
namespace Ask
open PySem PySem.Spec PyProof.Rows L2
abbrev sc2 (elt t0 i0 t1 i1 : Expr) (scope : Scope) (pos : Pos) : Expr := .SetComp elt [⟨t0, i0, [], 0⟩, ⟨t1, i1, [], 0⟩] scope pos
theorem sc2_first (elt t0 i0 t1 i1 : Expr) (scope : Scope) (pos : Pos) (it acc : Value) (env : Env) :
    compTurn (sc2 elt t0 i0 t1 i1 scope pos) 0 it acc env = (do
      standAt i0.pos
      match ← pyNext it with
      | none => pure (.done .next)
      | some v =>
        letOwnedTupleGo t0 it v
        assign t0 env v
        let mut go := true
        for c in ([] : List Expr) do
          if go then go ← isTrue c env (eval c env)
        if go then
          let x ← eval i1 env
          standAt i1.pos
          let x ← foldedSetIterable i1 env x
          let _ ← runOwn (.compStart (sc2 elt t0 i0 t1 i1 scope pos) 1 (← holding [x] (pyIter x)) acc env) env
        again (.compLoop (sc2 elt t0 i0 t1 i1 scope pos) 0 it acc env)) := by rfl
theorem sc2_second (elt t0 i0 t1 i1 : Expr) (scope : Scope) (pos : Pos) (it acc : Value) (env : Env) :
    compTurn (sc2 elt t0 i0 t1 i1 scope pos) 1 it acc env = (do
      standAt i1.pos
      match ← pyNext it with
      | none => pure (.done .next)
      | some v =>
        letOwnedTupleGo t1 it v
        assign t1 env v
        let mut go := true
        for c in ([] : List Expr) do
          if go then go ← isTrue c env (eval c env)
        if go then
          (do let v ← eval elt env; standAt elt.pos; let _ ← call (.builtin "set.add") [acc, v])
        again (.compLoop (sc2 elt t0 i0 t1 i1 scope pos) 1 it acc env)) := by rfl
section
variable {prog : Program} {w : World} {A : Around} {R : Result → Shared → Prop} {s : Shared} {elt t0 i0 t1 i1 : Expr} {scope : Scope} {pos : Pos} {it acc : Value} {env : Env}
/-- no error -/
abbrev Calm (prog : Program) (w : World) (A : Around) {α : Type} (m : Sem α) (Q : α → Shared → Prop) (s : Shared) : Prop := wpAny (model prog w) A m Q (fun _ _ => False) s
theorem Calm.any {α : Type} {m : Sem α} {Q Q' : α → Shared → Prop} {E : Value → Shared → Prop} (h : Calm prog w A m Q s) (k : ∀ v s', Q v s' → Q' v s') : wpAny (model prog w) A m Q' E s :=
  wpAny_mono h k fun _ _ z => z.elim

theorem sc2_outer (hs : ∀ x, foldedSetIterable i1 env x = pure x) (J : Nat → Shared → Prop)
    (turn : ∀ n s, J n s → Calm prog w A (pyNext it) (fun r s1 => match r with
      | none => R (.ok .next) s1
      | some v => Calm prog w A (letOwnedTupleGo t0 it v) (fun _ s2 => Calm prog w A (assign t0 env v) (fun _ s3 => Calm prog w A (eval i1 env) (fun x s4 => Calm prog w A (pyIter x) (fun it1 s5 =>
          codeAny (model prog w) A (.compStart (sc2 elt t0 i0 t1 i1 scope pos) 1 it1 acc env) (fun r s' => match r with
            | .ok _ => ∃ m, m < n ∧ J m s'
            | .error _ => False) s5) s4) s3) s2) s1) s) (n : Nat) (h : J n s) :
    codeAny (model prog w) A (.compLoop (sc2 elt t0 i0 t1 i1 scope pos) 0 it acc env) R s := by
  refine codeAny_loop rfl J (fun n s hJ => ?_) n h
  show wpAny _ A ((compTurn (sc2 elt t0 i0 t1 i1 scope pos) 0 it acc env).onRaise (fun x => do noteFrame x env; theTreesLotGoes x)) _ _ s
  refine wpAny_noted ?_
  rw [sc2_first]
  refine wpAny_bind (wpAny_standAt (wpAny_bind ((turn n s hJ).any fun r s1 h1 => ?_)))
  cases r with
  | none => exact wpAny_pure h1
  | some v =>
    refine wpAny_bind (Calm.any h1 fun _ s2 h2 => wpAny_bind (Calm.any h2 fun _ s3 h3 => ?_))
    refine wpAny_bind (wpAny_of_eq (a := true) rfl (wpAny_bind (Calm.any h3 fun x s4 h4 => ?_)))
    refine wpAny_bind (wpAny_standAt (wpAny_bind (wpAny_of_eq (hs x) (wpAny_bind (wpAny_holding (Calm.any h4 fun it1 s5 h5 => ?_))))))
    refine wpAny_bind (wpAny_runOwn ?_)
    rw [Around.mark_none]
    refine codeAny_mono h5 fun r s' hr => ?_
    cases r with
    | ok f => first
      | exact wpAny_pure ⟨rfl, hr⟩
      | exact wpAny_bind (wpAny_pure (wpAny_pure ⟨rfl, hr⟩))
    | error e => exact hr.elim
theorem sc2_inner (J : Nat → Shared → Prop)
    (turn : ∀ n s, J n s → Calm prog w A (pyNext it) (fun r s1 => match r with
      | none => R (.ok .next) s1
      | some v => Calm prog w A (letOwnedTupleGo t1 it v) (fun _ s2 => Calm prog w A (assign t1 env v) (fun _ s3 => Calm prog w A (eval elt env) (fun x s4 =>
          Calm prog w A (call (.builtin "set.add") [acc, x]) (fun _ s5 => ∃ m, m < n ∧ J m s5) s4) s3) s2) s1) s) (n : Nat) (h : J n s) :
    codeAny (model prog w) A (.compLoop (sc2 elt t0 i0 t1 i1 scope pos) 1 it acc env) R s := by
  refine codeAny_loop rfl J (fun n s hJ => ?_) n h
  show wpAny _ A ((compTurn (sc2 elt t0 i0 t1 i1 scope pos) 1 it acc env).onRaise (fun x => do noteFrame x env; theTreesLotGoes x)) _ _ s
  refine wpAny_noted ?_
  rw [sc2_second]
  refine wpAny_bind (wpAny_standAt (wpAny_bind ((turn n s hJ).any fun r s1 h1 => ?_)))
  cases r with
  | none => exact wpAny_pure h1
  | some v =>
    refine wpAny_bind (Calm.any h1 fun _ s2 h2 => wpAny_bind (Calm.any h2 fun _ s3 h3 => ?_))
    refine wpAny_bind (wpAny_of_eq (a := true) rfl (wpAny_bind (wpAny_bind (Calm.any h3 fun x s4 h4 => ?_))))
    exact wpAny_bind (wpAny_standAt (wpAny_bind (Calm.any h4 fun _ s5 h5 => wpAny_pure (wpAny_pure ⟨rfl, h5⟩))))
theorem sc2_start (h0 : codeAny (model prog w) A (.compLoop (sc2 elt t0 i0 t1 i1 scope pos) 1 it acc env) R s)
    (h : Calm prog w A (pyIter it) (fun it' s' => codeAny (model prog w) A (.compLoop (sc2 elt t0 i0 t1 i1 scope pos) 1 it' acc env) R s') s) :
    codeAny (model prog w) A (.compStart (sc2 elt t0 i0 t1 i1 scope pos) 1 it acc env) R s := by
  refine codeAny_of_tree ?_
  show wpAny _ _ ((compStart (sc2 elt t0 i0 t1 i1 scope pos) 1 it acc env).onRaise (fun x => do noteFrame x env; standAt theWindowsPlace)) _ _ s
  refine wpAny_notedAt ?_
  unfold compStart
  refine wpAny_bind (m := ask) (wpAny_askSetting (wpAny_ite ?_))
  split
  · first
      | exact wpAny_bind (wpAny_pure (wpAny_pure ⟨rfl, h0⟩))
      | exact wpAny_pure ⟨rfl, h0⟩
  · refine wpAny_bind (wpAny_rule ?_)
    refine wpAny_bind (m := standAt i1.pos) (wpAny_standAt (wpAny_bind (Calm.any h fun it' s' h' => wpAny_pure ⟨rfl, h'⟩)))
end
end Ask
/-! AskWk: {x for .. in .. for .. in ..}, x a nested key. -/
namespace Ask
open PySem PySem.Spec PyProof.Rows L2
/-- the reading: D the new set -/
def tSc2 (K : PySem.W.Frag) (w : World) (wi : TI) (g : TG) (wi1 : TI) (g1 : TG) (te : TE) (vs vs1 : List Nat) : TE := fun σ H Q => wi σ H fun J H1 => ∀ D, H1 D = none →
  ∃ W : Nat → Nat → Hp → Prop, (∃ m, W 0 m (upd H1 D (SetKO w D []))) ∧ ∀ i m H, W i m H →
    (J.stop i H ∧ Q (.ref D) H) ∨ (J.go i H ∧ ∃ Nx : Hp → Prop, (∀ H', Nx H' → ∃ m', m' < m ∧ W (i + 1) m' H') ∧
      ∀ x H', J.yld i H x H' → g x (wipe σ vs) H' fun σ2 H2 => wipe σ2 vs = wipe σ vs ∧ wi1 σ2 H2 fun J1 H4 =>
        ∃ W1 : Nat → Nat → Hp → Prop, (∃ m, W1 0 m H4) ∧ ∀ j k H, W1 j k H →
          (J1.stop j H ∧ Nx H) ∨ (J1.go j H ∧ ∃ Nx1 : Hp → Prop, (∀ H', Nx1 H' → ∃ k', k' < k ∧ W1 (j + 1) k' H') ∧
            ∀ x H', J1.yld j H x H' → g1 x (wipe σ2 vs1) H' fun σ3 H5 => wipe σ3 vs1 = wipe σ2 vs1 ∧ te σ3 H5 fun y H7 =>
              ∃ b L q, y = .ref b ∧ H7 D = some (SetKO w D L) ∧ KeysAt K H7 L ∧ L.length + 1 < 64 ∧ HKey K H7 q (.ref b) ∧ q.depth ≤ 8 ∧
                ∀ L', (q ∈ L.map Prod.snd → L' = L) → (q ∉ L.map Prod.snd → L'.Perm ((b, q) :: L)) → Nx1 (upd H7 D (SetKO w D L'))))
section
variable {X : Cx}
theorem pe_sc2 {elt tg iter tg1 iter1 : Expr} {scope : Scope} {own : List (Str × Nat)} {vs1 : List Nat} {pos : Pos} {wi wi1 : TI} {g g1 : TG} {te : TE}
    (hu : X.A.units + 10 < cLine) (hc : X.calm = true) (hN : X.N.Nodup) (hi : PI X tg iter wi) (ok : BlkOk X.N X.env.scope scope own) (hv : ∀ i ∈ vs1, i ∈ own.map (·.2))
    (hg : ∀ (s : Shared) (H : Hp) (C : Addr) (cl : List (Str × Addr)) (fp : List Addr), PG (X.blk s H scope (compEnvC scope cl C X.env) fp) tg g)
    (hi1 : ∀ (s : Shared) (H : Hp) (C : Addr) (cl : List (Str × Addr)) (fp : List Addr), PI (X.blk s H scope (compEnvC scope cl C X.env) fp) tg1 iter1 wi1)
    (hg1 : ∀ (s : Shared) (H : Hp) (C : Addr) (cl : List (Str × Addr)) (fp : List Addr), PG (X.blk s H scope (compEnvC scope cl C X.env) fp) tg1 g1)
    (he : ∀ (s : Shared) (H : Hp) (C : Addr) (cl : List (Str × Addr)) (fp : List Addr), PE (X.blk s H scope (compEnvC scope cl C X.env) fp) elt te)
    (hs : ∀ x, foldedSetIterable iter X.env x = pure x := by intro _; rfl) (hs1 : ∀ env x, foldedSetIterable iter1 env x = pure x := by intro _ _; rfl) :
    PE X (sc2 elt tg iter tg1 iter1 scope pos) (tSc2 X.K X.w wi g wi1 g1 te (own.map (·.2)) vs1) := by
  constructor
  intro pins s σ H Q I h
  rw [arm_eval_SetComp]
  have hfree : ∀ y ∈ scope.names, y.2 = .free → ∃ c, X.env.cells.lookup y.1 = some c := by
    intro y hy e
    exact (ok.free y hy e).elim (fun k => I.ok.has _ (.inl k)) fun k => I.ok.has _ (.inr k)
  refine wpAny_comprehension_free rfl hs (closure_ok hfree) ok.kind (fun y hy e => by rw [ok.uniq y hy, e])
    (thn (hi.run pins s σ H _ I h) fun xv s1 hx => thn hx ?_)
  rintro itv s2 ⟨it, fp, tn, J, H2, e, I2, T, st2, f2, q⟩
  subst e
  refine wpAny_newSet_raw fun led eled => newEnv_comp ?_
  subst eled
  generalize hD : s2.heap.objs.size = D
  have hDn : H2 D = none := I2.hok.fresh (Nat.le_of_eq hD)
  obtain ⟨W, ⟨m0, w0⟩, turn⟩ := q D hDn
  generalize hnew : ({ cls := .type "set", dict := none, data := .set #[] 0 (.fresh 0 0 (!X.w.params.followText "set-order")) } : Obj) = new
  generalize hs3 : ({ s2 with heap := s2.heap.push new } : Shared) = s3
  have I3 : Inv X pins σ (upd H2 D (SetKO X.w D [])) s3 := by
    rw [← hs3]
    refine I2.laid (t' := s2.toks) (fun b o e => Heap.get?_push_of_some _ e) (Nat.le_of_eq hD) (setKO_ok (setK_empty (P := X.prog) ?_))
    rw [← hD, ← hnew]
    exact Heap.get?_push_size _ rfl
  have h3 : s3.heap = s2.heap.push new := by rw [← hs3]
  have f3 : ∀ b ∈ fp, FpOk X pins (upd H2 D (SetKO X.w D [])) b ∧ b < s3.heap.objs.size := by
    intro b hb
    have hlt : b < s2.heap.objs.size := (T.obj _ _ st2 b hb).elim fun o e => Heap.lt_size e.1
    refine ⟨⟨?_, (f2 b hb).2⟩, by rw [h3, Heap.size_push]; exact Nat.lt_succ_of_lt hlt⟩
    rw [upd_ne (by rw [← hD]; exact Nat.ne_of_lt hlt)]
    exact (f2 b hb).1
  have st3 : tn 0 s3.heap := T.keep _ _ _ st2 fun b _ o e => h3 ▸ Heap.get?_push_of_some _ e
  have I4 := block_start I3 ok hN f3
  generalize hcl : cellsFrom (s3.heap.objs.size + 1) scope.names (cloFrom X.env.cells scope.names []) = cl at I4 ⊢
  have pg := hg s3 (upd H2 D (SetKO X.w D [])) s3.heap.objs.size cl fp
  have pe := he s3 (upd H2 D (SetKO X.w D [])) s3.heap.objs.size cl fp
  have pi1 := hi1 s3 (upd H2 D (SetKO X.w D [])) s3.heap.objs.size cl fp
  have pg1 := hg1 s3 (upd H2 D (SetKO X.w D [])) s3.heap.objs.size cl fp
  have nfp : ∀ b ∈ fp, (upd H2 D (SetKO X.w D [])) b = none := fun b hb => (f3 b hb).1.1
  show codeAny _ _ (.compStart (sc2 elt tg iter tg1 iter1 scope pos) 0 (.ref it) (.ref D) (compEnvC scope cl s3.heap.objs.size X.env)) _
    { s3 with heap := pushCells (s3.heap.push { cls := .type "dict", data := .dict #[] }) scope.names }
  generalize hce : compEnvC scope cl s3.heap.objs.size X.env = ce at I4 pg pe pi1 pg1 ⊢
  have cL : ce.locals = s3.heap.objs.size := by
    subst hce
    rfl
  generalize hH3 : upd H2 D (SetKO X.w D []) = H3 at I3 I4 pg pe pi1 pg1 w0 nfp f3
  generalize hs4 : ({ s3 with heap := pushCells (s3.heap.push { cls := .type "dict", data := .dict #[] }) scope.names } : Shared) = s4 at I4 ⊢
  have st4 : tn 0 s4.heap := T.keep _ _ _ st3 fun b _ o e => by
    rw [← hs4]
    exact pushCells_keeps _ _ _ _ (Heap.get?_push_of_some _ e)
  have stat : ∀ {σ' : L2.St} {H' : Hp} {s' : Shared}, Inv (X.blk s3 H3 scope ce fp) [] σ' H' s' → (∀ b ∈ fp, H' b = none) →
      ∀ b ∈ fp, FpOk (X.blk s3 H3 scope ce fp) [] H' b := by
    intro σ' H' s' I' hn b hb
    exact ⟨hn b hb, (I'.ok.exf b hb).1, I'.ok.exfs b hb, .inl hb, fun x c e => (I'.ok.exf b hb).2 x c e,
      fun p hp => absurd (show p ∈ ([] : List (Addr × Obj)) ++ [] from hp) (by simp)⟩
  refine codeAny_compStart_set ?loop (T.self X.A 0 _ _ _ st4 ?loop)
  refine sc2_outer (hs1 ce) (fun n s' => ∃ i H', Inv (X.blk s3 H3 scope ce fp) [] (wipe σ (own.map (·.2))) H' s' ∧ tn i s'.heap ∧
    (∀ b ∈ fp, H' b = none) ∧ W i n H') ?_ m0 ⟨0, H3, I4, st4, nfp, w0⟩
  rintro n s5 ⟨i, H5, I5, st5, n5, w5⟩
  rcases turn i n H5 w5 with ⟨stop, qq⟩ | ⟨go, Nx, hNx, step⟩
  · have td := T.done (X.blk s3 H3 scope ce fp) rfl rfl rfl hc i [] s5 _ H5 (fun _ _ => False) I5 (stat I5 n5) st5 stop
    refine thnF td ?_
    rintro r s6 ⟨hr, I6⟩
    subst hr
    have I7 : Inv X pins σ H5 s6 := I3.call' (ch := fp) I6.os I6.base I6.hok I6.bare fun b hb =>
      ⟨(f3 b hb).1.2.2.2.1, (f3 b hb).1.2.1, (f3 b hb).1.2.2.2.2.1, (f3 b hb).1.2.2.2.2.2⟩
    have nC : H5 s3.heap.objs.size = none := by
      have z : H5 ce.locals = none := I6.free
      rw [cL] at z
      exact z
    obtain ⟨m, hn, _⟩ := I6.loc
    have hn : s6.heap.Ns ce.locals m := hn
    rw [cL] at hn
    obtain ⟨f0, f1, f2, f3, f4, f5⟩ := I3.fpOk (Nat.le_refl _) nC
    refine ⟨m, hn, fun h'' sb => ?_⟩
    exact ⟨.ref D, H5, I7.turned (t' := s6.toks) (fun b o hb e => (sb.2 b hb).trans e) f0 f1 f3 f4 f5, rfl, qq⟩
  · have ti := T.item (X.blk s3 H3 scope ce fp) rfl rfl rfl hc i [] s5 _ H5 (fun _ _ => False) I5 (stat I5 n5) st5 go
    refine thnF ti ?_
    rintro r s6 ⟨u, hr, h6⟩
    subst hr
    refine thnF h6 ?_
    rintro _ s7 ⟨x, H7, I7, r7, y7, st7, n7⟩
    have I7' := I7.pinned (stat I7 n7) (T.obj _ _ st7)
    refine thnF (pg.run _ s7 _ H7 x u _ I7' r7 (step x H7 y7)) ?_
    rintro _ s8 ⟨σ8, H8, I8, hw8, q8⟩
    have hl8 : (wipe σ (own.map (·.2))).length = σ8.length := by rw [← hw8, wipe_length]
    have knows : ∀ (j : Nat) v, (wipe σ (own.map (·.2)))[j]? = some (some v) → (wipe σ8 vs1)[j]? = some (some v) := by
      intro j v e
      rw [← hw8] at e
      obtain ⟨e1, e2⟩ := wipe_some e
      rw [wipe_out fun z => e2 (hv j z)]
      exact e1
    have fin : ∀ {s' : Shared} {H' : Hp}, Inv (X.blk s3 H3 scope ce fp) ([] ++ pinsAt fp s7.heap) (wipe σ8 vs1) H' s' → Nx H' →
        ∃ m, m < n ∧ ∃ i H', Inv (X.blk s3 H3 scope ce fp) [] (wipe σ (own.map (·.2))) H' s' ∧ tn i s'.heap ∧ (∀ b ∈ fp, H' b = none) ∧ W i m H' := by
      intro s' H' I' nx
      obtain ⟨m', hm, w'⟩ := hNx H' nx
      have pin' : ∀ b ∈ fp, ∀ o, s7.heap.get? b = some o → s'.heap.get? b = some o ∧ H' b = none := by
        intro b hb o e
        have z := I'.pin (b, o) (List.mem_append_right _ (List.mem_append_right _ (mem_pinsAt hb e)))
        exact ⟨z.1, z.2.1⟩
      refine ⟨m', hm, i + 1, H', (I'.unpinned (pins := [])).weak (hl8.trans (wipe_length σ8 vs1).symm) knows,
        T.keep _ _ _ st7 fun b hb o e => (pin' b hb o e).1, fun b hb => ?_, w'⟩
      obtain ⟨o, e, _⟩ := T.obj _ _ st7 b hb
      exact (pin' b hb o e).2
    refine thnF (pi1.run _ s8 σ8 H8 _ I8 q8) fun xv s10 hx => thnF hx ?_
    rintro itv s11 ⟨it1, fp1, tn1, J1, H11, e1, I11, T1, st11, f11, W1, ⟨m1, w1⟩, turn1⟩
    subst e1
    have stat1 : ∀ {H' : Hp}, (∀ b ∈ fp1, H' b = none) → ∀ b ∈ fp1, FpOk (X.blk s3 H3 scope ce fp) ([] ++ pinsAt fp s7.heap) H' b :=
      fun hn b hb => ⟨hn b hb, (f11 b hb).2⟩
    refine sc2_start ?loop1 (T1.self X.A 0 _ _ _ st11 ?loop1)
    refine sc2_inner (fun k s' => ∃ j H', Inv (X.blk s3 H3 scope ce fp) ([] ++ pinsAt fp s7.heap) (wipe σ8 vs1) H' s' ∧ tn1 j s'.heap ∧ (∀ b ∈ fp1, H' b = none) ∧ W1 j k H') ?_ m1
      ⟨0, H11, I11.weak (wipe_length _ _) (fun j v e => (wipe_some e).1), st11, fun b hb => (f11 b hb).1, w1⟩
    rintro k s12 ⟨j, H12, I12, st12, n12, w12⟩
    rcases turn1 j k H12 w12 with ⟨stop1, nx1⟩ | ⟨go1, Nx1, hNx1, step1⟩
    · refine thnF (T1.done (X.blk s3 H3 scope ce fp) rfl rfl rfl hc j _ s12 (wipe σ8 vs1) H12 (fun _ _ => False) I12 (stat1 n12) st12 stop1) ?_
      rintro r s13 ⟨hr, I13⟩
      subst hr
      exact fin I13 nx1
    · refine thnF (T1.item (X.blk s3 H3 scope ce fp) rfl rfl rfl hc j _ s12 (wipe σ8 vs1) H12 (fun _ _ => False) I12 (stat1 n12) st12 go1) ?_
      rintro r s13 ⟨u1, hr, h13⟩
      subst hr
      refine thnF h13 ?_
      rintro _ s14 ⟨x1, H14, I14, r14, y14, st14, n14⟩
      have I14' := I14.pinned (stat1 n14) (T1.obj _ _ st14)
      refine thnF (pg1.run _ s14 (wipe σ8 vs1) H14 x1 u1 _ I14' r14 (step1 x1 H14 y14)) ?_
      rintro _ s15 ⟨σ15, H15, I15, hw15, q15⟩
      refine thnF (pe.run _ s15 σ15 H15 _ I15 q15) ?_
      rintro z s17 ⟨yv, H17, I17, r17, b, L, q, ey, hD17, hL, few, hq, hdq, nx⟩
      subst ey
      cases r17
      refine addK_ok (X := X.blk s3 H3 scope ce fp) I17 hu hD17 hL few hq hdq ?_
      intro s18 L' I18 p1 p2
      obtain ⟨m', hm, w'⟩ := hNx1 _ (nx L' p1 p2)
      have pin' : ∀ b ∈ fp1, ∀ o, s14.heap.get? b = some o → s18.heap.get? b = some o ∧ (upd H17 D (SetKO X.w D L')) b = none := by
        intro b hb o e
        have z := I18.pin (b, o) (List.mem_append_right _ (List.mem_append_right _ (mem_pinsAt hb e)))
        exact ⟨z.1, z.2.1⟩
      refine ⟨m', hm, j + 1, _, I18.unpinned.weak (by rw [← hw15, wipe_length]) (fun j v e => ?_), T1.keep _ _ _ st14 fun b hb o e => (pin' b hb o e).1, fun b hb => ?_, w'⟩
      · rw [← hw15] at e
        exact (wipe_some e).1
      · obtain ⟨o, e, _⟩ := T1.obj _ _ st14 b hb
        exact (pin' b hb o e).2
end
end Ask
/-! AskCk: sorted of a set of cells. -/
namespace Ask
open PySem PySem.Spec PyProof.Rows L2 AskG
def cellK (c : Cell) : NestedKey := .tup [.text c.1, .num c.2]
theorem cellK_inj {c d : Cell} (h : cellK c = cellK d) : c = d := by
  unfold cellK at h
  injection h with h
  injection h with h1 h2
  injection h2 with h2 _
  injection h1 with h1
  injection h2 with h2
  exact Prod.ext h1 h2
theorem cellK_deep (c : Cell) : (cellK c).depth ≤ 8 := by
  show max 0 (max 0 0) + 1 ≤ 8
  decide
theorem cell_key {K : PySem.W.Frag} {H : Hp} {b : Addr} {c : Cell} (h : CellAt H b c) : HKey K H (cellK c) (.ref b) :=
  ⟨b, _, rfl, .inl (.inl h), _, _, rfl, rfl, _, _, rfl, rfl, rfl⟩
theorem refs_vals : ∀ bs : List Addr, Vals (bs.map V.ref) (bs.map Value.ref)
  | [] => .nil
  | _ :: bs => .cons rfl (refs_vals bs)
/-- L is a list of cells, each where it says -/
def CellsAt (H : Hp) (L : List (Addr × NestedKey)) : Prop := ∀ p ∈ L, ∃ c, p.2 = cellK c ∧ CellAt H p.1 c
theorem CellsAt.keys {K : PySem.W.Frag} {H : Hp} {L : List (Addr × NestedKey)} (h : CellsAt H L) : KeysAt K H L := fun p hp => by
  obtain ⟨c, e, hc⟩ := h p hp
  rw [e]
  exact ⟨cell_key hc, cellK_deep c⟩
/-- sorted(a), a a set of cells -/
def rSortSC (w : World) : List V → Hp → VK → Prop := fun xs H Q => ∃ (a : Addr) (L : List (Addr × NestedKey)), xs = [.ref a] ∧ H a = some (SetKO w a L) ∧ CellsAt H L ∧
  ∀ (ys : List Cell) (bs : List Addr) (p : Addr), (∀ c, c ∈ ys ↔ cellK c ∈ L.map Prod.snd) → ys.length = L.length → ys.Pairwise (fun a b => ltC a b = true) →
    Paired (CellAt H) bs ys → H p = none → Q (.ref p) (upd H p (.lst (bs.map V.ref)))
section
variable {X : Cx}
theorem cr_sortSC (hc : X.calm = true) : CallR X (.builtin "sorted") (rSortSC X.w) := by
  intro pins s σ H xs us Q I r q
  obtain ⟨a, L, rfl, ha, hL, q⟩ := q
  obtain ⟨u, rfl, ru⟩ := vals1 r
  obtain rfl : u = Value.ref a := ru
  have S0 : SetK0 X.w s.heap a L := (I.hok a _ ha).1
  obtain ⟨es, ep, t, S⟩ := S0.whole (P := X.prog) ((hL.keys (K := X.K)).are I)
  have vals : ∀ v ∈ L.map (fun p => Value.ref p.1), ∃ b c, v = .ref b ∧ CellAt H b c := fun v hv => by
    obtain ⟨p, hp, rfl⟩ := List.mem_map.mp hv
    obtain ⟨c, _, h⟩ := hL p hp
    exact ⟨_, c, rfl, h⟩
  refine sortedK S (I.ok.hd hc) (ltv := fun v u => ltC (cellOf H v) (cellOf H u)) (swo_cells _) (fun vs pm h2 s1 l hl past => ?_) fun s' p out c keep g o hp at' pm srt => ?_
  · refine cells_sortable (by omega) (fun v hv => ?_) fun o' eo => ?_
    · obtain ⟨b, c, rfl, h⟩ := vals v (pm.mem_iff.mp hv)
      rw [cellOf_at h]
      exact (isCl_of I.hok h).keeps fun b o e _ => (past b o e).2
    · have e' : some o' = some (seqObj "list" vs.toArray 0) := eo.symm.trans hl
      cases e'
      intro c
      exact absurd (Value.type.inj c) (by decide)
  · have hout : ∀ v ∈ out, ∃ b c, v = .ref b ∧ CellAt H b c := fun v hv => vals v (pm.mem_iff.mp hv)
    obtain ⟨bs, rfl⟩ : ∃ bs : List Addr, out = bs.map Value.ref := by
      clear pm srt at'
      induction out with
      | nil => exact ⟨[], rfl⟩
      | cons v l ih =>
        obtain ⟨bs, e⟩ := ih fun u hu => hout u (List.mem_cons_of_mem _ hu)
        obtain ⟨b, _, e', _⟩ := hout v List.mem_cons_self
        exact ⟨b :: bs, by rw [e', e]; rfl⟩
    have at2 : ∀ b ∈ bs, CellAt H b (cellOf H (.ref b)) := fun b hb => by
      obtain ⟨b', c', e, h⟩ := hout (.ref b) (List.mem_map.mpr ⟨b, hb, rfl⟩)
      cases e
      rw [cellOf_at h]
      exact h
    have kL : L.map Prod.snd = ((L.map fun p => Value.ref p.1).map (cellOf H)).map cellK := by
      rw [List.map_map, List.map_map]
      refine List.map_congr_left fun p hp => ?_
      obtain ⟨c, e, h⟩ := hL p hp
      show p.2 = cellK (cellOf H (.ref p.1))
      rw [cellOf_at h, e]
    have pmc : ((bs.map Value.ref).map (cellOf H)).Perm ((L.map fun p => Value.ref p.1).map (cellOf H)) := pm.map _
    have ys : (bs.map Value.ref).map (cellOf H) = bs.map fun b => cellOf H (.ref b) := by rw [List.map_map]; rfl
    have nd : ((bs.map Value.ref).map (cellOf H)).Nodup := by
      refine pmc.nodup_iff.mpr ?_
      have one := S.one
      rw [kL] at one
      exact (List.pairwise_map.mp one).imp fun h e => h (congrArg cellK e)
    have st := strict_of (List.pairwise_map.mpr srt) nd
    have len : (bs.map Value.ref).length = L.length := by rw [pm.length_eq, List.length_map]
    rw [List.length_map] at len
    have few := S.few
    have hn : H p = none := I.hok.fresh hp
    have hv : Vals (bs.map V.ref) (bs.map Value.ref) := refs_vals bs
    have J : Inv X pins σ (upd H p (.lst (bs.map V.ref))) { s with heap := s'.heap, gens := s'.gens, drawn := s'.drawn, toks := s'.toks } :=
      I.call (ch := []) (Un.laid keep hp hn) (I.hok.laid keep hp ⟨by rw [List.length_map, sizeLine_eq]; omega, bs.map Value.ref, c, hv, at'⟩) (by rw [g]; exact I.bare) (fun _ z => nomatch z)
    have e : s' = { s with heap := s'.heap, gens := s'.gens, drawn := s'.drawn, toks := s'.toks } := by
      cases s'
      cases s
      cases o
      rfl
    rw [e]
    refine ⟨.ref p, _, J, rfl, q _ bs p (fun c => ?_) ?_ (ys ▸ st) (paired_of (fun b => cellOf H (.ref b)) at2) hn⟩
    · rw [← ys, pmc.mem_iff, kL]
      exact ⟨fun m => List.mem_map.mpr ⟨c, m, rfl⟩, fun m => by
        obtain ⟨d, hd, e⟩ := List.mem_map.mp m
        rw [← cellK_inj e]
        exact hd⟩
    · rw [List.length_map]
      exact len
end
end Ask
/-! AskRk: the order of rows, and rows that can be sorted. -/
namespace Ask
open PySem PySem.Spec PyProof.Rows L2 AskG
def ltR : List (Cell × Int) → List (Cell × Int) → Bool
  | [], [] => false
  | [], _ :: _ => true
  | _ :: _, [] => false
  | x :: xs, y :: ys => if x = y then ltR xs ys else ltX x y
theorem ltR_tri : ∀ x y, ltR x y = true ∨ x = y ∨ ltR y x = true
  | [], [] => .inr (.inl rfl)
  | [], _ :: _ => .inl rfl
  | _ :: _, [] => .inr (.inr rfl)
  | x :: xs, y :: ys => by
    unfold ltR
    by_cases e : x = y
    · subst e
      rw [if_pos rfl, if_pos rfl]
      rcases ltR_tri xs ys with h | h | h
      · exact .inl h
      · exact .inr (.inl (by rw [h]))
      · exact .inr (.inr h)
    · rw [if_neg e, if_neg fun z => e z.symm]
      rcases ltX_tri x y with h | h | h
      · exact .inl h
      · exact absurd h e
      · exact .inr (.inr h)
theorem ltR_irr : ∀ x, ltR x x = false
  | [] => rfl
  | x :: xs => by
    unfold ltR
    rw [if_pos rfl]
    exact ltR_irr xs
theorem ltR_trans : ∀ {x y z}, ltR x y = true → ltR y z = true → ltR x z = true
  | [], [], _, h, _ => by cases h
  | [], _ :: _, [], _, h => by cases h
  | [], _ :: _, _ :: _, _, _ => rfl
  | _ :: _, [], _, h, _ => by cases h
  | _ :: _, _ :: _, [], _, h => by cases h
  | x :: xs, y :: ys, z :: zs, h1, h2 => by
    unfold ltR at h1 h2 ⊢
    by_cases e : x = y
    · subst e
      rw [if_pos rfl] at h1
      by_cases e2 : x = z
      · rw [if_pos e2] at h2 ⊢
        exact ltR_trans h1 h2
      · rw [if_neg e2] at h2 ⊢
        exact h2
    · rw [if_neg e] at h1
      by_cases e2 : y = z
      · subst e2
        rw [if_neg e]
        exact h1
      · rw [if_neg e2] at h2
        have h3 := ltX_trans h1 h2
        have ne : ¬ x = z := fun e3 => by rw [e3, ltX_irr] at h3; cases h3
        rw [if_neg ne]
        exact h3
theorem ltR_asym {x y : List (Cell × Int)} (h : ltR x y = true) : ltR y x = false := by
  cases g : ltR y x with
  | false => rfl
  | true =>
    have := ltR_trans h g
    rw [ltR_irr] at this
    cases this
theorem swo_R {α : Type} (k : α → List (Cell × Int)) : SrtO.Swo fun v u => ltR (k v) (k u) := by
  refine ⟨fun x y h => ltR_asym h, fun x y z h1 h2 => ?_⟩
  cases g : ltR (k z) (k x) with
  | false => rfl
  | true =>
    rcases ltR_tri (k x) (k y) with a | a | a
    · have := ltR_trans g a
      rw [h2] at this
      cases this
    · rw [← a, g] at h2
      cases h2
    · rw [h1] at a
      cases a
/-- the value is a tuple of pairs of a cell and a weight -/
def IsRw (h : Heap) (v : Value) (ρ : List (Cell × Int)) : Prop := ∃ (a : Addr) (o : Obj) (items : Array Value) (n : Nat), v = .ref a ∧ h.get? a = some o ∧ o.cls = .type "tuple" ∧ o.data = .seq items n ∧ Paired (IsPr h) items.toList ρ
theorem paired_imp {α β : Type} {R S : α → β → Prop} (k : ∀ a b, R a b → S a b) : ∀ {l : List α} {m : List β}, Paired R l m → Paired S l m
  | _, _, .nil => .nil
  | _, _, .cons h t => .cons (k _ _ h) (paired_imp k t)
theorem IsRw.keeps {h h' : Heap} {v : Value} {ρ : List (Cell × Int)} (p : IsRw h v ρ) (k : ∀ b o, h.get? b = some o → o.cls = .type "tuple" → h'.get? b = some o) : IsRw h' v ρ := by
  obtain ⟨a, o, items, n, e, ho, hc, hd, hp⟩ := p
  exact ⟨a, o, items, n, e, k _ _ ho hc, hc, hd, paired_imp (fun _ _ z => z.keeps k) hp⟩
theorem isPr_key {h : Heap} {v : Value} {x : Cell × Int} (p : IsPr h v x) : NestedIs h (.tup [cellK x.1, .num x.2]) v := by
  obtain ⟨a, b, t, rfl, ⟨o, ho, hc, n, hd⟩, a', t1, t2, e, o2, ho2, hc2, n2, hd2⟩ := p
  cases e
  exact .tup ho hc hd (.cons (.tup ho2 hc2 hd2 (.cons (.text _ _) (.cons (.int _ _) .nil))) (.cons (.int _ _) .nil))
section
variable {prog : Program} {w : World} {A : Around} {E : Value → Shared → Prop} {s : Shared}
theorem pairs_eq {u v : Value} {x y : Cell × Int} (hx : IsPr s.heap u x) (hy : IsPr s.heap v y) (hu : A.units + 2 < cLine) : SeqAt.EqAt A s u v (decide (x = y)) := by
  have h := eqAt_key _ _ A s u v (isPr_key hx) (isPr_key hy) (by show A.units + min (max (max 0 (max 0 0) + 1) (max 0 0) + 1) _ < cLine; omega)
  have e : NestedKey.beq (.tup [cellK x.1, .num x.2]) (.tup [cellK y.1, .num y.2]) = decide (x = y) := by
    rw [← NestedKey.decide_eq]
    refine decide_eq_decide.mpr ⟨fun z => ?_, fun z => by rw [z]⟩
    injection z with z
    injection z with z1 z2
    injection z2 with z2 _
    injection z2 with z2
    exact Prod.ext (cellK_inj z1) z2
  rw [← e]
  exact h
end
end Ask
/-! AskQk: rows compared, and a list of rows that can be sorted. -/
namespace Ask
open PySem PySem.Spec PyProof.Rows L2 AskG
section
variable {prog : Program} {w : World} {A : Around} {E : Value → Shared → Prop} {s : Shared}
theorem pairs_lt {u v : Value} {x y : Cell × Int} (hx : IsPr s.heap u x) (hy : IsPr s.heap v y) (hu : A.units + 2 < cLine) : Ob.RcOp .Lt A s u v (ltX x y) := by
  obtain ⟨a, b, t, rfl, ta, cb⟩ := hx
  obtain ⟨a', b', t', rfl, ta', cb'⟩ := hy
  have low : A.in1.units < cLine := by rw [Around.in1_units]; omega
  have R := Ob.RcOp.tuples_lt (A := A) (s := s) (e := fun j => if j = 0 then decide (x.1 = y.1) else x.2 == y.2)
    (r := fun j => if j = 0 then ltC x.1 y.1 else decide (x.2 < y.2)) ta ta' (by omega)
    (fun j h1 h2 => by
      have h1 : j < 2 := h1
      match j, h1 with
      | 0, _ => exact cells_eq cb cb' low
      | 1, _ => exact SeqAt.EqAt.int_int x.2 t y.2 t')
    (fun j h1 h2 _ => by
      have h1 : j < 2 := h1
      match j, h1 with
      | 0, _ => exact cells_lt cb cb' low
      | 1, _ => exact Ob.RcOp.lt_int x.2 y.2 t t')
  have e : Ob.lexAt (fun j => if j = 0 then decide (x.1 = y.1) else x.2 == y.2) (fun j => if j = 0 then ltC x.1 y.1 else decide (x.2 < y.2)) (decide (2 < 2)) 0 (min 2 2) = ltX x y := by
    show (if decide (x.1 = y.1) = true then (if (x.2 == y.2) = true then decide (2 < 2) else decide (x.2 < y.2)) else ltC x.1 y.1) = ltX x y
    unfold ltX
    by_cases e1 : x.1 = y.1
    · rw [if_pos (decide_eq_true e1), if_pos e1]
      by_cases e2 : x.2 = y.2
      · rw [if_pos (beq_iff_eq.mpr e2), e2, decide_eq_false (Int.lt_irrefl _)]
        rfl
      · rw [if_neg fun z => e2 (beq_iff_eq.mp z)]
    · rw [if_neg fun z => e1 (of_decide_eq_true z), if_neg e1]
  rw [← e]
  exact R
theorem paired_len {α β : Type} {R : α → β → Prop} : ∀ {l : List α} {m : List β}, Paired R l m → l.length = m.length
  | _, _, .nil => rfl
  | _, _, .cons _ t => congrArg (· + 1) (paired_len t)
/-- two rows from their i-th pairs on -/
theorem rows_lex (hu : A.units + 2 < cLine) : ∀ (xs ys : List (Cell × Int)) (us vs : List Value) (i : Nat) (fin : Bool) (Q : Bool → Shared → Prop), Paired (IsPr s.heap) us xs → Paired (IsPr s.heap) vs ys →
    fin = decide (xs.length < ys.length) → Q (ltR xs ys) s → PySem.W.KatLex prog w A false fin Q (us.zip vs) i s
  | [], [], _, _, i, fin, Q, .nil, .nil, e, q => by
    subst e
    exact PySem.W.kat_nil q
  | [], _ :: _, _, _, i, fin, Q, .nil, .cons _ _, e, q => by
    subst e
    exact PySem.W.kat_nil (show Q (decide (0 < _ + 1)) s by rw [decide_eq_true (Nat.succ_pos _)]; exact q)
  | _ :: _, [], _, _, i, fin, Q, .cons _ _, .nil, e, q => by
    subst e
    exact PySem.W.kat_nil (show Q (decide (_ + 1 < 0)) s by rw [decide_eq_false (Nat.not_lt_zero _)]; exact q)
  | x :: xs, y :: ys, _, _, i, fin, Q, .cons hx tx, .cons hy ty, e, q => by
    unfold ltR at q
    refine PySem.W.kat_cons (pairs_eq hx hy hu prog w _ _ (PySem.W.kat_go (fun e1 => ?_) (fun e1 => ?_)))
    · rw [if_pos (of_decide_eq_true e1)] at q
      refine PySem.W.kat_yes (rows_lex hu xs ys _ _ (i + 1) fin Q tx ty ?_ q)
      rw [e, List.length_cons, List.length_cons]
      exact decide_eq_decide.mpr (by omega)
    · rw [if_neg (of_decide_eq_false e1)] at q
      exact PySem.W.kat_no (PySem.W.kat_one _ _ (pairs_lt hx hy hu prog w _ _ q))
theorem row_cmp {vs : List Value} {k : Value → List (Cell × Int)} (hu : A.units + 2 < cLine) (hp : ∀ v ∈ vs, IsRw s.heap v (k v)) :
    SrtO.Cmp prog w A s (tuples' false) (fun p => p.1 ∈ vs) (SrtO.lt2 fun v u => ltR (k v) (k u)) := by
  intro p q hm hm'
  have h1 := hp _ hm
  have h2 := hp _ hm'
  show wpAny (model prog w) A (keyLt' (tuples' false) p.1 q.1) (fun r s' => s' = s ∧ r = ltR (k p.1) (k q.1)) (fun _ _ => False) s
  generalize k p.1 = x at h1 ⊢
  generalize k q.1 = y at h2 ⊢
  obtain ⟨a, o, its, n, e, ho, hc, hd, hx⟩ := h1
  obtain ⟨a', o', its', n', e', ho', hc', hd', hy⟩ := h2
  rw [e, e']
  refine PySem.W.kat_lt ho hd ho' hd' (rows_lex hu x y _ _ 0 _ _ hx hy ?_ ⟨rfl, rfl⟩)
  rw [← paired_len hx, ← paired_len hy, Array.length_toList, Array.length_toList]
theorem row_firsts {h : Heap} : ∀ {vs : List Value}, (∀ v ∈ vs, ∃ ρ, ρ ≠ [] ∧ IsRw h v ρ) →
    ∃ fs : List Value, PySem.W.KatTups h vs fs ∧ fs.length = vs.length ∧ ∀ f ∈ fs, ∃ x, IsPr h f x
  | [], _ => ⟨[], .nil, rfl, fun f hf => absurd hf (by simp)⟩
  | v :: vs, z => by
    obtain ⟨fs, k, hl, hi⟩ := row_firsts (vs := vs) fun u hu => z u (List.mem_cons.mpr (.inr hu))
    obtain ⟨ρ, ne, a, o, its, n, rfl, ho, hc, hd, hp⟩ := z v (List.mem_cons.mpr (.inl rfl))
    cases hq : its.toList with
    | nil =>
      rw [hq] at hp
      cases hp
      exact absurd rfl ne
    | cons f l =>
      rw [hq] at hp
      cases hp with
      | cons h1 _ =>
        refine ⟨f :: fs, .cons ho hc hd ?_ k, congrArg (· + 1) hl, fun g hg => ?_⟩
        · first
            | (rw [← Array.getElem?_toList, hq]; rfl)
            | (rw [hq]; rfl)
            | simp [hq]
        · cases hg with
          | head => exact ⟨_, h1⟩
          | tail _ hg => exact hi g hg
theorem rows_sortable {a : Addr} {vs : List Value} {k : Value → List (Cell × Int)} (hu : A.units + 2 < cLine) (h0 : 0 < vs.length) (hp : ∀ v ∈ vs, IsRw s.heap v (k v)) (ne : ∀ v ∈ vs, k v ≠ [])
    (ha : ∀ o, s.heap.get? a = some o → o.cls ≠ .type "tuple") : SrtO.SortableO prog w A s a vs fun v u => ltR (k v) (k u) := by
  intro h' keep
  have hp' : ∀ v ∈ vs, IsRw h' v (k v) := fun v hm => (hp v hm).keeps fun b o e c => keep b o (fun z => by subst z; exact ha o e c) e
  obtain ⟨fs, h1, h2, h3⟩ := row_firsts fun v hm => ⟨_, ne v hm, hp' v hm⟩
  refine ⟨tuples' false, fun Q E hq => ?_, row_cmp hu hp'⟩
  refine PySem.W.kat_kind (T := .type "tuple") h1 (by omega) (fun f hm => ?_) (by rfl) ?_
  · obtain ⟨x, b, _, _, rfl, ⟨o, ho, hc, _⟩, _⟩ := h3 f hm
    exact fun A Q E s k q => wpAny_typeOf ⟨o, k _ _ ho, hc⟩ q
  · have e : (Value.type "tuple" != Value.type "tuple") = false := by first | decide +kernel | rfl | decide
    rw [e]
    exact hq
end
end Ask
/-! AskZk: sorted of a set of rows that are not (). -/
namespace Ask
open PySem PySem.Spec PyProof.Rows L2 AskG
def pairK (x : Cell × Int) : NestedKey := .tup [cellK x.1, .num x.2]
def rowK (ρ : RowD) : NestedKey := .tup (ρ.map pairK)
theorem pairK_inj {x y : Cell × Int} (h : pairK x = pairK y) : x = y := by
  unfold pairK at h
  injection h with h
  injection h with h1 h2
  injection h2 with h2 _
  injection h2 with h2
  exact Prod.ext (cellK_inj h1) h2
theorem pairs_inj : ∀ {ρ π : RowD}, ρ.map pairK = π.map pairK → ρ = π
  | [], [], _ => rfl
  | [], _ :: _, h => by cases h
  | _ :: _, [], h => by cases h
  | x :: ρ, y :: π, h => by
    rw [List.map_cons, List.map_cons] at h
    injection h with h1 h2
    rw [pairK_inj h1, pairs_inj h2]
theorem rowK_inj {ρ π : RowD} (h : rowK ρ = rowK π) : ρ = π := by
  unfold rowK at h
  injection h with h
  exact pairs_inj h
theorem pairs_deep : ∀ ρ : RowD, NestedKey.depthAll (ρ.map pairK) ≤ 2
  | [] => Nat.zero_le _
  | x :: ρ => by
    have h := pairs_deep ρ
    have e : (pairK x).depth = 2 := rfl
    rw [List.map_cons]
    simp only [NestedKey.depthAll, e]
    omega
theorem rowK_deep (ρ : RowD) : (rowK ρ).depth ≤ 8 := by
  have h := pairs_deep ρ
  show NestedKey.depthAll (ρ.map pairK) + 1 ≤ 8
  omega
theorem pair_key {K : PySem.W.Frag} {H : Hp} {p : Addr} {x : Cell × Int} (h : PairRow H p x) : HKey K H (pairK x) (.ref p) := by
  obtain ⟨b, h1, h2⟩ := h
  exact ⟨p, _, rfl, .inl (.inl h1), _, _, rfl, cell_key h2, _, _, rfl, rfl, rfl⟩
theorem pairs_key {K : PySem.W.Frag} {H : Hp} : ∀ {ps : List Addr} {ρ : RowD}, Paired (PairRow H) ps ρ → HKeys K H (ρ.map pairK) (ps.map V.ref)
  | _, _, .nil => rfl
  | _, _, .cons h t => ⟨_, _, rfl, pair_key h, pairs_key t⟩
theorem row_key {K : PySem.W.Frag} {H : Hp} {r : Addr} {ρ : RowD} (h : RowAt H r ρ) : HKey K H (rowK ρ) (.ref r) := by
  obtain ⟨ps, h1, h2⟩ := h
  exact ⟨r, _, rfl, .inl (.inl h1), pairs_key h2⟩
theorem isRw_of {P : Program} {w : World} {H : Hp} {h : Heap} {r : Addr} {ρ : RowD} (ok : HOk P w H h) (e : RowAt H r ρ) : IsRw h (.ref r) ρ := by
  obtain ⟨ps, h1, h2⟩ := e
  obtain ⟨_, its, rv, o, ho, hc, n, hd⟩ := (show ObjOk P w H h r (.tup (ps.map V.ref)) from ok r _ h1)
  refine ⟨r, o, _, n, rfl, ho, hc, hd, ?_⟩
  have z : ∀ {ps : List Addr} {ρ : RowD} {us : List Value}, Paired (PairRow H) ps ρ → Vals (ps.map V.ref) us → Paired (IsPr h) us ρ := by
    intro ps ρ us hp
    induction hp generalizing us with
    | nil =>
      intro v
      cases v
      exact .nil
    | cons h1 _ ih =>
      intro v
      cases v with
      | cons r1 r2 =>
        cases r1
        exact .cons (isPr_of ok h1) (ih r2)
  simpa using z h2 rv
/-- the row behind a value -/
noncomputable def rowOfV (H : Hp) (v : Value) : RowD := @dite _ (∃ a ρ, v = .ref a ∧ RowAt H a ρ) (Classical.propDecidable _) (fun h => h.choose_spec.choose) fun _ => []
theorem RowAt.one {H : Hp} {a : Addr} {ρ π : RowD} (h : RowAt H a ρ) (g : RowAt H a π) : ρ = π := by
  obtain ⟨ps, h1, h2⟩ := h
  obtain ⟨qs, g1, g2⟩ := g
  have e : ps = qs := by
    rw [h1] at g1
    injection g1 with g1
    injection g1 with g1
    clear h1 h2 g2
    induction ps generalizing qs with
    | nil =>
      cases qs with
      | nil => rfl
      | cons _ _ => cases g1
    | cons p ps ih =>
      cases qs with
      | nil => cases g1
      | cons q qs =>
        rw [List.map_cons, List.map_cons] at g1
        injection g1 with e1 e2
        injection e1 with e1
        rw [e1, ih qs e2]
  subst e
  clear h1 g1
  induction h2 generalizing π with
  | nil =>
    cases g2
    rfl
  | cons k _ ih =>
    cases g2 with
    | cons k' t' =>
      rw [ih t', ← pairOf_at k, ← pairOf_at k']
theorem rowOfV_at {H : Hp} {a : Addr} {ρ : RowD} (h : RowAt H a ρ) : rowOfV H (.ref a) = ρ := by
  have ex : ∃ b π, Value.ref a = .ref b ∧ RowAt H b π := ⟨a, ρ, rfl, h⟩
  unfold rowOfV
  rw [dif_pos ex]
  obtain ⟨e, g⟩ := ex.choose_spec.choose_spec
  injection e with e
  exact RowAt.one g (e ▸ h)
/-- L is a list of rows that are not (), each where it says -/
def RowsIn (H : Hp) (L : List (Addr × NestedKey)) : Prop := ∀ p ∈ L, ∃ ρ, ρ ≠ [] ∧ p.2 = rowK ρ ∧ RowAt H p.1 ρ
theorem RowsIn.keys {K : PySem.W.Frag} {H : Hp} {L : List (Addr × NestedKey)} (h : RowsIn H L) : KeysAt K H L := fun p hp => by
  obtain ⟨ρ, _, e, hr⟩ := h p hp
  rw [e]
  exact ⟨row_key hr, rowK_deep ρ⟩
theorem strictR : ∀ {ys : List RowD}, ys.Pairwise (fun a b => ltR b a = false) → ys.Nodup → ys.Pairwise (fun a b => ltR a b = true) := by
  intro ys h n
  refine (h.and n).imp ?_
  rintro a b ⟨h1, h2⟩
  rcases ltR_tri a b with g | g | g
  · exact g
  · exact absurd g h2
  · rw [h1] at g
    cases g
/-- sorted(a), a a set of rows -/
def rSortSR (w : World) : List V → Hp → VK → Prop := fun xs H Q => ∃ (a : Addr) (L : List (Addr × NestedKey)), xs = [.ref a] ∧ H a = some (SetKO w a L) ∧ RowsIn H L ∧
  ∀ (ys : List RowD) (bs : List Addr) (p : Addr), (∀ ρ, ρ ∈ ys ↔ rowK ρ ∈ L.map Prod.snd) → ys.length = L.length → ys.Pairwise (fun a b => ltR a b = true) →
    Paired (RowAt H) bs ys → H p = none → Q (.ref p) (upd H p (.lst (bs.map V.ref)))
section
variable {X : Cx}
theorem cr_sortSR (hc : X.calm = true) (hu : X.A.units + 8 < cLine) : CallR X (.builtin "sorted") (rSortSR X.w) := by
  intro pins s σ H xs us Q I r q
  obtain ⟨a, L, rfl, ha, hL, q⟩ := q
  obtain ⟨u, rfl, ru⟩ := vals1 r
  obtain rfl : u = Value.ref a := ru
  have S0 : SetK0 X.w s.heap a L := (I.hok a _ ha).1
  obtain ⟨es, ep, t, S⟩ := S0.whole (P := X.prog) ((hL.keys (K := X.K)).are I)
  have vals : ∀ v ∈ L.map (fun p => Value.ref p.1), ∃ b ρ, v = .ref b ∧ ρ ≠ [] ∧ RowAt H b ρ := fun v hv => by
    obtain ⟨p, hp, rfl⟩ := List.mem_map.mp hv
    obtain ⟨ρ, ne, _, h⟩ := hL p hp
    exact ⟨_, ρ, rfl, ne, h⟩
  refine sortedK S (I.ok.hd hc) (ltv := fun v u => ltR (rowOfV H v) (rowOfV H u)) (swo_R _) (fun vs pm h2 s1 l hl past => ?_) fun s' p out c keep g o hp at' pm srt => ?_
  · refine rows_sortable (by rw [Around.in1_units, Around.in1_units]; omega) (by omega) (fun v hv => ?_) (fun v hv => ?_) fun o' eo => ?_
    · obtain ⟨b, ρ, rfl, _, h⟩ := vals v (pm.mem_iff.mp hv)
      rw [rowOfV_at h]
      exact (isRw_of I.hok h).keeps fun b o e _ => (past b o e).2
    · obtain ⟨b, ρ, rfl, ne, h⟩ := vals v (pm.mem_iff.mp hv)
      rw [rowOfV_at h]
      exact ne
    · have e' : some o' = some (seqObj "list" vs.toArray 0) := eo.symm.trans hl
      cases e'
      intro c
      exact absurd (Value.type.inj c) (by decide)
  · have hout : ∀ v ∈ out, ∃ b ρ, v = .ref b ∧ RowAt H b ρ := fun v hv => by
      obtain ⟨b, ρ, e, _, h⟩ := vals v (pm.mem_iff.mp hv)
      exact ⟨b, ρ, e, h⟩
    obtain ⟨bs, rfl⟩ : ∃ bs : List Addr, out = bs.map Value.ref := by
      clear pm srt at'
      induction out with
      | nil => exact ⟨[], rfl⟩
      | cons v l ih =>
        obtain ⟨bs, e⟩ := ih fun u hu => hout u (List.mem_cons_of_mem _ hu)
        obtain ⟨b, _, e', _⟩ := hout v List.mem_cons_self
        exact ⟨b :: bs, by rw [e', e]; rfl⟩
    have at2 : ∀ b ∈ bs, RowAt H b (rowOfV H (.ref b)) := fun b hb => by
      obtain ⟨b', c', e, h⟩ := hout (.ref b) (List.mem_map.mpr ⟨b, hb, rfl⟩)
      cases e
      rw [rowOfV_at h]
      exact h
    have kL : L.map Prod.snd = ((L.map fun p => Value.ref p.1).map (rowOfV H)).map rowK := by
      rw [List.map_map, List.map_map]
      refine List.map_congr_left fun p hp => ?_
      obtain ⟨ρ, _, e, h⟩ := hL p hp
      show p.2 = rowK (rowOfV H (.ref p.1))
      rw [rowOfV_at h, e]
    have pmc : ((bs.map Value.ref).map (rowOfV H)).Perm ((L.map fun p => Value.ref p.1).map (rowOfV H)) := pm.map _
    have ys : (bs.map Value.ref).map (rowOfV H) = bs.map fun b => rowOfV H (.ref b) := by rw [List.map_map]; rfl
    have nd : ((bs.map Value.ref).map (rowOfV H)).Nodup := by
      refine pmc.nodup_iff.mpr ?_
      have one := S.one
      rw [kL] at one
      exact (List.pairwise_map.mp one).imp fun h e => h (congrArg rowK e)
    have st := strictR (List.pairwise_map.mpr srt) nd
    have len : (bs.map Value.ref).length = L.length := by rw [pm.length_eq, List.length_map]
    rw [List.length_map] at len
    have few := S.few
    have hn : H p = none := I.hok.fresh hp
    have J : Inv X pins σ (upd H p (.lst (bs.map V.ref))) { s with heap := s'.heap, gens := s'.gens, drawn := s'.drawn, toks := s'.toks } :=
      I.call (ch := []) (Un.laid keep hp hn) (I.hok.laid keep hp ⟨by rw [List.length_map, sizeLine_eq]; omega, bs.map Value.ref, c, refs_vals bs, at'⟩) (by rw [g]; exact I.bare) (fun _ z => nomatch z)
    have e : s' = { s with heap := s'.heap, gens := s'.gens, drawn := s'.drawn, toks := s'.toks } := by
      cases s'
      cases s
      cases o
      rfl
    rw [e]
    refine ⟨.ref p, _, J, rfl, q _ bs p (fun ρ => ?_) ?_ (ys ▸ st) (paired_of (fun b => rowOfV H (.ref b)) at2) hn⟩
    · rw [← ys, pmc.mem_iff, kL]
      exact ⟨fun m => List.mem_map.mpr ⟨ρ, m, rfl⟩, fun m => by
        obtain ⟨π, hd, e⟩ := List.mem_map.mp m
        rw [← rowK_inj e]
        exact hd⟩
    · rw [List.length_map]
      exact len
end
end Ask
/-! AskDk: a dict whose keys are nested keys and whose values are all True. -/
namespace Ask
open PySem PySem.Spec PyProof.Rows L2 AskG
abbrev KA := Addr × NestedKey
/-- the dict's entries -/
abbrev asEnt (L : List KA) : List (NestedKey × Addr × Value) := L.map fun p => (p.2, p.1, Value.bool true)
def putD (L : List KA) (b : Addr) (k : NestedKey) : List KA := if k ∈ L.map Prod.snd then L else L ++ [(b, k)]
theorem atKey_in : ∀ {L : List KA} {k : NestedKey}, (atKey (asEnt L) k).isSome = decide (k ∈ L.map Prod.snd)
  | [], _ => rfl
  | p :: L, k => by
    have ih := atKey_in (L := L) (k := k)
    show (Option.map (·.2) (List.find? (fun x => decide (x.1 = k)) ((p.2, p.1, Value.bool true) :: asEnt L))).isSome = decide (k ∈ p.2 :: L.map Prod.snd)
    by_cases e : p.2 = k
    · rw [List.find?_cons_of_pos (by exact decide_eq_true e), decide_eq_true (List.mem_cons.mpr (.inl e.symm))]
      rfl
    · rw [List.find?_cons_of_neg (by intro z; exact e (of_decide_eq_true z))]
      refine ih.trans (decide_eq_decide.mpr ⟨fun m => List.mem_cons.mpr (.inr m), fun m => ?_⟩)
      cases List.mem_cons.mp m with
      | inl z => exact absurd z.symm e
      | inr z => exact z
theorem putAt_same {L : List KA} {k : NestedKey} : (asEnt L).map (putAt k (Value.bool true)) = asEnt L := by
  induction L with
  | nil => rfl
  | cons p L ih =>
    show putAt k (Value.bool true) (p.2, p.1, Value.bool true) :: (asEnt L).map (putAt k (Value.bool true)) = _
    rw [ih]
    have e : putAt k (Value.bool true) (p.2, p.1, Value.bool true) = (p.2, p.1, Value.bool true) := by
      unfold putAt
      split <;> rfl
    rw [e]
    rfl
theorem stored_put (L : List KA) (b : Addr) (k : NestedKey) : storedH (asEnt L) k b (Value.bool true) = asEnt (putD L b k) := by
  unfold storedH putD
  rw [atKey_in]
  by_cases h : k ∈ L.map Prod.snd
  · rw [if_pos (decide_eq_true h), if_pos h, putAt_same]
  · rw [if_neg (by rw [decide_eq_false h]; decide), if_neg h]
    show _ = List.map _ (L ++ [(b, k)])
    rw [List.map_append]
    rfl
/-- the dict at a, its keys aside -/
structure DicK0 (P : Program) (w : World) (h : Heap) (a : Addr) (L : List KA) : Prop where
  sys : (a == sysModules) = false
  has : ∃ o es ep, h.get? a = some o ∧ o.ExactDict ∧ o.data = .dict es ep ∧ es.toList = (asEnt L).map (entryOfKey (nestedKind P w)) ∧ (L.map Prod.snd).Nodup
def DicKO (P : Program) (w : World) (a : Addr) (L : List KA) : HO := .ext fun h => DicK0 P w h a L
theorem dicKO_ok {P : Program} {w : World} {H : Hp} {h : Heap} {a : Addr} {L : List KA} (S : DicK0 P w h a L) : ObjOk P w H h a (DicKO P w a L) := by
  obtain ⟨o, es, ep, ho, r⟩ := id S.has
  refine ⟨S, ⟨o, ho⟩, fun h1 h2 p k => ?_⟩
  obtain ⟨sy, o', es', ep', ho', r'⟩ := (show DicK0 P w h1 a L from p)
  exact ⟨sy, o', es', ep', k o' ho', r'⟩
theorem asEnt_keys (L : List KA) : (asEnt L).map (·.1) = L.map Prod.snd := by
  rw [List.map_map]
  rfl
section
variable {X : Cx} {pins : List (Addr × Obj)} {σ : L2.St} {H : Hp} {s : Shared} {E : Value → Shared → Prop}
theorem DicK0.whole {L : List KA} {a : Addr} (S : DicK0 X.prog X.w s.heap a L) (hL : KeysAt X.K H L) (I : Inv X pins σ H s) : s.heap.DictOfH (nestedKind X.prog X.w) a (asEnt L) := by
  obtain ⟨_, o, es, ep, ho, hx, hd, he, hn⟩ := S
  refine ⟨o, es, ep, ho, hx, hd, he, fun x m => ?_, by rw [asEnt_keys]; exact hn⟩
  obtain ⟨p, hp, rfl⟩ := List.mem_map.mp m
  exact hL.are I p hp
/-- D[x] = True -/
theorem putD_ok {D x : Addr} {L : List KA} {k : NestedKey} {Q : Unit → Shared → Prop} (I : Inv X pins σ H s) (room : X.A.units + 10 < cLine) (hD : H D = some (DicKO X.prog X.w D L)) (hL : KeysAt X.K H L) (few : L.length ≤ 1000)
    (hk : HKey X.K H k (.ref x)) (hd : k.depth ≤ 8) (h : ∀ s', Inv X pins σ (upd H D (DicKO X.prog X.w D (putD L x k))) s' → Q () s') :
    wpAny (model X.prog X.w) X.A (dictSet D (.ref x) (.bool true)) Q E s := by
  have S : DicK0 X.prog X.w s.heap D L := (I.hok D _ hD).1
  refine wpAny_dictSet_heap (knd := nestedKind X.prog X.w) (show X.A.units + 8 < cLine by omega) ⟨hkey_is I k (.ref x) (.ref x) hk rfl, hd⟩ (S.whole hL I) (fun h' dd sb => h _ ?_) (by rw [List.length_map, sizeLine_eq]; omega)
  rw [stored_put] at dd
  obtain ⟨o, es, ep, ho, hx, hdd, he, _, hn⟩ := dd
  rw [asEnt_keys] at hn
  exact I.write (e := D) (t' := s.toks + k.draws) (by rw [hD]; trivial) (.inl rfl) (fun b u hb hu => (sb.2 b hb).trans hu) ⟨o, ho⟩ (dicKO_ok ⟨S.sys, o, es, ep, ho, hx, hdd, he, hn⟩)
end
end Ask
/-! AskEk: {} as a dict of nested keys, d[k] = True. -/
namespace Ask
open PySem PySem.Spec PyProof.Rows L2 AskG
def tDNewN (P : Program) (w : World) : TE := fun _ H Q => ∀ p, H p = none → Q (.ref p) (upd H p (DicKO P w p []))
/-- d[k] = True -/
def sDPutN (P : Program) (w : World) (K : PySem.W.Frag) (td ty tv : TE) : TS := fun D σ H => tv σ H fun v H1 => td σ H1 fun x H2 => ty σ H2 fun y H3 => ∃ a b L k, v = .bl true ∧ x = .ref a ∧ y = .ref b ∧
  H3 a = some (DicKO P w a L) ∧ KeysAt K H3 L ∧ L.length ≤ 1000 ∧ HKey K H3 k (.ref b) ∧ k.depth ≤ 8 ∧ D.nx σ (upd H3 a (DicKO P w a (putD L b k)))
section
variable {X : Cx} {o i value : Expr} {pos pos' : Pos} {td ty tv : TE}
theorem pe_dnewN : PE X (.Dict [] [] pos) (tDNewN X.prog X.w) := by
  constructor
  intro pins s σ H Q I h
  refine wpAny_Dict_empty ⟨.ref s.heap.objs.size, _, I.laid (a := s.heap.objs.size) (o := DicKO X.prog X.w s.heap.objs.size []) (t' := s.toks) (fun _ _ q => Heap.get?_push_of_some _ q) (Nat.le_refl _) (dicKO_ok ⟨?_, ?_⟩), rfl, h _ (I.hok.fresh (Nat.le_refl _))⟩
  · exact beq_eq_false_iff_ne.mpr (Ne.symm (Nat.ne_of_lt I.big))
  · exact ⟨_, #[], 0, Heap.get?_push_size _ rfl, ⟨rfl, rfl, rfl⟩, rfl, rfl, List.nodup_nil⟩
theorem setN {pins : List (Addr × Obj)} {σ : L2.St} {H : Hp} {s : Shared} {E : Value → Shared → Prop} {D x : Addr} {L : List KA} {k : NestedKey} {Q : Unit → Shared → Prop} (I : Inv X pins σ H s) (room : X.A.units + 10 < cLine)
    (hD : H D = some (DicKO X.prog X.w D L)) (hL : KeysAt X.K H L) (few : L.length ≤ 1000) (hk : HKey X.K H k (.ref x)) (hd : k.depth ≤ 8)
    (h : ∀ s', Inv X pins σ (upd H D (DicKO X.prog X.w D (putD L x k))) s' → Q () s') : wpAny (model X.prog X.w) X.A (setItem (.ref D) (.ref x) (.bool true)) Q E s := by
  have S : DicK0 X.prog X.w s.heap D L := (I.hok D _ hD).1
  refine wpAny_setItem_heap (knd := nestedKind X.prog X.w) (show X.A.in1.units + 8 < cLine by rw [Around.in1_units]; omega) ⟨hkey_is I k (.ref x) (.ref x) hk rfl, hd⟩ (S.whole hL I) (fun h' dd sb => h _ ?_) (by rw [List.length_map, sizeLine_eq]; omega)
  rw [stored_put] at dd
  obtain ⟨o, es, ep, ho, hx, hdd, he, _, hn⟩ := dd
  rw [asEnt_keys] at hn
  exact I.write (e := D) (t' := s.toks + k.draws) (by rw [hD]; trivial) (.inl rfl) (fun b u hb hu => (sb.2 b hb).trans hu) ⟨o, ho⟩ (dicKO_ok ⟨S.sys, o, es, ep, ho, hx, hdd, he, hn⟩)
theorem ps_dputN (hu : X.A.units + 10 < cLine) (ho : PE X o td) (hi : PE X i ty) (hv : PE X value tv) (hs : swapsWith value (some (.Subscript o i pos')) pos.line X.env = pure false) :
    PS X (.Assign [.Subscript o i pos'] value pos) (sDPutN X.prog X.w X.K td ty tv) := by
  constructor
  intro pins s σ H D I h
  refine wpAny_Assign_Subscript (thn (hv.run pins s σ H _ I h) ?_) hs
  rintro r s1 ⟨v, H1, I1, rv, q1⟩
  refine thn (ho.run pins s1 σ H1 _ I1 q1) ?_
  rintro u s2 ⟨x, H2, I2, rx, q2⟩
  refine thn (hi.run pins s2 σ H2 _ I2 q2) ?_
  rintro iv s3 ⟨y, H3, I3, ry, a, b, L, k, ev, ex, ey, hD, hL, few, hk, hd, q3⟩
  subst ev ex ey
  cases rv
  cases rx
  cases ry
  exact setN I3 hu hD hL few hk hd fun s4 I4 => ⟨σ, _, I4, q3⟩
end
end Ask
/-! AskFk: sorted of a dict whose keys are rows that are not (). -/
namespace Ask
open PySem PySem.Spec PyProof.Rows L2 AskG
/-- sorted(d), d a dict of rows -/
def rSortDR (P : Program) (w : World) : List V → Hp → VK → Prop := fun xs H Q => ∃ (a : Addr) (L : List KA), xs = [.ref a] ∧ H a = some (DicKO P w a L) ∧ RowsIn H L ∧ L.length ≤ 1000 ∧
  ∀ (ys : List RowD) (bs : List Addr) (p : Addr), (∀ ρ, ρ ∈ ys ↔ rowK ρ ∈ L.map Prod.snd) → ys.length = L.length → ys.Pairwise (fun a b => ltR a b = true) →
    Paired (RowAt H) bs ys → H p = none → Q (.ref p) (upd H p (.lst (bs.map V.ref)))
section
variable {X : Cx}
theorem cr_sortDR (hc : X.calm = true) (hu : X.A.units + 8 < cLine) : CallR X (.builtin "sorted") (rSortDR X.prog X.w) := by
  intro pins s σ H xs us Q I r q
  obtain ⟨a, L, rfl, ha, hL, few, q⟩ := q
  obtain ⟨u, rfl, ru⟩ := vals1 r
  obtain rfl : u = Value.ref a := ru
  obtain ⟨hs, o, es, ep, ho, hx, hdt, he, hn⟩ := (show DicK0 X.prog X.w s.heap a L from (I.hok a _ ha).1)
  have l1 : es.size = L.length := by rw [size_of_entries he, List.length_map]
  have vals : ∀ v ∈ L.map (fun p => Value.ref p.1), ∃ b ρ, v = .ref b ∧ ρ ≠ [] ∧ RowAt H b ρ := fun v hv => by
    obtain ⟨p, hp, rfl⟩ := List.mem_map.mp hv
    obtain ⟨ρ, ne, _, h⟩ := hL p hp
    exact ⟨_, ρ, rfl, ne, h⟩
  refine Calls.call_function_entry PyProof.Rows.kind_sorted PyProof.Rows.plain_sorted
    PyProof.Rows.entry_sorted (PyProof.Rows.args_sorted1 _) ?_
  unfold Builtin.«sorted»
  refine wpAny_bind (m := checkCount "sorted" 1 1 _) (wpAny_pure ?_)
  refine wpAny_bind (PySem.W.kdu_collect (A := X.A.in1) (kdl_raw hs hx hdt) (I.ok.hd hc) ho (by rw [l1, sizeLine_eq]; omega) ?_)
  intro h' tk acc hk it
  have ea : acc.toList = L.map fun p => Value.ref p.1 := by
    have hl : acc.toList.length = L.length := by
      rw [Array.length_toList, it.1]
      exact l1
    apply List.ext_getElem?
    intro j
    rw [List.getElem?_map]
    cases hj : acc.toList[j]? with
    | none =>
      have h1 := List.getElem?_eq_none_iff.mp hj
      rw [List.getElem?_eq_none (by omega)]
      all_goals rfl
    | some v =>
      obtain ⟨en, hen, hv⟩ := it.2 j v (by rw [← Array.getElem?_toList]; exact hj)
      have qe := entry_at he j
      rw [hen, List.getElem?_map] at qe
      cases hb : L[j]? with
      | none =>
        rw [hb] at qe
        exact nomatch (show some en = none from qe)
      | some b =>
        rw [hb] at qe
        have e2 : en = entryOfKey (nestedKind X.prog X.w) (b.2, b.1, Value.bool true) := Option.some.inj qe
        rw [hv, e2]
        all_goals rfl
  generalize acc.toList = vs at ea ⊢
  subst ea
  have hz : (L.map fun p => Value.ref p.1).length ≤ sizeLine := by
    rw [List.length_map, sizeLine_eq]
    omega
  have I1 : Inv X pins σ H { s with heap := h', toks := tk } := I.kept hk
  refine wpAny_bind (wpAny_newList ?_ hz)
  generalize hvs : (L.map fun p => Value.ref p.1) = vs at hz vals ⊢
  have hoL : (h'.push (seqObj "list" vs.toArray 0)).get? h'.objs.size = some (seqObj "list" vs.toArray 0) := Heap.get?_push_size _ rfl
  show wpAny _ _ _ _ _ { s with heap := h'.push (seqObj "list" vs.toArray 0), toks := tk }
  refine wpAny_bind (wpAny_holding (wpAny_call_entry PyProof.Rows.slot_list_sort ⟨_, hoL, rfl⟩ PyProof.Rows.entry_list_sort
    (SrtO.list_sort_ord (ltv := fun v u => ltR (rowOfV H v) (rowOfV H u)) (swo_R _) hoL hz (fun h2 => ?_) (fun out srt hb => ⟨_, rfl, ?_⟩))
    (PyProof.Rows.args_list_sort _)))
  · refine rows_sortable (by rw [Around.in1_units, Around.in1_units]; omega) (by omega) (fun v hv => ?_) (fun v hv => ?_) fun o' eo => ?_
    · obtain ⟨b, ρ, rfl, _, h⟩ := vals v hv
      rw [rowOfV_at h]
      exact (isRw_of I1.hok h).keeps fun b o e _ => Heap.get?_push_of_some _ e
    · obtain ⟨b, ρ, rfl, ne, h⟩ := vals v hv
      rw [rowOfV_at h]
      exact ne
    · have e' : some o' = some (seqObj "list" vs.toArray 0) := eo.symm.trans hoL
      cases e'
      intro c
      exact absurd (Value.type.inj c) (by decide)
  · obtain ⟨e', at'⟩ := PyProof.Rows.sortedHeap_at (vs := vs) (out := out.toArray) hoL
    have pm : out.Perm (L.map fun p => Value.ref p.1) := hvs ▸ hb.perm
    have hout : ∀ v ∈ out, ∃ b ρ, v = .ref b ∧ RowAt H b ρ := fun v hv => by
      obtain ⟨b, ρ, e, _, h⟩ := vals v (hb.perm.mem_iff.mp hv)
      exact ⟨b, ρ, e, h⟩
    clear hb
    obtain ⟨bs, rfl⟩ : ∃ bs : List Addr, out = bs.map Value.ref := by
      clear pm srt at'
      induction out with
      | nil => exact ⟨[], rfl⟩
      | cons v l ih =>
        obtain ⟨bs, e⟩ := ih fun u hu => hout u (List.mem_cons_of_mem _ hu)
        obtain ⟨b, _, e', _⟩ := hout v List.mem_cons_self
        exact ⟨b :: bs, by rw [e', e]; rfl⟩
    have at2 : ∀ b ∈ bs, RowAt H b (rowOfV H (.ref b)) := fun b hb => by
      obtain ⟨b', c', e, h⟩ := hout (.ref b) (List.mem_map.mpr ⟨b, hb, rfl⟩)
      cases e
      rw [rowOfV_at h]
      exact h
    have kL : L.map Prod.snd = ((L.map fun p => Value.ref p.1).map (rowOfV H)).map rowK := by
      rw [List.map_map, List.map_map]
      refine List.map_congr_left fun p hp => ?_
      obtain ⟨ρ, _, e, h⟩ := hL p hp
      show p.2 = rowK (rowOfV H (.ref p.1))
      rw [rowOfV_at h, e]
    have pmc : ((bs.map Value.ref).map (rowOfV H)).Perm ((L.map fun p => Value.ref p.1).map (rowOfV H)) := pm.map _
    have ys : (bs.map Value.ref).map (rowOfV H) = bs.map fun b => rowOfV H (.ref b) := by rw [List.map_map]; rfl
    have nd : ((bs.map Value.ref).map (rowOfV H)).Nodup := by
      refine pmc.nodup_iff.mpr ?_
      have one := hn
      rw [kL] at one
      exact (List.pairwise_map.mp one).imp fun h e => h (congrArg rowK e)
    have st := strictR (List.pairwise_map.mpr srt) nd
    have len : (bs.map Value.ref).length = L.length := by rw [pm.length_eq, List.length_map]
    rw [List.length_map] at len
    have hlen : (bs.map V.ref).length ≤ sizeLine := by
      rw [List.length_map, sizeLine_eq]
      omega
    refine wpAny_pure ⟨_, rfl, .ref h'.objs.size, upd H h'.objs.size (.lst (bs.map V.ref)), I1.laid (t' := tk) (fun b u e => ?_) (Nat.le_refl _)
      (show ObjOk X.prog X.w _ _ _ (.lst (bs.map V.ref)) from ⟨hlen, bs.map Value.ref, e', refs_vals _, at'⟩), rfl,
      q _ bs _ (fun ρ => ?_) ?_ (ys ▸ st) (paired_of (fun b => rowOfV H (.ref b)) at2) (I1.hok.fresh (Nat.le_refl _))⟩
    · have hb : b < h'.objs.size := Heap.lt_size e
      rw [PyProof.Rows.sortedHeap_old (Nat.ne_of_lt hb) (by rw [size_push']; exact Nat.lt_succ_of_lt hb)]
      exact Heap.get?_push_of_some _ e
    · rw [← ys, pmc.mem_iff, kL]
      exact ⟨fun m => List.mem_map.mpr ⟨ρ, m, rfl⟩, fun m => by
        obtain ⟨π, hd, e⟩ := List.mem_map.mp m
        rw [← rowK_inj e]
        exact hd⟩
    · rw [List.length_map]
      exact len
end
end Ask
/-! AskLk: sorted of a list of rows that are not (). -/
namespace Ask
open PySem PySem.Spec PyProof.Rows L2 AskG
/-- sorted(l), l a list of rows -/
def rSortLR (K : PySem.W.Frag) : List V → Hp → VK → Prop := fun xs H Q => ∃ (a : Addr) (ps : List Addr) (rs : List RowD), xs = [.ref a] ∧ SqL K H a (ps.map V.ref) ∧ Paired (RowAt H) ps rs ∧ (∀ ρ ∈ rs, ρ ≠ []) ∧
  ∀ (ys : List Addr) (ts : List RowD) (p : Addr), ts.Perm rs → ts.Pairwise (fun a b => ltR b a = false) → Paired (RowAt H) ys ts → H p = none → Q (.ref p) (upd H p (.lst (ys.map V.ref)))
theorem paired_both {α β : Type} {R : α → β → Prop} : ∀ {l : List α} {m : List β}, Paired R l m → ∀ a ∈ l, ∃ b ∈ m, R a b
  | _, _, .nil, a, h => absurd h (by simp)
  | _, _, .cons h1 t, a, h => by
    cases List.mem_cons.mp h with
    | inl e => exact ⟨_, List.mem_cons.mpr (.inl rfl), e ▸ h1⟩
    | inr m =>
      obtain ⟨b, hb, r⟩ := paired_both t a m
      exact ⟨b, List.mem_cons.mpr (.inr hb), r⟩
section
variable {X : Cx}
theorem cr_sortLR (hu : X.A.units + 8 < cLine) : CallR X (.builtin "sorted") (rSortLR X.K) := by
  intro pins s σ H vs us Q I r h
  obtain ⟨a, ps, rs, rfl, hs, hx, ne, q⟩ := h
  obtain ⟨its, rv, hl, hz⟩ := I.list hs
  obtain ⟨u, rfl, ru⟩ := vals1 r
  obtain rfl : u = Value.ref a := ru
  have ei : its = ps.map Value.ref := by
    clear hl hz q hx hs ne
    induction ps generalizing its with
    | nil =>
      cases rv
      rfl
    | cons p ps ih =>
      cases rv with
      | cons h1 t =>
        cases h1
        rw [List.map_cons, ih _ t]
  subst ei
  have hp : ∀ v ∈ ps.map Value.ref, ∃ p ρ, v = .ref p ∧ ρ ≠ [] ∧ RowAt H p ρ := fun v hv => by
    obtain ⟨p, hp, rfl⟩ := List.mem_map.mp hv
    obtain ⟨ρ, hm, hr⟩ := paired_both hx p hp
    exact ⟨p, ρ, rfl, ne ρ hm, hr⟩
  refine SrtO.sorted_ord (ltv := fun v u => ltR (rowOfV H v) (rowOfV H u)) (swo_R _) hl.isList (by rw [← rv.length]; exact hz) (fun h2 h₁ a' ha kk => ?_) fun out h1 h2 => ?_
  · refine rows_sortable (s := { s with heap := h₁ }) (by rw [Around.in1_units, Around.in1_units]; omega) (by omega) (fun v hv => ?_) (fun v hv => ?_) fun o e => ?_
    · obtain ⟨p, ρ, rfl, _, hr⟩ := hp v hv
      rw [rowOfV_at hr]
      exact (isRw_of I.hok hr).keeps fun b o e _ => (kk b o e).2
    · obtain ⟨p, ρ, rfl, hne, hr⟩ := hp v hv
      rw [rowOfV_at hr]
      exact hne
    · have e' : some o = some (seqObj "list" (ps.map Value.ref).toArray 0) := e.symm.trans ha
      cases e'
      intro c
      exact absurd (Value.type.inj c) (by decide)
  · have hout : ∀ v ∈ out, ∃ p ρ, v = .ref p ∧ RowAt H p ρ := fun v hv => by
      obtain ⟨p, ρ, e, _, hr⟩ := hp v (h2.perm.mem_iff.mp hv)
      exact ⟨p, ρ, e, hr⟩
    have hys : ∃ ys : List Addr, out = ys.map Value.ref := by
      clear h1 h2
      induction out with
      | nil => exact ⟨[], rfl⟩
      | cons v l ih =>
        obtain ⟨ys, rfl⟩ := ih fun u hu => hout u (List.mem_cons_of_mem _ hu)
        obtain ⟨p, x, rfl, _⟩ := hout v List.mem_cons_self
        exact ⟨p :: ys, rfl⟩
    obtain ⟨ys, rfl⟩ := hys
    obtain ⟨n, hn⟩ := PyProof.Rows.sortedAll_at s.heap (ps.map Value.ref) (ys.map Value.ref).toArray
    have hlen : (ys.map V.ref).length ≤ sizeLine := by
      have := h2.perm.length_eq
      rw [List.length_map, List.length_map] at this
      rw [List.length_map] at hz ⊢
      omega
    have em : (ps.map Value.ref).map (rowOfV H) = rs := by
      rw [List.map_map]
      exact paired_map (R := RowAt H) _ (fun p x h => rowOfV_at h) hx
    refine ⟨.ref (s.heap.objs.size + 1), upd H (s.heap.objs.size + 1) (.lst (ys.map V.ref)), I.laid (t' := s.toks) (fun b o e => PyProof.Rows.sortedAll_old e) (Nat.le_succ _) ⟨hlen, ys.map Value.ref, n, refs_vals _, hn⟩, rfl, q ys ((ys.map Value.ref).map (rowOfV H)) _ ?_ (List.pairwise_map.mpr h1) ?_ (I.hok.fresh (Nat.le_succ _))⟩
    · rw [← em]
      exact h2.perm.map _
    · rw [List.map_map]
      refine paired_of _ fun p hp' => ?_
      obtain ⟨p2, x, e2, hx'⟩ := hout (.ref p) (List.mem_map_of_mem hp')
      cases e2
      show RowAt H p (rowOfV H (.ref p))
      rw [rowOfV_at hx']
      exact hx'
end
end Ask
/-! AskWa: the walk over a tuple, a list, a range, told once for loops of comprehensions of any shape. -/
namespace Ask
open PySem PySem.Spec PyProof.Rows L2 AskG
/-- what a loop over J asks: it begins at H0, each turn is Body, the end is Qd -/
def Loops (J : It) (H0 : Hp) (Qd : Hp → Prop) (Body : V → Hp → (Hp → Prop) → Prop) : Prop :=
  ∃ W : Nat → Nat → Hp → Prop, (∃ m, W 0 m H0) ∧ ∀ i m H, W i m H →
    (J.stop i H ∧ Qd H) ∨ (J.go i H ∧ ∃ Nx : Hp → Prop, (∀ H', Nx H' → ∃ m', m' < m ∧ W (i + 1) m' H') ∧ ∀ x H', J.yld i H x H' → Body x H' Nx)
section
variable {K : PySem.W.Frag} {a : Addr} {xs : List V} {H0 : Hp} {Qd : Hp → Prop} {Body : V → Hp → (Hp → Prop) → Prop}
theorem loop_tup (Pv : Nat → Hp → Prop) (h0 : Pv 0 H0) (hl : ∀ i H, Pv i H → SqT K H a xs) (hs : ∀ i x H, xs[i]? = some x → Pv i H → Body x H (Pv (i + 1))) (hd : ∀ H, Pv xs.length H → Qd H) : Loops (Itt K a) H0 Qd Body := by
  refine ⟨fun i m H => m + i = xs.length ∧ Pv i H, ⟨xs.length, Nat.add_zero _, h0⟩, fun i m H h => ?_⟩
  obtain ⟨e, p⟩ := h
  have q := hl i H p
  cases m with
  | zero =>
    have e : i = xs.length := by omega
    subst e
    exact .inl ⟨⟨xs, q, Nat.le_refl _⟩, hd H p⟩
  | succ m =>
    have lt : i < xs.length := by omega
    refine .inr ⟨⟨xs, xs[i], q, List.getElem?_eq_getElem lt⟩, Pv (i + 1), fun H' p' => ⟨m, Nat.lt_succ_self _, by omega, p'⟩, fun x H' y => ?_⟩
    obtain ⟨rfl, y⟩ := y
    exact hs i x _ (y xs q) p
theorem loop_lst (Pv : Nat → Hp → Prop) (h0 : Pv 0 H0) (hl : ∀ i H, Pv i H → SqL K H a xs) (hs : ∀ i x H, xs[i]? = some x → Pv i H → Body x H (Pv (i + 1))) (hd : ∀ H, Pv xs.length H → Qd H) : Loops (Itl K a) H0 Qd Body := by
  refine ⟨fun i m H => m + i = xs.length ∧ Pv i H, ⟨xs.length, Nat.add_zero _, h0⟩, fun i m H h => ?_⟩
  obtain ⟨e, p⟩ := h
  have q := hl i H p
  cases m with
  | zero =>
    have e : i = xs.length := by omega
    subst e
    exact .inl ⟨⟨xs, q, Nat.le_refl _⟩, hd H p⟩
  | succ m =>
    have lt : i < xs.length := by omega
    refine .inr ⟨⟨xs, xs[i], q, List.getElem?_eq_getElem lt⟩, Pv (i + 1), fun H' p' => ⟨m, Nat.lt_succ_self _, by omega, p'⟩, fun x H' y => ?_⟩
    obtain ⟨rfl, y⟩ := y
    exact hs i x _ (y xs q) p
theorem loop_rg {lo : Int} {n : Nat} (Pv : Nat → Hp → Prop) (h0 : Pv 0 H0) (hs : ∀ (i : Nat) H, i < n → Pv i H → Body (.int (lo + (i : Int))) H (Pv (i + 1))) (hd : ∀ H, Pv n H → Qd H) : Loops (Itr lo n) H0 Qd Body := by
  refine ⟨fun i m H => m + i = n ∧ Pv i H, ⟨n, Nat.add_zero _, h0⟩, fun i m H h => ?_⟩
  obtain ⟨e, p⟩ := h
  cases m with
  | zero =>
    have e : i = n := by omega
    subst e
    exact .inl ⟨Nat.le_refl _, hd H p⟩
  | succ m =>
    have lt : i < n := by omega
    refine .inr ⟨lt, Pv (i + 1), fun H' p' => ⟨m, Nat.lt_succ_self _, by omega, p'⟩, fun x H' y => ?_⟩
    obtain ⟨rfl, rfl⟩ := y
    exact hs i _ lt p
end
/-! ### the keys of a dict of nested keys -/
/-- the dict at a, the object o -/
def DicFO (P : Program) (w : World) (a : Addr) (o : Obj) (L : List KA) : HO := .ext fun h => h.get? a = some o ∧ DicK0 P w h a L
def Itn (P : Program) (w : World) (d : Addr) (o : Obj) (L : List KA) : It where
  go := fun i H => H d = some (DicFO P w d o L) ∧ i < L.length
  yld := fun i H x H' => H' = H ∧ ∃ p, L[i]? = some p ∧ x = .ref p.1
  stop := fun i H => H d = some (DicFO P w d o L) ∧ L.length ≤ i
theorem dicF_at {P : Program} {w : World} {H : Hp} {h : Heap} {d : Addr} {o : Obj} {L : List KA} {es : Array DictEntry} {ep : Nat} (ok : HOk P w H h) (e : H d = some (DicFO P w d o L)) (hod : o.data = .dict es ep) :
    h.get? d = some o ∧ es.size = L.length ∧ ∀ (i : Nat) (p : KA), L[i]? = some p → ∃ en : DictEntry, es[i]? = some en ∧ en.key = .ref p.1 := by
  obtain ⟨g, sy, o', es', ep', ho, hx, hd, he, hn⟩ := (show h.get? d = some o ∧ DicK0 P w h d L from (ok d _ e).1)
  obtain rfl : o = o' := Option.some.inj (g.symm.trans ho)
  obtain ⟨rfl, rfl⟩ := dict_ep hod hd
  have sz : es'.size = L.length := by rw [size_of_entries he, List.length_map]
  refine ⟨g, sz, fun i p hp => ?_⟩
  have z := entry_at he i
  rw [List.getElem?_map, hp] at z
  exact ⟨_, z, rfl⟩
theorem turn_n {P : Program} {w : World} {K : PySem.W.Frag} {tg : Expr} {d it : Addr} {o : Obj} {L : List KA} {es : Array DictEntry} {ep : Nat} (hod : o.data = .dict es ep) :
    Turn P w K tg (Itn P w d o L) [it] it (fun i h => h.IsKeyIter it d i L.length ep) where
  mem := List.mem_singleton.mpr rfl
  obj := fun i h k b hb => by
    rw [List.mem_singleton.mp hb]
    obtain ⟨x, hx, _, hf⟩ := k
    refine ⟨x, hx, fun v z => ?_⟩
    rw [hf] at z
    cases z
  keep := fun i h h' k st => k.at fun x e => st it (List.mem_singleton.mpr rfl) x e
  item := by
    intro X eP eW eK calm i pins s σ H E I fine key g
    subst eP eW eK
    obtain ⟨gd, sz, at'⟩ := dicF_at I.hok g.1 hod
    obtain ⟨p, hp⟩ : ∃ p, L[i]? = some p := ⟨_, List.getElem?_eq_getElem g.2⟩
    obtain ⟨en, hen, hk⟩ := at' i p hp
    obtain ⟨y0, y1, y2, y3, y4, y5⟩ := fine it (List.mem_singleton.mpr rfl)
    refine next_key_item key gd hod sz hen fun hh key' same => ?_
    have J := I.turned (t' := s.toks) (fun b x nb e => (same.2 b nb).trans e) y0 y1 y3 y4 y5
    obtain ⟨x, hx, hc, hf⟩ := id key'
    refine ⟨en.key, rfl, ?_⟩
    refine go_of (s := { s with heap := hh }) hx hc hf (by decide) ?_
    exact ⟨.ref p.1, H, J, by rw [hk]; rfl, ⟨rfl, p, hp, rfl⟩, key', fun b hb => (fine b hb).1⟩
  done := by
    intro X eP eW eK calm i pins s σ H E I fine key g
    subst eP eW eK
    obtain ⟨gd, sz, _⟩ := dicF_at I.hok g.1 hod
    obtain ⟨y0, y1, y2, y3, y4, y5⟩ := fine it (List.mem_singleton.mpr rfl)
    refine next_key_end (I.ok.hd calm) key gd hod sz g.2 fun hh eb => ⟨rfl, ?_⟩
    exact I.turned (t' := s.toks) (fun b x nb e => eb b x nb e) y0 y1 y3 y4 y5
  self := fun A i s Q E key q => by
    refine wpAny_pyIter_slot key.typeIs F.slot_dict_keyiterator_iter ?_
    refine wpAny_call_entry F.slot_dict_keyiterator_iter key.typeIs F.entry_dict_keyiterator_iter ?_ (F.args_dict_keyiterator_iter_1 _)
    exact wpAny_pure ⟨_, rfl, "dict_keyiterator", _, key.typeIs, F.slot_dict_keyiterator_next.lookup, q⟩
/-- for k in d -/
def iKeysN (P : Program) (w : World) (td : TE) : TI := fun σ H R => td σ H fun x H1 => ∃ d L, x = .ref d ∧ H1 d = some (DicKO P w d L) ∧ ∀ o, R (Itn P w d o L) (upd H1 d (DicFO P w d o L))
theorem pi_keysN {X : Cx} {tg e : Expr} {td : TE} (he : PE X e td) : PI X tg e (iKeysN X.prog X.w td) := by
  constructor
  intro pins s σ H R I h
  refine thn (he.run pins s σ H _ I h) fun u s1 q1 => ?_
  obtain ⟨x, H1, I1, rx, d, L, ex, hd, q⟩ := q1
  subst ex
  obtain rfl : u = Value.ref d := rx
  have S : DicK0 X.prog X.w s1.heap d L := (I1.hok d _ hd).1
  obtain ⟨sy, o, es, ep, ho, hx, hdt, hes, hn⟩ := id S
  have I2 : Inv X pins σ (upd H1 d (DicFO X.prog X.w d o L)) s1 := by
    refine I1.write (h' := s1.heap) (e := d) (t' := s1.toks) (by rw [hd]; trivial) (.inl rfl) (fun b x _ e => e) ⟨o, ho⟩ ⟨⟨ho, S⟩, ⟨o, ho⟩, fun h1 h2 p k => ?_⟩
    obtain ⟨g1, sy', o', es', ep', ho', r'⟩ := (show h1.get? d = some o ∧ DicK0 X.prog X.w h1 d L from p)
    exact ⟨k o g1, sy', o', es', ep', k o' ho', r'⟩
  refine iter_keys sy ho hx hdt ?_
  refine pi_one (tk := s1.toks) I2 _ (turn_n hdt) ⟨_, Heap.get?_push_size _ rfl, rfl, ?_⟩ (q o)
  rw [size_of_entries hes, List.length_map] <;> rfl
section
variable {P : Program} {w : World} {d : Addr} {o : Obj} {L : List KA} {H0 : Hp} {Qd : Hp → Prop} {Body : V → Hp → (Hp → Prop) → Prop}
theorem loop_keys (Pv : Nat → Hp → Prop) (h0 : Pv 0 H0) (hl : ∀ i H, Pv i H → H d = some (DicFO P w d o L)) (hs : ∀ i p H, L[i]? = some p → Pv i H → Body (.ref p.1) H (Pv (i + 1))) (hd : ∀ H, Pv L.length H → Qd H) : Loops (Itn P w d o L) H0 Qd Body := by
  refine ⟨fun i m H => m + i = L.length ∧ Pv i H, ⟨L.length, Nat.add_zero _, h0⟩, fun i m H h => ?_⟩
  obtain ⟨e, p⟩ := h
  cases m with
  | zero =>
    have e : i = L.length := by omega
    subst e
    exact .inl ⟨⟨hl _ H p, Nat.le_refl _⟩, hd H p⟩
  | succ m =>
    have lt : i < L.length := by omega
    refine .inr ⟨⟨hl i H p, lt⟩, Pv (i + 1), fun H' p' => ⟨m, Nat.lt_succ_self _, by omega, p'⟩, fun x H' y => ?_⟩
    obtain ⟨rfl, k, hk, rfl⟩ := y
    exact hs i k _ hk p
end
end Ask
namespace P56
open PySem PySem.Spec PyProof.Rows L2 AskG Ask
abbrev sQF : Stmt := topS 5
abbrev sWR : Stmt := topS 21
abbrev sOL : Stmt := topS 22
abbrev NQF : List Str := ["right", "today", "day"]
abbrev NWR : List Str := ["rights", "wall", "name", "right"]
abbrev NOL : List Str := ["rights", "today", "known", "wall", "names", "owned", "row", "name", "right"]
theorem scQF : FnScope NQF ["right", "today"] (defScope sQF) := ⟨rfl, rfl, rfl, by decide +kernel, rfl, by decide +kernel, by decide +kernel⟩
theorem scWR : FnScope NWR ["rights", "wall"] (defScope sWR) := ⟨rfl, rfl, rfl, by decide +kernel, rfl, by decide +kernel, by decide +kernel⟩
theorem scOL : FnScope NOL ["rights", "today", "known", "wall", "names"] (defScope sOL) := ⟨rfl, rfl, rfl, by decide +kernel, rfl, by decide +kernel, by decide +kernel⟩
theorem iDrop' {te : TE} {D : Ends} {σ : L2.St} {H : Hp} (h : te σ H fun _ H1 => D.nx σ H1) : tDrop te D σ H := h
theorem iNext {D : Ends} {σ : L2.St} {H : Hp} (h : D.nx σ H) : tNext D σ H := h
theorem iIfS {c : TT} {t u : TS} {D : Ends} {σ : L2.St} {H : Hp} (h : c σ H fun b H1 => if b = true then t D σ H1 else u D σ H1) : tIfS c t u D σ H := h
theorem paired_app {α β : Type} {R : α → β → Prop} : ∀ {a c : List α} {b d : List β}, Paired R a b → Paired R c d → Paired R (a ++ c) (b ++ d)
  | _, _, _, _, .nil, h => h
  | _, _, _, _, .cons x t, h => .cons x (paired_app t h)
def NamedAt (H : Hp) (p : Addr) (x : Str × Rt) : Prop := ∃ r, H p = some (.tup [.str x.1, .ref r]) ∧ RightAt H r x.2
theorem NamedAt.keep {H H' : Hp} {p : Addr} {x : Str × Rt} (h : NamedAt H p x) (k : KeepT H H') : NamedAt H' p x := by
  obtain ⟨r, h1, h2⟩ := h
  exact ⟨r, k _ _ h1, h2.keep k⟩
def RightsAt (H : Hp) (a : Addr) (rs : List (Str × Rt)) : Prop := ∃ ps : List Addr, H a = some (.tup (ps.map V.ref)) ∧ Paired (NamedAt H) ps rs
theorem RightsAt.keep {H H' : Hp} {a : Addr} {rs : List (Str × Rt)} (h : RightsAt H a rs) (k : KeepT H H') : RightsAt H' a rs := by
  obtain ⟨ps, h1, h2⟩ := h
  exact ⟨ps, k _ _ h1, Paired.mapP h2 fun _ _ z => z.keep k⟩
def TupRows (H : Hp) (p : Addr) (ys : List RowD) : Prop := ∃ bs : List Addr, H p = some (.tup (bs.map V.ref)) ∧ Paired (RowAt H) bs ys
theorem TupRows.keep {H H' : Hp} {p : Addr} {ys : List RowD} (h : TupRows H p ys) (k : KeepT H H') : TupRows H' p ys := by
  obtain ⟨bs, h1, h2⟩ := h
  exact ⟨bs, k _ _ h1, Paired.mapP h2 fun _ _ z => z.keep k⟩
/-- a tuple of texts -/
def TxtAt (H : Hp) (p : Addr) (zs : List Str) : Prop := H p = some (.tup (zs.map V.str))
/-- a wall: its group; its question and its number are not looked at here -/
def WallAt (H : Hp) (p : Addr) (G : List Str) : Prop := ∃ (g : Addr) (x y : V), H p = some (.tup [.ref g, x, y]) ∧ TxtAt H g G
theorem WallAt.keep {H H' : Hp} {p : Addr} {G : List Str} (h : WallAt H p G) (k : KeepT H H') : WallAt H' p G := by
  obtain ⟨g, x, y, h1, h2⟩ := h
  exact ⟨g, x, y, k _ _ h1, k _ _ h2⟩
/-- an owner and a row -/
def OwnAt (H : Hp) (p : Addr) (ρ : RowD) : Prop := ∃ (o : V) (r : Addr), H p = some (.tup [o, .ref r]) ∧ RowAt H r ρ
theorem OwnAt.keep {H H' : Hp} {p : Addr} {ρ : RowD} (h : OwnAt H p ρ) (k : KeepT H H') : OwnAt H' p ρ := by
  obtain ⟨o, r, h1, h2⟩ := h
  exact ⟨o, r, k _ _ h1, h2.keep k⟩
def inS (z : Str) (zs : List Str) : Bool := zs.any fun y => y == z
theorem inV_str (z : Str) : ∀ zs : List Str, inV (.str z) (zs.map V.str) = inS z zs
  | [] => rfl
  | y :: zs => by
    show (eqV (.str y) (.str z) || inV (.str z) (zs.map V.str)) = ((y == z) || inS z zs)
    rw [inV_str z zs]
    rfl
theorem flat_strs (zs : List Str) : (zs.map V.str).all flatV = true := List.all_eq_true.mpr fun v hv => by
  obtain ⟨z, _, rfl⟩ := List.mem_map.mp hv
  rfl
def mx (a b : Int) : Int := if b > a then b else a
/-- the questions of a right from a day on -/
def qrows (R : Rt) (T : Int) : List RowD := (daysOf (mx R.first T) R.last).map (rowQ R)
structure DayOk (R : Rt) : Prop where
  f0 : 0 ≤ R.first
  l9 : R.last ≤ 9
theorem qrows_len {R : Rt} (h : DayOk R) (T : Int) : (qrows R T).length ≤ 10 := by
  unfold qrows
  rw [List.length_map, days_len]
  have := h.f0
  have := h.l9
  unfold mx
  split <;> omega
section
variable {P : Program} {w : World} {K : PySem.W.Frag} {mg : Str → Option Value} {base : Heap}
variable {fQ fW fF : Addr} {fdQ fdW fdF : FuncData}
def prQF : Pr := fun vs H Q => ∃ (a : Addr) (R : Rt) (T : Int), vs = [.ref a, .int T] ∧ RightAt H a R ∧ RtOk R ∧ DayOk R ∧ 0 ≤ T ∧ T ≤ 9 ∧
  ∀ H' p bs, Same H H' → H p = none → H' p = some (.lst (bs.map V.ref)) → Paired (RowAt H') bs (qrows R T) → Q (.ref p) H'
theorem ok_qf {f : Addr} {fd : FuncData} {k : Nat} (F : Fun K "questions_from" "questions_from" sQF f fd)
    (FQ : Fun K "question_on" "question_on" sQ fQ fdQ) (bQ : Binds K fdQ ["right", "day"] []) (gQ : mg "question_on" = some (.ref fQ)) (GQ : FnX P w K mg base (k + 2) fQ fdQ ["right", "day"] (quiet prQ))
    (mx' : mg "max" = none) (mr : mg "range" = none) : FnX P w K mg base (k + 3) f fd ["right", "today"] (quiet prQF) := by
  refine okN F scQF (fun vs H Q h => ?_) (fun cdv A outer s H E vs Q hr h => ?_)
  · obtain ⟨_, _, _, rfl, _⟩ := h
    rfl
  · obtain ⟨a, R, T, rfl, hR, ok, dk, T0, T9, q⟩ := h
    have big := sizeBig
    have f0 := dk.f0
    have l9 := dk.l9
    have l0 := ok.l0
    refine ⟨_, pss_one (ps_ret (pe_lc (own := [("day", 2)]) (g := gName 2) (tt := tYes) rfl scQF.nd (pi_range2 (by rfl) mr (pa_cons (pe_callB (call_max2 rfl) (by rfl) mx' (by decide +kernel) (pa_cons (pe_ix (ix_tup : IxR _ (rIxT K)) (pv 0) pe_int (fun _ _ => rfl)) (pa_cons (pv 1) pa_nil))) (pa_cons (pe_op op_add (pe_ix (ix_tup : IxR _ (rIxT K)) (pv 0) pe_int (fun _ _ => rfl)) pe_int) pa_nil)))
      (blkOk_by (N := NQF) (sc := defScope sQF) (by decide +kernel)) (fun _ _ _ _ _ => pg_name (i := 2) scQF.nd rfl (.inl rfl)) (fun _ _ _ _ _ => pts_nil)
      (fun _ _ _ _ _ => pe_n GQ hr (by rfl) gQ FQ.kp bQ (pa_cons (pv 0) (pa_cons (pv 2) pa_nil))))), ?_⟩
    obtain ⟨wa, ps, ka, h1, h2, h3, h4⟩ := id hR
    have mb : 0 ≤ mx R.first T ∧ mx R.first T ≤ 1000000 := by
      have := ok.f1
      unfold mx
      split <;> omega
    refine iRet ⟨.ref a, rfl, a, _, _, _, rfl, rfl, sqT h1, atI_nat (j := 2) rfl, .int T, rfl, R.first, T, rfl, .ref a, rfl, a, _, _, _, rfl, rfl, sqT h1, atI_nat (j := 3) rfl, R.last, 1, rfl, rfl, mx R.first T, R.last + 1, rfl, ⟨by omega, by omega, by omega, by omega⟩, fun D hD => ?_⟩
    refine loop_rg (lo := mx R.first T) (n := (R.last + 1 - mx R.first T).toNat) (fun j H2 => Same H H2 ∧ ∃ cs, H2 D = some (.lst (cs.map V.ref)) ∧ Paired (RowAt H2) cs ((qrows R T).take j)) ⟨same_new hD, [], upd_same, by rw [List.take_zero]; exact .nil⟩ (fun j H2 hj h => ?_) (fun H2 h => ?_)
    · obtain ⟨sm2, cs, hcs, hcc⟩ := h
      have cl := Paired.length hcc
      rw [List.length_take] at cl
      have ql := qrows_len dk T
      refine ⟨wipe1, iYes (iteT ?_)⟩
      have m1 : R.first ≤ mx R.first T := by
        unfold mx
        split <;> omega
      have us : usedB R (mx R.first T + (j : Int)) = true := by
        unfold usedB
        rw [decide_eq_true (by omega), decide_eq_true (by omega)]
        rfl
      refine ⟨.ref a, rfl, .int (mx R.first T + (j : Int)), rfl, a, R, mx R.first T + (j : Int), rfl, hR.keep (KeepT.of sm2), ok, by omega, by omega, fun H3 s3 => ⟨fun z => (by rw [us] at z; cases z), fun _ p hp => ?_⟩⟩
      have hDp := s3 _ _ hcs
      refine ⟨_, hDp, by rw [List.length_map]; omega, fun b o e => ?_, cs ++ [p], by rw [upd_same, List.map_append]; rfl, ?_⟩
      · rw [upd_ne (ne_of_none e hD)]
        exact s3 _ _ (sm2 _ _ e)
      · have kp : KeepT _ (upd _ D (.lst (cs.map V.ref ++ [.ref p]))) := KeepT.put hDp fun _ z => nomatch z
        have at' : (qrows R T)[j]? = some (rowQ R (mx R.first T + (j : Int))) := by
          unfold qrows daysOf
          rw [List.getElem?_map, List.getElem?_map, List.getElem?_range (by omega)]
          rfl
        rw [List.take_add_one, at']
        exact Paired.snoc (Paired.mapP hcc fun _ _ z => (z.keep (KeepT.of s3)).keep kp) (hp.keep kp)
    · obtain ⟨sm2, cs, hcs, hcc⟩ := h
      have ln : (qrows R T).length = (R.last + 1 - mx R.first T).toNat := by
        unfold qrows
        rw [List.length_map, days_len]
      rw [← ln, List.take_length] at hcc
      exact q _ D cs sm2 hD hcs hcc
/-- the rights of a wall's group -/
def inWall (G : List Str) (x : Str × Rt) : Bool := inS x.2.person G
def prWR : Pr := fun vs H Q => ∃ (a b : Addr) (rs : List (Str × Rt)) (G : List Str), vs = [.ref a, .ref b] ∧ RightsAt H a rs ∧ rs.length ≤ 100 ∧ WallAt H b G ∧
  ∀ H' p ps, Same H H' → H p = none → H' p = some (.lst (ps.map V.ref)) → Paired (NamedAt H') ps (rs.filter (inWall G)) → Q (.ref p) H'
theorem ok_wr {f : Addr} {fd : FuncData} {k : Nat} (F : Fun K "wall_rights" "wall_rights" sWR f fd) : FnX P w K mg base (k + 1) f fd ["rights", "wall"] (quiet prWR) := by
  refine okN F scWR (fun vs H Q h => ?_) (fun cdv A outer s H E vs Q hr h => ?_)
  · obtain ⟨_, _, _, _, rfl, _⟩ := h
    rfl
  · obtain ⟨a, b, rs, G, rfl, hRs, lr, hW, q⟩ := h
    have big := sizeBig
    refine ⟨_, pss_one (ps_ret (pe_lc (own := [("name", 2), ("right", 3)]) (g := g2 K 2 3) rfl scWR.nd (pi_tup (pv 0))
      (blkOk_by (N := NWR) (sc := defScope sWR) (by decide +kernel)) (fun _ _ _ _ _ => pg_tup rfl (pgs_cons (pg_name (i := 2) scWR.nd rfl (.inl rfl)) (pgs_cons (pg_name (i := 3) scWR.nd rfl (.inl rfl)) pgs_nil)))
      (fun _ _ _ _ _ => pts_one (pt_cmpR (op_in_seq : OpR _ _ (rIn K false)) (pe_ix (ix_tup : IxR _ (rIxT K)) (pv 3) pe_int (fun _ _ => rfl)) (pe_ix (ix_tup : IxR _ (rIxT K)) (pv 1) pe_int (fun _ _ => rfl)) (by rfl)))
      (fun _ _ _ _ _ => pe_tup (pa_cons (pv 2) (pa_cons (pv 3) pa_nil))))), ?_⟩
    obtain ⟨ps, h1, h2⟩ := hRs
    obtain ⟨g, x, y, w1, w2⟩ := hW
    have hlen := Paired.length h2
    refine iRet ⟨.ref a, rfl, a, rfl, ⟨_, sqT h1⟩, fun D hD => ?_⟩
    refine loop_tup (K := K) (a := a) (xs := ps.map V.ref) (fun i H' => Same H H' ∧ ∃ cs, H' D = some (.lst (cs.map V.ref)) ∧ Paired (NamedAt H') cs ((rs.take i).filter (inWall G))) ⟨same_new hD, [], upd_same, by rw [List.take_zero]; exact .nil⟩ (fun i H' h => sqT (h.1 _ _ h1)) (fun i v H' hv h => ?_) (fun H' h => ?_)
    · obtain ⟨sm, cs, hcs, hcc⟩ := h
      rw [List.getElem?_map] at hv
      obtain ⟨pi, hpi, rfl⟩ := Option.map_eq_some_iff.mp hv
      obtain ⟨n, hn, r, hnm, hr'⟩ := paired_at' h2 hpi
      have il : i < rs.length := (List.getElem?_eq_some_iff.mp hn).1
      have cl := Paired.length hcc
      have fl := List.length_filter_le (inWall G) (rs.take i)
      rw [List.length_take] at fl
      obtain ⟨wa, pq, ka, r1, _⟩ := hr'.keep (KeepT.of sm)
      refine ⟨pi, _, rfl, sqT (sm _ _ hnm), rfl, .str n.1, _, rfl, .ref r, _, rfl, rfl, wipe2 (by decide), ?_⟩
      refine ⟨.ref r, rfl, r, _, _, _, rfl, rfl, sqT r1, atI_nat (j := 0) rfl, .ref b, rfl, b, _, _, _, rfl, rfl, sqT (sm _ _ w1), atI_nat (j := 0) rfl, g, G.map V.str, rfl, .inr (sqT (sm _ _ w2)), rfl, flat_strs G, _, rfl, ?_⟩
      have tk : (rs.take (i + 1)).filter (inWall G) = (rs.take i).filter (inWall G) ++ (if inWall G n = true then [n] else []) := by
        rw [List.take_add_one, hn, List.filter_append]
        congr 1
        show List.filter (inWall G) [n] = _
        rw [List.filter_cons]
        rfl
      refine ite2 (fun e => ?_) (fun e => ?_)
      · have e' : inWall G n = true := by
          have e : inV (.str n.2.person) (G.map V.str) = true := e
          rw [inV_str] at e
          exact e
        refine ⟨.str n.1, rfl, .ref r, rfl, by show 2 ≤ sizeLine; omega, fun p hp => ?_⟩
        have s2 := same_new (o := .tup [.str n.1, .ref r]) hp
        have hDp := s2 _ _ hcs
        refine ⟨_, hDp, by rw [List.length_map]; omega, fun b o e => ?_, cs ++ [p], by rw [upd_same, List.map_append]; rfl, ?_⟩
        · rw [upd_ne (ne_of_none e hD)]
          exact s2 _ _ (sm _ _ e)
        · have kp : KeepT _ (upd _ D (.lst (cs.map V.ref ++ [.ref p]))) := KeepT.put hDp fun _ z => nomatch z
          rw [tk, if_pos e']
          exact Paired.snoc (Paired.mapP hcc fun _ _ z => (z.keep (KeepT.of s2)).keep kp) ⟨r, kp _ _ upd_same, ((hr'.keep (KeepT.of sm)).keep (KeepT.of s2)).keep kp⟩
      · have e' : ¬ inWall G n = true := fun z => e (by
          show inV (.str n.2.person) (G.map V.str) = true
          rw [inV_str]
          exact z)
        refine ⟨sm, cs, hcs, ?_⟩
        rw [tk, if_neg e', List.append_nil]
        exact hcc
    · obtain ⟨sm, cs, hcs, hcc⟩ := h
      rw [List.length_map, hlen, List.take_length] at hcc
      exact q _ D cs sm hD hcs hcc
end
end P56
namespace P56
open PySem PySem.Spec PyProof.Rows L2 AskG Ask
/-- the rows of one right, () if it is given up -/
def partL (T : Int) (zs : List Str) (x : Str × Rt) : List RowD := if inS x.1 zs = true then [] else qrows x.2 T
def leftL (rs : List (Str × Rt)) (T : Int) (G zs : List Str) : List RowD := (rs.filter (inWall G)).flatMap (partL T zs)
def RsAll (rs : List (Str × Rt)) : Prop := ∀ x ∈ rs, RtOk x.2 ∧ DayOk x.2
theorem part_few {x : Str × Rt} (h : DayOk x.2) (T : Int) (zs : List Str) : (partL T zs x).length ≤ 10 := by
  unfold partL
  split
  · exact Nat.zero_le _
  · exact qrows_len h T
theorem flat_few {T : Int} {zs : List Str} : ∀ {l : List (Str × Rt)}, RsAll l → (l.flatMap (partL T zs)).length ≤ 10 * l.length
  | [], _ => Nat.zero_le _
  | x :: l, h => by
    rw [List.flatMap_cons, List.length_append, List.length_cons]
    have h1 := part_few (h x (.head _)).2 T zs
    have h2 := flat_few (T := T) (zs := zs) (l := l) fun y hy => h y (.tail _ hy)
    omega
theorem flat_snoc {T : Int} {zs : List Str} {l : List (Str × Rt)} {i : Nat} {x : Str × Rt} (h : l[i]? = some x) : (l.take (i + 1)).flatMap (partL T zs) = (l.take i).flatMap (partL T zs) ++ partL T zs x := by
  rw [List.take_add_one, h, List.flatMap_append]
  congr 1
  show partL T zs x ++ [] = _
  rw [List.append_nil]
section
variable {P : Program} {w : World} {K : PySem.W.Frag} {mg : Str → Option Value} {base : Heap}
variable {fW fF : Addr} {fdW fdF : FuncData}
def prOL : Pr := fun vs H Q => ∃ (a kn b n : Addr) (T : Int) (rs : List (Str × Rt)) (ys : List RowD) (G zs : List Str), vs = [.ref a, .int T, .ref kn, .ref b, .ref n] ∧ RightsAt H a rs ∧ rs.length ≤ 10 ∧ RsAll rs ∧ 0 ≤ T ∧ T ≤ 9 ∧
  TupRows H kn ys ∧ ys.length ≤ 100 ∧ WallAt H b G ∧ TxtAt H n zs ∧
  ∀ H' p ps, Same H H' → H p = none → H' p = some (.lst (ps.map V.ref)) → Paired (OwnAt H') ps (ys ++ leftL rs T G zs) → Q (.ref p) H'
theorem ok_ol {f : Addr} {fd : FuncData} {k : Nat} (F : Fun K "owned_left" "owned_left" sOL f fd)
    (FW : Fun K "wall_rights" "wall_rights" sWR fW fdW) (bW : Binds K fdW ["rights", "wall"] []) (gW : mg "wall_rights" = some (.ref fW)) (GW : FnX P w K mg base (k + 3) fW fdW ["rights", "wall"] (quiet prWR))
    (FF : Fun K "questions_from" "questions_from" sQF fF fdF) (bF : Binds K fdF ["right", "today"] []) (gF : mg "questions_from" = some (.ref fF)) (GF : FnX P w K mg base (k + 3) fF fdF ["right", "today"] (quiet prQF)) :
    FnX P w K mg base (k + 4) f fd ["rights", "today", "known", "wall", "names"] (quiet prOL) := by
  refine okN F scOL (fun vs H Q h => ?_) (fun cdv A outer s H E vs Q hr h => ?_)
  · obtain ⟨_, _, _, _, _, _, _, _, _, rfl, _⟩ := h
    rfl
  · obtain ⟨a, kn, b, n, T, rs, ys, G, zs, rfl, hRs, lr, ra, T0, T9, hK, ly, hW, hN, q⟩ := h
    have big := sizeBig
    refine ⟨_, pss_cons (ps_setLc (i := 5) (own := [("row", 6)]) (g := gName 6) (tt := tYes) rfl scOL.nd rfl rfl (sw_true rfl rfl rfl (by decide +kernel)) (pi_tup (pv 2)) (blkOk_by (N := NOL) (sc := defScope sOL) (by decide +kernel))
        (fun _ _ _ _ _ => pg_name (i := 6) scOL.nd rfl (.inl rfl)) (fun _ _ _ _ _ => pts_nil) (fun _ _ _ _ _ => pe_tup (pa_cons pe_non (pa_cons (pv 6) pa_nil))))
      (pss_cons (ps_for PassesOwn.never rfl (pi_list (pe_n GW hr (by rfl) gW FW.kp bW (pa_cons (pv 0) (pa_cons (pv 3) pa_nil)))) (pg_tup rfl (pgs_cons (pg_name (i := 7) scOL.nd rfl (.inr rfl)) (pgs_cons (pg_name (i := 8) scOL.nd rfl (.inl rfl)) pgs_nil)))
        (pss_one (ps_if (pt_cmpR (op_notIn_seq : OpR _ _ (rIn K true)) (pv 7) (pv 4) (by rfl))
          (pss_one (ps_expr (pe_bm PySem.F.plainAttrs_list PySem.F.slot_list_extend PySem.F.type_list_extend mt_extend (pv 5) (pa_cons
            (pe_lc (own := [("row", 6)]) (g := gName 6) (tt := tYes) rfl scOL.nd (pi_list (pe_n GF hr (by rfl) gF FF.kp bF (pa_cons (pv 8) (pa_cons (pv 1) pa_nil)))) (blkOk_by (N := NOL) (sc := defScope sOL) (by decide +kernel))
              (fun _ _ _ _ _ => pg_name (i := 6) scOL.nd rfl (.inl rfl)) (fun _ _ _ _ _ => pts_nil) (fun _ _ _ _ _ => pe_tup (pa_cons (pv 7) (pa_cons (pv 6) pa_nil)))) pa_nil)))) pss_nil)))
      (pss_one (ps_ret (pv 5)))), ?_⟩
    obtain ⟨ks, hk1, hk2⟩ := id hK
    have kl := Paired.length hk2
    refine iSeq (iAsg ⟨.ref kn, rfl, kn, rfl, ⟨_, sqT hk1⟩, fun D hD => ?_⟩)
    refine loop_tup (K := K) (a := kn) (xs := ks.map V.ref) (fun i H' => Same H H' ∧ ∃ cs, H' D = some (.lst (cs.map V.ref)) ∧ Paired (OwnAt H') cs (ys.take i)) ⟨same_new hD, [], upd_same, by rw [List.take_zero]; exact .nil⟩ (fun i H' h => sqT (h.1 _ _ hk1)) (fun i v H' hv h => ?_) (fun H1 h => ?_)
    · obtain ⟨sm, cs, hcs, hcc⟩ := h
      rw [List.getElem?_map] at hv
      obtain ⟨pi, hpi, rfl⟩ := Option.map_eq_some_iff.mp hv
      obtain ⟨ρ, hρ, hrow⟩ := paired_at' hk2 hpi
      have cl := Paired.length hcc
      rw [List.length_take] at cl
      refine ⟨wipe1, iYes (iteT ?_)⟩
      refine ⟨.ref pi, rfl, by show 2 ≤ sizeLine; omega, fun p hp => ?_⟩
      have s2 := same_new (o := .tup [.non, .ref pi]) hp
      have hDp := s2 _ _ hcs
      refine ⟨_, hDp, by rw [List.length_map]; omega, fun b o e => ?_, cs ++ [p], by rw [upd_same, List.map_append]; rfl, ?_⟩
      · rw [upd_ne (ne_of_none e hD)]
        exact s2 _ _ (sm _ _ e)
      · have kp : KeepT _ (upd _ D (.lst (cs.map V.ref ++ [.ref p]))) := KeepT.put hDp fun _ z => nomatch z
        rw [List.take_add_one, hρ]
        exact Paired.snoc (Paired.mapP hcc fun _ _ z => (z.keep (KeepT.of s2)).keep kp) ⟨.non, pi, kp _ _ upd_same, ((hrow.keep (KeepT.of sm)).keep (KeepT.of s2)).keep kp⟩
    · obtain ⟨sm, cs, hcs, hcc⟩ := h
      rw [List.length_map, kl, List.take_length] at hcc
      refine iName ?_
      dsimp only
      have kt := KeepT.of sm
      refine iSeq ?_
      refine ⟨.ref a, rfl, .ref b, rfl, a, b, rs, G, rfl, hRs.keep kt, by omega, hW.keep kt, fun H2 l ps s2 hl0 hl hps => ?_⟩
      refine ⟨l, rfl, ⟨_, sqL hl⟩, ?_⟩
      have nl : l ≠ D := (ne_of_none hcs hl0).symm
      have fll : (rs.filter (inWall G)).length ≤ 10 := Nat.le_trans (List.length_filter_le _ _) lr
      have raf : RsAll (rs.filter (inWall G)) := fun x hx => ra x (List.mem_filter.mp hx).1
      have psl := Paired.length hps
      refine for_list (xs := ps.map V.ref) (fun i σ' H' => (∃ x7 x8, σ' = [some (.ref a), some (.int T), some (.ref kn), some (.ref b), some (.ref n), some (.ref D), none, x7, x8]) ∧ Same H H' ∧ KeepT H2 H' ∧ H' l = some (.lst (ps.map V.ref)) ∧ ∃ cs, H' D = some (.lst (cs.map V.ref)) ∧ Paired (OwnAt H') cs (ys ++ ((rs.filter (inWall G)).take i).flatMap (partL T zs)))
        ⟨⟨_, _, rfl⟩, sm.trans s2, fun _ _ e => e, hl, cs, s2 _ _ hcs, ?_⟩ (fun i σ' H' _ h => sqL h.2.2.2.1) (fun i x σ' H' hx h => ?_) (fun σ' H' h => ?_)
      · rw [List.take_zero]
        show Paired _ cs (ys ++ [])
        rw [List.append_nil]
        exact Paired.mapP hcc fun _ _ z => z.keep (KeepT.of s2)
      · obtain ⟨⟨x7, x8, rfl⟩, sm3, kt3, hl3, cs3, hcs3, hcc3⟩ := h
        rw [List.getElem?_map] at hx
        obtain ⟨pi, hpi, rfl⟩ := Option.map_eq_some_iff.mp hx
        obtain ⟨m, hm, r, hnm, hr'⟩ := paired_at' hps hpi
        obtain ⟨rok, dok⟩ := raf m (List.mem_of_getElem? hm)
        have hr3 := hr'.keep kt3
        refine ⟨pi, _, rfl, sqT (kt3 _ _ hnm), rfl, .str m.1, _, rfl, .ref r, _, rfl, rfl, ?_⟩
        dsimp only
        refine iIfS ⟨.str m.1, rfl, .ref n, rfl, n, zs.map V.str, rfl, .inr (sqT (sm3 _ _ hN)), rfl, flat_strs zs, _, rfl, ?_⟩
        refine ite2 (fun e => ?_) (fun e => ?_)
        · have e' : ¬ inS m.1 zs = true := fun z => by
            have e : (!inV (.str m.1) (zs.map V.str)) = true := e
            rw [inV_str, z] at e
            cases e
          have pl : partL T zs m = qrows m.2 T := by
            unfold partL
            rw [if_neg e']
          refine iDrop' ⟨.ref D, rfl, .inl ⟨rfl, _, sqL hcs3⟩, ?_⟩
          refine ⟨.ref r, rfl, .int T, rfl, r, m.2, T, rfl, hr3, rok, dok, T0, T9, fun H4 l4 bs s4 hl40 hl4 hbs => ?_⟩
          refine ⟨l4, rfl, ⟨_, sqL hl4⟩, fun D2 hD2 => ?_⟩
          have bsl := Paired.length hbs
          have ql := qrows_len dok T
          refine loop_lst (K := K) (a := l4) (xs := bs.map V.ref) (fun j H5 => Same H4 H5 ∧ ∃ es, H5 D2 = some (.lst (es.map V.ref)) ∧ Paired (OwnAt H5) es ((qrows m.2 T).take j)) ⟨same_new hD2, [], upd_same, by rw [List.take_zero]; exact .nil⟩ (fun j H5 h => sqL (h.1 _ _ hl4)) (fun j v H5 hv h => ?_) (fun H5 h => ?_)
          · obtain ⟨sm5, es, hes, hee⟩ := h
            rw [List.getElem?_map] at hv
            obtain ⟨qi, hqi, rfl⟩ := Option.map_eq_some_iff.mp hv
            obtain ⟨ρ, hρ, hrow⟩ := paired_at' hbs hqi
            have el := Paired.length hee
            rw [List.length_take] at el
            refine ⟨wipe1, iYes (iteT ?_)⟩
            refine ⟨.str m.1, rfl, .ref qi, rfl, by show 2 ≤ sizeLine; omega, fun p hp => ?_⟩
            have s6 := same_new (o := .tup [.str m.1, .ref qi]) hp
            have hDp := s6 _ _ hes
            refine ⟨_, hDp, by rw [List.length_map]; omega, fun b o e => ?_, es ++ [p], by rw [upd_same, List.map_append]; rfl, ?_⟩
            · rw [upd_ne (ne_of_none e hD2)]
              exact s6 _ _ (sm5 _ _ e)
            · have kp : KeepT _ (upd _ D2 (.lst (es.map V.ref ++ [.ref p]))) := KeepT.put hDp fun _ z => nomatch z
              rw [List.take_add_one, hρ]
              exact Paired.snoc (Paired.mapP hee fun _ _ z => (z.keep (KeepT.of s6)).keep kp) ⟨.str m.1, qi, kp _ _ upd_same, ((hrow.keep (KeepT.of sm5)).keep (KeepT.of s6)).keep kp⟩
          · obtain ⟨sm5, es, hes, hee⟩ := h
            rw [List.length_map, bsl, List.take_length] at hee
            have el := Paired.length hee
            have cl := Paired.length hcc3
            rw [List.length_append] at cl
            have fw := flat_few (T := T) (zs := zs) (l := (rs.filter (inWall G)).take i) fun x hx => raf x (List.mem_of_mem_take hx)
            rw [List.length_take] at fw
            have s45 := s4.trans sm5
            refine ⟨D, D2, cs3.map V.ref, es.map V.ref, rfl, rfl, s45 _ _ hcs3, hes, by rw [List.length_map, List.length_map]; omega, ?_⟩
            have kp : KeepT _ (upd _ D (.lst (cs3.map V.ref ++ es.map V.ref))) := KeepT.put (s45 _ _ hcs3) fun _ z => nomatch z
            refine ⟨⟨_, _, rfl⟩, fun b o e => ?_, fun _ _ e => kp _ _ (s45 _ _ (kt3 _ _ e)), ?_, cs3 ++ es, by rw [upd_same, List.map_append], ?_⟩
            · rw [upd_ne (ne_of_none e hD)]
              exact s45 _ _ (sm3 _ _ e)
            · rw [upd_ne nl]
              exact s45 _ _ hl3
            · rw [flat_snoc hm, pl, ← List.append_assoc]
              exact paired_app (Paired.mapP hcc3 fun _ _ z => (z.keep (KeepT.of s45)).keep kp) (Paired.mapP hee fun _ _ z => z.keep kp)
        · have e' : inS m.1 zs = true := by
            cases z : inS m.1 zs with
            | true => rfl
            | false => exact absurd (show (!inV (.str m.1) (zs.map V.str)) = true by rw [inV_str, z]; rfl) e
          refine ⟨⟨_, _, rfl⟩, sm3, kt3, hl3, cs3, hcs3, ?_⟩
          rw [flat_snoc hm]
          unfold partL
          rw [if_pos e', List.append_nil]
          exact hcc3
      · obtain ⟨⟨x7, x8, rfl⟩, sm3, kt3, hl3, cs3, hcs3, hcc3⟩ := h
        dsimp only
        rw [List.length_map, psl, List.take_length] at hcc3
        exact iRet ⟨.ref D, rfl, q _ D cs3 sm3 hD hcs3 hcc3⟩
end
end P56
namespace P56
open PySem PySem.Spec PyProof.Rows L2 AskG Ask
def clsBody : Stmt → List Stmt
  | .ClassDef (body := b) .. => b
  | _ => []
abbrev sUnk : Stmt := (clsBody (topS 14)).getD 0 (.Pass ⟨0, 0, 0, 0⟩)
abbrev sCN : Stmt := topS 19
abbrev sRL : Stmt := topS 23
abbrev NCN : List Str := ["rights", "names", "known", "name", "right"]
abbrev NRL : List Str := ["rights", "today", "known", "wall", "names", "owner", "row"]
theorem scUnk : FnScope ["self", "name"] ["self", "name"] (defScope sUnk) := ⟨rfl, rfl, rfl, by decide +kernel, rfl, by decide +kernel, by decide +kernel⟩
theorem scCN : FnScope NCN ["rights", "names"] (defScope sCN) := ⟨rfl, rfl, rfl, by decide +kernel, rfl, by decide +kernel, by decide +kernel⟩
theorem scRL : FnScope NRL ["rights", "today", "known", "wall", "names"] (defScope sRL) := ⟨rfl, rfl, rfl, by decide +kernel, rfl, by decide +kernel, by decide +kernel⟩
/-- what the top says of the error UnknownName -/
structure UnkC (K : PySem.W.Frag) (mg : Str → Option Value) (C fI : Addr) : Prop where
  T : OexC K C
  ini : PySem.W.findIn K (.ref C) "__init__" = some (some (.ref fI))
  ty : PySem.W.typeIn K (.ref fI) = some (.type "function")
  no : PySem.W.findIn K (.ref C) "name" = some none
  gl : mg "UnknownName" = some (.ref C)
/-- the first name that is not known -/
def strange (rs : List (Str × Rt)) (zs : List Str) : Option Str := zs.find? fun z => !inS z (rs.map (·.1))
section
variable {P : Program} {w : World} {K : PySem.W.Frag} {mg : Str → Option Value} {base : Heap}
variable {C fI fC fW fO : Addr} {fdI fdC fdW fdO : FuncData}
def prUnk (C : Addr) : Pr := fun vs H Q => ∃ (a : Addr) (y : V), vs = [.ref a, y] ∧ H a = some (exo a C none) ∧ ∀ dx, H dx = none → dx ≠ a → Q .non (upd (upd H dx (exd dx [("name", y)])) a (exo a C (some dx)))
theorem ok_unk {f : Addr} {fd : FuncData} {k : Nat} (U : UnkC K mg C f) (F : Fun K "__init__" "UnknownName.__init__" sUnk f fd) : FnX P w K mg base (k + 1) f fd ["self", "name"] (quiet (prUnk C)) := by
  refine okN F scUnk (fun vs H Q h => ?_) (fun cdv A outer s H E vs Q hr h => ?_)
  · obtain ⟨_, _, rfl, _⟩ := h
    rfl
  · obtain ⟨a, y, rfl, ha, q⟩ := h
    refine ⟨_, pss_one (ps_ost (pv 0) (pv 1)), ?_⟩
    exact ⟨y, rfl, .ref a, rfl, a, C, rfl, U.T, U.no, .inl ⟨ha, fun dx h1 h2 => q dx h1 h2⟩⟩
def spCN (C : Addr) : Sp := fun vs H Q E => ∃ (l n : Addr) (ps : List Addr) (rs : List (Str × Rt)) (zs : List Str), vs = [.ref l, .ref n] ∧ H l = some (.lst (ps.map V.ref)) ∧ Paired (NamedAt H) ps rs ∧ rs.length ≤ 100 ∧ TxtAt H n zs ∧
  (strange rs zs = none → ∀ H', Same H H' → Q .non H') ∧ ∀ z, strange rs zs = some z → ∀ H' d, Same H H' → H' d = some (.xd [("name", .str z)]) → E (.ref C) (some d) H'
theorem ok_cn {f : Addr} {fd : FuncData} {k : Nat} (F : Fun K "check_names" "check_names" sCN f fd) (U : UnkC K mg C fI) (FI : Fun K "__init__" "UnknownName.__init__" sUnk fI fdI) (bI : Binds K fdI ["self", "name"] []) :
    FnX P w K mg base (k + 3) f fd ["rights", "names"] (spCN C) := by
  have GI : FnX P w K mg base (k + 1) fI fdI ["self", "name"] (quiet (prUnk C)) := ok_unk U FI
  refine okX F scCN (fun vs H Q E h => ?_) (fun cdv A outer s H vs Q E hr tk pa h => ?_)
  · obtain ⟨_, _, _, _, _, rfl, _⟩ := h
    rfl
  · obtain ⟨l, n, ps, rs, zs, rfl, hl, hps, lr, hN, q1, q2⟩ := h
    have big := sizeBig
    refine ⟨_, pss_cons (ps_setLc (i := 2) (own := [("name", 3), ("right", 4)]) (g := g2 K 3 4) (tt := tYes) rfl scCN.nd rfl rfl (sw_true rfl rfl rfl (by decide +kernel)) (pi_list (pv 0)) (blkOk_by (N := NCN) (sc := defScope sCN) (by decide +kernel))
        (fun _ _ _ _ _ => pg_tup rfl (pgs_cons (pg_name (i := 3) scCN.nd rfl (.inl rfl)) (pgs_cons (pg_name (i := 4) scCN.nd rfl (.inl rfl)) pgs_nil))) (fun _ _ _ _ _ => pts_nil) (fun _ _ _ _ _ => pv 3))
      (pss_one (ps_for pa rfl (pi_tup (pv 1)) (pg_name (i := 3) scCN.nd rfl (.inl rfl))
        (pss_one (ps_if (pt_cmpR (op_notIn_seq : OpR _ _ (rIn K true)) (pv 3) (pv 2) (by rfl))
          (pss_one (ps_raise rfl tk (pmk_oex U.T U.ini U.ty GI hr bI .nil (passes_call LamX.takes0 fun _ _ _ _ z => z) (by rfl) U.gl (pa_cons (pv 3) pa_nil)))) pss_nil)))), ?_⟩
    have pl := Paired.length hps
    refine iSeq (iAsg ⟨.ref l, rfl, l, rfl, ⟨_, sqL hl⟩, fun D hD => ?_⟩)
    refine loop_lst (K := K) (a := l) (xs := ps.map V.ref) (fun i H' => Same H H' ∧ H' D = some (.lst ((((rs.map (·.1)).take i)).map V.str))) ⟨same_new hD, by rw [List.take_zero]; exact upd_same⟩ (fun i H' h => sqL (h.1 _ _ hl)) (fun i v H' hv h => ?_) (fun H1 h => ?_)
    · obtain ⟨sm, hcs⟩ := h
      rw [List.getElem?_map] at hv
      obtain ⟨pi, hpi, rfl⟩ := Option.map_eq_some_iff.mp hv
      obtain ⟨m, hm, r, hnm, hr'⟩ := paired_at' hps hpi
      have il : i < rs.length := (List.getElem?_eq_some_iff.mp hm).1
      refine ⟨pi, _, rfl, sqT (sm _ _ hnm), rfl, .str m.1, _, rfl, .ref r, _, rfl, rfl, wipe2 (by decide), iYes (iteT ?_)⟩
      refine ⟨.str m.1, rfl, _, hcs, by rw [List.length_map, List.length_take]; omega, fun b o e => ?_, ?_⟩
      · rw [upd_ne (ne_of_none e hD)]
        exact sm _ _ e
      · have e1 : (rs.map (·.1))[i]? = some m.1 := by
          rw [List.getElem?_map, hm]
          rfl
        rw [upd_same, List.take_add_one, e1, List.map_append]
        rfl
    · obtain ⟨sm, hcs⟩ := h
      rw [List.length_map, pl, List.take_of_length_le (by rw [List.length_map]; exact Nat.le_refl _)] at hcs
      refine iName ?_
      dsimp only
      refine ⟨.ref n, rfl, n, rfl, ⟨_, sqT (sm _ _ hN)⟩, ?_⟩
      refine for_tup (xs := zs.map V.str) (fun i σ' H' => (∃ x3, σ' = [some (.ref l), some (.ref n), some (.ref D), x3, none]) ∧ H' = H1 ∧ strange rs (zs.take i) = none) ⟨⟨_, rfl⟩, rfl, rfl⟩ (fun i σ' H' _ h => by rw [h.2.1]; exact sqT (sm _ _ hN)) (fun i x σ' H' hx h => ?_) (fun σ' H' h => ?_)
      · obtain ⟨⟨x3, rfl⟩, rfl, hs⟩ := h
        rw [List.getElem?_map] at hx
        obtain ⟨z, hz, rfl⟩ := Option.map_eq_some_iff.mp hx
        have sn : ∀ b, (!inS z (rs.map (·.1))) = b → strange rs (zs.take (i + 1)) = if b = true then some z else none := fun b hb => by
          unfold strange at hs ⊢
          rw [List.take_add_one, hz, List.find?_append, hs]
          show (none : Option Str).or (List.find? _ [z]) = _
          rw [Option.none_or, List.find?_cons, hb]
          cases b <;> rfl
        refine iName ?_
        dsimp only
        refine iIfS ⟨.str z, rfl, .ref D, rfl, D, (rs.map (·.1)).map V.str, rfl, .inl (sqL hcs), rfl, flat_strs _, _, rfl, ?_⟩
        refine ite2 (fun e => ?_) (fun e => ?_)
        · have e' : (!inS z (rs.map (·.1))) = true := by
            have e : (!inV (.str z) ((rs.map (·.1)).map V.str)) = true := e
            rw [inV_str] at e
            exact e
          have st : strange rs zs = some z := by
            have h1 := sn _ e'
            rw [if_pos rfl] at h1
            unfold strange at h1 ⊢
            rw [← List.take_append_drop (i + 1) zs, List.find?_append, h1]
            rfl
          refine ⟨.str z, rfl, by show 1 ≤ 1000; decide, fun a ha => ?_⟩
          refine ⟨a, .str z, rfl, upd_same, fun dx hdx nda => ⟨rfl, dx, [("name", .str z)], upd_same, ?_, ?_, ?_⟩⟩
          · rw [upd_ne nda, upd_same]
          · rw [upd_ne nda] at hdx
            exact hdx
          · rw [upd_ne nda] at hdx
            refine q2 z st _ dx (fun b o e => ?_) upd_same
            have e1 := sm _ _ e
            have nb1 : b ≠ a := ne_of_none e1 ha
            have nb2 : b ≠ dx := ne_of_none e1 hdx
            rw [upd_ne nb2, del_ne nb1, upd_ne nb1, upd_ne nb2, upd_ne nb1]
            exact e1
        · have e' : (!inS z (rs.map (·.1))) = false := by
            cases y : inS z (rs.map (·.1)) with
            | true => rfl
            | false => exact absurd (show (!inV (.str z) ((rs.map (·.1)).map V.str)) = true by rw [inV_str, y]; rfl) e
          refine ⟨⟨_, rfl⟩, rfl, ?_⟩
          rw [sn _ e']
          rfl
      · obtain ⟨⟨x3, rfl⟩, rfl, hs⟩ := h
        dsimp only
        rw [List.length_map, List.take_length] at hs
        exact q1 hs _ sm
end
end P56
namespace P56
open PySem PySem.Spec PyProof.Rows L2 AskG Ask
section
variable {P : Program} {w : World} {K : PySem.W.Frag} {mg : Str → Option Value} {base : Heap}
variable {C fI fC fW fO : Addr} {fdI fdC fdW fdO : FuncData}
abbrev PSR : List Str := ["rights", "today", "known", "wall", "names"]
/-- what rows_left is asked about -/
structure Asked (H : Hp) (a kn b n : Addr) (T : Int) (rs : List (Str × Rt)) (ys : List RowD) (G zs : List Str) : Prop where
  rights : RightsAt H a rs
  few : rs.length ≤ 10
  all : RsAll rs
  t0 : 0 ≤ T
  t9 : T ≤ 9
  known : TupRows H kn ys
  ly : ys.length ≤ 100
  wall : WallAt H b G
  names : TxtAt H n zs
theorem Asked.keep {H H' : Hp} {a kn b n : Addr} {T : Int} {rs : List (Str × Rt)} {ys : List RowD} {G zs : List Str} (h : Asked H a kn b n T rs ys G zs) (k : KeepT H H') : Asked H' a kn b n T rs ys G zs :=
  ⟨h.rights.keep k, h.few, h.all, h.t0, h.t9, h.known.keep k, h.ly, h.wall.keep k, k _ _ h.names⟩
def spRL (C : Addr) : Sp := fun vs H Q E => ∃ (a kn b n : Addr) (T : Int) (rs : List (Str × Rt)) (ys : List RowD) (G zs : List Str), vs = [.ref a, .int T, .ref kn, .ref b, .ref n] ∧ Asked H a kn b n T rs ys G zs ∧
  (strange (rs.filter (inWall G)) zs = none → ∀ H' p, Same H H' → TupRows H' p (ys ++ leftL rs T G zs) → Q (.ref p) H') ∧
  ∀ z, strange (rs.filter (inWall G)) zs = some z → ∀ H' d, Same H H' → H' d = some (.xd [("name", .str z)]) → E (.ref C) (some d) H'
theorem ok_rl {f : Addr} {fd : FuncData} {k : Nat} (F : Fun K "rows_left" "rows_left" sRL f fd)
    (FC : Fun K "check_names" "check_names" sCN fC fdC) (bC : Binds K fdC ["rights", "names"] []) (gC : mg "check_names" = some (.ref fC)) (GC : FnX P w K mg base (k + 4) fC fdC ["rights", "names"] (spCN C))
    (FW : Fun K "wall_rights" "wall_rights" sWR fW fdW) (bW : Binds K fdW ["rights", "wall"] []) (gW : mg "wall_rights" = some (.ref fW)) (GW : FnX P w K mg base (k + 4) fW fdW ["rights", "wall"] (quiet prWR))
    (FO : Fun K "owned_left" "owned_left" sOL fO fdO) (bO : Binds K fdO PSR []) (gO : mg "owned_left" = some (.ref fO)) (GO : FnX P w K mg base (k + 4) fO fdO PSR (quiet prOL))
    (mt : mg "tuple" = none) : FnX P w K mg base (k + 5) f fd PSR (spRL C) := by
  refine okX F scRL (fun vs H Q E h => ?_) (fun cdv A outer s H vs Q E hr tk pa h => ?_)
  · obtain ⟨_, _, _, _, _, _, _, _, _, rfl, _⟩ := h
    rfl
  · obtain ⟨a, kn, b, n, T, rs, ys, G, zs, rfl, ask, q1, q2⟩ := h
    have big := sizeBig
    refine ⟨_, pss_cons (ps_expr (pe_x GC hr (by rfl) gC FC.kp bC tk (pa_cons (pe_n GW hr (by rfl) gW FW.kp bW (pa_cons (pv 0) (pa_cons (pv 3) pa_nil))) (pa_cons (pv 4) pa_nil))))
      (pss_one (ps_ret (pe_callTy call_tuple_of (by rfl) mt (by decide +kernel) (pa_cons (pe_lc (own := [("owner", 5), ("row", 6)]) (g := g2 K 5 6) (tt := tYes) rfl scRL.nd
        (pi_list (pe_n GO hr (by rfl) gO FO.kp bO (pa_cons (pv 0) (pa_cons (pv 1) (pa_cons (pv 2) (pa_cons (pv 3) (pa_cons (pv 4) pa_nil))))))) (blkOk_by (N := NRL) (sc := defScope sRL) (by decide +kernel))
        (fun _ _ _ _ _ => pg_tup rfl (pgs_cons (pg_name (i := 5) scRL.nd rfl (.inl rfl)) (pgs_cons (pg_name (i := 6) scRL.nd rfl (.inl rfl)) pgs_nil))) (fun _ _ _ _ _ => pts_nil) (fun _ _ _ _ _ => pv 6)) pa_nil)))), ?_⟩
    have fl : (rs.filter (inWall G)).length ≤ 10 := Nat.le_trans (List.length_filter_le _ _) ask.few
    refine iSeq (iDrop' ⟨.ref a, rfl, .ref b, rfl, a, b, rs, G, rfl, ask.rights, by have := ask.few; omega, ask.wall, fun H1 l ps s1 hl0 hl hps => ?_⟩)
    refine ⟨.ref n, rfl, l, n, ps, rs.filter (inWall G), zs, rfl, hl, hps, by omega, s1 _ _ ask.names, fun st => fun H2 s2 => ?_, fun z st H2 d s2 hd => q2 z st H2 d (s1.trans s2) hd⟩
    dsimp only
    have s12 := s1.trans s2
    have as2 := ask.keep (KeepT.of s12)
    refine iRet ⟨.ref a, rfl, .int T, rfl, .ref kn, rfl, .ref b, rfl, .ref n, rfl, a, kn, b, n, T, rs, ys, G, zs, rfl, as2.rights, as2.few, as2.all, as2.t0, as2.t9, as2.known, as2.ly, as2.wall, as2.names, fun H3 p3 qs s3 hp30 hp3 hqs => ?_⟩
    have ql := Paired.length hqs
    have lf : (ys ++ leftL rs T G zs).length ≤ 200 := by
      rw [List.length_append]
      have := flat_few (T := T) (zs := zs) (l := rs.filter (inWall G)) fun x hx => ask.all x (List.mem_filter.mp hx).1
      have := ask.ly
      unfold leftL
      omega
    refine ⟨p3, rfl, ⟨_, sqL hp3⟩, fun D hD => ?_⟩
    refine loop_lst (K := K) (a := p3) (xs := qs.map V.ref) (fun i H' => Same H3 H' ∧ ∃ cs, H' D = some (.lst (cs.map V.ref)) ∧ Paired (RowAt H') cs ((ys ++ leftL rs T G zs).take i)) ⟨same_new hD, [], upd_same, by rw [List.take_zero]; exact .nil⟩ (fun i H' h => sqL (h.1 _ _ hp3)) (fun i v H' hv h => ?_) (fun H4 h => ?_)
    · obtain ⟨sm, cs, hcs, hcc⟩ := h
      rw [List.getElem?_map] at hv
      obtain ⟨pi, hpi, rfl⟩ := Option.map_eq_some_iff.mp hv
      obtain ⟨ρ, hρ, o, r, ho, hrow⟩ := paired_at' hqs hpi
      have cl := Paired.length hcc
      rw [List.length_take] at cl
      refine ⟨pi, _, rfl, sqT (sm _ _ ho), rfl, o, _, rfl, .ref r, _, rfl, rfl, wipe2 (by decide), iYes (iteT ?_)⟩
      refine ⟨.ref r, rfl, _, hcs, by rw [List.length_map]; omega, fun b o e => ?_, cs ++ [r], by rw [upd_same, List.map_append]; rfl, ?_⟩
      · rw [upd_ne (ne_of_none e hD)]
        exact sm _ _ e
      · have kp : KeepT _ (upd _ D (.lst (cs.map V.ref ++ [.ref r]))) := KeepT.put hcs fun _ z => nomatch z
        rw [List.take_add_one, hρ]
        exact Paired.snoc (Paired.mapP hcc fun _ _ z => z.keep kp) ((hrow.keep (KeepT.of sm)).keep kp)
    · obtain ⟨sm, cs, hcs, hcc⟩ := h
      rw [List.length_map, ql, List.take_length] at hcc
      refine ⟨D, _, rfl, .inl ⟨sqL hcs, fun p hp => ?_⟩⟩
      have s5 := same_new (o := .tup (cs.map V.ref)) hp
      exact q1 st _ p (((s12.trans s3).trans sm).trans s5) ⟨cs, upd_same, Paired.mapP hcc fun _ _ z => z.keep (KeepT.of s5)⟩
end
end P56
namespace P56
open PySem PySem.Spec PyProof.Rows L2 AskG Ask
abbrev sFeed : Stmt := topS 25
theorem scFeed : FnScope ["_law_script"] ["_law_script"] (defScope sFeed) := ⟨rfl, rfl, rfl, by decide +kernel, rfl, by decide +kernel, by decide +kernel⟩
abbrev sDraw : Stmt := topS 26
abbrev NDraw : List Str := ["_law_source_here", "_law_limit", "_law_draws", "_law_digit", "_law_used", "_law_cell", "_law_mixed"]
theorem scDraw : FnScope NDraw ["_law_source_here", "_law_limit"] (defScope sDraw) := ⟨rfl, rfl, rfl, by decide +kernel, rfl, by decide +kernel, by decide +kernel⟩
def feedKvs (L : Addr) (at' left n : Int) : List (Key × V) := [(Sum.inr "cells", .ref L), (Sum.inr "rest", .int left), (Sum.inr "used", .int at'), (Sum.inr "draws", .int n)]
/-- the source; at most b draws so far -/
def FeedAt (H : Hp) (F L : Addr) (b : Int) : Prop := ∃ (ns : List Int) (at' left n : Int), H F = some (.dK (feedKvs L at' left n)) ∧ H L = some (.lst (ns.map V.int)) ∧ 0 ≤ n ∧ n ≤ b
def KeepF (F : Addr) (H H' : Hp) : Prop := ∀ b o, b ≠ F → H b = some o → H' b = some o
theorem KeepF.refl (F : Addr) (H : Hp) : KeepF F H H := fun _ _ _ e => e
theorem KeepF.trans {F : Addr} {H H1 H2 : Hp} (h : KeepF F H H1) (g : KeepF F H1 H2) : KeepF F H H2 := fun b o n e => g b o n (h b o n e)
theorem KeepF.of {F : Addr} {H H' : Hp} (h : Same H H') : KeepF F H H' := fun b o _ e => h b o e
theorem KeepF.tup {F L : Addr} {H H' : Hp} {b : Int} (h : KeepF F H H') (f : FeedAt H F L b) : KeepT H H' := fun b xs e => by
  obtain ⟨_, _, _, _, hF, _⟩ := f
  exact h b _ (ne_of e hF fun z => nomatch z) e
theorem FeedAt.same {F L : Addr} {H H' : Hp} {b : Int} (f : FeedAt H F L b) (h : Same H H') : FeedAt H' F L b := by
  obtain ⟨ns, a, l, n, h1, h2, h3⟩ := f
  exact ⟨ns, a, l, n, h _ _ h1, h _ _ h2, h3⟩
theorem FeedAt.up {F L : Addr} {H : Hp} {b c : Int} (f : FeedAt H F L b) (h : b ≤ c) : FeedAt H F L c := by
  obtain ⟨ns, a, l, n, h1, h2, h3, h4⟩ := f
  exact ⟨ns, a, l, n, h1, h2, h3, Int.le_trans h4 h⟩
theorem dg_count {H : Hp} {F L : Addr} {a l n : Int} (h : H F = some (.dK (feedKvs L a l n))) : DGet H F (.str "draws") (some (.int n)) := DGet.k (k := Sum.inr "draws") h
theorem dg_left {H : Hp} {F L : Addr} {a l n : Int} (h : H F = some (.dK (feedKvs L a l n))) : DGet H F (.str "rest") (some (.int l)) := DGet.k (k := Sum.inr "rest") h
theorem dg_at {H : Hp} {F L : Addr} {a l n : Int} (h : H F = some (.dK (feedKvs L a l n))) : DGet H F (.str "used") (some (.int a)) := DGet.k (k := Sum.inr "used") h
theorem dg_cells {H : Hp} {F L : Addr} {a l n : Int} (h : H F = some (.dK (feedKvs L a l n))) : DGet H F (.str "cells") (some (.ref L)) := DGet.k (k := Sum.inr "cells") h
theorem four : (feedKvs 0 0 0 0).length < sizeLine := by
  show 4 < sizeLine
  decide
theorem dp_count {H : Hp} {F L : Addr} {a l n x : Int} (h : H F = some (.dK (feedKvs L a l n))) : DPut H F (.str "draws") (.int x) (upd H F (.dK (feedKvs L a l x))) := DPut.k (k := Sum.inr "draws") h four
theorem dp_left {H : Hp} {F L : Addr} {a l n x : Int} (h : H F = some (.dK (feedKvs L a l n))) : DPut H F (.str "rest") (.int x) (upd H F (.dK (feedKvs L a x n))) := DPut.k (k := Sum.inr "rest") h four
theorem dp_at {H : Hp} {F L : Addr} {a l n x : Int} (h : H F = some (.dK (feedKvs L a l n))) : DPut H F (.str "used") (.int x) (upd H F (.dK (feedKvs L x l n))) := DPut.k (k := Sum.inr "used") h four
theorem cut63 (ns : List Int) : ∃ ms : List Int, cutV (ns.map V.int) none (some 63) = ms.map V.int := by
  unfold cutV
  rw [← List.map_drop, ← List.map_take]
  exact ⟨_, rfl⟩
section
variable {P : Program} {w : World} {K : PySem.W.Frag} {mg : Str → Option Value} {base : Heap}
def prFeed (K : PySem.W.Frag) : Pr := fun vs H Q => ∃ (a : Addr) (ns : List Int), vs = [.ref a] ∧ SqL K H a (ns.map V.int) ∧ ∀ H' F L, Same H H' → FeedAt H' F L 0 → Q (.ref F) H'
theorem ok_feed {f : Addr} {fd : FuncData} {k : Nat} (F : Fun K "_law_source" "_law_source" sFeed f fd) : FnG P w K mg base (k + 1) f fd ["_law_script"] (prFeed K) := by
  refine okG F scFeed (fun vs H Q h => ?_) (fun cdv A outer s H vs Q hr h => ?_)
  · obtain ⟨_, _, rfl, _⟩ := h
    rfl
  · obtain ⟨a, ns, rfl, hS, q⟩ := h
    refine ⟨_, pss_one (ps_ret (pe_disp (pps_cons pe_str (pe_slice sl_list (pv 0) po_none (po_some pe_int)) (pps_cons pe_str pe_int (pps_cons pe_str pe_int (pps_cons pe_str pe_int pps_nil)))) (by rfl) (by rfl) (fun z => by cases z) (by decide))), ?_⟩
    obtain ⟨ms, hms⟩ := cut63 ns
    refine iRet (fun p hp => ?_)
    have s1 : Same H (upd H p (.dK [])) := same_new hp
    refine ⟨.ref a, rfl, 63, rfl, a, ns.map V.int, rfl, s1.seq hS, fun c hc => ?_⟩
    rw [hms]
    have s2 : Same (upd H p (.dK [])) (upd (upd H p (.dK [])) c (.lst (ms.map V.int))) := same_new hc
    have hpp : (upd (upd H p (.dK [])) c (.lst (ms.map V.int))) p = some (.dK []) := s2 _ _ upd_same
    refine ⟨hpp, feedKvs c 0 0 0, rfl, by show 4 ≤ 15; decide, ?_⟩
    have npl : c ≠ p := fun e => by
      rw [e, upd_same] at hc
      cases hc
    refine q _ p c (fun b o e => ?_) ⟨ms, 0, 0, 0, upd_same, ?_, by decide, by decide⟩
    · rw [upd_ne (ne_of_none e hp)]
      exact s2 _ _ (s1 _ _ e)
    · rw [upd_ne npl, upd_same]
def prDraw : Pr := fun vs H Q => ∃ (F L : Addr) (m b : Int), vs = [.ref F, .int m] ∧ FeedAt H F L b ∧ 0 < m ∧ m < 1000 ∧ b ≤ 100000 ∧
  ∀ d H', 0 ≤ d → d < m → KeepF F H H' → FeedAt H' F L (b + 1) → Q (.int d) H'
theorem ok_draw {f : Addr} {fd : FuncData} {k : Nat} (F : Fun K "_law_next" "_law_next" sDraw f fd) (ml : mg "len" = none) : FnG P w K mg base (k + 1) f fd ["_law_source_here", "_law_limit"] prDraw := by
  refine okG F scDraw (fun vs H Q h => ?_) (fun cdv A outer s H vs Q hr h => ?_)
  · obtain ⟨_, _, _, _, rfl, _⟩ := h
    rfl
  · obtain ⟨F, L, m, b, rfl, ⟨ns, a, l, n, hF, hL, n0, nb⟩, m1, m2, b1, q⟩ := h
    have hu := hu_of hr.room
    refine ⟨_, pss_cons (ps_set (i := 2) scDraw.nd rfl (.inl rfl) (pe_dget hu (pv 0) pe_str (fun _ _ => rfl)))
      (pss_cons (ps_dput hu (pv 0) pe_str (pe_op op_add (pv 2) pe_int) rfl)
      (pss_cons (ps_if (pt_cmpR op_gt (pe_dget hu (pv 0) pe_str (fun _ _ => rfl)) pe_int (nomark _))
        (pss_cons (ps_set (i := 3) scDraw.nd rfl (.inl rfl) (pe_op op_mod (pe_dget hu (pv 0) pe_str (fun _ _ => rfl)) (pv 1)))
          (pss_cons (ps_dput hu (pv 0) pe_str (pe_op op_fdiv (pe_dget hu (pv 0) pe_str (fun _ _ => rfl)) (pv 1)) rfl)
          (pss_one (ps_ret (pv 3))))) pss_nil)
      (pss_cons (ps_set (i := 4) scDraw.nd rfl (.inl rfl) (pe_dget hu (pv 0) pe_str (fun _ _ => rfl)))
      (pss_cons (ps_dput hu (pv 0) pe_str (pe_op op_add (pv 4) pe_int) rfl)
      (pss_cons (ps_set (i := 5) scDraw.nd rfl (.inl rfl) pe_int)
      (pss_cons (ps_if (pt_cmpR (op_neD hr.room.units) (pe_dget hu (pv 0) pe_str (fun _ _ => rfl)) (pe_lst pa_nil) (nomark _))
        (pss_one (ps_set (i := 5) scDraw.nd rfl (.inl rfl) (pe_ix ix_list (pe_dget hu (pv 0) pe_str (fun _ _ => rfl)) (pe_op op_mod (pv 4) (pe_callB call_len_seq (by rfl) ml PySem.boot_len (pa_cons (pe_dget hu (pv 0) pe_str (fun _ _ => rfl)) pa_nil))) (fun _ _ => rfl)))) pss_nil)
      (pss_cons (ps_if (PW.pt (pw_and (pt_cmpR op_ge (pv 5) (pe_op op_pow pe_int pe_int) (nomark _)) (pw_and1 (pt_cmpR op_lt (pv 4) (pe_callB call_len_seq (by rfl) ml PySem.boot_len (pa_cons (pe_dget hu (pv 0) pe_str (fun _ _ => rfl)) pa_nil)) (nomark _)))))
        (pss_cons (ps_dput hu (pv 0) pe_str (pe_op op_fdiv (pv 5) (pv 1)) rfl) (pss_one (ps_ret (pe_op op_mod (pv 5) (pv 1))))) pss_nil)
      (pss_cons (ps_set (i := 6) scDraw.nd rfl (.inl rfl) (pe_op op_add (pe_op op_add (pe_op op_add (pe_op op_mod (pv 5) pe_int) (pe_op op_mul (pe_op op_mul pe_int (pv 2)) (pv 2))) (pe_op op_mul pe_int (pv 2))) pe_int))
      (pss_cons (ps_set (i := 6) scDraw.nd rfl (.inl rfl) (pe_op op_mod (pe_op op_add (pe_op op_add (pe_op op_mul (pv 6) (pv 6)) (pe_op op_mul pe_int (pv 2))) pe_int) pe_int))
      (pss_one (ps_ret (pe_op op_mod (pe_op op_fdiv (pe_op op_mod (pe_op op_add (pe_op op_mul (pv 6) (pv 6)) (pe_op op_mul pe_int (pv 6))) pe_int) pe_int) (pv 1))))))))))))), ?_⟩
    have nLF : L ≠ F := ne_of hL hF fun z => nomatch z
    refine ⟨.ref F, rfl, F, .int n, rfl, dg_count hF, ?_⟩
    refine ⟨.int n, rfl, n, 1, rfl, rfl, .ref F, rfl, F, _, rfl, dp_count hF, ?_⟩
    have hF1 : (upd H F (.dK (feedKvs L a l (n + 1)))) F = some (.dK (feedKvs L a l (n + 1))) := upd_same
    have hL1 : (upd H F (.dK (feedKvs L a l (n + 1)))) L = some (.lst (ns.map V.int)) := by
      rw [upd_ne nLF]
      exact hL
    have k1 : KeepF F H (upd H F (.dK (feedKvs L a l (n + 1)))) := fun b o h e => by
      rw [upd_ne h]
      exact e
    generalize upd H F (.dK (feedKvs L a l (n + 1))) = H1 at hF1 hL1 k1 ⊢
    have nb1 : 0 ≤ n + 1 ∧ n + 1 ≤ b + 1 := ⟨by omega, by omega⟩
    refine ⟨.ref F, rfl, F, .int l, rfl, dg_left hF1, l, 0, rfl, rfl, _, rfl, ite2 (fun e => ?_) (fun e => ?_)⟩
    · refine ⟨.ref F, rfl, F, .int l, rfl, dg_left hF1, .int m, rfl, l, m, rfl, rfl, m1, ?_⟩
      refine ⟨.ref F, rfl, F, .int l, rfl, dg_left hF1, .int m, rfl, l, m, rfl, rfl, ⟨m1, by omega⟩, .ref F, rfl, F, _, rfl, dp_left hF1, ?_⟩
      refine ⟨.int (l % m), rfl, q _ _ (Int.emod_nonneg _ (by omega)) (Int.emod_lt_of_pos _ m1) (k1.trans fun b o h e => ?_) ⟨ns, a, l / m, n + 1, upd_same, ?_, nb1⟩⟩
      · rw [upd_ne h]
        exact e
      · rw [upd_ne nLF]
        exact hL1
    · refine ⟨.ref F, rfl, F, .int a, rfl, dg_at hF1, ?_⟩
      refine ⟨.int a, rfl, a, 1, rfl, rfl, .ref F, rfl, F, _, rfl, dp_at hF1, ?_⟩
      have hF2 : (upd H1 F (.dK (feedKvs L (a + 1) l (n + 1)))) F = some (.dK (feedKvs L (a + 1) l (n + 1))) := upd_same
      have hL2 : (upd H1 F (.dK (feedKvs L (a + 1) l (n + 1)))) L = some (.lst (ns.map V.int)) := by
        rw [upd_ne nLF]
        exact hL1
      have k2 : KeepF F H (upd H1 F (.dK (feedKvs L (a + 1) l (n + 1)))) := k1.trans fun b o h e => by
        rw [upd_ne h]
        exact e
      generalize upd H1 F (.dK (feedKvs L (a + 1) l (n + 1))) = H2 at hF2 hL2 k2 ⊢
      dsimp only
      refine iSeq (iAsg (iName ?_))
      dsimp only
      refine iSeq ?_
      refine split_s (fun σ' H3 => ∃ c, σ' = [some (.ref F), some (.int m), some (.int n), none, some (.int a), some (.int c), none] ∧ H3 F = some (.dK (feedKvs L (a + 1) l (n + 1))) ∧ H3 L = some (.lst (ns.map V.int)) ∧ KeepF F H H3) (fun nx hnx => ?_) (fun σ' H3 hv => ?_)
      · refine ⟨.ref F, rfl, F, .ref L, rfl, dg_cells hF2, Nat.zero_le _, fun p hp => ?_⟩
        have s3 : Same H2 (upd H2 p (.lst [])) := same_new hp
        have k3 : KeepF F H (upd H2 p (.lst [])) := k2.trans (KeepF.of s3)
        refine ⟨.list (ns.map PyData.int), .list [], .lst (sqL (s3 _ _ hL2)) (dp_ints ns), .lst (sqL upd_same) .nil, shaped_ints ns, shaped_nil, _, rfl, ?_⟩
        cases ns with
        | nil => exact iteF (hnx _ _ ⟨41, rfl, s3 _ _ hF2, s3 _ _ hL2, k3⟩)
        | cons x ns =>
          refine iteT ?_
          refine iAsg ⟨.ref F, rfl, F, .ref L, rfl, dg_cells (s3 _ _ hF2), .int a, rfl, .ref F, rfl, F, .ref L, rfl, dg_cells (s3 _ _ hF2), L, _, rfl, .inl (sqL (s3 _ _ hL2)), a, (((x :: ns).map V.int).length : Int), rfl, rfl, ?_, ?_⟩
          · rw [List.length_map, List.length_cons]
            show (0 : Int) < ((ns.length + 1 : Nat) : Int)
            omega
          · have hlen : (0 : Int) < (((x :: ns).map V.int).length : Int) := by
              rw [List.length_map, List.length_cons]
              omega
            have h0 := Int.emod_nonneg a (show (((x :: ns).map V.int).length : Int) ≠ 0 by omega)
            have h1 := Int.emod_lt_of_pos a hlen
            obtain ⟨jn, ej⟩ : ∃ jn : Nat, a % (((x :: ns).map V.int).length : Int) = (jn : Int) := ⟨(a % (((x :: ns).map V.int).length : Int)).toNat, by omega⟩
            have hj : jn < ((x :: ns).map V.int).length := by omega
            have hjn : jn < (x :: ns).length := by rw [List.length_map] at hj; exact hj
            refine ⟨L, _, _, .int (x :: ns)[jn], rfl, rfl, sqL (s3 _ _ hL2), (by rw [ej]; exact atI_nat (j := jn) (by rw [List.getElem?_map, List.getElem?_eq_getElem hjn]; rfl)), ?_⟩
            refine iName ?_
            exact hnx _ _ ⟨_, rfl, s3 _ _ hF2, s3 _ _ hL2, k3⟩
      · obtain ⟨c, rfl, hF3, hL3, k3⟩ := hv
        dsimp only
        refine iSeq ?_
        refine split_s (fun σ' H' => σ' = [some (.ref F), some (.int m), some (.int n), none, some (.int a), some (.int c), none] ∧ H' = H3) (fun nx hnx => ?_) (fun σ' H' hx => ?_)
        · refine ⟨.int c, rfl, 10, 18, rfl, rfl, ⟨by decide, by decide, by decide⟩, c, _, rfl, rfl, _, rfl, ite2 (fun e1 => ?_) (fun e1 => ?_)⟩
          · refine ⟨.int a, rfl, .ref F, rfl, F, .ref L, rfl, dg_cells hF3, L, _, rfl, .inl (sqL hL3), a, _, rfl, rfl, _, rfl, ite2 (fun e2 => ?_) (fun e2 => ?_)⟩
            · refine ⟨.int c, rfl, .int m, rfl, c, m, rfl, rfl, ⟨m1, by omega⟩, .ref F, rfl, F, _, rfl, dp_left hF3, ?_⟩
              refine ⟨.int c, rfl, .int m, rfl, c, m, rfl, rfl, m1, q _ _ (Int.emod_nonneg _ (by omega)) (Int.emod_lt_of_pos _ m1) (k3.trans fun b o h e => ?_) ⟨ns, a + 1, c / m, n + 1, upd_same, ?_, nb1⟩⟩
              · rw [upd_ne h]
                exact e
              · rw [upd_ne nLF]
                exact hL3
            · exact hnx _ _ ⟨rfl, rfl⟩
          · exact iteF (hnx _ _ ⟨rfl, rfl⟩)
        · obtain ⟨rfl, rfl⟩ := hx
          dsimp only
          have c0 := Int.emod_nonneg c (show (2147483587 : Int) ≠ 0 by decide)
          have c1 := Int.emod_lt_of_pos c (show (0 : Int) < 2147483587 by decide)
          have nn : 0 ≤ n ∧ n ≤ 100000 := ⟨n0, by omega⟩
          have n2 : 0 ≤ n * n ∧ n * n ≤ 10000000000 := ⟨Int.mul_nonneg nn.1 nn.1, by
            have h1 : n * n ≤ 100000 * n := Int.mul_le_mul_of_nonneg_right nn.2 nn.1
            omega⟩
          refine iSeq (iAsg ⟨.int c, rfl, c, 2147483587, rfl, rfl, (by decide : (0 : Int) < 2147483587), .int n, rfl, 10331, n, rfl, rfl, .inl ⟨by decide, by decide⟩, .int n, rfl, 10331 * n, n, rfl, rfl, .inr ⟨by omega, by omega⟩, _, _, rfl, rfl, .int n, rfl, 3571, n, rfl, rfl, .inl ⟨by decide, by decide⟩, _, _, rfl, rfl, _, 677, rfl, rfl, ?_⟩)
          refine iName ?_
          dsimp only
          have e10 : 10331 * n * n = 10331 * (n * n) := Int.mul_assoc _ _ _
          obtain ⟨x, ex⟩ : ∃ x, c % 2147483587 + 10331 * n * n + 3571 * n + 677 = x := ⟨_, rfl⟩
          rw [ex]
          have x0 : 0 ≤ x ∧ x < 2 ^ 64 := by
            rw [← ex, e10]
            constructor
            · omega
            · omega
          refine iSeq (iAsg ⟨.int x, rfl, .int x, rfl, x, x, rfl, rfl, .inl ⟨by omega, by omega⟩, .int n, rfl, 70001, n, rfl, rfl, .inl ⟨by decide, by decide⟩, _, _, rfl, rfl, _, 101, rfl, rfl, _, 2147483549, rfl, rfl, (by decide : (0 : Int) < 2147483549), ?_⟩)
          refine iName ?_
          dsimp only
          have d0 := Int.emod_nonneg (x * x + 70001 * n + 101) (show (2147483549 : Int) ≠ 0 by decide)
          have d1 := Int.emod_lt_of_pos (x * x + 70001 * n + 101) (show (0 : Int) < 2147483549 by decide)
          generalize (x * x + 70001 * n + 101) % 2147483549 = y at d0 d1 ⊢
          refine iRet ⟨.int y, rfl, .int y, rfl, y, y, rfl, rfl, .inl ⟨by omega, by omega⟩, .int y, rfl, 43, y, rfl, rfl, .inl ⟨by decide, by decide⟩, _, _, rfl, rfl, _, 2147483543, rfl, rfl, (by decide : (0 : Int) < 2147483543), _, 64, rfl, rfl, ⟨by decide, by decide⟩, .int m, rfl, _, m, rfl, rfl, m1, ?_⟩
          exact q _ _ (Int.emod_nonneg _ (by omega)) (Int.emod_lt_of_pos _ m1) k3 ⟨ns, a + 1, l, n + 1, hF3, hL3, nb1⟩
end
end P56
/-! != of two lists of the same texts. -/
namespace AskG
open PySem PySem.Spec PyProof.Rows L2
def rNeS (K : PySem.W.Frag) : R2 := fun x y H Q => ∃ (a b : Addr) (xs : List Str), x = .ref a ∧ y = .ref b ∧ SqL K H a (xs.map V.str) ∧ SqL K H b (xs.map V.str) ∧ Q (.bl false) H
theorem vals_strs : ∀ {xs : List Str} {us : List Value}, Vals (xs.map V.str) us → ∀ j (h : j < us.length), ∃ x t, xs[j]? = some x ∧ us[j] = .str x t
  | [], _, .nil, j, h => absurd h (by simp)
  | x :: xs, _, .cons h1 t, 0, h => by
    obtain ⟨tk, rfl⟩ := h1
    exact ⟨x, tk, rfl, rfl⟩
  | x :: xs, _, .cons h1 t, j + 1, h => by
    obtain ⟨y, tk, e1, e2⟩ := vals_strs t j (by simpa using h)
    exact ⟨y, tk, e1, by simpa using e2⟩
theorem op_neS {X : Cx} (hu : X.A.units + 64 < cLine) : OpR X (compareOp .NotEq) (rNeS X.K) := by
  intro pins s σ H x y v u Q I rx ry h
  obtain ⟨a, b, xs, rfl, rfl, ha, hb, q⟩ := h
  cases rx
  cases ry
  obtain ⟨us, ru, pu, _⟩ := I.list ha
  obtain ⟨ws, rw', pw, _⟩ := I.list hb
  have hsz : us.toArray.size = ws.toArray.size := by
    rw [List.size_toArray, List.size_toArray, ← ru.length, ← rw'.length]
  have R := SeqAt.RcNeAt.lists (A := X.A) (s := s) (e := fun _ => true) pu.isList pw.isList hsz (by omega) (fun j h1 h2 => by
    obtain ⟨x1, t1, e1, e2⟩ := vals_strs ru j (by simpa using h1)
    obtain ⟨x2, t2, e3, e4⟩ := vals_strs rw' j (by simpa using h2)
    rw [e1] at e3
    cases e3
    have g1 : us.toArray[j] = .str x1 t1 := by simpa using e2
    have g2 : ws.toArray[j] = .str x1 t2 := by simpa using e4
    rw [g1, g2]
    have := SeqAt.EqAt.str_str (A := X.A.in1) (s := s) x1 t1 x1 t2
    rw [beq_self_eq_true] at this
    exact this)
  have z : wpAny (model X.prog X.w) X.A (compareOp .NotEq (.ref a) (.ref b)) (EP X pins σ Q) X.xe s := by
    refine R X.prog X.w X.xe (EP X pins σ Q) ⟨.bl false, H, I, ?_, q⟩
    show Value.bool _ = Value.bool false
    congr 1
    simp
  exact z
end AskG
namespace P56
open PySem PySem.Spec PyProof.Rows L2 AskG Ask
abbrev sRow : Stmt := topS 27
abbrev sGroup : Stmt := topS 31
abbrev NRow : List Str := ["_law_source_here", "_law_cells", "_law_share", "_law_pairs", "_law_cell"]
abbrev NGroup : List Str := ["_law_source_here", "_law_found", "_law_name"]
theorem scRow : FnScope NRow ["_law_source_here", "_law_cells", "_law_share"] (defScope sRow) := ⟨rfl, rfl, rfl, by decide +kernel, rfl, by decide +kernel, by decide +kernel⟩
theorem scGroup : FnScope NGroup ["_law_source_here"] (defScope sGroup) := ⟨rfl, rfl, rfl, by decide +kernel, rfl, by decide +kernel, by decide +kernel⟩
def fourC : List Cell := [("a", 0), ("a", 1), ("b", 0), ("b", 1)]
def three : List Str := ["ann", "bob", "cy"]
theorem dp_tstr {K : PySem.W.Frag} {H : Hp} : ∀ zs : List Str, DpAll K H (zs.map V.str) (zs.map PyData.str)
  | [] => .nil
  | z :: zs => .cons (.str z) (dp_tstr zs)
/-- rows that the law draws -/
structure RowDr (ρ : RowD) : Prop where
  sub : (ρ.map (·.1)).Sublist fourC
  lit : ∀ x ∈ ρ, -3 ≤ x.2 ∧ x.2 ≤ 3 ∧ x.2 ≠ 0
theorem shaped_lstr {zs : List Str} (h : ∀ z ∈ zs, PyData.strOk z = true) : SeqAt.shaped (.list (zs.map PyData.str)) = true := by
  have h1 : PyData.canLayAll0 (zs.map PyData.str) = true := can_all fun z hz => h z hz
  have h2 : PyData.depthAll (zs.map PyData.str) ≤ 0 := depth_all fun z _ => Nat.le_refl _
  show (PyData.canLayAll0 (zs.map PyData.str) && decide (PyData.depthAll (zs.map PyData.str) + 1 ≤ 64)) = true
  rw [h1, decide_eq_true (by omega)]
  rfl
theorem FeedAt.taken {H : Hp} {F L : Addr} {b : Int} (h : FeedAt H F L b) : Taken H F := by
  obtain ⟨_, _, _, _, e, _⟩ := h
  exact ⟨_, e⟩
section
variable {P : Program} {w : World} {K : PySem.W.Frag} {mg : Str → Option Value} {base : Heap}
variable {fD : Addr} {fdD : FuncData}
def prRow : Pr := fun vs H Q => ∃ (F L lc : Addr) (bs : List Addr) (b : Int), vs = [.ref F, .ref lc, .int 3] ∧ FeedAt H F L b ∧ b ≤ 90000 ∧ H lc = some (.lst (bs.map V.ref)) ∧ Paired (CellAt H) bs fourC ∧
  ∀ H' p ρ, KeepF F H H' → FeedAt H' F L (b + 8) → RowAt H' p ρ → RowDr ρ → Q (.ref p) H'
theorem ok_row {f : Addr} {fd : FuncData} {k : Nat} (F : Fun K "_law_row" "_law_row" sRow f fd)
    (FD : Fun K "_law_next" "_law_next" sDraw fD fdD) (bD : Binds K fdD ["_law_source_here", "_law_limit"] []) (gD : mg "_law_next" = some (.ref fD)) (ml : mg "len" = none) (mt : mg "tuple" = none) : FnG P w K mg base (k + 2) f fd ["_law_source_here", "_law_cells", "_law_share"] prRow := by
  have GD : FnG P w K mg base (k + 1) fD fdD ["_law_source_here", "_law_limit"] prDraw := ok_draw FD ml
  refine okG F scRow (fun vs H Q h => ?_) (fun cdv A outer s H vs Q hr h => ?_)
  · obtain ⟨_, _, _, _, _, rfl, _⟩ := h
    rfl
  · obtain ⟨F, L, lc, bs, b, rfl, hF, b9, hlc, hbs, q⟩ := h
    have big := sizeBig
    refine ⟨_, pss_cons (ps_set (i := 3) scRow.nd rfl (.inl rfl) (pe_lst pa_nil))
      (pss_cons (ps_for PassesOwn.never rfl (pi_list (pv 1)) (pg_name (i := 4) scRow.nd rfl (.inl rfl))
        (pss_one (ps_if (pt_cmpR op_eq (pe_g GD hr (by rfl) gD FD.kp bD .nil (pa_cons (pv 0) (pa_cons (pv 2) pa_nil))) pe_int (nomark _))
          (pss_one (ps_expr (pe_bm PySem.F.plainAttrs_list PySem.F.slot_list_append PySem.F.type_list_append mt_append (pv 3) (pa_cons (pe_tup (pa_cons (pv 4) (pa_cons
            (pe_ix (ix_list : IxR _ (rIxL K)) (pe_lst (pa_cons pe_int (pa_cons pe_int (pa_cons (pe_un un_neg pe_int) (pa_cons pe_int (pa_cons pe_int (pa_cons (pe_un un_neg pe_int) (pa_cons (pe_un un_neg pe_int) pa_nil)))))))) (pe_g GD hr (by rfl) gD FD.kp bD .nil (pa_cons (pv 0) (pa_cons pe_int pa_nil))) (fun _ _ => rfl)) pa_nil))) pa_nil)))) pss_nil)))
      (pss_one (ps_ret (pe_callTy call_tuple_of (by rfl) mt (by decide +kernel) (pa_cons (pv 3) pa_nil))))), ?_⟩
    refine iSeq (iAsg ⟨Nat.zero_le _, fun Lp hLp => ?_⟩)
    have s1 := same_new (o := .lst []) hLp
    refine iName ?_
    dsimp only
    have nLF : Lp ≠ F := by
      obtain ⟨_, _, _, _, e, _⟩ := hF
      exact (ne_of_none e hLp).symm
    have nLL : L ≠ Lp := by
      obtain ⟨_, _, _, _, _, e, _⟩ := hF
      exact ne_of_none e hLp
    have ncF : lc ≠ F := by
      obtain ⟨_, _, _, _, e, _⟩ := hF
      exact ne_of hlc e fun z => nomatch z
    have ncp : lc ≠ Lp := ne_of_none hlc hLp
    refine iSeq ?_
    refine ⟨.ref lc, rfl, lc, rfl, ⟨_, sqL (s1 _ _ hlc)⟩, ?_⟩
    refine for_list (xs := bs.map V.ref) (fun i σ' H' => (∃ x4, σ' = [some (.ref F), some (.ref lc), some (.int 3), some (.ref Lp), x4]) ∧ i ≤ 4 ∧ KeepF F H H' ∧ FeedAt H' F L (b + 2 * (i : Int)) ∧ H' lc = some (.lst (bs.map V.ref)) ∧ ∃ qs ρ, H' Lp = some (.lst (qs.map V.ref)) ∧ Paired (PairRow H') qs ρ ∧ (ρ.map (·.1)).Sublist (fourC.take i) ∧ ∀ x ∈ ρ, -3 ≤ x.2 ∧ x.2 ≤ 3 ∧ x.2 ≠ 0)
      ⟨⟨none, rfl⟩, by decide, KeepF.of s1, by rw [show b + 2 * ((0 : Nat) : Int) = b by omega]; exact hF.same s1, s1 _ _ hlc, [], [], upd_same, .nil, List.nil_sublist _, fun x hx => absurd hx (by simp)⟩ (fun i σ' H' _ h => sqL h.2.2.2.2.1) (fun i x σ' H' hx h => ?_) (fun σ' H' h => ?_)
    · obtain ⟨⟨x4, rfl⟩, i6, k1, hF1, hlc1, qs, ρ, hqs, hqq, sub, lit⟩ := h
      rw [List.getElem?_map] at hx
      obtain ⟨cb, hcb, rfl⟩ := Option.map_eq_some_iff.mp hx
      obtain ⟨c, hc, hcell⟩ := paired_at' hbs hcb
      have il : i < 4 := (List.getElem?_eq_some_iff.mp hc).1
      have ql := Paired.length hqq
      have rl := sub.length_le
      rw [List.length_map, List.length_take] at rl
      have tk : fourC.take (i + 1) = fourC.take i ++ [c] := by
        rw [List.take_add_one, hc]
        rfl
      have eb : b + 2 * ((i + 1 : Nat) : Int) = b + 2 * (i : Int) + 2 := by omega
      refine iName ?_
      dsimp only
      refine ⟨.ref F, rfl, .int 3, rfl, F, L, 3, b + 2 * (i : Int), rfl, hF1, by decide, by decide, by omega, fun d H2 d0 d1 k2 hF2 => ?_⟩
      refine ⟨rfl, _, rfl, ite2 (fun e => ?_) (fun e => ?_)⟩
      · have k12 := k1.trans k2
        refine iDrop' ⟨.ref Lp, rfl, .inl ⟨rfl, _, sqL (k2 _ _ nLF hqs)⟩, ?_⟩
        refine ⟨.ref cb, rfl, 1, rfl, 2, rfl, 3, rfl, by show 7 ≤ sizeLine; omega, fun l7 hl7 => ?_⟩
        have s3 := same_new (o := .lst [.int 1, .int 1, .int (-1), .int 2, .int 3, .int (-2), .int (-3)]) hl7
        have n7 : l7 ≠ F := by
          obtain ⟨_, _, _, _, e, _⟩ := hF2
          exact (ne_of_none e hl7).symm
        refine ⟨.ref F, rfl, F, L, 7, b + 2 * (i : Int) + 1, rfl, hF2.same s3, by decide, by decide, by omega, fun d2 H3 d20 d21 k3 hF3 => ?_⟩
        obtain ⟨n, rfl⟩ : ∃ n : Nat, d2 = (n : Int) := ⟨d2.toNat, by omega⟩
        have hl73 := k3 _ _ n7 (upd_same (H := H2) (a := l7) (o := .lst [.int 1, .int 1, .int (-1), .int 2, .int 3, .int (-2), .int (-3)]))
        have wt : ∃ wv : Int, ([.int 1, .int 1, .int (-1), .int 2, .int 3, .int (-2), .int (-3)] : List V)[n]? = some (.int wv) ∧ -3 ≤ wv ∧ wv ≤ 3 ∧ wv ≠ 0 := by
          match n, d21 with
          | 0, _ => exact ⟨1, rfl, by decide⟩
          | 1, _ => exact ⟨1, rfl, by decide⟩
          | 2, _ => exact ⟨-1, rfl, by decide⟩
          | 3, _ => exact ⟨2, rfl, by decide⟩
          | 4, _ => exact ⟨3, rfl, by decide⟩
          | 5, _ => exact ⟨-2, rfl, by decide⟩
          | 6, _ => exact ⟨-3, rfl, by decide⟩
          | n + 7, h => exact absurd h (by omega)
        obtain ⟨wv, hwv, w1, w2, w3⟩ := wt
        refine ⟨l7, _, _, .int wv, rfl, rfl, sqL hl73, atI_nat hwv, by show 2 ≤ sizeLine; omega, fun p hp => ?_⟩
        have s4 := same_new (o := .tup [.ref cb, .int wv]) hp
        have kall := (k2.trans (KeepF.of s3)).trans (k3.trans (KeepF.of s4))
        have hqs4 := kall _ _ nLF hqs
        refine ⟨Lp, qs.map V.ref, .ref p, rfl, rfl, hqs4, by rw [List.length_map, ql, ← List.length_map (f := (·.1))]; rw [List.length_map]; omega, ?_⟩
        have kp : KeepT _ (upd _ Lp (.lst (qs.map V.ref ++ [.ref p]))) := KeepT.put hqs4 fun _ z => nomatch z
        have kt := (kall.tup hF1).trans kp
        refine ⟨⟨_, rfl⟩, by omega, fun c' o hc' e => ?_, ?_, ?_, qs ++ [p], ρ ++ [(c, wv)], by rw [upd_same, List.map_append]; rfl, Paired.snoc (Paired.mapP hqq fun _ _ z => z.keep kt) ⟨cb, kp _ _ upd_same, (kt _ _ ((k1.tup hF) _ _ hcell))⟩, ?_, fun x hx => ?_⟩
        · rw [upd_ne (ne_of_none e hLp)]
          exact kall _ _ hc' (k1 _ _ hc' e)
        · rw [eb]
          obtain ⟨ns', a1, l1', n1, e1, e2, e3⟩ := hF3.same s4
          exact ⟨ns', a1, l1', n1, by rw [upd_ne nLF.symm]; exact e1, by rw [upd_ne nLL]; exact e2, e3.1, by have := e3.2; omega⟩
        · rw [upd_ne ncp]
          exact kall _ _ ncF hlc1
        · rw [List.map_append, tk]
          exact sub.append (List.Sublist.refl _)
        · rcases List.mem_append.mp hx with h | h
          · exact lit x h
          · rw [List.mem_singleton.mp h]
            exact ⟨w1, w2, w3⟩
      · refine ⟨⟨_, rfl⟩, by omega, k1.trans k2, by rw [eb]; exact hF2.up (by omega), k2 _ _ ncF hlc1, qs, ρ, k2 _ _ nLF hqs, Paired.mapP hqq fun _ _ z => z.keep (k2.tup hF1), sub.trans (by rw [tk]; exact List.sublist_append_left _ _), lit⟩
    · obtain ⟨⟨x4, rfl⟩, i6, k1, hF1, hlc1, qs, ρ, hqs, hqq, sub, lit⟩ := h
      dsimp only
      have bl : bs.length = 4 := Paired.length hbs
      rw [List.length_map, bl] at hF1 sub
      refine iRet ⟨.ref Lp, rfl, Lp, _, rfl, .inl ⟨sqL hqs, fun p hp => ?_⟩⟩
      have s5 := same_new (o := .tup (qs.map V.ref)) hp
      exact q _ p ρ (k1.trans (KeepF.of s5)) (hF1.same s5) ⟨qs, upd_same, Paired.mapP hqq fun _ _ z => z.keep (KeepT.of s5)⟩ ⟨sub, lit⟩
def prGroup : Pr := fun vs H Q => ∃ (F L : Addr) (b : Int), vs = [.ref F] ∧ FeedAt H F L b ∧ b ≤ 90000 ∧ ∀ H' p ns, KeepF F H H' → FeedAt H' F L (b + 3) → H' p = some (.tup (ns.map V.str)) → ns.Sublist three → ns ≠ [] → Q (.ref p) H'
theorem ok_group {f : Addr} {fd : FuncData} {k : Nat} (F : Fun K "_law_group" "_law_group" sGroup f fd)
    (FD : Fun K "_law_next" "_law_next" sDraw fD fdD) (bD : Binds K fdD ["_law_source_here", "_law_limit"] []) (gD : mg "_law_next" = some (.ref fD)) (ml : mg "len" = none) (mt : mg "tuple" = none) : FnG P w K mg base (k + 2) f fd ["_law_source_here"] prGroup := by
  have GD : FnG P w K mg base (k + 1) fD fdD ["_law_source_here", "_law_limit"] prDraw := ok_draw FD ml
  refine okG F scGroup (fun vs H Q h => ?_) (fun cdv A outer s H vs Q hr h => ?_)
  · obtain ⟨_, _, _, rfl, _⟩ := h
    rfl
  · obtain ⟨F, L, b, rfl, hF, b9, q⟩ := h
    have big := sizeBig
    have hun := hr.room.units
    refine ⟨_, pss_cons (ps_setLc (i := 1) (own := [("_law_name", 2)]) (g := gName 2) rfl scGroup.nd rfl rfl (sw_true rfl rfl rfl (by decide +kernel)) (pi_list (pe_lst (pa_cons pe_str (pa_cons pe_str (pa_cons pe_str pa_nil))))) (blkOk_by (N := NGroup) (sc := defScope sGroup) (by decide +kernel))
        (fun _ _ _ _ _ => pg_name (i := 2) scGroup.nd rfl (.inl rfl)) (fun _ _ _ _ _ => pts_one (pt_cmpR op_eq (pe_g GD hr (by rfl) gD FD.kp bD .nil (pa_cons (pv 0) (pa_cons pe_int pa_nil))) pe_int (nomark _))) (fun _ _ _ _ _ => pv 2))
      (pss_one (ps_ret (pe_ifExp (pt_cmpR (op_neD hun) (pv 1) (pe_lst pa_nil) (nomark _)) (pe_callTy call_tuple_of (by rfl) mt (by decide +kernel) (pa_cons (pv 1) pa_nil)) (pe_tup (pa_cons pe_str pa_nil))))), ?_⟩
    refine iSeq (iAsg ⟨by show 3 ≤ sizeLine; omega, fun l3 hl3 => ?_⟩)
    have s1 := same_new (o := .lst (three.map V.str)) hl3
    have n3 : l3 ≠ F := by
      obtain ⟨_, _, _, _, e, _⟩ := hF
      exact (ne_of_none e hl3).symm
    refine ⟨l3, rfl, ⟨_, sqL upd_same⟩, fun D hD => ?_⟩
    have nDF : D ≠ F := by
      obtain ⟨_, _, _, _, e, _⟩ := hF.same s1
      exact (ne_of_none e hD).symm
    have nDL : L ≠ D := by
      obtain ⟨_, _, _, _, _, e, _⟩ := hF.same s1
      exact ne_of_none e hD
    have n3D : l3 ≠ D := ne_of_none upd_same hD
    have s2 := same_new (o := .lst []) hD
    have hDn : H D = none := by
      cases e : H D with
      | none => rfl
      | some o => exact absurd ((s1 _ _ e).symm.trans hD) (fun z => nomatch z)
    refine loop_lst (K := K) (a := l3) (xs := three.map V.str) (fun i H' => i ≤ 3 ∧ KeepF F H H' ∧ FeedAt H' F L (b + (i : Int)) ∧ H' l3 = some (.lst (three.map V.str)) ∧ ∃ ns, H' D = some (.lst (ns.map V.str)) ∧ ns.Sublist (three.take i))
      ⟨by decide, KeepF.of (s1.trans s2), by rw [show b + ((0 : Nat) : Int) = b by omega]; exact (hF.same s1).same s2, s2 _ _ upd_same, [], upd_same, List.nil_sublist _⟩ (fun i H' h => sqL h.2.2.2.1) (fun i x H' hx h => ?_) (fun H' h => ?_)
    · obtain ⟨i3, k1, hF1, hl1, ns, hns, sub⟩ := h
      rw [List.getElem?_map] at hx
      obtain ⟨z, hz, rfl⟩ := Option.map_eq_some_iff.mp hx
      have il : i < 3 := (List.getElem?_eq_some_iff.mp hz).1
      have tk : three.take (i + 1) = three.take i ++ [z] := by
        rw [List.take_add_one, hz]
        rfl
      have eb : b + ((i + 1 : Nat) : Int) = b + (i : Int) + 1 := by omega
      have nl := sub.length_le
      rw [List.length_take] at nl
      refine ⟨wipe1, .ref F, rfl, F, L, 2, b + (i : Int), rfl, hF1, by decide, by decide, by omega, fun d H2 d0 d1 k2 hF2 => ?_⟩
      refine ⟨rfl, _, rfl, ?_⟩
      have hns2 := k2 _ _ nDF hns
      refine ite2 (fun e => ?_) (fun e => ?_)
      · refine ⟨.str z, rfl, _, hns2, by rw [List.length_map]; omega, by omega, fun c o hc e => ?_, ?_, ?_, ns ++ [z], by rw [upd_same, List.map_append]; rfl, ?_⟩
        · rw [upd_ne (ne_of_none e hDn)]
          exact k2 _ _ hc (k1 _ _ hc e)
        · rw [eb]
          obtain ⟨ns', a1, l1', n1, e1, e2, e3⟩ := hF2
          exact ⟨ns', a1, l1', n1, by rw [upd_ne nDF.symm]; exact e1, by rw [upd_ne nDL]; exact e2, e3⟩
        · rw [upd_ne n3D]
          exact k2 _ _ n3 hl1
        · rw [tk]
          exact sub.append (List.Sublist.refl _)
      · exact ⟨by omega, k1.trans k2, by rw [eb]; exact hF2, k2 _ _ n3 hl1, ns, hns2, sub.trans (by rw [tk]; exact List.sublist_append_left _ _)⟩
    · obtain ⟨i3, k1, hF1, hl1, ns, hns, sub⟩ := h
      refine iName ?_
      dsimp only
      refine iRet ⟨.ref D, rfl, Nat.zero_le _, fun e1 he1 => ?_⟩
      have s3 := same_new (o := .lst []) he1
      have okn : ∀ z ∈ ns, PyData.strOk z = true := fun z hz => by
        have h : (three.all fun z => PyData.strOk z) = true := by decide +kernel
        exact List.all_eq_true.mp h z (List.mem_of_mem_take (sub.subset hz))
      refine ⟨.list (ns.map PyData.str), .list [], .lst (sqL (s3 _ _ hns)) (dp_tstr ns), .lst (sqL upd_same) .nil, shaped_lstr okn, shaped_nil, _, rfl, ?_⟩
      have hF3 : FeedAt _ F L (b + 3) := hF1.same s3
      have k3 := k1.trans (KeepF.of s3)
      have sub3 : ns.Sublist three := sub
      cases ns with
      | nil =>
        refine iteF ⟨by show 1 ≤ sizeLine; omega, fun p hp => ?_⟩
        have s4 := same_new (o := .tup [.str "ann"]) hp
        exact q _ p ["ann"] (k3.trans (KeepF.of s4)) (hF3.same s4) upd_same (List.Sublist.cons_cons _ (List.nil_sublist _)) (List.cons_ne_nil _ _)
      | cons z ns =>
        refine iteT ⟨.ref D, rfl, D, _, rfl, .inl ⟨sqL (s3 _ _ hns), fun p hp => ?_⟩⟩
        have s4 := same_new (o := .tup ((z :: ns).map V.str)) hp
        exact q _ p (z :: ns) (k3.trans (KeepF.of s4)) (hF3.same s4) upd_same sub3 (List.cons_ne_nil _ _)
end
end P56
namespace P56
open PySem PySem.Spec PyProof.Rows L2 AskG Ask
abbrev sLQ : Stmt := topS 28
abbrev sLD : Stmt := topS 29
abbrev NLQ : List Str := ["_law_right_here", "_law_day", "_law_person", "_law_weights", "_law_first", "_law_last", "_law_kind", "_law_begin", "_law_end", "_law_pairs", "_law_account", "_law_weight", "_law_one"]
theorem scLQ : FnScope NLQ ["_law_right_here", "_law_day"] (defScope sLQ) := ⟨rfl, rfl, rfl, by decide +kernel, rfl, by decide +kernel, by decide +kernel⟩
theorem scLD : FnScope ["_law_right_here", "_law_now"] ["_law_right_here", "_law_now"] (defScope sLD) := ⟨rfl, rfl, rfl, by decide +kernel, rfl, by decide +kernel, by decide +kernel⟩
theorem rowOn_snoc {ws : List Cell} {lo hi : Int} {i : Nat} {c : Cell} (h : ws[i]? = some c) : rowOn (ws.take (i + 1)) lo hi = rowOn (ws.take i) lo hi ++ (daysOf lo hi).map fun d => ((c.1, d), c.2) := by
  unfold rowOn
  rw [List.take_add_one, h, List.flatMap_append]
  congr 1
  show (daysOf lo hi).map _ ++ [] = _
  rw [List.append_nil]
section
variable {P : Program} {w : World} {K : PySem.W.Frag} {mg : Str → Option Value} {base : Heap}
def prLQ : Pr := fun vs H Q => ∃ (a : Addr) (R : Rt) (t : Int), vs = [.ref a, .int t] ∧ RightAt H a R ∧ RtOk R ∧ NamesUp R.ws ∧ 0 ≤ t ∧ t ≤ 9 ∧ ∀ H' p, Same H H' → RowAt H' p (rowQ R t) → Q (.ref p) H'
theorem ok_lq {f : Addr} {fd : FuncData} {k : Nat} (F : Fun K "_law_question" "_law_question" sLQ f fd)
    (mx' : mg "max" = none) (mn : mg "min" = none) (mr : mg "range" = none) (mt : mg "tuple" = none) (ms : mg "sorted" = none) : FnG P w K mg base (k + 1) f fd ["_law_right_here", "_law_day"] prLQ := by
  refine okG F scLQ (fun vs H Q h => ?_) (fun cdv A outer s H vs Q hr h => ?_)
  · obtain ⟨_, _, _, rfl, _⟩ := h
    rfl
  · obtain ⟨a, R, t, rfl, hR, ok, up, t0, t9, q⟩ := h
    have big := sizeBig
    have hun := hr.room.units
    obtain ⟨wa, ps, ka, h1, h2, h3, h4⟩ := id hR
    obtain ⟨b1, b2, b3, b4⟩ := kind_bounds ok.kind t0 t9
    refine ⟨_, pss_cons (ps_asg (pv 0) (pg_tup (by rfl) (pgs_cons (pg_name (i := 2) scLQ.nd rfl (.inl rfl)) (pgs_cons (pg_name (i := 3) scLQ.nd rfl (.inl rfl)) (pgs_cons (pg_name (i := 4) scLQ.nd rfl (.inl rfl)) (pgs_cons (pg_name (i := 5) scLQ.nd rfl (.inl rfl)) (pgs_cons (pg_name (i := 6) scLQ.nd rfl (.inl rfl)) pgs_nil)))))))
      (pss_cons (ps_par (by rfl) scLQ.nd (i := 7) (j := 8) rfl rfl (by decide) rfl rfl (pa_cons (pe_ix (ix_tup : IxR _ (rIxT K)) (pv 6) pe_int (fun _ _ => rfl)) (pa_cons (pv 1) pa_nil)) (by rfl))
      (pss_cons (ps_if (pt_cmpR op_eq (pe_ix (ix_tup : IxR _ (rIxT K)) (pv 6) pe_int (fun _ _ => rfl)) pe_str (nomark _)) (pss_one (ps_set (i := 7) scLQ.nd rfl (.inl rfl) (pe_callB (call_max2 rfl) (by rfl) mx' (by decide +kernel) (pa_cons pe_int (pa_cons (pe_op op_add (pe_op op_sub (pv 1) (pe_ix (ix_tup : IxR _ (rIxT K)) (pv 6) pe_int (fun _ _ => rfl))) pe_int) pa_nil))))) pss_nil)
      (pss_cons (ps_if (pt_cmpR op_eq (pe_ix (ix_tup : IxR _ (rIxT K)) (pv 6) pe_int (fun _ _ => rfl)) pe_str (nomark _)) (pss_one (ps_set (i := 8) scLQ.nd rfl (.inl rfl) (pe_callB (call_min2 rfl) (by rfl) mn (by decide +kernel) (pa_cons (pe_ix (ix_tup : IxR _ (rIxT K)) (pv 6) pe_int (fun _ _ => rfl)) (pa_cons (pv 1) pa_nil))))) pss_nil)
      (pss_cons (ps_set (i := 9) scLQ.nd rfl (.inl rfl) (pe_lst pa_nil))
      (pss_cons (ps_for PassesOwn.never rfl (pi_tup (pv 3)) (pg_tup rfl (pgs_cons (pg_name (i := 10) scLQ.nd rfl (.inr rfl)) (pgs_cons (pg_name (i := 11) scLQ.nd rfl (.inr rfl)) pgs_nil)))
        (pss_one (ps_expr (pe_bm PySem.F.plainAttrs_list PySem.F.slot_list_extend PySem.F.type_list_extend mt_extend (pv 9) (pa_cons
          (pe_lc (own := [("_law_one", 12)]) (g := gName 12) (tt := tYes) rfl scLQ.nd (pi_range2 (by rfl) mr (pa_cons (pv 7) (pa_cons (pe_op op_add (pv 8) pe_int) pa_nil))) (blkOk_by (N := NLQ) (sc := defScope sLQ) (by decide +kernel))
            (fun _ _ _ _ _ => pg_name (i := 12) scLQ.nd rfl (.inl rfl)) (fun _ _ _ _ _ => pts_nil)
            (fun _ _ _ _ _ => pe_tup (pa_cons (pe_tup (pa_cons (pv 10) (pa_cons (pv 12) pa_nil))) (pa_cons (pv 11) pa_nil)))) pa_nil)))))
      (pss_one (ps_ret (pe_callTy call_tuple_of (by rfl) mt (by decide +kernel) (pa_cons (pe_callB (cr_sortX hun) (by rfl) ms (by decide +kernel) (pa_cons (pv 9) pa_nil)) pa_nil))))))))), ?_⟩
    refine iSeq (iAsg ⟨.ref a, rfl, a, _, rfl, sqT h1, rfl, .str R.person, _, rfl, .ref wa, _, rfl, .int R.first, _, rfl, .int R.last, _, rfl, .ref ka, _, rfl, rfl, ?_⟩)
    dsimp only
    refine iSeq ?_
    refine split_s (fun σ' H' => ∃ x7 : Int, σ' = [some (.ref a), some (.int t), some (.str R.person), some (.ref wa), some (.int R.first), some (.int R.last), some (.ref ka), some (.int x7), some (.int t), none, none, none, none] ∧ H' = H ∧ ∃ z, R.kind.vals[1]? = some (.int z) ∧ x7 = z) (fun nx hnx => ?_) (fun σ' H' hx => ?_)
    · cases hk : R.kind with
      | tot s0 =>
        rw [hk] at h4 hnx
        exact ⟨.ref ka, rfl, ka, _, _, _, rfl, rfl, sqT h4, atI_nat (j := 1) rfl, .int t, rfl, _, _, rfl, hnx _ _ ⟨s0, rfl, rfl, s0, rfl, rfl⟩⟩
      | win l =>
        rw [hk] at h4 hnx
        exact ⟨.ref ka, rfl, ka, _, _, _, rfl, rfl, sqT h4, atI_nat (j := 1) rfl, .int t, rfl, _, _, rfl, hnx _ _ ⟨l, rfl, rfl, l, rfl, rfl⟩⟩
      | per b e =>
        rw [hk] at h4 hnx
        exact ⟨.ref ka, rfl, ka, _, _, _, rfl, rfl, sqT h4, atI_nat (j := 1) rfl, .int t, rfl, _, _, rfl, hnx _ _ ⟨b, rfl, rfl, b, rfl, rfl⟩⟩
    obtain ⟨x7, rfl, eH, z, hz, rfl⟩ := hx
    rw [eH]
    clear eH H'
    dsimp only
    refine iSeq ?_
    refine split_s (fun σ' H' => σ' = [some (.ref a), some (.int t), some (.str R.person), some (.ref wa), some (.int R.first), some (.int R.last), some (.ref ka), some (.int (R.kind.lo t)), some (.int t), none, none, none, none] ∧ H' = H) (fun nx hnx => ?_) (fun σ' H' hx => ?_)
    · cases hk : R.kind with
      | tot s0 =>
        rw [hk] at h4 hz hnx
        cases hz
        refine iIfS ⟨.ref ka, rfl, ka, _, _, _, rfl, rfl, sqT h4, atI_nat (j := 0) rfl, rfl, _, rfl, ?_⟩
        exact iteF (hnx _ _ ⟨rfl, rfl⟩)
      | win l =>
        rw [hk] at h4 hz hnx
        cases hz
        refine iIfS ⟨.ref ka, rfl, ka, _, _, _, rfl, rfl, sqT h4, atI_nat (j := 0) rfl, rfl, _, rfl, ?_⟩
        exact iteT (iAsg ⟨.int t, rfl, .ref ka, rfl, ka, _, _, _, rfl, rfl, sqT h4, atI_nat (j := 1) rfl, t, x7, rfl, rfl, t - x7, 1, rfl, rfl, 0, t - x7 + 1, rfl, iName (hnx _ _ ⟨rfl, rfl⟩)⟩)
      | per b e =>
        rw [hk] at h4 hz hnx
        cases hz
        refine iIfS ⟨.ref ka, rfl, ka, _, _, _, rfl, rfl, sqT h4, atI_nat (j := 0) rfl, rfl, _, rfl, ?_⟩
        exact iteF (hnx _ _ ⟨rfl, rfl⟩)
    obtain ⟨rfl, eH⟩ := hx
    rw [eH]
    clear eH H'
    dsimp only
    refine iSeq ?_
    refine split_s (fun σ' H2 => σ' = [some (.ref a), some (.int t), some (.str R.person), some (.ref wa), some (.int R.first), some (.int R.last), some (.ref ka), some (.int (R.kind.lo t)), some (.int (R.kind.hi t)), none, none, none, none] ∧ H2 = H) (fun nx hnx => ?_) (fun σ' H2 hx => ?_)
    · cases hk : R.kind with
      | tot s0 =>
        rw [hk] at h4 hnx
        refine iIfS ⟨.ref ka, rfl, ka, _, _, _, rfl, rfl, sqT h4, atI_nat (j := 0) rfl, rfl, _, rfl, ?_⟩
        exact iteF (hnx _ _ ⟨rfl, rfl⟩)
      | win l =>
        rw [hk] at h4 hnx
        refine iIfS ⟨.ref ka, rfl, ka, _, _, _, rfl, rfl, sqT h4, atI_nat (j := 0) rfl, rfl, _, rfl, ?_⟩
        exact iteF (hnx _ _ ⟨rfl, rfl⟩)
      | per b e =>
        rw [hk] at h4 hnx
        refine iIfS ⟨.ref ka, rfl, ka, _, _, _, rfl, rfl, sqT h4, atI_nat (j := 0) rfl, rfl, _, rfl, ?_⟩
        exact iteT (iAsg ⟨.ref ka, rfl, ka, _, _, _, rfl, rfl, sqT h4, atI_nat (j := 2) rfl, .int t, rfl, e, t, rfl, iName (hnx _ _ ⟨rfl, rfl⟩)⟩)
    obtain ⟨rfl, eH⟩ := hx
    rw [eH]
    clear eH H2
    dsimp only
    have hq : ∀ H3 p, Same H H3 → RowAt H3 p (rowOn R.ws (R.kind.lo t) (R.kind.hi t)) → Q (.ref p) H3 := q
    clear q hz h4
    generalize hlo : R.kind.lo t = lo at *
    generalize hhi : R.kind.hi t = hi at *
    refine iSeq (iAsg ⟨Nat.zero_le _, fun Lc hLc => ?_⟩)
    have s1 := same_new (o := .lst []) hLc
    refine iName ?_
    dsimp only
    refine iSeq ?_
    refine ⟨.ref wa, rfl, wa, rfl, ⟨_, sqT (s1 _ _ h2)⟩, ?_⟩
    refine for_tup (xs := ps.map V.ref) (fun i σ' H' => (∃ x10 x11, σ' = [some (.ref a), some (.int t), some (.str R.person), some (.ref wa), some (.int R.first), some (.int R.last), some (.ref ka), some (.int lo), some (.int hi), some (.ref Lc), x10, x11, none]) ∧ Same H H' ∧ ∃ qs, H' Lc = some (.lst (qs.map V.ref)) ∧ Paired (PairRow H') qs (rowOn (R.ws.take i) lo hi))
      ⟨⟨none, none, rfl⟩, s1, [], upd_same, .nil⟩ (fun i σ' H' _ h => sqT (h.2.1 _ _ h2)) (fun i x σ' H' hx h => ?_) (fun σ' H' h => ?_)
    · obtain ⟨⟨x10, x11, rfl⟩, sm, qs, hqs, hqq⟩ := h
      rw [List.getElem?_map] at hx
      obtain ⟨pj, hpj, rfl⟩ := Option.map_eq_some_iff.mp hx
      obtain ⟨c, hc, hcell⟩ := paired_at' h3 hpj
      refine ⟨pj, _, rfl, sqT (sm _ _ hcell), rfl, .str c.1, _, rfl, .int c.2, _, rfl, rfl, ?_⟩
      dsimp only
      refine iDrop' ⟨.ref Lc, rfl, .inl ⟨rfl, _, sqL hqs⟩, ?_⟩
      refine ⟨.int lo, rfl, .int hi, rfl, hi, 1, rfl, rfl, lo, hi + 1, rfl, ⟨by omega, by omega, by omega, by omega⟩, fun D hD => ?_⟩
      refine loop_rg (lo := lo) (n := (hi + 1 - lo).toNat) (fun j H3 => Same H' H3 ∧ ∃ rs, H3 D = some (.lst (rs.map V.ref)) ∧ Paired (PairRow H3) rs (((daysOf lo hi).take j).map fun d => ((c.1, d), c.2))) ⟨same_new hD, [], upd_same, by rw [List.take_zero]; exact .nil⟩ (fun j H3 hj h => ?_) (fun H3 h => ?_)
      · obtain ⟨sm2, rs, hrs, hrr⟩ := h
        have rl := Paired.length hrr
        rw [List.length_map, List.length_take, days_len] at rl
        refine ⟨wipe1, iYes (iteT ?_)⟩
        refine ⟨.str c.1, rfl, .int (lo + (j : Int)), rfl, by show 2 ≤ sizeLine; omega, fun p1 hp1 => ⟨.int c.2, rfl, by show 2 ≤ sizeLine; omega, fun p2 hp2 => ?_⟩⟩
        have c1 := same_new (o := .tup [.str c.1, .int (lo + (j : Int))]) hp1
        have c2 := same_new (o := .tup [.ref p1, .int c.2]) hp2
        have c12 := c1.trans c2
        have hDp := c12 _ _ hrs
        refine ⟨_, hDp, by rw [List.length_map]; omega, fun b o e => ?_, rs ++ [p2], by rw [upd_same, List.map_append]; rfl, ?_⟩
        · rw [upd_ne (ne_of_none e hD)]
          exact c12 _ _ (sm2 _ _ e)
        · have kp : KeepT _ (upd _ D (.lst (rs.map V.ref ++ [.ref p2]))) := KeepT.put hDp fun _ z => nomatch z
          have dj : (daysOf lo hi)[j]? = some (lo + (j : Int)) := by
            unfold daysOf
            rw [List.getElem?_map, List.getElem?_range hj]
            rfl
          rw [List.take_add_one, dj, List.map_append]
          exact Paired.snoc (Paired.mapP hrr fun _ _ z => (z.keep (KeepT.of c12)).keep kp) ⟨p1, kp _ _ upd_same, kp _ _ (c2 _ _ upd_same)⟩
      · obtain ⟨sm2, rs, hrs, hrr⟩ := h
        rw [← days_len, List.take_length] at hrr
        have ql := Paired.length hqq
        have rl := Paired.length hrr
        rw [List.length_map, days_len] at rl
        have m3 := ok.many
        have fl : (rowOn (R.ws.take i) lo hi).length ≤ 3 * 10 := by
          rw [rowOn_len, List.length_take]
          exact Nat.mul_le_mul (by omega) (by omega)
        refine ⟨Lc, D, qs.map V.ref, rs.map V.ref, rfl, rfl, sm2 _ _ hqs, hrs, by rw [List.length_map, List.length_map]; omega, ?_⟩
        have kp : KeepT _ (upd _ Lc (.lst (qs.map V.ref ++ rs.map V.ref))) := KeepT.put (sm2 _ _ hqs) fun _ z => nomatch z
        refine ⟨⟨_, _, rfl⟩, fun b o e => ?_, qs ++ rs, by rw [upd_same, List.map_append], ?_⟩
        · rw [upd_ne (ne_of_none e hLc)]
          exact sm2 _ _ (sm _ _ e)
        · rw [rowOn_snoc hc]
          exact paired_app (Paired.mapP hqq fun _ _ z => (z.keep (KeepT.of sm2)).keep kp) (Paired.mapP hrr fun _ _ z => z.keep kp)
    · obtain ⟨⟨x10, x11, rfl⟩, sm, qs, hqs, hqq⟩ := h
      dsimp only
      rw [List.length_map, Paired.length h3, List.take_length] at hqq
      refine iRet ⟨.ref Lc, rfl, Lc, qs, _, rfl, sqL hqs, hqq, fun ys π p hpm hst hyy hp => ?_⟩
      have e : π = rowOn R.ws lo hi := sorted_flat up (hpm.trans (flat_perm (daysOf lo hi) R.ws).symm) hst
      subst e
      have s5 := same_new (o := .lst (ys.map V.ref)) hp
      refine ⟨p, _, rfl, .inl ⟨sqL upd_same, fun p2 hp2 => ?_⟩⟩
      have s6 := same_new (o := .tup (ys.map V.ref)) hp2
      exact hq _ p2 ((sm.trans s5).trans s6) ⟨ys, upd_same, Paired.mapP hyy fun _ _ z => z.keep (KeepT.of (s5.trans s6))⟩
theorem rg_days (lo hi : Int) : rgV lo (hi + 1) = (daysOf lo hi).map V.int := by
  unfold rgV daysOf
  rw [List.map_map]
  rfl
/-- the days from a day on -/
def prLD : Pr := fun vs H Q => ∃ (a : Addr) (R : Rt) (T : Int), vs = [.ref a, .int T] ∧ RightAt H a R ∧ RtOk R ∧ 0 ≤ T ∧ T ≤ 9 ∧ ∀ p, H p = none → Q (.ref p) (upd H p (.lst ((daysOf (mx R.first T) R.last).map V.int)))
theorem ok_ld {f : Addr} {fd : FuncData} {k : Nat} (F : Fun K "_law_days" "_law_days" sLD f fd)
    (mx' : mg "max" = none) (mr : mg "range" = none) (mls : mg "list" = none) : FnG P w K mg base (k + 1) f fd ["_law_right_here", "_law_now"] prLD := by
  refine okG F scLD (fun vs H Q h => ?_) (fun cdv A outer s H vs Q hr h => ?_)
  · obtain ⟨_, _, _, rfl, _⟩ := h
    rfl
  · obtain ⟨a, R, T, rfl, hR, ok, T0, T9, q⟩ := h
    obtain ⟨wa, ps, ka, h1, h2, h3, h4⟩ := hR
    have f0 := ok.f0
    have f1 := ok.f1
    have l0 := ok.l0
    have l1 := ok.l1
    have mb : 0 ≤ mx R.first T ∧ mx R.first T ≤ 30 := by
      unfold mx
      split <;> omega
    refine ⟨_, pss_one (ps_ret (pe_listRg rfl (by rfl) mls (prg_2 (by rfl) mr (pe_callB (call_max2 rfl) (by rfl) mx' (by decide +kernel) (pa_cons (pv 1) (pa_cons (pe_ix (ix_tup : IxR _ (rIxT K)) (pv 0) pe_int (fun _ _ => rfl)) pa_nil))) (pe_op op_add (pe_ix (ix_tup : IxR _ (rIxT K)) (pv 0) pe_int (fun _ _ => rfl)) pe_int)))), ?_⟩
    have em : (if R.first > T then R.first else T) = mx R.first T := by
      unfold mx
      split <;> split <;> omega
    refine iRet ⟨.int T, rfl, .ref a, rfl, a, _, _, _, rfl, rfl, sqT h1, atI_nat (j := 2) rfl, T, R.first, rfl, .ref a, rfl, a, _, _, _, rfl, rfl, sqT h1, atI_nat (j := 3) rfl, R.last, 1, rfl, rfl, _, _, rfl, rfl, ?_, fun p hp => ?_⟩
    · rw [em]
      exact ⟨by omega, by omega, by omega, by omega, by omega⟩
    · rw [em, rg_days]
      exact q p hp
end
end P56
namespace P56
open PySem PySem.Spec PyProof.Rows L2 AskG Ask
abbrev sON : Stmt := topS 34
abbrev sLL : Stmt := topS 35
abbrev NON : List Str := ["_law_held_here", "_law_guard", "_law_name", "_law_right_here"]
abbrev NLL : List Str := ["_law_held_here", "_law_now", "_law_seen", "_law_guard", "_law_given", "_law_found", "_law_name", "_law_right_here", "_law_day"]
abbrev PSL : List Str := ["_law_held_here", "_law_now", "_law_seen", "_law_guard", "_law_given"]
theorem scON : FnScope NON ["_law_held_here", "_law_guard"] (defScope sON) := ⟨rfl, rfl, rfl, by decide +kernel, rfl, by decide +kernel, by decide +kernel⟩
theorem scLL : FnScope NLL PSL (defScope sLL) := ⟨rfl, rfl, rfl, by decide +kernel, rfl, by decide +kernel, by decide +kernel⟩
theorem iAnd {t u : TT} {σ : L2.St} {H : Hp} {Q : Bool → Hp → Prop} (h : t σ H fun c H1 => if c = true then u σ H1 Q else Q false H1) : tAnd t u σ H Q := h
def ownN (rs : List (Str × Rt)) (G : List Str) : List Str := (rs.filter (inWall G)).map (·.1)
theorem filt_snoc {G : List Str} {rs : List (Str × Rt)} {i : Nat} {n : Str × Rt} (hn : rs[i]? = some n) : (rs.take (i + 1)).filter (inWall G) = (rs.take i).filter (inWall G) ++ (if inWall G n = true then [n] else []) := by
  rw [List.take_add_one, hn, List.filter_append]
  congr 1
  show List.filter (inWall G) [n] = _
  rw [List.filter_cons]
  rfl
section
variable {P : Program} {w : World} {K : PySem.W.Frag} {mg : Str → Option Value} {base : Heap}
variable {fQ fY : Addr} {fdQ fdY : FuncData}
def prON : Pr := fun vs H Q => ∃ (a b : Addr) (rs : List (Str × Rt)) (G : List Str), vs = [.ref a, .ref b] ∧ RightsAt H a rs ∧ rs.length ≤ 10 ∧ WallAt H b G ∧
  ∀ H' p, Same H H' → H p = none → H' p = some (.lst ((ownN rs G).map V.str)) → Q (.ref p) H'
theorem ok_on {f : Addr} {fd : FuncData} {k : Nat} (F : Fun K "_law_own_names" "_law_own_names" sON f fd) : FnG P w K mg base (k + 1) f fd ["_law_held_here", "_law_guard"] prON := by
  refine okG F scON (fun vs H Q h => ?_) (fun cdv A outer s H vs Q hr h => ?_)
  · obtain ⟨_, _, _, _, rfl, _⟩ := h
    rfl
  · obtain ⟨a, b, rs, G, rfl, hRs, lr, hW, q⟩ := h
    have big := sizeBig
    refine ⟨_, pss_one (ps_ret (pe_lc (own := [("_law_name", 2), ("_law_right_here", 3)]) (g := g2 K 2 3) rfl scON.nd (pi_tup (pv 0))
      (blkOk_by (N := NON) (sc := defScope sON) (by decide +kernel)) (fun _ _ _ _ _ => pg_tup rfl (pgs_cons (pg_name (i := 2) scON.nd rfl (.inl rfl)) (pgs_cons (pg_name (i := 3) scON.nd rfl (.inl rfl)) pgs_nil)))
      (fun _ _ _ _ _ => pts_one (pt_cmpR (op_in_seq : OpR _ _ (rIn K false)) (pe_ix (ix_tup : IxR _ (rIxT K)) (pv 3) pe_int (fun _ _ => rfl)) (pe_ix (ix_tup : IxR _ (rIxT K)) (pv 1) pe_int (fun _ _ => rfl)) (by rfl)))
      (fun _ _ _ _ _ => pv 2))), ?_⟩
    obtain ⟨ps, h1, h2⟩ := hRs
    obtain ⟨g, x, y, w1, w2⟩ := hW
    have hlen := Paired.length h2
    refine iRet ⟨.ref a, rfl, a, rfl, ⟨_, sqT h1⟩, fun D hD => ?_⟩
    refine loop_tup (K := K) (a := a) (xs := ps.map V.ref) (fun i H' => Same H H' ∧ H' D = some (.lst ((ownN (rs.take i) G).map V.str))) ⟨same_new hD, by rw [List.take_zero]; exact upd_same⟩ (fun i H' h => sqT (h.1 _ _ h1)) (fun i v H' hv h => ?_) (fun H' h => ?_)
    · obtain ⟨sm, hcs⟩ := h
      rw [List.getElem?_map] at hv
      obtain ⟨pi, hpi, rfl⟩ := Option.map_eq_some_iff.mp hv
      obtain ⟨n, hn, r, hnm, hr'⟩ := paired_at' h2 hpi
      have fl := List.length_filter_le (inWall G) (rs.take i)
      rw [List.length_take] at fl
      obtain ⟨wa, pq, ka, r1, _⟩ := hr'.keep (KeepT.of sm)
      refine ⟨pi, _, rfl, sqT (sm _ _ hnm), rfl, .str n.1, _, rfl, .ref r, _, rfl, rfl, wipe2 (by decide), ?_⟩
      refine ⟨.ref r, rfl, r, _, _, _, rfl, rfl, sqT r1, atI_nat (j := 0) rfl, .ref b, rfl, b, _, _, _, rfl, rfl, sqT (sm _ _ w1), atI_nat (j := 0) rfl, g, G.map V.str, rfl, .inr (sqT (sm _ _ w2)), rfl, flat_strs G, _, rfl, ?_⟩
      have tk := filt_snoc (G := G) hn
      refine ite2 (fun e => ?_) (fun e => ?_)
      · have e' : inWall G n = true := by
          have e : inV (.str n.2.person) (G.map V.str) = true := e
          rw [inV_str] at e
          exact e
        refine ⟨.str n.1, rfl, _, hcs, by unfold ownN; rw [List.length_map, List.length_map]; omega, fun b o e => ?_, ?_⟩
        · rw [upd_ne (ne_of_none e hD)]
          exact sm _ _ e
        · unfold ownN
          rw [upd_same, tk, if_pos e', List.map_append, List.map_append]
          rfl
      · have e' : ¬ inWall G n = true := fun z => e (by
          show inV (.str n.2.person) (G.map V.str) = true
          rw [inV_str]
          exact z)
        refine ⟨sm, ?_⟩
        unfold ownN at hcs ⊢
        rw [tk, if_neg e', List.append_nil]
        exact hcs
    · obtain ⟨sm, hcs⟩ := h
      rw [List.length_map, hlen, List.take_length] at hcs
      exact q _ D sm hD hcs
def prLL : Pr := fun vs H Q => ∃ (a kn b n : Addr) (T : Int) (rs : List (Str × Rt)) (ys : List RowD) (G zs : List Str), vs = [.ref a, .int T, .ref kn, .ref b, .ref n] ∧ Asked H a kn b n T rs ys G zs ∧ (∀ x ∈ rs, NamesUp x.2.ws) ∧
  ∀ H' p, Same H H' → TupRows H' p (ys ++ leftL rs T G zs) → Q (.ref p) H'
theorem ok_ll {f : Addr} {fd : FuncData} {k : Nat} (F : Fun K "_law_left" "_law_left" sLL f fd)
    (FQ : Fun K "_law_question" "_law_question" sLQ fQ fdQ) (bQ : Binds K fdQ ["_law_right_here", "_law_day"] []) (gQ : mg "_law_question" = some (.ref fQ)) (GQ : FnG P w K mg base (k + 1) fQ fdQ ["_law_right_here", "_law_day"] prLQ)
    (FY : Fun K "_law_days" "_law_days" sLD fY fdY) (bY : Binds K fdY ["_law_right_here", "_law_now"] []) (gY : mg "_law_days" = some (.ref fY)) (GY : FnG P w K mg base (k + 1) fY fdY ["_law_right_here", "_law_now"] prLD)
    (mls : mg "list" = none) (mt : mg "tuple" = none) : FnG P w K mg base (k + 2) f fd PSL prLL := by
  refine okG F scLL (fun vs H Q h => ?_) (fun cdv A outer s H vs Q hr h => ?_)
  · obtain ⟨_, _, _, _, _, _, _, _, _, rfl, _⟩ := h
    rfl
  · obtain ⟨a, kn, b, n, T, rs, ys, G, zs, rfl, ask, nu, q⟩ := h
    have big := sizeBig
    refine ⟨_, pss_cons (ps_set (i := 5) scLL.nd rfl (.inl rfl) (pe_callTy call_list_of (by rfl) mls (by decide +kernel) (pa_cons (pv 2) pa_nil)))
      (pss_cons (ps_for PassesOwn.never rfl (pi_tup (pv 0)) (pg_tup rfl (pgs_cons (pg_name (i := 6) scLL.nd rfl (.inl rfl)) (pgs_cons (pg_name (i := 7) scLL.nd rfl (.inr rfl)) pgs_nil)))
        (pss_one (ps_if (PW.pt (pw_and (pt_cmpR (op_in_seq : OpR _ _ (rIn K false)) (pe_ix (ix_tup : IxR _ (rIxT K)) (pv 7) pe_int (fun _ _ => rfl)) (pe_ix (ix_tup : IxR _ (rIxT K)) (pv 3) pe_int (fun _ _ => rfl)) (by rfl)) (pw_and1 (pt_cmpR (op_notIn_seq : OpR _ _ (rIn K true)) (pv 6) (pv 4) (by rfl)))))
          (pss_one (ps_expr (pe_bm PySem.F.plainAttrs_list PySem.F.slot_list_extend PySem.F.type_list_extend mt_extend (pv 5) (pa_cons
            (pe_lc (own := [("_law_day", 8)]) (g := gName 8) (tt := tYes) rfl scLL.nd (pi_list (pe_g GY hr (by rfl) gY FY.kp bY .nil (pa_cons (pv 7) (pa_cons (pv 1) pa_nil)))) (blkOk_by (N := NLL) (sc := defScope sLL) (by decide +kernel))
              (fun _ _ _ _ _ => pg_name (i := 8) scLL.nd rfl (.inl rfl)) (fun _ _ _ _ _ => pts_nil) (fun _ _ _ _ _ => pe_g GQ hr (by rfl) gQ FQ.kp bQ .nil (pa_cons (pv 7) (pa_cons (pv 8) pa_nil)))) pa_nil)))) pss_nil)))
      (pss_one (ps_ret (pe_callTy call_tuple_of (by rfl) mt (by decide +kernel) (pa_cons (pv 5) pa_nil))))), ?_⟩
    obtain ⟨ks, hk1, hk2⟩ := id ask.known
    obtain ⟨ps, h1, h2⟩ := id ask.rights
    obtain ⟨g, x, y, w1, w2⟩ := id ask.wall
    have kl := Paired.length hk2
    have hlen := Paired.length h2
    refine iSeq (iAsg ⟨.ref kn, rfl, kn, _, rfl, .inr (sqT hk1), fun D hD => ?_⟩)
    have s1 := same_new (o := .lst (ks.map V.ref)) hD
    refine iName ?_
    dsimp only
    refine iSeq ?_
    refine ⟨.ref a, rfl, a, rfl, ⟨_, sqT (s1 _ _ h1)⟩, ?_⟩
    refine for_tup (xs := ps.map V.ref) (fun i σ' H' => (∃ x6 x7, σ' = [some (.ref a), some (.int T), some (.ref kn), some (.ref b), some (.ref n), some (.ref D), x6, x7, none]) ∧ Same H H' ∧ ∃ cs, H' D = some (.lst (cs.map V.ref)) ∧ Paired (RowAt H') cs (ys ++ leftL (rs.take i) T G zs))
      ⟨⟨_, _, rfl⟩, s1, ks, upd_same, ?_⟩ (fun i σ' H' _ h => sqT (h.2.1 _ _ h1)) (fun i v σ' H' hv h => ?_) (fun σ' H' h => ?_)
    · rw [List.take_zero]
      show Paired _ ks (ys ++ [])
      rw [List.append_nil]
      exact Paired.mapP hk2 fun _ _ z => z.keep (KeepT.of s1)
    · obtain ⟨⟨x6, x7, rfl⟩, sm, cs, hcs, hcc⟩ := h
      rw [List.getElem?_map] at hv
      obtain ⟨pi, hpi, rfl⟩ := Option.map_eq_some_iff.mp hv
      obtain ⟨m, hm, r, hnm, hr'⟩ := paired_at' h2 hpi
      have mem := List.mem_of_getElem? hm
      obtain ⟨rok, dok⟩ := ask.all m mem
      have hr3 := hr'.keep (KeepT.of sm)
      obtain ⟨wa, pq, ka, r1, _⟩ := id hr3
      have tk : leftL (rs.take (i + 1)) T G zs = leftL (rs.take i) T G zs ++ (if inWall G m = true then partL T zs m else []) := by
        unfold leftL
        rw [filt_snoc hm, List.flatMap_append]
        congr 1
        split
        · show partL T zs m ++ [] = _
          rw [List.append_nil]
        · rfl
      refine ⟨pi, _, rfl, sqT (sm _ _ hnm), rfl, .str m.1, _, rfl, .ref r, _, rfl, rfl, ?_⟩
      dsimp only
      refine iIfS (iAnd ⟨.ref r, rfl, r, _, _, _, rfl, rfl, sqT r1, atI_nat (j := 0) rfl, .ref b, rfl, b, _, _, _, rfl, rfl, sqT (sm _ _ w1), atI_nat (j := 0) rfl, g, G.map V.str, rfl, .inr (sqT (sm _ _ w2)), rfl, flat_strs G, _, rfl, ?_⟩)
      have none' : ∀ {e : (if inWall G m = true then partL T zs m else []) = []}, Paired (RowAt H') cs (ys ++ leftL (rs.take (i + 1)) T G zs) := fun {e} => by
        rw [tk, e, List.append_nil]
        exact hcc
      refine ite2 (fun e => ?_) (fun e => ?_)
      · have e' : inWall G m = true := by
          have e : inV (.str m.2.person) (G.map V.str) = true := e
          rw [inV_str] at e
          exact e
        refine ⟨.str m.1, rfl, .ref n, rfl, n, zs.map V.str, rfl, .inr (sqT (sm _ _ ask.names)), rfl, flat_strs zs, _, rfl, ?_⟩
        refine ite2 (fun e2 => ?_) (fun e2 => ?_)
        · have e3 : ¬ inS m.1 zs = true := fun z => by
            have e2 : (!inV (.str m.1) (zs.map V.str)) = true := e2
            rw [inV_str, z] at e2
            cases e2
          have pl : (if inWall G m = true then partL T zs m else []) = qrows m.2 T := by
            rw [if_pos e']
            unfold partL
            rw [if_neg e3]
          have ql : (qrows m.2 T).length = (daysOf (mx m.2.first T) m.2.last).length := by
            unfold qrows
            rw [List.length_map]
          have q10 := qrows_len dok T
          refine iDrop' ⟨.ref D, rfl, .inl ⟨rfl, _, sqL hcs⟩, ?_⟩
          refine ⟨.ref r, rfl, .int T, rfl, r, m.2, T, rfl, hr3, rok, ask.t0, ask.t9, fun l4 hl4 => ?_⟩
          have s4 := same_new (o := .lst ((daysOf (mx m.2.first T) m.2.last).map V.int)) hl4
          refine ⟨l4, rfl, ⟨_, sqL upd_same⟩, fun D2 hD2 => ?_⟩
          refine loop_lst (K := K) (a := l4) (xs := (daysOf (mx m.2.first T) m.2.last).map V.int) (fun j H5 => Same _ H5 ∧ ∃ es, H5 D2 = some (.lst (es.map V.ref)) ∧ Paired (RowAt H5) es ((qrows m.2 T).take j)) ⟨same_new hD2, [], upd_same, by rw [List.take_zero]; exact .nil⟩ (fun j H5 h => sqL (h.1 _ _ upd_same)) (fun j v H5 hv h => ?_) (fun H5 h => ?_)
          · obtain ⟨sm5, es, hes, hee⟩ := h
            rw [List.getElem?_map] at hv
            obtain ⟨t, ht, rfl⟩ := Option.map_eq_some_iff.mp hv
            have el := Paired.length hee
            rw [List.length_take] at el
            have qt : (qrows m.2 T)[j]? = some (rowQ m.2 t) := by
              unfold qrows
              rw [List.getElem?_map, ht]
              rfl
            have tb : 0 ≤ t ∧ t ≤ 9 := by
              obtain ⟨jj, hjj, e⟩ := List.mem_map.mp (List.mem_of_getElem? ht)
              have hj2 := List.mem_range.mp hjj
              have := dok.f0
              have := dok.l9
              have m1 : m.2.first ≤ mx m.2.first T := by
                unfold mx
                split <;> omega
              omega
            refine ⟨wipe1, iYes (iteT ?_)⟩
            refine ⟨.ref r, rfl, .int t, rfl, r, m.2, t, rfl, (hr3.keep (KeepT.of s4)).keep (KeepT.of sm5), rok, nu m mem, tb.1, tb.2, fun H6 p s6 hp => ?_⟩
            have hDp := s6 _ _ hes
            refine ⟨_, hDp, by rw [List.length_map]; omega, fun b o e => ?_, es ++ [p], by rw [upd_same, List.map_append]; rfl, ?_⟩
            · rw [upd_ne (ne_of_none e hD2)]
              exact s6 _ _ (sm5 _ _ e)
            · have kp : KeepT _ (upd _ D2 (.lst (es.map V.ref ++ [.ref p]))) := KeepT.put hDp fun _ z => nomatch z
              rw [List.take_add_one, qt]
              exact Paired.snoc (Paired.mapP hee fun _ _ z => (z.keep (KeepT.of s6)).keep kp) (hp.keep kp)
          · obtain ⟨sm5, es, hes, hee⟩ := h
            rw [List.length_map, ← ql, List.take_length] at hee
            have el := Paired.length hee
            have cl := Paired.length hcc
            rw [List.length_append] at cl
            have fw := flat_few (T := T) (zs := zs) (l := (rs.take i).filter (inWall G)) fun x hx => ask.all x (List.mem_of_mem_take (List.mem_filter.mp hx).1)
            have f2 := List.length_filter_le (inWall G) (rs.take i)
            rw [List.length_take] at f2
            have few := ask.few
            have ly := ask.ly
            have lf : (leftL (rs.take i) T G zs).length ≤ 10 * ((rs.take i).filter (inWall G)).length := fw
            have s45 := s4.trans sm5
            refine ⟨D, D2, cs.map V.ref, es.map V.ref, rfl, rfl, s45 _ _ hcs, hes, by rw [List.length_map, List.length_map]; omega, ?_⟩
            have kp : KeepT _ (upd _ D (.lst (cs.map V.ref ++ es.map V.ref))) := KeepT.put (s45 _ _ hcs) fun _ z => nomatch z
            refine ⟨⟨_, _, rfl⟩, fun b o e => ?_, cs ++ es, by rw [upd_same, List.map_append], ?_⟩
            · rw [upd_ne (ne_of_none e hD)]
              exact s45 _ _ (sm _ _ e)
            · rw [tk, pl, ← List.append_assoc]
              exact paired_app (Paired.mapP hcc fun _ _ z => (z.keep (KeepT.of s45)).keep kp) (Paired.mapP hee fun _ _ z => z.keep kp)
        · have e3 : inS m.1 zs = true := by
            cases z : inS m.1 zs with
            | true => rfl
            | false => exact absurd (show (!inV (.str m.1) (zs.map V.str)) = true by rw [inV_str, z]; rfl) e2
          refine ⟨⟨_, _, rfl⟩, sm, cs, hcs, none' (e := ?_)⟩
          rw [if_pos e']
          unfold partL
          rw [if_pos e3]
      · have e' : ¬ inWall G m = true := fun z => e (by
          show inV (.str m.2.person) (G.map V.str) = true
          rw [inV_str]
          exact z)
        exact iteF ⟨⟨_, _, rfl⟩, sm, cs, hcs, none' (e := if_neg e')⟩
    · obtain ⟨⟨x6, x7, rfl⟩, sm, cs, hcs, hcc⟩ := h
      dsimp only
      rw [List.length_map, hlen, List.take_length] at hcc
      refine iRet ⟨.ref D, rfl, D, _, rfl, .inl ⟨sqL hcs, fun p hp => ?_⟩⟩
      have s5 := same_new (o := .tup (cs.map V.ref)) hp
      exact q _ p (sm.trans s5) ⟨cs, upd_same, Paired.mapP hcc fun _ _ z => z.keep (KeepT.of s5)⟩
end
end P56
namespace P56
open PySem PySem.Spec PyProof.Rows L2 AskG Ask
abbrev sRt : Stmt := topS 30
abbrev NRt : List Str := ["_law_source_here", "_law_accounts", "_law_person", "_law_weights", "_law_name", "_law_first", "_law_last", "_law_begin", "_law_kinds"]
theorem scRt : FnScope NRt ["_law_source_here", "_law_accounts"] (defScope sRt) := ⟨rfl, rfl, rfl, by decide +kernel, rfl, by decide +kernel, by decide +kernel⟩
theorem KeepF.lst' {F L p : Addr} {H H' : Hp} {b : Int} {ys : List V} (k : KeepF F H H') (f : FeedAt H F L b) (e : H p = some (.lst ys)) : H' p = some (.lst ys) := by
  obtain ⟨_, _, _, _, h, _⟩ := f
  exact k p _ (ne_of e h fun z => nomatch z) e
def abc : List Str := ["a", "b", "c"]
theorem name_ok {n : Str} (h : n ∈ (["ann", "bob", "cy", "a", "b", "c", "p", "q", "r", "s", "t", "u"] : List Str)) {i : Int} (h1 : -100 ≤ i) (h2 : i ≤ 100) : CellOk (n, i) := by
  have lit : i.natAbs.log2 < 1920 := by
    by_cases z : i.natAbs = 0
    · rw [z]
      decide
    · have : i.natAbs < 2 ^ 10 := by omega
      have := (Nat.log2_lt z).mpr this
      omega
  have all : ((["ann", "bob", "cy", "a", "b", "c", "p", "q", "r", "s", "t", "u"] : List Str).all fun n => cellB (n, 0)) = true := by decide +kernel
  have c := cellOk_of (List.all_eq_true.mp all n h)
  exact ⟨c.short, c.plain, c.ok, lit⟩
structure RtG (R : Rt) : Prop where
  ok : RtOk R
  day : DayOk R
  up : NamesUp R.ws
theorem abc_up : abc.Pairwise fun a b => a.cps.toList < b.cps.toList := by
  unfold abc
  decide +kernel
theorem up_of {ws : List Cell} (h : (ws.map (·.1)).Sublist abc) : NamesUp ws := by
  have h1 := abc_up.sublist h
  rw [List.pairwise_map] at h1
  exact h1
/-- weights that the law draws -/
structure WsG (ws : List Cell) : Prop where
  sub : (ws.map (·.1)).Sublist abc
  lit : ∀ x ∈ ws, -1 ≤ x.2 ∧ x.2 ≤ 3
theorem WsG.cells {ws : List Cell} (h : WsG ws) : ws.length ≤ 3 ∧ ∀ x ∈ ws, CellOk x := by
  refine ⟨?_, fun x hx => ?_⟩
  · have := h.sub.length_le
    rw [List.length_map] at this
    exact this
  · obtain ⟨l1, l2⟩ := h.lit x hx
    have hm := h.sub.subset (List.mem_map.mpr ⟨x, hx, rfl⟩)
    obtain ⟨n, i⟩ := x
    refine name_ok (n := n) (i := i) ?_ (by omega) (by omega)
    simp only [abc, List.mem_cons, List.not_mem_nil, or_false] at hm
    rcases hm with z | z | z <;> rw [show n = _ from z] <;> decide +kernel
theorem shaped_cells {ws : List Cell} (h : ∀ x ∈ ws, CellOk x) : SeqAt.shaped (.list (ws.map AskG.cellD)) = true := by
  have h1 : PyData.canLayAll0 (ws.map AskG.cellD) = true := can_all fun x hx => by
    show ((PyData.strOk x.1) && (true && true)) = true
    rw [(h x hx).ok]
    rfl
  have h2 : PyData.depthAll (ws.map AskG.cellD) ≤ 1 := depth_all fun x _ => by
    show max 0 (max 0 0) + 1 ≤ 1
    decide
  show (PyData.canLayAll0 (ws.map AskG.cellD) && decide (PyData.depthAll (ws.map AskG.cellD) + 1 ≤ 64)) = true
  rw [h1, decide_eq_true (by omega)]
  rfl
section
variable {P : Program} {w : World} {K : PySem.W.Frag} {mg : Str → Option Value} {base : Heap}
variable {fD : Addr} {fdD : FuncData}
def prRt : Pr := fun vs H Q => ∃ (F L ac : Addr) (ns : List Str) (b : Int), vs = [.ref F, .ref ac] ∧ FeedAt H F L b ∧ b ≤ 90000 ∧ H ac = some (.lst (ns.map V.str)) ∧ ns.Sublist abc ∧ ns[0]? = some ("a" : Str) ∧
  ∀ H' p R, KeepF F H H' → FeedAt H' F L (b + 12) → RightAt H' p R → RtG R → Q (.ref p) H'
theorem ok_rt {f : Addr} {fd : FuncData} {k : Nat} (F : Fun K "_law_right" "_law_right" sRt f fd)
    (FD : Fun K "_law_next" "_law_next" sDraw fD fdD) (bD : Binds K fdD ["_law_source_here", "_law_limit"] []) (gD : mg "_law_next" = some (.ref fD)) (GD : FnG P w K mg base (k + 1) fD fdD ["_law_source_here", "_law_limit"] prDraw)
    (mt : mg "tuple" = none) : FnG P w K mg base (k + 2) f fd ["_law_source_here", "_law_accounts"] prRt := by
  refine okG F scRt (fun vs H Q h => ?_) (fun cdv A outer s H vs Q hr h => ?_)
  · obtain ⟨_, _, _, _, _, rfl, _⟩ := h
    rfl
  · obtain ⟨F, L, ac, ns, b, rfl, hF, b9, hac, nsub, ns0, q⟩ := h
    have big := sizeBig
    have hun := hr.room.units
    refine ⟨_, pss_cons (ps_set (i := 2) scRt.nd rfl (.inl rfl) (pe_ix (ix_list : IxR _ (rIxL K)) (pe_lst (pa_cons pe_str (pa_cons pe_str (pa_cons pe_str (pa_cons pe_str pa_nil))))) (pe_g GD hr (by rfl) gD FD.kp bD .nil (pa_cons (pv 0) (pa_cons pe_int pa_nil))) (fun _ _ => rfl)))
      (pss_cons (ps_setLc (i := 3) (own := [("_law_name", 4)]) (g := gName 4) rfl scRt.nd rfl rfl (sw_true rfl rfl rfl (by decide +kernel)) (pi_list (pv 1)) (blkOk_by (N := NRt) (sc := defScope sRt) (by decide +kernel))
        (fun _ _ _ _ _ => pg_name (i := 4) scRt.nd rfl (.inl rfl)) (fun _ _ _ _ _ => pts_one (pt_cmpR op_eq (pe_g GD hr (by rfl) gD FD.kp bD .nil (pa_cons (pv 0) (pa_cons pe_int pa_nil))) pe_int (nomark _)))
        (fun _ _ _ _ _ => pe_tup (pa_cons (pv 4) (pa_cons (pe_ix (ix_list : IxR _ (rIxL K)) (pe_lst (pa_cons pe_int (pa_cons pe_int (pa_cons (pe_un un_neg pe_int) (pa_cons pe_int (pa_cons pe_int pa_nil)))))) (pe_g GD hr (by rfl) gD FD.kp bD .nil (pa_cons (pv 0) (pa_cons pe_int pa_nil))) (fun _ _ => rfl)) pa_nil))))
      (pss_cons (ps_if (pt_cmpR (op_eqD hun) (pv 3) (pe_lst pa_nil) (nomark _)) (pss_one (ps_set (i := 3) scRt.nd rfl (.inl rfl) (pe_lst (pa_cons (pe_tup (pa_cons (pe_ix (ix_list : IxR _ (rIxL K)) (pv 1) pe_int (fun _ _ => rfl)) (pa_cons pe_int pa_nil))) pa_nil)))) pss_nil)
      (pss_cons (ps_set (i := 5) scRt.nd rfl (.inl rfl) (pe_g GD hr (by rfl) gD FD.kp bD .nil (pa_cons (pv 0) (pa_cons pe_int pa_nil))))
      (pss_cons (ps_set (i := 6) scRt.nd rfl (.inl rfl) (pe_op op_add (pv 5) (pe_g GD hr (by rfl) gD FD.kp bD .nil (pa_cons (pv 0) (pa_cons pe_int pa_nil)))))
      (pss_cons (ps_set (i := 7) scRt.nd rfl (.inl rfl) (pe_g GD hr (by rfl) gD FD.kp bD .nil (pa_cons (pv 0) (pa_cons pe_int pa_nil))))
      (pss_cons (ps_set (i := 8) scRt.nd rfl (.inl rfl) (pe_lst (pa_cons (pe_tup (pa_cons pe_str (pa_cons (pv 7) pa_nil))) (pa_cons (pe_tup (pa_cons pe_str (pa_cons (pe_op op_add pe_int (pv 7)) pa_nil))) (pa_cons (pe_tup (pa_cons pe_str (pa_cons (pv 7) (pa_cons (pe_op op_add (pv 7) (pe_g GD hr (by rfl) gD FD.kp bD .nil (pa_cons (pv 0) (pa_cons pe_int pa_nil)))) pa_nil)))) pa_nil)))))
      (pss_one (ps_ret (pe_tup (pa_cons (pv 2) (pa_cons (pe_callTy call_tuple_of (by rfl) mt (by decide +kernel) (pa_cons (pv 3) pa_nil)) (pa_cons (pv 5) (pa_cons (pv 6) (pa_cons (pe_ix (ix_list : IxR _ (rIxL K)) (pv 8) (pe_g GD hr (by rfl) gD FD.kp bD .nil (pa_cons (pv 0) (pa_cons pe_int pa_nil))) (fun _ _ => rfl)) pa_nil)))))))))))))), ?_⟩
    have nacF : ac ≠ F := by
      obtain ⟨_, _, _, _, e, _⟩ := hF
      exact ne_of hac e fun z => nomatch z
    have nl3 : ns.length ≤ 3 := nsub.length_le
    -- the person
    refine iSeq (iAsg ⟨by show 4 ≤ sizeLine; omega, fun l1 hl1 => ?_⟩)
    have s1 := same_new (o := .lst [.str "ann", .str "bob", .str "ann", .str "cy"]) hl1
    have hF1 := hF.same s1
    have n1 : l1 ≠ F := by
      obtain ⟨_, _, _, _, e, _⟩ := hF
      exact (ne_of_none e hl1).symm
    refine ⟨.ref F, rfl, F, L, 4, b, rfl, hF1, by decide, by decide, by omega, fun d H2 d0 d1 k2 hF2 => ?_⟩
    obtain ⟨pn, hat, hpn⟩ : ∃ pn : Str, atI [V.str "ann", .str "bob", .str "ann", .str "cy"] d = some (.str pn) ∧ pn ∈ (["ann", "bob", "cy", "a", "b", "c", "p", "q", "r", "s", "t", "u"] : List Str) := by
      obtain ⟨z, rfl⟩ : ∃ z : Nat, d = (z : Int) := ⟨d.toNat, by omega⟩
      have z4 : z < 4 := by omega
      match z, z4 with
      | 0, _ => exact ⟨_, rfl, by decide +kernel⟩
      | 1, _ => exact ⟨_, rfl, by decide +kernel⟩
      | 2, _ => exact ⟨_, rfl, by decide +kernel⟩
      | 3, _ => exact ⟨_, rfl, by decide +kernel⟩
    refine ⟨l1, _, d, .str pn, rfl, rfl, sqL (k2 _ _ n1 upd_same), hat, ?_⟩
    refine iName ?_
    dsimp only
    have k12 := (KeepF.of (F := F) s1).trans k2
    have hac2 := k12 _ _ nacF hac
    -- the weights
    refine iSeq (iAsg ⟨.ref ac, rfl, ac, rfl, ⟨_, sqL hac2⟩, fun D hD => ?_⟩)
    have s3 := same_new (o := .lst []) hD
    have hDn : H D = none := by
      cases e : H D with
      | none => rfl
      | some o =>
        by_cases z : D = F
        · obtain ⟨_, _, _, _, e', _⟩ := hF2
          rw [z, e'] at hD
          cases hD
        · have := k12 _ _ z e
          rw [hD] at this
          cases this
    have nDF : D ≠ F := by
      obtain ⟨_, _, _, _, e, _⟩ := hF2
      exact (ne_of_none e hD).symm
    have nDL : L ≠ D := by
      obtain ⟨_, _, _, _, _, e, _⟩ := hF2
      exact ne_of_none e hD
    have nDac : ac ≠ D := ne_of_none hac2 hD
    refine loop_lst (K := K) (a := ac) (xs := ns.map V.str) (fun i H' => i ≤ 3 ∧ KeepF F H H' ∧ FeedAt H' F L (b + 1 + 2 * (i : Int)) ∧ H' ac = some (.lst (ns.map V.str)) ∧ ∃ ps ws, H' D = some (.lst (ps.map V.ref)) ∧ Paired (AskG.CellAt H') ps ws ∧ (ws.map (·.1)).Sublist (ns.take i) ∧ ∀ x ∈ ws, -1 ≤ x.2 ∧ x.2 ≤ 3)
      ⟨by decide, k12.trans (KeepF.of s3), (hF2.same s3).up (by omega), s3 _ _ hac2, [], [], upd_same, .nil, List.nil_sublist _, fun x hx => absurd hx (by simp)⟩ (fun i H' h => sqL h.2.2.2.1) (fun i x H' hx h => ?_) (fun H' h => ?_)
    · obtain ⟨i3, k1, hF3, hac3, ps, ws, hps, hpp, sub, lit⟩ := h
      rw [List.getElem?_map] at hx
      obtain ⟨z, hz, rfl⟩ := Option.map_eq_some_iff.mp hx
      have il : i < ns.length := (List.getElem?_eq_some_iff.mp hz).1
      have pl := Paired.length hpp
      have wl := sub.length_le
      rw [List.length_map, List.length_take] at wl
      have tk : ns.take (i + 1) = ns.take i ++ [z] := by
        rw [List.take_add_one, hz]
        rfl
      have eb : b + 1 + 2 * ((i + 1 : Nat) : Int) = b + 1 + 2 * (i : Int) + 2 := by omega
      refine ⟨wipe1, .ref F, rfl, F, L, 2, b + 1 + 2 * (i : Int), rfl, hF3, by decide, by decide, by omega, fun d2 H4 d20 d21 k4 hF4 => ?_⟩
      refine ⟨rfl, _, rfl, ?_⟩
      have hps4 := k4 _ _ nDF hps
      refine ite2 (fun e => ?_) (fun e => ?_)
      · refine ⟨.str z, rfl, 1, rfl, by show 5 ≤ sizeLine; omega, fun l5 hl5 => ?_⟩
        have s5 := same_new (o := .lst [.int 1, .int 1, .int (-1), .int 2, .int 3]) hl5
        have n5 : l5 ≠ F := by
          obtain ⟨_, _, _, _, e, _⟩ := hF4
          exact (ne_of_none e hl5).symm
        refine ⟨.ref F, rfl, F, L, 5, b + 1 + 2 * (i : Int) + 1, rfl, hF4.same s5, by decide, by decide, by omega, fun d6 H6 d60 d61 k6 hF6 => ?_⟩
        obtain ⟨wv, hwv, w1, w2⟩ : ∃ wv : Int, atI [V.int 1, .int 1, .int (-1), .int 2, .int 3] d6 = some (.int wv) ∧ -1 ≤ wv ∧ wv ≤ 3 := by
          obtain ⟨z, rfl⟩ : ∃ z : Nat, d6 = (z : Int) := ⟨d6.toNat, by omega⟩
          have z5 : z < 5 := by omega
          match z, z5 with
          | 0, _ => exact ⟨1, rfl, by decide, by decide⟩
          | 1, _ => exact ⟨1, rfl, by decide, by decide⟩
          | 2, _ => exact ⟨-1, rfl, by decide, by decide⟩
          | 3, _ => exact ⟨2, rfl, by decide, by decide⟩
          | 4, _ => exact ⟨3, rfl, by decide, by decide⟩
        refine ⟨l5, _, d6, .int wv, rfl, rfl, sqL (k6 _ _ n5 upd_same), hwv, by show 2 ≤ sizeLine; omega, fun p hp => ?_⟩
        have s7 := same_new (o := .tup [.str z, .int wv]) hp
        have kall := (k4.trans (KeepF.of s5)).trans (k6.trans (KeepF.of s7))
        have hps7 := kall _ _ nDF hps
        have kp : KeepT _ (upd _ D (.lst (ps.map V.ref ++ [.ref p]))) := KeepT.put hps7 fun _ z => nomatch z
        have kt := (kall.tup hF3).trans kp
        refine ⟨_, hps7, by rw [List.length_map]; omega, by omega, fun c o hc e => ?_, ?_, ?_, ps ++ [p], ws ++ [(z, wv)], by rw [upd_same, List.map_append]; rfl, Paired.snoc (Paired.mapP hpp fun _ _ z => z.keepT kt) (kp _ _ upd_same), ?_, fun x hx => ?_⟩
        · rw [upd_ne (ne_of_none e hDn)]
          exact kall _ _ hc (k1 _ _ hc e)
        · rw [eb]
          obtain ⟨ns', a1, l1', m1, e1, e2, e3, e4⟩ := hF6.same s7
          exact ⟨ns', a1, l1', m1, by rw [upd_ne nDF.symm]; exact e1, by rw [upd_ne nDL]; exact e2, e3, by omega⟩
        · rw [upd_ne nDac]
          exact kall _ _ nacF hac3
        · rw [List.map_append, tk]
          exact sub.append (List.Sublist.refl _)
        · rcases List.mem_append.mp hx with h | h
          · exact lit x h
          · rw [List.mem_singleton.mp h]
            exact ⟨w1, w2⟩
      · exact ⟨by omega, k1.trans k4, by rw [eb]; exact hF4.up (by omega), k4 _ _ nacF hac3, ps, ws, hps4, Paired.mapP hpp fun _ _ z => z.keepT (k4.tup hF3), sub.trans (by rw [tk]; exact List.sublist_append_left _ _), lit⟩
    · obtain ⟨_, k1, hF3, hac3, ps, ws, hps, hpp, sub, lit⟩ := h
      rw [List.length_map, List.take_length] at sub
      refine iName ?_
      dsimp only
      have hF3' := hF3.up (c := b + 7) (by rw [List.length_map]; omega)
      clear hF3
      have wg : WsG ws := ⟨sub.trans nsub, lit⟩
      have wc := wg.cells
      refine iSeq ?_
      refine split_s (fun σ' H2 => ∃ (l3 : Addr) (ps : List Addr) (ws : List Cell), σ' = [some (.ref F), some (.ref ac), some (.str pn), some (.ref l3), none, none, none, none, none] ∧ KeepF F H H2 ∧ FeedAt H2 F L (b + 7) ∧ H2 l3 = some (.lst (ps.map V.ref)) ∧ Paired (AskG.CellAt H2) ps ws ∧ WsG ws) (fun nx hnx => ?_) (fun σ' H2 hx => ?_)
      · refine iIfS ⟨.ref D, rfl, Nat.zero_le _, fun e1 he1 => ?_⟩
        have s2 := same_new (o := .lst []) he1
        refine ⟨.list (ws.map AskG.cellD), .list [], .lst (sqL (s2 _ _ hps)) (dp_all (f := AskG.cellD) (R := AskG.CellAt H') (fun _ _ z => dp_cell (z.keepT (KeepT.of s2))) hpp), .lst (sqL upd_same) .nil, shaped_cells wc.2, shaped_nil, _, rfl, ?_⟩
        have k2' := k1.trans (KeepF.of s2)
        have hF4 := hF3'.same s2
        cases ws with
        | nil =>
          refine iteT (iAsg ⟨.ref ac, rfl, ac, _, _, .str "a", rfl, rfl, sqL (s2 _ _ hac3), atI_nat (j := 0) (by rw [List.getElem?_map, ns0]; rfl), by show 2 ≤ sizeLine; omega, fun p1 hp1 => ⟨by show 1 ≤ sizeLine; omega, fun p2 hp2 => ?_⟩⟩)
          have s3 := same_new (o := .tup [.str "a", .int 1]) hp1
          have s4 := same_new (o := .lst [.ref p1]) hp2
          refine iName (hnx _ _ ⟨p2, [p1], [("a", 1)], rfl, k2'.trans (KeepF.of (s3.trans s4)), hF4.same (s3.trans s4), upd_same, .cons (s4 _ _ upd_same) .nil, ?_⟩)
          refine ⟨List.Sublist.cons_cons _ (List.nil_sublist _), fun x hx => ?_⟩
          rw [List.mem_singleton.mp hx]
          exact ⟨by show (-1 : Int) ≤ 1; decide, by show (1 : Int) ≤ 3; decide⟩
        | cons x ws => exact iteF (hnx _ _ ⟨D, ps, x :: ws, rfl, k2', hF4, s2 _ _ hps, Paired.mapP hpp fun _ _ z => z.keepT (KeepT.of s2), wg⟩)
      · clear hps hpp sub lit wg wc hF3' k1 hac3
        obtain ⟨l3, ps, ws, rfl, k1, hF3, hps, hpp, wg⟩ := hx
        dsimp only
        have nl3F : l3 ≠ F := by
          obtain ⟨_, _, _, _, e, _⟩ := hF3
          exact ne_of hps e fun z => nomatch z
        refine iSeq (iAsg ⟨.ref F, rfl, F, L, 4, b + 7, rfl, hF3, by decide, by decide, by omega, fun fi H4 fi0 fi1 k4 hF4 => ?_⟩)
        refine iName ?_
        dsimp only
        refine iSeq (iAsg ⟨.int fi, rfl, .ref F, rfl, F, L, 3, b + 7 + 1, rfl, hF4, by decide, by decide, by omega, fun la H5 la0 la1 k5 hF5 => ⟨fi, la, rfl, rfl, ?_⟩⟩)
        refine iName ?_
        dsimp only
        refine iSeq (iAsg ⟨.ref F, rfl, F, L, 3, b + 7 + 1 + 1, rfl, hF5, by decide, by decide, by omega, fun be H6 be0 be1 k6 hF6 => ?_⟩)
        refine iName ?_
        dsimp only
        refine iSeq (iAsg ⟨.int be, rfl, by show 2 ≤ sizeLine; omega, fun t1 ht1 => ⟨.int be, rfl, 1, be, rfl, rfl, by show 2 ≤ sizeLine; omega, fun t2 ht2 => ?_⟩⟩)
        have s7 := same_new (o := .tup [.str "total", .int be]) ht1
        have s8 := same_new (o := .tup [.str "window", .int (1 + be)]) ht2
        have s78 := s7.trans s8
        refine ⟨.int be, rfl, .int be, rfl, .ref F, rfl, F, L, 2, b + 7 + 1 + 1 + 1, rfl, hF6.same s78, by decide, by decide, by omega, fun ed H9 ed0 ed1 k9 hF9 => ⟨be, ed, rfl, rfl, by show 3 ≤ sizeLine; omega, fun t3 ht3 => ?_⟩⟩
        have s10 := same_new (o := .tup [.str "period", .int be, .int (be + ed)]) ht3
        refine ⟨by show 3 ≤ sizeLine; omega, fun l8 hl8 => ?_⟩
        have s11 := same_new (o := .lst [.ref t1, .ref t2, .ref t3]) hl8
        refine iName ?_
        dsimp only
        have kt9 := k9.tup (hF6.same s78)
        have ht1' := s11 _ _ (s10 _ _ (kt9 _ _ (s8 _ _ (upd_same (H := H6) (a := t1) (o := .tup [.str "total", .int be])))))
        have ht2' := s11 _ _ (s10 _ _ (kt9 _ _ (upd_same (H := upd H6 t1 (.tup [.str "total", .int be])) (a := t2) (o := .tup [.str "window", .int (1 + be)]))))
        have ht3' := s11 _ _ (upd_same (H := H9) (a := t3) (o := .tup [.str "period", .int be, .int (be + ed)]))
        have s1011 := s10.trans s11
        have hF11 := hF9.same s1011
        have k11 := ((((k4.trans k5).trans k6).trans (KeepF.of s78)).trans k9).trans (KeepF.of s1011)
        have hps11 := k11 _ _ nl3F hps
        have hpp11 : Paired (AskG.CellAt _) ps ws := Paired.mapP hpp fun _ _ z => z.keepT (k11.tup hF3)
        have hl8' : (upd (upd H9 t3 (.tup [.str "period", .int be, .int (be + ed)])) l8 (.lst [.ref t1, .ref t2, .ref t3])) l8 = some (.lst [.ref t1, .ref t2, .ref t3]) := upd_same
        generalize upd (upd H9 t3 (.tup [.str "period", .int be, .int (be + ed)])) l8 (.lst [.ref t1, .ref t2, .ref t3]) = H11 at ht1' ht2' ht3' hF11 k11 hps11 hpp11 hl8' s11 s1011 ⊢
        refine iRet ⟨.str pn, rfl, .ref l3, rfl, l3, _, rfl, .inl ⟨sqL hps11, fun wp hwp => ?_⟩⟩
        have s12 := same_new (o := .tup (ps.map V.ref)) hwp
        refine ⟨.int fi, rfl, .int (fi + la), rfl, .ref l8, rfl, .ref F, rfl, F, L, 3, b + 7 + 1 + 1 + 1 + 1, rfl, hF11.same s12, by decide, by decide, by omega, fun kk H13 kk0 kk1 k13 hF13 => ?_⟩
        have hl13 := k13.lst' (hF11.same s12) (s12 _ _ hl8')
        have kt13 := k13.tup (hF11.same s12)
        obtain ⟨ka, kd, hat', hka, hkd⟩ : ∃ (ka : Addr) (kd : KindM), atI [V.ref t1, .ref t2, .ref t3] kk = some (.ref ka) ∧ H13 ka = some (.tup kd.vals) ∧ kd.Ok := by
          obtain ⟨z, rfl⟩ : ∃ z : Nat, kk = (z : Int) := ⟨kk.toNat, by omega⟩
          have z3 : z < 3 := by omega
          match z, z3 with
          | 0, _ => exact ⟨t1, .tot be, rfl, kt13 _ _ (s12 _ _ ht1'), ⟨by omega, by omega⟩⟩
          | 1, _ => exact ⟨t2, .win (1 + be), rfl, kt13 _ _ (s12 _ _ ht2'), ⟨by omega, by omega⟩⟩
          | 2, _ => exact ⟨t3, .per be (be + ed), rfl, kt13 _ _ (s12 _ _ ht3'), ⟨by omega, by omega, by omega, by omega⟩⟩
        refine ⟨l8, _, kk, .ref ka, rfl, rfl, sqL hl13, hat', by show 5 ≤ sizeLine; omega, fun pr hpr => ?_⟩
        have s14 := same_new (o := .tup [.str pn, .ref wp, .int fi, .int (fi + la), .ref ka]) hpr
        have wc := wg.cells
        refine q _ pr ⟨pn, ws, fi, fi + la, kd⟩ (((k1.trans k11).trans (KeepF.of s12)).trans (k13.trans (KeepF.of s14))) ((hF13.same s14).up (by omega)) ⟨wp, ps, ka, upd_same, s14 _ _ (kt13 _ _ upd_same), Paired.mapP hpp11 fun _ _ z => ((z.keepT (KeepT.of s12)).keepT kt13).keepT (KeepT.of s14), s14 _ _ hka⟩ ?_
        refine ⟨⟨name_ok hpn (by decide) (by decide), wc.1, wc.2, fi0, by show fi ≤ 30; omega, by show 0 ≤ fi + la; omega, by show fi + la ≤ 30; omega, hkd⟩, ⟨fi0, by show fi + la ≤ 9; omega⟩, up_of wg.sub⟩
end
end P56
namespace P56
open PySem PySem.Spec PyProof.Rows L2 AskG Ask
abbrev sHeld : Stmt := topS 32
abbrev NHeld : List Str := ["_law_source_here", "_law_most", "_law_labels", "_law_name"]
theorem scHeld : FnScope NHeld ["_law_source_here", "_law_most"] (defScope sHeld) := ⟨rfl, rfl, rfl, by decide +kernel, rfl, by decide +kernel, by decide +kernel⟩
def sixL : List Str := ["p", "q", "r", "s", "t", "u"]
/-- the rights that the law draws -/
structure HeldG (rs : List (Str × Rt)) : Prop where
  few : rs.length ≤ 6
  all : ∀ x ∈ rs, RtG x.2
  names : ∀ x ∈ rs, x.1 ∈ sixL
section
variable {P : Program} {w : World} {K : PySem.W.Frag} {mg : Str → Option Value} {base : Heap}
variable {fD fR : Addr} {fdD fdR : FuncData}
def prHeld : Pr := fun vs H Q => ∃ (F L : Addr) (b : Int), vs = [.ref F, .int 6] ∧ FeedAt H F L b ∧ b ≤ 80000 ∧
  ∀ H' p rs, KeepF F H H' → FeedAt H' F L (b + 79) → RightsAt H' p rs → HeldG rs → Q (.ref p) H'
theorem ok_held {f : Addr} {fd : FuncData} {k : Nat} (F : Fun K "_law_held" "_law_held" sHeld f fd)
    (FD : Fun K "_law_next" "_law_next" sDraw fD fdD) (bD : Binds K fdD ["_law_source_here", "_law_limit"] []) (gD : mg "_law_next" = some (.ref fD)) (GD : FnG P w K mg base (k + 2) fD fdD ["_law_source_here", "_law_limit"] prDraw)
    (FR : Fun K "_law_right" "_law_right" sRt fR fdR) (bR : Binds K fdR ["_law_source_here", "_law_accounts"] []) (gR : mg "_law_right" = some (.ref fR)) (GR : FnG P w K mg base (k + 2) fR fdR ["_law_source_here", "_law_accounts"] prRt)
    (mt : mg "tuple" = none) : FnG P w K mg base (k + 3) f fd ["_law_source_here", "_law_most"] prHeld := by
  refine okG F scHeld (fun vs H Q h => ?_) (fun cdv A outer s H vs Q hr h => ?_)
  · obtain ⟨_, _, _, rfl, _⟩ := h
    rfl
  · obtain ⟨F, L, b, rfl, hF, b9, q⟩ := h
    have big := sizeBig
    refine ⟨_, pss_cons (ps_set (i := 2) scHeld.nd rfl (.inl rfl) (pe_slice sl_list (pe_lst (pa_cons pe_str (pa_cons pe_str (pa_cons pe_str (pa_cons pe_str (pa_cons pe_str (pa_cons pe_str pa_nil))))))) po_none (po_some (pe_op op_add pe_int (pe_g GD hr (by rfl) gD FD.kp bD .nil (pa_cons (pv 0) (pa_cons (pv 1) pa_nil)))))))
      (pss_one (ps_ret (pe_callTy call_tuple_of (by rfl) mt (by decide +kernel) (pa_cons (pe_lc (own := [("_law_name", 3)]) (g := gName 3) (tt := tYes) rfl scHeld.nd (pi_list (pv 2)) (blkOk_by (N := NHeld) (sc := defScope sHeld) (by decide +kernel))
        (fun _ _ _ _ _ => pg_name (i := 3) scHeld.nd rfl (.inl rfl)) (fun _ _ _ _ _ => pts_nil)
        (fun _ _ _ _ _ => pe_tup (pa_cons (pv 3) (pa_cons (pe_g GR hr (by rfl) gR FR.kp bR .nil (pa_cons (pv 0) (pa_cons (pe_slice (sl_list : SlR _ (rSlL K)) (pe_lst (pa_cons pe_str (pa_cons pe_str (pa_cons pe_str pa_nil)))) po_none (po_some (pe_op op_add pe_int (pe_g GD hr (by rfl) gD FD.kp bD .nil (pa_cons (pv 0) (pa_cons pe_int pa_nil)))))) pa_nil))) pa_nil)))) pa_nil)))), ?_⟩
    refine iSeq (iAsg ⟨by show 6 ≤ sizeLine; omega, fun l1 hl1 => ?_⟩)
    have s1 := same_new (o := .lst (sixL.map V.str)) hl1
    have hF1 := hF.same s1
    have n1 : l1 ≠ F := by
      obtain ⟨_, _, _, _, e, _⟩ := hF
      exact (ne_of_none e hl1).symm
    refine ⟨.ref F, rfl, .int 6, rfl, F, L, 6, b, rfl, hF1, by decide, by decide, by omega, fun d H2 d0 d1 k2 hF2 => ⟨1, d, rfl, rfl, 1 + d, rfl, l1, sixL.map V.str, rfl, sqL (k2 _ _ n1 upd_same), fun lc hlc => ?_⟩⟩
    obtain ⟨ns, hcut, nsub⟩ : ∃ ns : List Str, cutV (sixL.map V.str) none (some (1 + d)) = ns.map V.str ∧ ns.Sublist sixL := by
      obtain ⟨z, rfl⟩ : ∃ z : Nat, d = (z : Int) := ⟨d.toNat, by omega⟩
      have z6 : z < 6 := by omega
      match z, z6 with
      | 0, _ => exact ⟨sixL.take 1, rfl, List.take_sublist _ _⟩
      | 1, _ => exact ⟨sixL.take 2, rfl, List.take_sublist _ _⟩
      | 2, _ => exact ⟨sixL.take 3, rfl, List.take_sublist _ _⟩
      | 3, _ => exact ⟨sixL.take 4, rfl, List.take_sublist _ _⟩
      | 4, _ => exact ⟨sixL.take 5, rfl, List.take_sublist _ _⟩
      | 5, _ => exact ⟨sixL.take 6, rfl, List.take_sublist _ _⟩
    rw [hcut]
    have s3 := same_new (o := .lst (ns.map V.str)) hlc
    have hF3 := hF2.same s3
    have nlF : lc ≠ F := by
      obtain ⟨_, _, _, _, e, _⟩ := hF2
      exact (ne_of_none e hlc).symm
    have k3 := ((KeepF.of (F := F) s1).trans k2).trans (KeepF.of s3)
    have hlc3 : (upd H2 lc (.lst (ns.map V.str))) lc = some (.lst (ns.map V.str)) := upd_same
    generalize upd H2 lc (.lst (ns.map V.str)) = H3 at hF3 k3 hlc3 ⊢
    have nl6 : ns.length ≤ 6 := nsub.length_le
    refine iName ?_
    dsimp only
    refine iRet ⟨.ref lc, rfl, lc, rfl, ⟨_, sqL hlc3⟩, fun D hD => ?_⟩
    have s4 := same_new (o := .lst []) hD
    have nDF : D ≠ F := by
      obtain ⟨_, _, _, _, e, _⟩ := hF3
      exact (ne_of_none e hD).symm
    have nDL : L ≠ D := by
      obtain ⟨_, _, _, _, _, e, _⟩ := hF3
      exact ne_of_none e hD
    have nDl : lc ≠ D := ne_of_none hlc3 hD
    refine loop_lst (K := K) (a := lc) (xs := ns.map V.str) (fun i H' => i ≤ 6 ∧ (∀ c o, c ≠ F → H3 c = some o → H' c = some o) ∧ FeedAt H' F L (b + 1 + 13 * (i : Int)) ∧ ∃ ps rs, H' D = some (.lst (ps.map V.ref)) ∧ Paired (NamedAt H') ps rs ∧ rs.length ≤ i ∧ (∀ x ∈ rs, RtG x.2) ∧ ∀ x ∈ rs, x.1 ∈ sixL)
      ⟨by decide, fun c o _ e => s4 _ _ e, (hF3.same s4).up (by omega), [], [], upd_same, .nil, Nat.le_refl _, fun x hx => absurd hx (by simp), fun x hx => absurd hx (by simp)⟩ (fun i H' h => sqL (h.2.1 _ _ nlF hlc3)) (fun i x H' hx h => ?_) (fun H' h => ?_)
    · obtain ⟨i6, kk, hF5, ps, rs, hps, hpp, rl, ra, rn⟩ := h
      rw [List.getElem?_map] at hx
      obtain ⟨z, hz, rfl⟩ := Option.map_eq_some_iff.mp hx
      have il : i < ns.length := (List.getElem?_eq_some_iff.mp hz).1
      have pl := Paired.length hpp
      have eb : b + 1 + 13 * ((i + 1 : Nat) : Int) = b + 1 + 13 * (i : Int) + 13 := by omega
      refine ⟨wipe1, iYes (iteT ?_)⟩
      refine ⟨.str z, rfl, .ref F, rfl, by show 3 ≤ sizeLine; omega, fun l6 hl6 => ?_⟩
      have s6 := same_new (o := .lst (abc.map V.str)) hl6
      have n6 : l6 ≠ F := by
        obtain ⟨_, _, _, _, e, _⟩ := hF5
        exact (ne_of_none e hl6).symm
      refine ⟨.ref F, rfl, F, L, 2, b + 1 + 13 * (i : Int), rfl, hF5.same s6, by decide, by decide, by omega, fun d7 H7 d70 d71 k7 hF7 => ⟨2, d7, rfl, rfl, 2 + d7, rfl, l6, abc.map V.str, rfl, sqL (k7 _ _ n6 upd_same), fun l8 hl8 => ?_⟩⟩
      obtain ⟨as, acut, asub, as0⟩ : ∃ as : List Str, cutV (abc.map V.str) none (some (2 + d7)) = as.map V.str ∧ as.Sublist abc ∧ as[0]? = some ("a" : Str) := by
        obtain ⟨z, rfl⟩ : ∃ z : Nat, d7 = (z : Int) := ⟨d7.toNat, by omega⟩
        have z2 : z < 2 := by omega
        match z, z2 with
        | 0, _ => exact ⟨abc.take 2, rfl, List.take_sublist _ _, rfl⟩
        | 1, _ => exact ⟨abc.take 3, rfl, List.take_sublist _ _, rfl⟩
      rw [acut]
      have s8 := same_new (o := .lst (as.map V.str)) hl8
      refine ⟨F, L, l8, as, b + 1 + 13 * (i : Int) + 1, rfl, hF7.same s8, by omega, upd_same, asub, as0, fun H9 p9 R k9 hF9 hR9 rg => ?_⟩
      refine ⟨by show 2 ≤ sizeLine; omega, fun p hp => ?_⟩
      have s10 := same_new (o := .tup [.str z, .ref p9]) hp
      have kall := ((KeepF.of (F := F) s6).trans (k7.trans (KeepF.of s8))).trans (k9.trans (KeepF.of s10))
      have hps10 := kall _ _ nDF hps
      have kp : KeepT _ (upd _ D (.lst (ps.map V.ref ++ [.ref p]))) := KeepT.put hps10 fun _ z => nomatch z
      have kt := (kall.tup hF5).trans kp
      refine ⟨_, hps10, by rw [List.length_map]; omega, by omega, fun c o hc e => ?_, ?_, ps ++ [p], rs ++ [(z, R)], by rw [upd_same, List.map_append]; rfl, Paired.snoc (Paired.mapP hpp fun _ _ z => z.keep kt) ⟨p9, kp _ _ upd_same, (hR9.keep (KeepT.of s10)).keep kp⟩, by rw [List.length_append]; show _ + 1 ≤ _; omega, fun x hx => ?_, fun x hx => ?_⟩
      · rw [upd_ne (ne_of_none e hD)]
        exact kall _ _ hc (kk _ _ hc e)
      · rw [eb]
        obtain ⟨ns', a1, l1', m1, e1, e2, e3, e4⟩ := hF9.same s10
        exact ⟨ns', a1, l1', m1, by rw [upd_ne nDF.symm]; exact e1, by rw [upd_ne nDL]; exact e2, e3, by omega⟩
      · rcases List.mem_append.mp hx with h | h
        · exact ra x h
        · rw [List.mem_singleton.mp h]
          exact rg
      · rcases List.mem_append.mp hx with h | h
        · exact rn x h
        · rw [List.mem_singleton.mp h]
          exact nsub.subset (List.mem_of_getElem? hz)
    · obtain ⟨_, kk, hF5, ps, rs, hps, hpp, rl, ra, rn⟩ := h
      rw [List.length_map] at rl hF5
      refine ⟨D, _, rfl, .inl ⟨sqL hps, fun p hp => ?_⟩⟩
      have s5 := same_new (o := .tup (ps.map V.ref)) hp
      exact q _ p rs (k3.trans (fun c o hc e => s5 _ _ (kk c o hc e))) ((hF5.same s5).up (by omega)) ⟨ps, upd_same, Paired.mapP hpp fun _ _ z => z.keep (KeepT.of s5)⟩ ⟨by omega, ra, rn⟩
end
end P56
namespace P56
open PySem PySem.Spec PyProof.Rows L2 AskG Ask
abbrev sExp : Stmt := topS 38
abbrev NExp : List Str := ["_law_held_here", "_law_now", "_law_seen", "_law_guard", "_law_given", "_law_strange", "_law_name"]
theorem scExp : FnScope NExp PSL (defScope sExp) := ⟨rfl, rfl, rfl, by decide +kernel, rfl, by decide +kernel, by decide +kernel⟩
theorem head_filter {α : Type} (p : α → Bool) : ∀ l : List α, (l.filter p).head? = l.find? p
  | [] => rfl
  | x :: l => by
    rw [List.filter_cons, List.find?_cons]
    cases p x with
    | true => rfl
    | false => exact head_filter p l
section
variable {P : Program} {w : World} {K : PySem.W.Frag} {mg : Str → Option Value} {base : Heap}
variable {fO fL : Addr} {fdO fdL : FuncData}
def oddL (rs : List (Str × Rt)) (G zs : List Str) : List Str := zs.filter fun z => !inS z (ownN rs G)
theorem odd_head (rs : List (Str × Rt)) (G zs : List Str) : (oddL rs G zs).head? = strange (rs.filter (inWall G)) zs := head_filter _ zs
def prExp : Pr := fun vs H Q => ∃ (a kn b n : Addr) (T : Int) (rs : List (Str × Rt)) (ys : List RowD) (G zs : List Str), vs = [.ref a, .int T, .ref kn, .ref b, .ref n] ∧ Asked H a kn b n T rs ys G zs ∧ (∀ x ∈ rs, NamesUp x.2.ws) ∧ zs.length ≤ 100 ∧ (∀ z ∈ zs, PyData.strOk z = true) ∧
  (∀ z, strange (rs.filter (inWall G)) zs = some z → ∀ H' p, Same H H' → H' p = some (.tup [.str "name", .str z]) → Q (.ref p) H') ∧
  (strange (rs.filter (inWall G)) zs = none → ∀ H' p r, Same H H' → H' p = some (.tup [.str "value", .ref r]) → TupRows H' r (ys ++ leftL rs T G zs) → Q (.ref p) H')
theorem ok_exp {f : Addr} {fd : FuncData} {k : Nat} (F : Fun K "_law_expected" "_law_expected" sExp f fd)
    (FO : Fun K "_law_own_names" "_law_own_names" sON fO fdO) (bO : Binds K fdO ["_law_held_here", "_law_guard"] []) (gO : mg "_law_own_names" = some (.ref fO)) (GO : FnG P w K mg base (k + 2) fO fdO ["_law_held_here", "_law_guard"] prON)
    (FL : Fun K "_law_left" "_law_left" sLL fL fdL) (bL : Binds K fdL PSL []) (gL : mg "_law_left" = some (.ref fL)) (GL : FnG P w K mg base (k + 2) fL fdL PSL prLL) : FnG P w K mg base (k + 3) f fd PSL prExp := by
  refine okG F scExp (fun vs H Q h => ?_) (fun cdv A outer s H vs Q hr h => ?_)
  · obtain ⟨_, _, _, _, _, _, _, _, _, rfl, _⟩ := h
    rfl
  · obtain ⟨a, kn, b, n, T, rs, ys, G, zs, rfl, ask, nu, lz, zok, q1, q2⟩ := h
    have big := sizeBig
    have hun := hr.room.units
    refine ⟨_, pss_cons (ps_setLc (i := 5) (own := [("_law_name", 6)]) (g := gName 6) rfl scExp.nd rfl rfl (sw_true rfl rfl rfl (by decide +kernel)) (pi_tup (pv 4)) (blkOk_by (N := NExp) (sc := defScope sExp) (by decide +kernel))
        (fun _ _ _ _ _ => pg_name (i := 6) scExp.nd rfl (.inl rfl)) (fun _ _ _ _ _ => pts_one (pt_cmpR (op_notIn_seq : OpR _ _ (rIn K true)) (pv 6) (pe_g GO hr (by rfl) gO FO.kp bO .nil (pa_cons (pv 0) (pa_cons (pv 3) pa_nil))) (by rfl))) (fun _ _ _ _ _ => pv 6))
      (pss_cons (ps_if (pt_cmpR (op_neD hun) (pv 5) (pe_lst pa_nil) (nomark _)) (pss_one (ps_ret (pe_tup (pa_cons pe_str (pa_cons (pe_ix (ix_list : IxR _ (rIxL K)) (pv 5) pe_int (fun _ _ => rfl)) pa_nil))))) pss_nil)
      (pss_one (ps_ret (pe_tup (pa_cons pe_str (pa_cons (pe_g GL hr (by rfl) gL FL.kp bL .nil (pa_cons (pv 0) (pa_cons (pv 1) (pa_cons (pv 2) (pa_cons (pv 3) (pa_cons (pv 4) pa_nil)))))) pa_nil)))))), ?_⟩
    refine iSeq (iAsg ⟨.ref n, rfl, n, rfl, ⟨_, sqT ask.names⟩, fun D hD => ?_⟩)
    refine loop_tup (K := K) (a := n) (xs := zs.map V.str) (fun i H' => Same H H' ∧ H' D = some (.lst ((oddL rs G (zs.take i)).map V.str))) ⟨same_new hD, by rw [List.take_zero]; exact upd_same⟩ (fun i H' h => sqT (h.1 _ _ ask.names)) (fun i v H' hv h => ?_) (fun H1 h => ?_)
    · obtain ⟨sm, hcs⟩ := h
      rw [List.getElem?_map] at hv
      obtain ⟨z, hz, rfl⟩ := Option.map_eq_some_iff.mp hv
      have as' := ask.keep (KeepT.of sm)
      have fl : (oddL rs G (zs.take i)).length ≤ (zs.take i).length := List.length_filter_le _ _
      rw [List.length_take] at fl
      refine ⟨wipe1, .str z, rfl, .ref a, rfl, .ref b, rfl, a, b, rs, G, rfl, as'.rights, as'.few, as'.wall, fun H2 p2 s2 hp20 hp2 => ?_⟩
      refine ⟨p2, (ownN rs G).map V.str, rfl, .inl (sqL hp2), rfl, flat_strs _, _, rfl, ?_⟩
      have tk : oddL rs G (zs.take (i + 1)) = oddL rs G (zs.take i) ++ (if (!inS z (ownN rs G)) = true then [z] else []) := by
        unfold oddL
        rw [List.take_add_one, hz, List.filter_append]
        congr 1
        show List.filter _ [z] = _
        rw [List.filter_cons]
        rfl
      refine ite2 (fun e => ?_) (fun e => ?_)
      · have e' : (!inS z (ownN rs G)) = true := by
          have e : (!inV (.str z) ((ownN rs G).map V.str)) = true := e
          rw [inV_str] at e
          exact e
        refine ⟨.str z, rfl, _, s2 _ _ hcs, by rw [List.length_map]; omega, fun b o e => ?_, ?_⟩
        · rw [upd_ne (ne_of_none e hD)]
          exact s2 _ _ (sm _ _ e)
        · rw [upd_same, tk, if_pos e', List.map_append]
          rfl
      · have e' : ¬ (!inS z (ownN rs G)) = true := fun y => e (by
          show (!inV (.str z) ((ownN rs G).map V.str)) = true
          rw [inV_str]
          exact y)
        refine ⟨sm.trans s2, ?_⟩
        rw [tk, if_neg e', List.append_nil]
        exact s2 _ _ hcs
    · obtain ⟨sm, hcs⟩ := h
      rw [List.length_map, List.take_length] at hcs
      refine iName ?_
      dsimp only
      refine iSeq (iIfS ⟨.ref D, rfl, Nat.zero_le _, fun e1 he1 => ?_⟩)
      have s2 := same_new (o := .lst []) he1
      have s12 := sm.trans s2
      have okn : ∀ z ∈ oddL rs G zs, PyData.strOk z = true := fun z hz => zok z (List.mem_filter.mp hz).1
      refine ⟨.list ((oddL rs G zs).map PyData.str), .list [], .lst (sqL (s2 _ _ hcs)) (dp_tstr _), .lst (sqL upd_same) .nil, shaped_lstr okn, shaped_nil, _, rfl, ?_⟩
      have oh := odd_head rs G zs
      have hcs2 := s2 _ _ hcs
      cases ho : oddL rs G zs with
      | nil =>
        rw [ho] at oh hcs2
        refine iteF (iNext ?_)
        dsimp only
        have as2 := ask.keep (KeepT.of s12)
        refine iRet ⟨.ref a, rfl, .int T, rfl, .ref kn, rfl, .ref b, rfl, .ref n, rfl, a, kn, b, n, T, rs, ys, G, zs, rfl, as2, nu, fun H3 p3 s3 h3 => ?_⟩
        refine ⟨by show 2 ≤ sizeLine; omega, fun p hp => ?_⟩
        have s4 := same_new (o := .tup [.str "value", .ref p3]) hp
        exact q2 oh.symm _ p p3 ((s12.trans s3).trans s4) upd_same (h3.keep (KeepT.of s4))
      | cons z l =>
        rw [ho] at oh hcs2
        refine iteT (iRet ⟨.ref D, rfl, D, _, _, .str z, rfl, rfl, sqL hcs2, atI_nat (j := 0) rfl, by show 2 ≤ sizeLine; omega, fun p hp => ?_⟩)
        have s4 := same_new (o := .tup [.str "name", .str z]) hp
        exact q1 z oh.symm _ p (s12.trans s4) upd_same
end
end P56
namespace P56
open PySem PySem.Spec PyProof.Rows L2 AskG Ask
abbrev sSome : Stmt := topS 39
abbrev NSome : List Str := ["_law_source_here", "_law_labels", "_law_name"]
theorem scSome : FnScope NSome ["_law_source_here", "_law_labels"] (defScope sSome) := ⟨rfl, rfl, rfl, by decide +kernel, rfl, by decide +kernel, by decide +kernel⟩
section
variable {P : Program} {w : World} {K : PySem.W.Frag} {mg : Str → Option Value} {base : Heap}
variable {fD : Addr} {fdD : FuncData}
def prSome : Pr := fun vs H Q => ∃ (F L l : Addr) (ns : List Str) (b : Int), vs = [.ref F, .ref l] ∧ FeedAt H F L b ∧ b ≤ 80000 ∧ H l = some (.lst (ns.map V.str)) ∧ ns.length ≤ 10 ∧
  ∀ H' p zs, KeepF F H H' → FeedAt H' F L (b + 10) → TxtAt H' p zs → zs.length ≤ 10 → (∀ z ∈ zs, z ∈ ns) → Q (.ref p) H'
theorem ok_some {f : Addr} {fd : FuncData} {k : Nat} (F : Fun K "_law_some" "_law_some" sSome f fd)
    (FD : Fun K "_law_next" "_law_next" sDraw fD fdD) (bD : Binds K fdD ["_law_source_here", "_law_limit"] []) (gD : mg "_law_next" = some (.ref fD)) (GD : FnG P w K mg base (k + 1) fD fdD ["_law_source_here", "_law_limit"] prDraw)
    (mt : mg "tuple" = none) (ms : mg "sorted" = none) : FnG P w K mg base (k + 2) f fd ["_law_source_here", "_law_labels"] prSome := by
  refine okG F scSome (fun vs H Q h => ?_) (fun cdv A outer s H vs Q hr h => ?_)
  · obtain ⟨_, _, _, _, _, rfl, _⟩ := h
    rfl
  · obtain ⟨F, L, l, ns, b, rfl, hF, b9, hl, nl, q⟩ := h
    have big := sizeBig
    have nlF : l ≠ F := by
      obtain ⟨_, _, _, _, e, _⟩ := hF
      exact ne_of hl e fun z => nomatch z
    refine ⟨_, pss_one (ps_ret (pe_callTy call_tuple_of (by rfl) mt (by decide +kernel) (pa_cons (pe_callB cr_sortedS (by rfl) ms (by decide +kernel) (pa_cons (pe_lc (own := [("_law_name", 2)]) (g := gName 2) rfl scSome.nd (pi_list (pv 1)) (blkOk_by (N := NSome) (sc := defScope sSome) (by decide +kernel))
        (fun _ _ _ _ _ => pg_name (i := 2) scSome.nd rfl (.inl rfl)) (fun _ _ _ _ _ => pts_one (pt_cmpR op_eq (pe_g GD hr (by rfl) gD FD.kp bD .nil (pa_cons (pv 0) (pa_cons pe_int pa_nil))) pe_int (nomark _))) (fun _ _ _ _ _ => pv 2)) pa_nil)) pa_nil))), ?_⟩
    refine iRet ⟨.ref l, rfl, l, rfl, ⟨_, sqL hl⟩, fun D hD => ?_⟩
    have s1 := same_new (o := .lst []) hD
    have nDF : D ≠ F := by
      obtain ⟨_, _, _, _, e, _⟩ := hF
      exact (ne_of_none e hD).symm
    have nDL : L ≠ D := by
      obtain ⟨_, _, _, _, _, e, _⟩ := hF
      exact ne_of_none e hD
    have nDl : l ≠ D := ne_of_none hl hD
    refine loop_lst (K := K) (a := l) (xs := ns.map V.str) (fun i H' => i ≤ ns.length ∧ KeepF F H H' ∧ FeedAt H' F L (b + (i : Int)) ∧ ∃ zs, H' D = some (.lst (zs.map V.str)) ∧ zs.length ≤ i ∧ ∀ z ∈ zs, z ∈ ns)
      ⟨Nat.zero_le _, KeepF.of s1, (hF.same s1).up (by omega), [], upd_same, Nat.le_refl _, fun z hz => absurd hz (by simp)⟩ (fun i H' h => sqL (h.2.1 _ _ nlF hl)) (fun i x H' hx h => ?_) (fun H' h => ?_)
    · obtain ⟨_, k1, hF1, zs, hzs, zl, zn⟩ := h
      rw [List.getElem?_map] at hx
      obtain ⟨z, hz, rfl⟩ := Option.map_eq_some_iff.mp hx
      have il : i < ns.length := (List.getElem?_eq_some_iff.mp hz).1
      have eb : b + ((i + 1 : Nat) : Int) = b + (i : Int) + 1 := by omega
      refine ⟨wipe1, .ref F, rfl, F, L, 2, b + (i : Int), rfl, hF1, by decide, by decide, by omega, fun d H2 d0 d1 k2 hF2 => ?_⟩
      refine ⟨rfl, _, rfl, ?_⟩
      have hzs2 := k2 _ _ nDF hzs
      refine ite2 (fun e => ?_) (fun e => ?_)
      · refine ⟨.str z, rfl, _, hzs2, by rw [List.length_map]; omega, by omega, fun c o hc e => ?_, ?_, zs ++ [z], by rw [upd_same, List.map_append]; rfl, by rw [List.length_append]; show _ + 1 ≤ _; omega, fun y hy => ?_⟩
        · rw [upd_ne (ne_of_none e hD)]
          exact k2 _ _ hc (k1 _ _ hc e)
        · rw [eb]
          obtain ⟨ns', a1, l1', m1, e1, e2, e3⟩ := hF2
          exact ⟨ns', a1, l1', m1, by rw [upd_ne nDF.symm]; exact e1, by rw [upd_ne nDL]; exact e2, e3⟩
        · rcases List.mem_append.mp hy with h | h
          · exact zn y h
          · rw [List.mem_singleton.mp h]
            exact List.mem_of_getElem? hz
      · exact ⟨by omega, k1.trans k2, by rw [eb]; exact hF2, zs, hzs2, by omega, zn⟩
    · obtain ⟨_, k1, hF1, zs, hzs, zl, zn⟩ := h
      rw [List.length_map] at hF1 zl
      refine ⟨D, zs, rfl, sqL hzs, by omega, fun ys p hpm _ hp => ?_⟩
      have s3 := same_new (o := .lst (ys.map V.str)) hp
      refine ⟨p, _, rfl, .inl ⟨sqL upd_same, fun p2 hp2 => ?_⟩⟩
      have s4 := same_new (o := .tup (ys.map V.str)) hp2
      have s34 := s3.trans s4
      refine q _ p2 ys (k1.trans (KeepF.of s34)) ((hF1.same s34).up (by omega)) upd_same (by rw [hpm.length_eq]; omega) fun z hz => zn z (hpm.mem_iff.mp hz)
end
end P56
namespace P56
open PySem PySem.Spec PyProof.Rows L2 AskG Ask
abbrev sScene : Stmt := topS 33
abbrev NScene : List Str := ["_law_source_here", "_law_most", "_law_held_here", "_law_now", "_law_group_here", "_law_cells", "_law_seen", "_law_k", "_law_left_here", "_law_row_here", "_law_query", "_law_way"]
theorem scScene : FnScope NScene ["_law_source_here", "_law_most"] (defScope sScene) := ⟨rfl, rfl, rfl, by decide +kernel, rfl, by decide +kernel, by decide +kernel⟩
theorem rowQ_ok {R : Rt} (h : RtG R) {t : Int} (f : R.first ≤ t) (l : t ≤ R.last) : RowOk (rowQ R t) := by
  have := h.day.f0
  have := h.day.l9
  refine qOf_ok h.ok (t := t) (by omega) (by omega) _ ?_
  unfold qOf usedB
  rw [decide_eq_true f, decide_eq_true l]
  rfl
theorem left_ok {rs : List (Str × Rt)} (h : ∀ x ∈ rs, RtG x.2) {T : Int} {G zs : List Str} : ∀ ρ ∈ leftL rs T G zs, RowOk ρ := fun ρ hρ => by
  obtain ⟨x, hx, hm⟩ := List.mem_flatMap.mp hρ
  have hg := h x (List.mem_filter.mp hx).1
  unfold partL at hm
  split at hm
  · cases hm
  · obtain ⟨t, ht, rfl⟩ := List.mem_map.mp hm
    obtain ⟨j, hj, rfl⟩ := List.mem_map.mp ht
    have hj2 := List.mem_range.mp hj
    have m1 : x.2.first ≤ mx x.2.first T := by
      unfold mx
      split <;> omega
    exact rowQ_ok hg (by omega) (by omega)
theorem dr_ok {ρ : RowD} (h : RowDr ρ) : RowOk ρ := by
  have l4 : ρ.length ≤ 4 := by
    have := h.sub.length_le
    rw [List.length_map] at this
    exact this
  refine ⟨by omega, fun x hx => ?_, fun x hx => ?_⟩
  · have hc := h.sub.subset (List.mem_map.mpr ⟨x, hx, rfl⟩)
    have all : (fourC.all cellB) = true := by decide +kernel
    exact cellOk_of (List.all_eq_true.mp all _ hc)
  · obtain ⟨h1, h2, _⟩ := h.lit x hx
    by_cases z : x.2.natAbs = 0
    · rw [z]
      decide
    · have : x.2.natAbs < 2 ^ 10 := by omega
      have := (Nat.log2_lt z).mpr this
      omega
theorem shaped_row {ρ : RowD} (h : ∀ x ∈ ρ, PyData.strOk x.1.1 = true) : SeqAt.shaped (rowPD ρ) = true := by
  have h1 : PyData.canLayAll0 (ρ.map AskG.pairD) = true := can_all fun x hx => by
    show ((PyData.strOk x.1.1 && (true && true)) && (true && true)) = true
    rw [h x hx]
    rfl
  have h2 : PyData.depthAll (ρ.map AskG.pairD) ≤ 2 := depth_all fun x _ => by
    show max (max 0 (max 0 0) + 1) (max 0 0) + 1 ≤ 2
    decide
  show (PyData.canLayAll0 (ρ.map AskG.pairD) && decide (PyData.depthAll (ρ.map AskG.pairD) + 1 ≤ 64)) = true
  rw [h1, decide_eq_true (by omega)]
  rfl
theorem shaped_rows {zs : List RowD} (h : ∀ ρ ∈ zs, RowOk ρ) : SeqAt.shaped (.list (zs.map rowPD)) = true := by
  have h0 : ∀ ρ ∈ zs, SeqAt.shaped (rowPD ρ) = true := fun ρ hρ => shaped_row fun x hx => ((h ρ hρ).cells x hx).ok
  have h1 : PyData.canLayAll0 (zs.map rowPD) = true := can_all fun ρ hρ => by
    have := h0 ρ hρ
    have z : (PyData.canLayAll0 (ρ.map AskG.pairD) && decide (PyData.depthAll (ρ.map AskG.pairD) + 1 ≤ 64)) = true := this
    rw [Bool.and_eq_true] at z
    exact z.1
  have h2 : PyData.depthAll (zs.map rowPD) ≤ 3 := depth_all fun ρ _ => by
    have : PyData.depthAll (ρ.map AskG.pairD) ≤ 2 := depth_all fun x _ => by
      show max (max 0 (max 0 0) + 1) (max 0 0) + 1 ≤ 2
      decide
    show PyData.depthAll (ρ.map AskG.pairD) + 1 ≤ 3
    omega
  show (PyData.canLayAll0 (zs.map rowPD) && decide (PyData.depthAll (zs.map rowPD) + 1 ≤ 64)) = true
  rw [h1, decide_eq_true (by omega)]
  rfl
/-- what a scene is -/
structure SceneAt (H : Hp) (p : Addr) (a kn wl g qa : Addr) (rs : List (Str × Rt)) (T : Int) (ys : List RowD) (G : List Str) (ρ : RowD) (m : Int) : Prop where
  top : H p = some (.tup [.ref a, .int T, .ref kn, .ref wl])
  wall : H wl = some (.tup [.ref g, .ref qa, .int m])
  rights : RightsAt H a rs
  held : HeldG rs
  t0 : 0 ≤ T
  t3 : T ≤ 3
  known : TupRows H kn ys
  few : ys.length ≤ 2
  rows : ∀ ρ ∈ ys, RowOk ρ
  group : TxtAt H g G
  sub : G.Sublist three
  query : RowAt H qa ρ
  qok : RowOk ρ
  m0 : 0 ≤ m
  m6 : m ≤ 6
section
variable {P : Program} {w : World} {K : PySem.W.Frag} {mg : Str → Option Value} {base : Heap}
variable {fD fH fG fR fL : Addr} {fdD fdH fdG fdR fdL : FuncData}
def prScene : Pr := fun vs H Q => ∃ (F L : Addr) (b : Int), vs = [.ref F, .int 6] ∧ FeedAt H F L b ∧ b ≤ 70000 ∧
  ∀ H' p a kn wl g qa rs T ys G ρ m, KeepF F H H' → FeedAt H' F L (b + 130) → SceneAt H' p a kn wl g qa rs T ys G ρ m → Q (.ref p) H'
theorem ok_scene {f : Addr} {fd : FuncData} {k : Nat} (F : Fun K "_law_scene" "_law_scene" sScene f fd)
    (FD : Fun K "_law_next" "_law_next" sDraw fD fdD) (bD : Binds K fdD ["_law_source_here", "_law_limit"] []) (gD : mg "_law_next" = some (.ref fD)) (GD : FnG P w K mg base (k + 3) fD fdD ["_law_source_here", "_law_limit"] prDraw)
    (FH : Fun K "_law_held" "_law_held" sHeld fH fdH) (bH : Binds K fdH ["_law_source_here", "_law_most"] []) (gH : mg "_law_held" = some (.ref fH)) (GH : FnG P w K mg base (k + 3) fH fdH ["_law_source_here", "_law_most"] prHeld)
    (FG : Fun K "_law_group" "_law_group" sGroup fG fdG) (bG : Binds K fdG ["_law_source_here"] []) (gG : mg "_law_group" = some (.ref fG)) (GG : FnG P w K mg base (k + 3) fG fdG ["_law_source_here"] prGroup)
    (FR : Fun K "_law_row" "_law_row" sRow fR fdR) (bR : Binds K fdR ["_law_source_here", "_law_cells", "_law_share"] []) (gR : mg "_law_row" = some (.ref fR)) (GR : FnG P w K mg base (k + 3) fR fdR ["_law_source_here", "_law_cells", "_law_share"] prRow)
    (FL : Fun K "_law_left" "_law_left" sLL fL fdL) (bL : Binds K fdL PSL []) (gL : mg "_law_left" = some (.ref fL)) (GL : FnG P w K mg base (k + 3) fL fdL PSL prLL)
    (mt : mg "tuple" = none) (mr : mg "range" = none) (ml : mg "len" = none) : FnG P w K mg base (k + 4) f fd ["_law_source_here", "_law_most"] prScene := by
  refine okG F scScene (fun vs H Q h => ?_) (fun cdv A outer s H vs Q hr h => ?_)
  · obtain ⟨_, _, _, rfl, _⟩ := h
    rfl
  · obtain ⟨F, L, b, rfl, hF, b9, q⟩ := h
    have big := sizeBig
    have hun := hr.room.units
    refine ⟨_, pss_cons (ps_par3 rfl scScene.nd (i := 2) (j := 3) (l := 4) rfl rfl rfl (by decide) (by decide) (by decide) rfl rfl rfl (pa_cons (pe_g GH hr (by rfl) gH FH.kp bH .nil (pa_cons (pv 0) (pa_cons (pv 1) pa_nil))) (pa_cons (pe_g GD hr (by rfl) gD FD.kp bD .nil (pa_cons (pv 0) (pa_cons pe_int pa_nil))) (pa_cons (pe_g GG hr (by rfl) gG FG.kp bG .nil (pa_cons (pv 0) pa_nil)) pa_nil))) (by rfl))
      (pss_cons (ps_set (i := 5) scScene.nd rfl (.inr rfl) (pe_lst (pa_cons (pe_tup (pa_cons pe_str (pa_cons pe_int pa_nil))) (pa_cons (pe_tup (pa_cons pe_str (pa_cons pe_int pa_nil))) (pa_cons (pe_tup (pa_cons pe_str (pa_cons pe_int pa_nil))) (pa_cons (pe_tup (pa_cons pe_str (pa_cons pe_int pa_nil))) pa_nil))))))
      (pss_cons (ps_set (i := 6) scScene.nd rfl (.inl rfl) (pe_callTy call_tuple_of (by rfl) mt (by decide +kernel) (pa_cons (pe_lc (own := [("_law_k", 7)]) (g := gName 7) (tt := tYes) rfl scScene.nd (pi_range1 rfl mr (pa_cons (pe_g GD hr (by rfl) gD FD.kp bD .nil (pa_cons (pv 0) (pa_cons pe_int pa_nil))) pa_nil)) (blkOk_by (N := NScene) (sc := defScope sScene) (by decide +kernel))
        (fun _ _ _ _ _ => pg_name (i := 7) scScene.nd rfl (.inl rfl)) (fun _ _ _ _ _ => pts_nil) (fun _ _ _ _ _ => pe_g GR hr (by rfl) gR FR.kp bR .nil (pa_cons (pv 0) (pa_cons (pv 5) (pa_cons pe_int pa_nil))))) pa_nil)))
      (pss_cons (ps_setLc (i := 8) (own := [("_law_row_here", 9)]) (g := gName 9) rfl scScene.nd rfl rfl (sw_true rfl rfl rfl (by decide +kernel)) (pi_tup (pe_g GL hr (by rfl) gL FL.kp bL .nil (pa_cons (pv 2) (pa_cons (pv 3) (pa_cons (pe_tup pa_nil) (pa_cons (pe_tup (pa_cons (pv 4) (pa_cons (pe_tup pa_nil) (pa_cons pe_int pa_nil)))) (pa_cons (pe_tup pa_nil) pa_nil))))))) (blkOk_by (N := NScene) (sc := defScope sScene) (by decide +kernel))
        (fun _ _ _ _ _ => pg_name (i := 9) scScene.nd rfl (.inl rfl)) (fun _ _ _ _ _ => pts_one (pt_cmpR (op_neD hun : OpR _ _ (rNeD K)) (pv 9) (pe_tup pa_nil) (nomark _))) (fun _ _ _ _ _ => pv 9))
      (pss_cons (ps_par (by rfl) scScene.nd (i := 10) (j := 11) rfl rfl (by decide) rfl rfl (pa_cons (pe_tup (pa_cons (pe_tup (pa_cons (pe_ix (ix_list : IxR _ (rIxL K)) (pv 5) (pe_g GD hr (by rfl) gD FD.kp bD .nil (pa_cons (pv 0) (pa_cons pe_int pa_nil))) (fun _ _ => rfl)) (pa_cons pe_int pa_nil))) pa_nil)) (pa_cons (pe_g GD hr (by rfl) gD FD.kp bD .nil (pa_cons (pv 0) (pa_cons pe_int pa_nil))) pa_nil)) (by rfl))
      (pss_cons (ps_if (pt_cmpR op_eq (pv 11) pe_int (nomark _)) (pss_one (ps_set (i := 10) scScene.nd rfl (.inl rfl) (pe_g GR hr (by rfl) gR FR.kp bR .nil (pa_cons (pv 0) (pa_cons (pv 5) (pa_cons pe_int pa_nil)))))) pss_nil)
      (pss_cons (ps_if (PW.pt (pw_and (pt_cmpR op_gt (pv 11) pe_int (nomark _)) (pw_and1 (pt_cmpR (op_neD hun) (pv 8) (pe_lst pa_nil) (nomark _))))) (pss_one (ps_set (i := 10) scScene.nd rfl (.inl rfl) (pe_ix (ix_list : IxR _ (rIxL K)) (pv 8) (pe_g GD hr (by rfl) gD FD.kp bD .nil (pa_cons (pv 0) (pa_cons (pe_callB call_len_seq (by rfl) ml PySem.boot_len (pa_cons (pv 8) pa_nil)) pa_nil))) (fun _ _ => rfl)))) pss_nil)
      (pss_one (ps_ret (pe_tup (pa_cons (pv 2) (pa_cons (pv 3) (pa_cons (pv 6) (pa_cons (pe_tup (pa_cons (pv 4) (pa_cons (pv 10) (pa_cons (pe_ix (ix_list : IxR _ (rIxL K)) (pe_lst (pa_cons pe_int (pa_cons pe_int (pa_cons pe_int (pa_cons pe_int (pa_cons pe_int pa_nil)))))) (pe_g GD hr (by rfl) gD FD.kp bD .nil (pa_cons (pv 0) (pa_cons pe_int pa_nil))) (fun _ _ => rfl)) pa_nil)))) pa_nil))))))))))))), ?_⟩
    have two : 2 ≤ sizeLine := by omega
    refine iSeq ⟨.ref F, rfl, .int 6, rfl, F, L, b, rfl, hF, by omega, fun H1 a rs k1 hF1 hRs hG => ?_⟩
    refine ⟨.ref F, rfl, F, L, 4, b + 79, rfl, hF1, by decide, by decide, by omega, fun T H2 T0 T1 k2 hF2 => ?_⟩
    refine ⟨.ref F, rfl, F, L, b + 79 + 1, rfl, hF2, by omega, fun H3 g G k3 hF3 hg gsub gne => ⟨_, _, _, rfl, ?_⟩⟩
    dsimp only
    have hRs3 := (hRs.keep (k2.tup hF1)).keep (k3.tup hF2)
    refine iSeq (iAsg ⟨two, fun c1 hc1 => ⟨two, fun c2 hc2 => ⟨two, fun c3 hc3 => ⟨two, fun c4 hc4 => ⟨by show 4 ≤ sizeLine; omega, fun lc hlc => ?_⟩⟩⟩⟩⟩)
    have t1 := same_new (o := .tup [.str "a", .int 0]) hc1
    have t2 := same_new (o := .tup [.str "a", .int 1]) hc2
    have t3 := same_new (o := .tup [.str "b", .int 0]) hc3
    have t4 := same_new (o := .tup [.str "b", .int 1]) hc4
    have t5 := same_new (o := .lst [.ref c1, .ref c2, .ref c3, .ref c4]) hlc
    refine iName ?_
    dsimp only
    have cells : Paired (AskG.CellAt _) [c1, c2, c3, c4] fourC := .cons (t5 _ _ (t4 _ _ (t3 _ _ (t2 _ _ (upd_same (H := H3) (a := c1) (o := .tup [.str "a", .int 0])))))) (.cons (t5 _ _ (t4 _ _ (t3 _ _ upd_same))) (.cons (t5 _ _ (t4 _ _ upd_same)) (.cons (t5 _ _ upd_same) .nil)))
    have t15 := (((t1.trans t2).trans t3).trans t4).trans t5
    have hlc4 := upd_same (H := upd (upd (upd (upd H3 c1 (.tup [.str "a", .int 0])) c2 (.tup [.str "a", .int 1])) c3 (.tup [.str "b", .int 0])) c4 (.tup [.str "b", .int 1])) (a := lc) (o := .lst [.ref c1, .ref c2, .ref c3, .ref c4])
    have k4 := ((k1.trans k2).trans k3).trans (KeepF.of t15)
    have hF4 := (hF3.same t15).up (c := b + 83) (by omega)
    have hRs4 := hRs3.keep (KeepT.of t15)
    have hg4 := t15 _ _ hg
    generalize upd (upd (upd (upd (upd H3 c1 (.tup [.str "a", .int 0])) c2 (.tup [.str "a", .int 1])) c3 (.tup [.str "b", .int 0])) c4 (.tup [.str "b", .int 1])) lc (.lst [.ref c1, .ref c2, .ref c3, .ref c4]) = H4 at cells hlc4 k4 hF4 hRs4 hg4 ⊢
    have hlc4 : H4 lc = some (.lst ([c1, c2, c3, c4].map V.ref)) := hlc4
    have ncF : lc ≠ F := by
      obtain ⟨_, _, _, _, e, _⟩ := hF4
      exact ne_of hlc4 e fun z => nomatch z
    -- the rows that are seen
    refine iSeq (iAsg ⟨.ref F, rfl, F, L, 3, b + 83, rfl, hF4, by decide, by decide, by omega, fun n3 H5 n30 n31 k5 hF5 => ⟨n3, rfl, by omega, by omega, fun D hD => ?_⟩⟩)
    have s6 := same_new (o := .lst []) hD
    have nDF : D ≠ F := by
      obtain ⟨_, _, _, _, e, _⟩ := hF5
      exact (ne_of_none e hD).symm
    have nDL : L ≠ D := by
      obtain ⟨_, _, _, _, _, e, _⟩ := hF5
      exact ne_of_none e hD
    have hlc5 := k5 _ _ ncF hlc4
    have nDl : lc ≠ D := ne_of_none hlc5 hD
    have cells5 : Paired (AskG.CellAt H5) [c1, c2, c3, c4] fourC := Paired.mapP cells fun _ _ z => z.keepT (k5.tup hF4)
    refine loop_rg (lo := 0) (n := n3.toNat) (fun i H' => (∀ c o, c ≠ F → H5 c = some o → H' c = some o) ∧ FeedAt H' F L (b + 84 + 8 * (i : Int)) ∧ ∃ bs ys, H' D = some (.lst (bs.map V.ref)) ∧ Paired (RowAt H') bs ys ∧ ys.length ≤ i ∧ ∀ ρ ∈ ys, RowOk ρ)
      ⟨fun c o _ e => s6 _ _ e, (hF5.same s6).up (by omega), [], [], upd_same, .nil, Nat.le_refl _, fun ρ hρ => absurd hρ (by simp)⟩ (fun i H' hi h => ?_) (fun H6 h => ?_)
    · obtain ⟨kk, hF6, bs, ys, hbs, hbb, yl, yok⟩ := h
      have bl := Paired.length hbb
      have eb : b + 84 + 8 * ((i + 1 : Nat) : Int) = b + 84 + 8 * (i : Int) + 8 := by omega
      have ktk : KeepT H5 H' := fun c xs e => kk c _ (by
        obtain ⟨_, _, _, _, e', _⟩ := hF5
        exact ne_of e e' fun z => nomatch z) e
      refine ⟨wipe1, iYes (iteT ?_)⟩
      refine ⟨.ref F, rfl, .ref lc, rfl, F, L, lc, [c1, c2, c3, c4], b + 84 + 8 * (i : Int), rfl, hF6, by omega, kk _ _ ncF hlc5, Paired.mapP cells5 fun _ _ z => z.keepT ktk, fun H7 p7 ρ k7 hF7 hrow hdr => ?_⟩
      have hbs7 := k7 _ _ nDF hbs
      have kp : KeepT _ (upd _ D (.lst (bs.map V.ref ++ [.ref p7]))) := KeepT.put hbs7 fun _ z => nomatch z
      refine ⟨_, hbs7, by rw [List.length_map]; omega, fun c o hc e => ?_, ?_, bs ++ [p7], ys ++ [ρ], by rw [upd_same, List.map_append]; rfl, Paired.snoc (Paired.mapP hbb fun _ _ z => (z.keep (k7.tup hF6)).keep kp) (hrow.keep kp), by rw [List.length_append]; show _ + 1 ≤ _; omega, fun y hy => ?_⟩
      · rw [upd_ne (ne_of_none e hD)]
        exact k7 _ _ hc (kk _ _ hc e)
      · rw [eb]
        obtain ⟨ns', a1, l1', m1, e1, e2, e3⟩ := hF7
        exact ⟨ns', a1, l1', m1, by rw [upd_ne nDF.symm]; exact e1, by rw [upd_ne nDL]; exact e2, e3⟩
      · rcases List.mem_append.mp hy with h | h
        · exact yok y h
        · rw [List.mem_singleton.mp h]
          exact dr_ok hdr
    obtain ⟨kk, hF6, bs, ys, hbs, hbb, yl, yok⟩ := h
    refine ⟨D, _, rfl, .inl ⟨sqL hbs, fun kn hkn => ?_⟩⟩
    have s7 := same_new (o := .tup (bs.map V.ref)) hkn
    refine iName ?_
    dsimp only
    have hkn7 : TupRows _ kn ys := ⟨bs, upd_same, Paired.mapP hbb fun _ _ z => z.keep (KeepT.of s7)⟩
    have k57 : KeepF F H5 _ := fun c o hc e => s7 _ _ (kk c o hc e)
    have k7 := (k4.trans k5).trans k57
    have hF7 := (hF6.same s7).up (c := b + 100) (by omega)
    have hlc7 := k57 _ _ ncF hlc5
    have kt7 := (k5.tup hF4).trans (k57.tup hF5)
    have cells7 : Paired (AskG.CellAt _) [c1, c2, c3, c4] fourC := Paired.mapP cells fun _ _ z => z.keepT kt7
    have hRs7 := hRs4.keep kt7
    have hg7 : TxtAt _ g G := kt7 _ _ hg4
    have yl2 : ys.length ≤ 2 := by omega
    generalize upd H6 kn (.tup (bs.map V.ref)) = H7 at hkn7 k57 k7 hF7 hlc7 kt7 cells7 hRs7 hg7 ⊢
    clear k57 kt7 hbs hbb kk hF6 s7 hkn cells cells5 hRs4 hRs3 hg4 hg hlc5 hlc4 hRs
    -- what is left
    refine iSeq (iAsg ⟨.ref a, rfl, .int T, rfl, Nat.zero_le _, fun e1 he1 => ⟨.ref g, rfl, Nat.zero_le _, fun e2 he2 => ⟨by show 3 ≤ sizeLine; omega, fun e3 he3 => ⟨Nat.zero_le _, fun e4 he4 => ?_⟩⟩⟩⟩)
    have u1 := same_new (o := .tup []) he1
    have u2 := same_new (o := .tup []) he2
    have u3 := same_new (o := .tup [.ref g, .ref e2, .int 0]) he3
    have u4 := same_new (o := .tup []) he4
    have u14 := ((u1.trans u2).trans u3).trans u4
    refine ⟨a, e1, e3, e4, T, rs, [], G, [], rfl, ⟨hRs7.keep (KeepT.of u14), by have := hG.few; omega, fun x hx => ⟨(hG.all x hx).ok, (hG.all x hx).day⟩, T0, by omega, ⟨[], u4 _ _ (u3 _ _ (u2 _ _ upd_same)), .nil⟩, Nat.zero_le _, ⟨g, _, _, u4 _ _ upd_same, u14 _ _ hg7⟩, upd_same⟩, fun x hx => (hG.all x hx).up, fun H8 p8 s8 h8 => ?_⟩
    obtain ⟨ls, hls, hll⟩ := h8
    have lok : ∀ ρ ∈ ([] : List RowD) ++ leftL rs T G [], RowOk ρ := left_ok hG.all
    have lll := Paired.length hll
    have llen : (([] : List RowD) ++ leftL rs T G []).length ≤ 100 := by
      have := flat_few (T := T) (zs := []) (l := rs.filter (inWall G)) fun x hx => ⟨(hG.all x (List.mem_filter.mp hx).1).ok, (hG.all x (List.mem_filter.mp hx).1).day⟩
      have f2 := List.length_filter_le (inWall G) rs
      have := hG.few
      show (leftL rs T G []).length ≤ 100
      unfold leftL
      omega
    generalize ([] : List RowD) ++ leftL rs T G [] = lrows at hll lok lll llen
    refine ⟨p8, rfl, ⟨_, sqT hls⟩, fun D2 hD2 => ?_⟩
    refine loop_tup (K := K) (a := p8) (xs := ls.map V.ref) (fun i H' => Same H8 H' ∧ ∃ cs zs, H' D2 = some (.lst (cs.map V.ref)) ∧ Paired (RowAt H') cs zs ∧ zs.length ≤ i ∧ ∀ ρ ∈ zs, RowOk ρ) ⟨same_new hD2, [], [], upd_same, .nil, Nat.le_refl _, fun ρ hρ => absurd hρ (by simp)⟩ (fun i H' h => sqT (h.1 _ _ hls)) (fun i v H' hv h => ?_) (fun H9 h => ?_)
    · obtain ⟨sm, cs, zs, hcs, hcc, zl, zok⟩ := h
      rw [List.getElem?_map] at hv
      obtain ⟨pi, hpi, rfl⟩ := Option.map_eq_some_iff.mp hv
      obtain ⟨ρ, hρ, hrow⟩ := paired_at' hll hpi
      have il : i < ls.length := (List.getElem?_eq_some_iff.mp hpi).1
      have cl := Paired.length hcc
      have rok := lok ρ (List.mem_of_getElem? hρ)
      refine ⟨wipe1, .ref pi, rfl, Nat.zero_le _, fun e5 he5 => ?_⟩
      have u5 := same_new (o := .tup []) he5
      refine ⟨rowPD ρ, .tuple [], dp_row ((hrow.keep (KeepT.of sm)).keep (KeepT.of u5)), .tup (sqT upd_same) .nil, shaped_row fun x hx => (rok.cells x hx).ok, by decide, _, rfl, ?_⟩
      refine ite2 (fun e => ?_) (fun e => ?_)
      · refine ⟨.ref pi, rfl, _, u5 _ _ hcs, by rw [List.length_map]; omega, fun c o e => ?_, cs ++ [pi], zs ++ [ρ], by rw [upd_same, List.map_append]; rfl, ?_, by rw [List.length_append]; show _ + 1 ≤ _; omega, fun y hy => ?_⟩
        · rw [upd_ne (ne_of_none e hD2)]
          exact u5 _ _ (sm _ _ e)
        · have kp : KeepT _ (upd _ D2 (.lst (cs.map V.ref ++ [.ref pi]))) := KeepT.put (u5 _ _ hcs) fun _ z => nomatch z
          exact Paired.snoc (Paired.mapP hcc fun _ _ z => (z.keep (KeepT.of u5)).keep kp) (((hrow.keep (KeepT.of sm)).keep (KeepT.of u5)).keep kp)
        · rcases List.mem_append.mp hy with h | h
          · exact zok y h
          · rw [List.mem_singleton.mp h]
            exact rok
      · exact ⟨sm.trans u5, cs, zs, u5 _ _ hcs, Paired.mapP hcc fun _ _ z => z.keep (KeepT.of u5), by omega, zok⟩
    obtain ⟨sm9, cs, zs, hcs, hcc, zl, zok⟩ := h
    rw [List.length_map] at zl
    refine iName ?_
    dsimp only
    have u9 := (u14.trans s8).trans sm9
    have k9 := k7.trans (KeepF.of u9)
    have hF9 := hF7.same u9
    have hlc9 := u9 _ _ hlc7
    have cells9 : Paired (AskG.CellAt H9) [c1, c2, c3, c4] fourC := Paired.mapP cells7 fun _ _ z => z.keepT (KeepT.of u9)
    have hRs9 := hRs7.keep (KeepT.of u9)
    have hg9 : TxtAt H9 g G := u9 _ _ hg7
    have hkn9 := hkn7.keep (KeepT.of u9)
    clear k7 hF7 hlc7 cells7 hRs7 hg7 hkn7 u9 u14 u4 u3 u2 u1 hll hls s8 sm9
    -- the query, the way
    refine iSeq ⟨.ref lc, rfl, .ref F, rfl, F, L, 4, b + 100, rfl, hF9, by decide, by decide, by omega, fun d H10 d0 d1 k10 hF10 => ?_⟩
    obtain ⟨ci, c, hat, hci, hcm⟩ : ∃ (ci : Addr) (c : Cell), atI [V.ref c1, .ref c2, .ref c3, .ref c4] d = some (.ref ci) ∧ AskG.CellAt H10 ci c ∧ c ∈ fourC := by
      obtain ⟨z, rfl⟩ : ∃ z : Nat, d = (z : Int) := ⟨d.toNat, by omega⟩
      have z4 : z < 4 := by omega
      have hz : [c1, c2, c3, c4][z]? = some [c1, c2, c3, c4][z] := List.getElem?_eq_getElem z4
      obtain ⟨c, hc, hcell⟩ := paired_at' cells9 hz
      refine ⟨[c1, c2, c3, c4][z], c, ?_, hcell.keepT (k10.tup hF9), List.mem_of_getElem? hc⟩
      have hv : [V.ref c1, V.ref c2, V.ref c3, V.ref c4][z]? = some (V.ref [c1, c2, c3, c4][z]) := by
        show ([c1, c2, c3, c4].map V.ref)[z]? = _
        rw [List.getElem?_map, hz]
        rfl
      exact atI_nat hv
    refine ⟨lc, _, d, .ref ci, rfl, rfl, sqL (k10 _ _ ncF hlc9), hat, two, fun q1 hq1 => ⟨by show 1 ≤ sizeLine; omega, fun q2 hq2 => ?_⟩⟩
    have v1 := same_new (o := .tup [.ref ci, .int 1]) hq1
    have v2 := same_new (o := .tup [.ref q1]) hq2
    have v12 := v1.trans v2
    have hF11 := hF10.same v12
    have rq : RowAt _ q2 [(c, 1)] := ⟨[q1], upd_same, .cons ⟨ci, v2 _ _ upd_same, v12 _ _ hci⟩ .nil⟩
    have rqok : RowOk [(c, (1 : Int))] := by
      refine ⟨by show 1 ≤ 100; decide, fun x hx => ?_, fun x hx => ?_⟩
      · rw [List.mem_singleton.mp hx]
        have all : (fourC.all cellB) = true := by decide +kernel
        exact cellOk_of (List.all_eq_true.mp all _ hcm)
      · rw [List.mem_singleton.mp hx]
        show (1 : Int).natAbs.log2 < 1920
        decide
    refine ⟨.ref F, rfl, F, L, 4, b + 100 + 1, rfl, hF11, by decide, by decide, by omega, fun wy H12 wy0 wy1 k12 hF12 => ⟨.ref q2, .int wy, rfl, ?_⟩⟩
    dsimp only
    have kA := (k10.trans (KeepF.of v12)).trans k12
    have rq12 := rq.keep (k12.tup hF11)
    -- a row of its own
    refine iSeq ?_
    refine split_s (fun σ' H' => ∃ (qa : Addr) (ρ : RowD), σ' = [some (.ref F), some (.int 6), some (.ref a), some (.int T), some (.ref g), some (.ref lc), some (.ref kn), none, some (.ref D2), none, some (.ref qa), some (.int wy)] ∧ KeepF F H9 H' ∧ FeedAt H' F L (b + 110) ∧ RowAt H' qa ρ ∧ RowOk ρ) (fun nx hnx => ?_) (fun σ' H13 hx => ?_)
    · refine iIfS ⟨.int wy, rfl, rfl, _, rfl, ite2 (fun e => ?_) (fun e => ?_)⟩
      · refine iAsg ⟨.ref F, rfl, .ref lc, rfl, F, L, lc, [c1, c2, c3, c4], b + 100 + 1 + 1, rfl, hF12, by omega, kA _ _ ncF hlc9, Paired.mapP cells9 fun _ _ z => z.keepT (kA.tup hF9), fun H14 p14 ρ k14 hF14 hrow hdr => ?_⟩
        exact iName (hnx _ _ ⟨p14, ρ, rfl, kA.trans k14, hF14.up (by omega), hrow, dr_ok hdr⟩)
      · exact hnx _ _ ⟨q2, _, rfl, kA, hF12.up (by omega), rq12, rqok⟩
    clear rq12 rqok kA hF12 rq
    obtain ⟨qa, ρ, rfl, kA, hF13, hrow, hok⟩ := hx
    dsimp only
    refine iSeq ?_
    refine split_s (fun σ' H' => ∃ (qa : Addr) (ρ : RowD), σ' = [some (.ref F), some (.int 6), some (.ref a), some (.int T), some (.ref g), some (.ref lc), some (.ref kn), none, some (.ref D2), none, some (.ref qa), some (.int wy)] ∧ KeepF F H9 H' ∧ FeedAt H' F L (b + 111) ∧ RowAt H' qa ρ ∧ RowOk ρ) (fun nx hnx => ?_) (fun σ' H15 hx => ?_)
    · have stay := hnx _ _ ⟨qa, ρ, rfl, kA, hF13.up (by omega), hrow, hok⟩
      have n2F : D2 ≠ F := by
        obtain ⟨_, _, _, _, e, _⟩ := hF9
        exact ne_of hcs e fun z => nomatch z
      have hcs13 := kA _ _ n2F hcs
      have hcc13 : Paired (RowAt H13) cs zs := Paired.mapP hcc fun _ _ z => z.keep (kA.tup hF9)
      refine iIfS (iAnd ⟨.int wy, rfl, wy, 1, rfl, rfl, _, rfl, ite2 (fun e => ?_) (fun e => iteF stay)⟩)
      refine ⟨.ref D2, rfl, Nat.zero_le _, fun e6 he6 => ?_⟩
      have u6 := same_new (o := .lst []) he6
      refine ⟨.list (zs.map rowPD), .list [], .lst (sqL (u6 _ _ hcs13)) (dp_all (f := rowPD) (R := RowAt H13) (fun _ _ z => dp_row (z.keep (KeepT.of u6))) hcc13), .lst (sqL upd_same) .nil, shaped_rows fun ρ hρ => zok ρ hρ, shaped_nil, _, rfl, ?_⟩
      have zcl := Paired.length hcc13
      cases hz : zs with
      | nil => exact iteF (hnx _ _ ⟨qa, ρ, rfl, kA.trans (KeepF.of u6), (hF13.same u6).up (by omega), hrow.keep (KeepT.of u6), hok⟩)
      | cons z0 zr =>
        have zp : 0 < cs.length := by
          rw [zcl, hz]
          exact Nat.succ_pos _
        refine iteT (iAsg ⟨.ref D2, rfl, .ref F, rfl, .ref D2, rfl, D2, _, rfl, .inl (sqL (u6 _ _ hcs13)), F, L, ((cs.map V.ref).length : Int), b + 110, rfl, hF13.same u6, by rw [List.length_map]; omega, by rw [List.length_map]; omega, by omega, fun d7 H16 d70 d71 k16 hF16 => ?_⟩)
        rw [List.length_map] at d71
        obtain ⟨n, rfl⟩ : ∃ n : Nat, d7 = (n : Int) := ⟨d7.toNat, by omega⟩
        have hn : n < cs.length := by omega
        have hcn : cs[n]? = some cs[n] := List.getElem?_eq_getElem hn
        obtain ⟨ρ2, hρ2, hrow2⟩ := paired_at' hcc13 hcn
        have k1316 := (KeepF.of (F := F) u6).trans k16
        refine ⟨D2, _, (n : Int), .ref cs[n], rfl, rfl, sqL (k1316 _ _ n2F hcs13), atI_nat (by rw [List.getElem?_map, hcn]; rfl), ?_⟩
        exact iName (hnx _ _ ⟨cs[n], ρ2, rfl, kA.trans k1316, hF16.up (by omega), (hrow2.keep (KeepT.of u6)).keep (k16.tup (hF13.same u6)), zok ρ2 (List.mem_of_getElem? hρ2)⟩)
    clear hrow hok hF13 kA
    obtain ⟨qa, ρ, rfl, kA, hF15, hrow, hok⟩ := hx
    dsimp only
    refine iRet ⟨.ref a, rfl, .int T, rfl, .ref kn, rfl, .ref g, rfl, .ref qa, rfl, by show 5 ≤ sizeLine; omega, fun l17 hl17 => ?_⟩
    have x1 := same_new (o := .lst [.int 0, .int 0, .int 2, .int 3, .int 6]) hl17
    refine ⟨.ref F, rfl, F, L, 5, b + 111, rfl, hF15.same x1, by decide, by decide, by omega, fun d8 H18 d80 d81 k18 hF18 => ?_⟩
    obtain ⟨m, hm, m0, m6⟩ : ∃ m : Int, atI [V.int 0, .int 0, .int 2, .int 3, .int 6] d8 = some (.int m) ∧ 0 ≤ m ∧ m ≤ 6 := by
      obtain ⟨z, rfl⟩ : ∃ z : Nat, d8 = (z : Int) := ⟨d8.toNat, by omega⟩
      have z5 : z < 5 := by omega
      match z, z5 with
      | 0, _ => exact ⟨0, rfl, by decide, by decide⟩
      | 1, _ => exact ⟨0, rfl, by decide, by decide⟩
      | 2, _ => exact ⟨2, rfl, by decide, by decide⟩
      | 3, _ => exact ⟨3, rfl, by decide, by decide⟩
      | 4, _ => exact ⟨6, rfl, by decide, by decide⟩
    refine ⟨l17, _, d8, .int m, rfl, rfl, sqL (k18.lst' (hF15.same x1) upd_same), hm, by show 3 ≤ sizeLine; omega, fun wl hwl => ⟨by show 4 ≤ sizeLine; omega, fun p hp => ?_⟩⟩
    have x2 := same_new (o := .tup [.ref g, .ref qa, .int m]) hwl
    have x3 := same_new (o := .tup [.ref a, .int T, .ref kn, .ref wl]) hp
    have x23 := x2.trans x3
    have kB := ((kA.trans (KeepF.of x1)).trans k18).trans (KeepF.of x23)
    have ktB := kB.tup hF9
    have kt2 := (((KeepT.of x1).trans (k18.tup (hF15.same x1))).trans (KeepT.of x23))
    exact q _ p a kn wl g qa rs T ys G ρ m (k9.trans kB) ((hF18.same x23).up (by omega)) ⟨upd_same, x3 _ _ upd_same, hRs9.keep ktB, hG, T0, by omega, hkn9.keep ktB, yl2, yok, ktB _ _ hg9, gsub, hrow.keep kt2, hok, m0, m6⟩
end
end P56
/-! AskXh: defs called in an except suite with the caught thing; isinstance of it, its fields. -/
namespace AskG
open PySem PySem.Spec PyProof.Rows L2
section
variable (P : Program) (w : World) (K : PySem.W.Frag) (mg : Str → Option Value) (base : Heap)
/-- what a def promises there, p the thing that is handled -/
structure FnE (k : Nat) (f : Addr) (fd : FuncData) (ps : List Str) (sp : Addr × Obj → Pr) : Prop where
  many : ∀ p vs H Q, sp p vs H Q → vs.length = ps.length
  goes : ∀ (A : Around) (outer : List Env) (s : Shared) (H : Hp) (args : Args) (us : List Value) (vs : List V) (Q : VK) (p : Addr × Obj),
    L2H.RoomH k A → L2H.PinOk outer H s p → Env0 P w K mg base A outer s H → BindsTo s fd args (ps.zip us) → Vals vs us → sp p vs H Q →
    codeAny (model P w) A (.call (.ref f) args) (CR CX0 outer P w H s Q E0) s
end
section
variable {P : Program} {w : World} {K : PySem.W.Frag} {mg : Str → Option Value} {base : Heap}
theorem okE {x qual : Str} {st : Stmt} {f : Addr} {fd : FuncData} {N ps : List Str} {k : Nat} {sp : Addr × Obj → Pr} (F : Fun K x qual st f fd) (S : FnScope N ps (defScope st))
    (many : ∀ p vs H Q, sp p vs H Q → vs.length = ps.length)
    (body_ok : ∀ (cdv : Value) (A : Around) (outer : List Env) (s : Shared) (H : Hp) (vs : List V) (Q : VK) (p : Addr × Obj),
      L2H.RoomH k (A.deeper (envOfC qual (defScope st) s.heap.objs.size f cdv)) → sp p vs H Q →
      ∃ t, PSs (L2H.cxH CX0 P w K mg base N qual (defScope st) f cdv A outer s H E0 p).nox (defBody st) t ∧ t { nx := fun _ H' => Q .non H', rt := Q } (start N vs) H) :
    FnE P w K mg base (k + 1) f fd ps sp := by
  obtain ⟨oc, od, kV, doc, pm, an, cdv, ct, osl, rfl, lk, hcd⟩ := F.ex
  refine ⟨many, ?_⟩
  intro A outer s H args us vs Q p hr hp e0 hb hv h
  have hl := many _ _ _ _ h
  have inK : K.In s.heap := e0.mod.kin.keeps fun b o q => (e0.bs b o q).1
  have nl : s.heap.NoLimit := e0.mod.nolimit.keeps fun b o q => (e0.bs b o q).1
  have kinds : ∀ y ∈ ps.zip us, (defScope st).names.lookup y.1 = some .local ∨
      ((defScope st).names.lookup y.1 = some .cell ∧
        ((cellsFrom (s.heap.objs.size + 1) (defScope st).names []).lookup y.1).isSome = true) := by
    rintro ⟨n, v⟩ hy
    cases S.par n (List.of_mem_zip hy).1 with
    | inl q => exact Or.inl q
    | inr q => exact Or.inr ⟨q, PySem.W.cellsFrom_some _ _ _ (Or.inl q)⟩
  refine codeAny_call_function hr.depth (inK _ _ lk) rfl S.co S.gen rfl
    (PySem.W.codeRec_of inK hcd) (hb _ _ _ _ ?_)
  refine wpAny_newFunctionEnv_cells S.kind kinds fun env he s1 y => ?_
  subst he
  refine ⟨nl.keeps y.toInCall.keep, codeAny_func ?_⟩
  obtain ⟨t, ht, hq⟩ := body_ok cdv A outer s H vs Q p (hr.deeper _) h
  have I := L2H.inv_startH (CX := CX0) (E := E0) S hp e0 hl hv y
  refine wpAny_mono (ht.nox.run [] s1 (start N vs) H _ I hq) (fun fl s' hs => ?_) fun e s' hs => hs
  cases fl with
  | ret u =>
    obtain ⟨v, σ', H', J, rv, q⟩ := hs
    exact ⟨v, H', J.os, J.bare, J.base, J.hok, rv, q⟩
  | next =>
    obtain ⟨σ', H', J, q⟩ := hs
    exact ⟨.non, H', J.os, J.bare, J.base, J.hok, rfl, q⟩
  | brk =>
    obtain ⟨_, _, _, q⟩ := hs
    exact q.elim
  | cont =>
    obtain ⟨_, _, _, q⟩ := hs
    exact q.elim
end
section
variable {X : Cx} {k : Nat} {f : Addr} {fd : FuncData} {ps : List Str} {sp : Addr × Obj → Pr} {x : Str} {q pos : Pos} {e : Expr} {es : List Expr} {t : TA} {p : Addr × Obj}
/-- f(e, ..) in the suite -/
theorem pe_e (F : FnE X.prog X.w X.K X.mg X.base k f fd ps sp) (hr : L2H.RoomH k X.A) (hp : p ∈ X.pn) (hg : Gl X x) (hm : X.mg x = some (.ref f)) (hk : PySem.W.keepIn X.K (.ref f) = true) (hb : Binds X.K fd ps []) (ha : PA X (e :: es) t)
    (hdb : (x == ("__debug__" : Str)) = false := by decide) (he : starEach (e :: es) X.env = (false, eval e X.env) :: starEach es X.env := by rfl) (hpl : (backTo pos (starEach es X.env)).any (·.1) = false := by rfl) :
    PE X (.Call (.Name x q) (e :: es) [] pos) (fun σ H Q => t σ H fun vs H1 => sp p vs H1 Q) := by
  constructor
  intro pins s σ H Q I h
  refine wpAny_Call_Name_kw (ld_glob I hg hm ?_ hdb)
  refine PySem.W.callWith_K (h₀ := X.base) I.ok.mod.kin hk (thn (ha.run pos pins s σ H _ I h) ?_) he hpl
  rintro us s1 ⟨vs, H1, I1, r, q1⟩
  refine ⟨I1.kIn, ?_⟩
  have hl : us.length = ps.length := by rw [← r.length]; exact F.many _ _ _ _ q1
  have b := hb s1 us I1.kIn (by rw [List.append_nil]; exact hl)
  rw [List.append_nil] at b
  have P1 := I1.pin p (List.mem_append_left _ hp)
  have pin : L2H.PinOk X.stack H1 s1 p := ⟨P1.1, P1.2.1, fun z => (List.mem_cons.mp (I1.stkSub p.1 z)).elim P1.2.2.1 P1.2.2.2.1, P1.2.2.2.2⟩
  refine wpAny_call (codeAny_mono (F.goes X.A X.stack s1 H1 ⟨us, []⟩ us vs Q p hr pin I1.env0 b r q1) fun res s' hq => ?_)
  cases res with
  | error e => exact hq.elim
  | ok fl =>
    cases fl with
    | ret u => exact I1.after hq
    | next => exact False.elim hq
    | brk => exact False.elim hq
    | cont => exact False.elim hq
end
end AskG
/-! AskXi: isinstance of the caught thing, its fields. -/
namespace AskG
open PySem PySem.Spec PyProof.Rows L2
/-- the thing that is handled: an instance of D with these fields -/
structure Caught (X : Cx) (p : Addr × Obj) (D dd : Addr) : Prop where
  mem : p ∈ X.pn
  zc : Zc (.ref D) (some dd) p.2
  dat : ∃ vs, p.2.data = .fields vs
  cls : ExcC X.K D
theorem caught_at {X : Cx} {p : Addr × Obj} {D dd : Addr} {pins : List (Addr × Obj)} {σ : L2.St} {H : Hp} {s : Shared} {fs : List (Str × V)} (C : Caught X p D dd) (I : Inv X pins σ H s) (hd : H dd = some (.xd fs)) : ∃ od, PySem.W.InstAt s.heap p.1 p.2 D (some od) := by
  have hx : ObjOk X.prog X.w H s.heap dd (.xd fs) := I.hok dd _ hd
  obtain ⟨mA, hns, hr⟩ := hx
  obtain ⟨od, ho, hl⟩ := lookIn_ns hns
  obtain ⟨vs, hv⟩ := C.dat
  obtain ⟨ha, _⟩ := I.pin p (List.mem_append_left _ C.mem)
  refine ⟨od, ha, C.zc.1, ?_, ?_⟩
  · unfold PySem.W.notCls
    rw [hv] <;> rfl
  · rw [C.zc.2]
    exact ho
theorem kitx_caught {K : PySem.W.Frag} {x D : Addr} {ox : Obj} {od : Option Obj} (C : ExcC K D) : PySem.W.KitX K (.ref x) (.ref D) (fun h => PySem.W.InstAt h x ox D od) := by
  obtain ⟨cd, hc, _⟩ := PySem.W.any_some C.hd
  exact PySem.W.kitx_exc (by rw [hc]; rfl) C.hg C.hk C.hs C.ha C.hn C.ht C.hm
/-- isinstance(e, c) -/
def rIsX (K : PySem.W.Frag) (D dd : Addr) (p : Addr × Obj) : List V → Hp → VK → Prop := fun xs H Q => ∃ (fs : List (Str × V)) (c : V) (cv : Value) (b : Bool), H dd = some (.xd fs) ∧ xs = [.ref p.1, c] ∧ (∀ u, RelV c u → u = cv) ∧ PySem.W.kitOne K (.ref D) cv = some b ∧ Q (.bl b) H
theorem call_isX {X : Cx} {p : Addr × Obj} {D dd : Addr} (C : Caught X p D dd) : CallR X (.builtin "isinstance") (rIsX X.K D dd p) := by
  intro pins s σ H xs us Q I r h
  obtain ⟨fs, c, cv, b, hd, rfl, hcv, e, q⟩ := h
  cases r with
  | cons rx rr =>
    cases rr with
    | cons rt rr =>
      cases rr
      cases rx
      have ec := hcv _ rt
      subst ec
      obtain ⟨od, J⟩ := caught_at C I hd
      exact PySem.W.kia_one (kitx_caught C.cls) I.kIn J e (fun z => nomatch z) fun tk => ⟨.bl b, H, I.kept (t' := tk) fun _ _ z => z, rfl, q⟩
/-- isinstance(e, (c, ..)) -/
def rIsT (K : PySem.W.Frag) (D dd : Addr) (p : Addr × Obj) : List V → Hp → VK → Prop := fun xs H Q => ∃ (fs : List (Str × V)) (tp : Addr) (ys : List V) (cvs : List Value) (b : Bool), H dd = some (.xd fs) ∧ xs = [.ref p.1, .ref tp] ∧ SqT K H tp ys ∧ (∀ us, Vals ys us → us = cvs) ∧ PySem.W.kitAny K (.ref D) cvs = some b ∧ Q (.bl b) H
theorem call_isT {X : Cx} {p : Addr × Obj} {D dd : Addr} (C : Caught X p D dd) : CallR X (.builtin "isinstance") (rIsT X.K D dd p) := by
  intro pins s σ H xs us Q I r h
  obtain ⟨fs, tp, ys, cvs, b, hd, rfl, hs, hcv, e, q⟩ := h
  cases r with
  | cons rx rr =>
    cases rr with
    | cons rt rr =>
      cases rr
      cases rx
      cases rt
      obtain ⟨od, J⟩ := caught_at C I hd
      obtain ⟨its, rv, hl, hz⟩ := I.tuple hs
      obtain rfl := hcv _ rv
      obtain ⟨o, ho, hc, n, hdt⟩ := hl
      obtain ⟨oc, dd', od', sl⟩ := o
      dsimp only at hc hdt
      subst hc hdt
      exact PySem.W.kia_tup (kitx_caught C.cls) I.kIn J ho e (fun z => nomatch z) fun tk => ⟨.bl b, H, I.kept (t' := tk) fun _ _ z => z, rfl, q⟩
/-- e.n -/
def tFd (p : Addr × Obj) (dd : Addr) (n : Str) (te : TE) : TE := fun σ H Q => te σ H fun x H1 => x = .ref p.1 ∧ ∃ (fs : List (Str × V)) (v : V), H1 dd = some (.xd fs) ∧ fs.lookup n = some v ∧ Q v H1
theorem pe_fd {X : Cx} {p : Addr × Obj} {D dd : Addr} {e : Expr} {te : TE} {pos : Pos} {n : Str} (C : Caught X p D dd) (T : XfC X.K D) (hno : PySem.W.findIn X.K (.ref D) n = some none) (he : PE X e te) (hb : attributeBase e n X.env (eval e X.env) = eval e X.env := by rfl) :
    PE X (.Attribute e n pos) (tFd p dd n te) := by
  constructor
  intro pins s σ H Q I h
  refine attr_of hb (thn (he.run pins s σ H _ I h) ?_)
  rintro u s1 ⟨x, H1, I1, rx, rfl, fs, v, ea, l, q⟩
  cases rx
  have hx : ObjOk X.prog X.w H1 s1.heap dd (.xd fs) := I1.hok dd _ ea
  obtain ⟨mA, hns, hr⟩ := hx
  obtain ⟨od, ho, hl⟩ := lookIn_ns hns
  obtain ⟨u, hu, ru⟩ := RelO.some_of (v := v) (o := mA n) (by rw [← l]; exact hr n)
  obtain ⟨ha, _⟩ := I1.pin p (List.mem_append_left _ C.mem)
  obtain ⟨vs, hv⟩ := C.dat
  have J : PySem.W.InstAt s1.heap p.1 p.2 D (some od) := by
    refine ⟨ha, C.zc.1, ?_, ?_⟩
    · unfold PySem.W.notCls
      rw [hv] <;> rfl
    · rw [C.zc.2]
      exact ho
  exact HandSPX.exc_get I1.kIn J T.ga T.gg T.exC (PySem.W.findObj_own T.hdC hno rfl (by rw [hl, hu])) (handed_of ru) ⟨v, H1, I1.tok _, ru, q⟩
end AskG
/-! AskXj: list.count of a flat value in a list of flat values. -/
namespace AskG
open PySem PySem.Spec PyProof.Rows L2
theorem count_eqU {x : V} : ∀ {xs : List V} {us : List Value}, Vals xs us → xs.all flatV = true → us.countP (eqU x) = xs.countP fun y => eqV y x
  | _, _, .nil, _ => rfl
  | y :: xs, u :: us, .cons r t, f => by
    rw [List.all_cons, Bool.and_eq_true] at f
    rw [List.countP_cons, List.countP_cons, eqU_of r f.1, count_eqU t f.2]
def rCnt (K : PySem.W.Frag) : V → List V → Hp → VK → Prop := fun x xs H Q => ∃ (p : Addr) (ys : List V) (k : V), x = .ref p ∧ xs = [k] ∧ SqL K H p ys ∧ flatV k = true ∧ ys.all flatV = true ∧ Q (.int (ys.countP (fun y => eqV y k) : Nat)) H
theorem mt_cnt {X : Cx} : MtR X "list.count" (rCnt X.K) := by
  intro pins s σ H x xs v us Q I rx rxs h
  obtain ⟨p, ys, k, rfl, rfl, hs, fk, fy, q⟩ := h
  cases rx
  obtain ⟨u, rfl, ru⟩ := rxs.one
  obtain ⟨its, rv, ⟨⟨cls, dd, data, sl⟩, n, ho, hc, hdn, hd⟩, hlen⟩ := I.list hs
  dsimp only at hc hd
  subst hc hd
  refine call_meets PySem.F.slot_list_count ⟨_, ho, rfl⟩ PySem.F.entry_list_count (PySem.F.args_list_count_2 _ _)
    (SeqAt.list_countAt p its.toArray n dd sl u (eqU k)) ⟨ho, fun y hy => mem_eqAt ru fk rv fy y (by simpa using hy), ?_⟩
  refine ⟨.int (ys.countP (fun y => eqV y k) : Nat), H, I.tok _, ⟨s.toks, ?_⟩, q⟩
  rw [← count_eqU rv fy]
end AskG
namespace P56
open PySem PySem.Spec PyProof.Rows L2 AskG Ask
abbrev sErr : Stmt := topS 36
abbrev NErr : List Str := ["_law_e", "_law_kinds", "_law_families", "_law_is_other"]
theorem scErr : FnScope NErr ["_law_e"] (defScope sErr) := ⟨rfl, rfl, rfl, by decide +kernel, rfl, by decide +kernel, by decide +kernel⟩
theorem iOr {t u : TT} {σ : L2.St} {H : Hp} {Q : Bool → Hp → Prop} (h : t σ H fun c H1 => if c = true then Q true H1 else u σ H1 Q) : tOr t u σ H Q := h
theorem iB {t : TE} {σ : L2.St} {H : Hp} {Q : Bool → Hp → Prop} (h : t σ H fun x H1 => ∃ c, x = .bl c ∧ Q c H1) : tB t σ H Q := h
/-- what the top says of the errors' classes, as UnknownName's instances see them -/
structure ErrK (K : PySem.W.Frag) (mg : Str → Option Value) (C c1 c2 c3 c4 c5 c6 c7 c8 c9 : Addr) : Prop where
  exc : ExcC K C
  xf : XfC K C
  no : PySem.W.findIn K (.ref C) "name" = some none
  g0 : mg "UnknownName" = some (.ref C)
  g1 : mg "InvalidPaper" = some (.ref c1)
  g2 : mg "PaperError" = some (.ref c2)
  g3 : mg "ArchiveError" = some (.ref c3)
  g4 : mg "TextError" = some (.ref c4)
  g5 : mg "InvalidStep" = some (.ref c5)
  g6 : mg "NotAnswerable" = some (.ref c6)
  g7 : mg "NothingToUndo" = some (.ref c7)
  g8 : mg "InvalidText" = some (.ref c8)
  g9 : mg "InvalidCommand" = some (.ref c9)
  k0 : PySem.W.kitOne K (.ref C) (.ref C) = some true
  k1 : PySem.W.kitOne K (.ref C) (.ref c1) = some false
  k2 : PySem.W.kitOne K (.ref C) (.ref c2) = some false
  k3 : PySem.W.kitOne K (.ref C) (.ref c3) = some true
  k4 : PySem.W.kitOne K (.ref C) (.ref c4) = some false
  k5 : PySem.W.kitAny K (.ref C) [.ref c5, .ref c6, .ref c7, .ref c8, .ref c9] = some false
theorem pe_never {X : Cx} {e : Expr} : PE X e (fun _ _ _ => False) := ⟨fun _ _ _ _ _ _ h => h.elim⟩
section
variable {P : Program} {w : World} {K : PySem.W.Frag} {mg : Str → Option Value} {base : Heap}
variable {C c1 c2 c3 c4 c5 c6 c7 c8 c9 : Addr}
def spErr (C : Addr) : Addr × Obj → Pr := fun p vs H Q => ∃ (dd : Addr) (z : Str), vs = [.ref p.1] ∧ Zc (.ref C) (some dd) p.2 ∧ (∃ ws, p.2.data = .fields ws) ∧ H dd = some (.xd [("name", .str z)]) ∧
  ∀ H' r, Same H H' → H' r = some (.tup [.str "name", .str z]) → Q (.ref r) H'
theorem ok_err {f : Addr} {fd : FuncData} {k : Nat} (B : ErrK K mg C c1 c2 c3 c4 c5 c6 c7 c8 c9) (F : Fun K "_law_error" "_law_error" sErr f fd) (mi : mg "isinstance" = none) : FnE P w K mg base (k + 1) f fd ["_law_e"] (spErr C) := by
  refine okE F scErr (fun p vs H Q h => ?_) (fun cdv A outer s H vs Q p hr h => ?_)
  · obtain ⟨_, _, rfl, _⟩ := h
    rfl
  · obtain ⟨dd, z, rfl, hz, hdat, hdd, q⟩ := h
    have big := sizeBig
    have hun : (A.deeper (envOfC "_law_error" (defScope sErr) s.heap.objs.size f cdv)).units + 64 < cLine := by
      have := hr.un
      omega
    have CG : Caught (L2H.cxH CX0 P w K mg base NErr "_law_error" (defScope sErr) f cdv A outer s H E0 p).nox p C dd := ⟨List.mem_singleton.mpr rfl, hz, hdat, B.exc⟩
    refine ⟨_, pss_cons (ps_set (i := 1) scErr.nd rfl (.inl rfl) (pe_lst (pa_cons (pe_callB (call_isX CG) (by rfl) mi (by decide +kernel) (pa_cons (pv 0) (pa_cons (pe_glob (v := .ref c1) (by rfl) B.g1 rfl) pa_nil))) (pa_cons (pe_callB (call_isX CG) (by rfl) mi (by decide +kernel) (pa_cons (pv 0) (pa_cons (pe_glob (v := .ref C) (by rfl) B.g0 rfl) pa_nil))) pa_nil))))
      (pss_cons (ps_set (i := 2) scErr.nd rfl (.inl rfl) (pe_lst (pa_cons (pe_callB (call_isX CG) (by rfl) mi (by decide +kernel) (pa_cons (pv 0) (pa_cons (pe_glob (v := .ref c2) (by rfl) B.g2 rfl) pa_nil))) (pa_cons (pe_callB (call_isX CG) (by rfl) mi (by decide +kernel) (pa_cons (pv 0) (pa_cons (pe_glob (v := .ref c3) (by rfl) B.g3 rfl) pa_nil))) (pa_cons (pe_callB (call_isX CG) (by rfl) mi (by decide +kernel) (pa_cons (pv 0) (pa_cons (pe_glob (v := .ref c4) (by rfl) B.g4 rfl) pa_nil))) pa_nil)))))
      (pss_cons (ps_set (i := 3) scErr.nd rfl (.inl rfl) (pe_callB (call_isT CG) (by rfl) mi (by decide +kernel) (pa_cons (pv 0) (pa_cons (pe_tup (pa_cons (pe_glob (v := .ref c5) (by rfl) B.g5 rfl) (pa_cons (pe_glob (v := .ref c6) (by rfl) B.g6 rfl) (pa_cons (pe_glob (v := .ref c7) (by rfl) B.g7 rfl) (pa_cons (pe_glob (v := .ref c8) (by rfl) B.g8 rfl) (pa_cons (pe_glob (v := .ref c9) (by rfl) B.g9 rfl) pa_nil)))))) pa_nil))))
      (pss_cons (ps_if (PW.pt (pw_or (pt_cmpR op_ne (pe_bm PySem.F.plainAttrs_list PySem.F.slot_list_count PySem.F.type_list_count mt_cnt (pv 1) (pa_cons pe_bl pa_nil)) pe_int (nomark _)) (pw_or (pt_cmpR (op_neD hun) (pv 2) (pe_lst (pa_cons (pe_ix (ix_list : IxR _ (rIxL K)) (pv 1) pe_int (fun _ _ => rfl)) (pa_cons (pe_ix (ix_list : IxR _ (rIxL K)) (pv 1) pe_int (fun _ _ => rfl)) (pa_cons pe_bl pa_nil)))) (nomark _)) (pw_or1 (pt_val (pv 3)))))) pss_never pss_nil)
      (pss_one (ps_ret (pe_ifExp (pt_val (pe_ix (ix_list : IxR _ (rIxL K)) (pv 1) pe_int (fun _ _ => rfl))) pe_never (pe_tup (pa_cons pe_str (pa_cons (pe_fd CG B.xf B.no (pv 0)) pa_nil))))))))), ?_⟩
    refine iSeq (iAsg ⟨.ref p.1, rfl, _, .ref c1, .ref c1, false, hdd, rfl, fun u r => r, B.k1, ⟨.ref p.1, rfl, _, .ref C, .ref C, true, hdd, rfl, fun u r => r, B.k0, ⟨by show 2 ≤ sizeLine; omega, fun l1 hl1 => ?_⟩⟩⟩)
    have s1 := same_new (o := .lst [.bl false, .bl true]) hl1
    refine iName ?_
    dsimp only
    have d1 := s1 _ _ hdd
    refine iSeq (iAsg ⟨.ref p.1, rfl, _, .ref c2, .ref c2, false, d1, rfl, fun u r => r, B.k2, ⟨.ref p.1, rfl, _, .ref c3, .ref c3, true, d1, rfl, fun u r => r, B.k3, ⟨.ref p.1, rfl, _, .ref c4, .ref c4, false, d1, rfl, fun u r => r, B.k4, ⟨by show 3 ≤ sizeLine; omega, fun l2 hl2 => ?_⟩⟩⟩⟩)
    have s2 := same_new (o := .lst [.bl false, .bl true, .bl false]) hl2
    refine iName ?_
    dsimp only
    refine iSeq (iAsg ⟨.ref p.1, rfl, by show 5 ≤ sizeLine; omega, fun tp htp => ?_⟩)
    have s3 := same_new (o := .tup [.ref c5, .ref c6, .ref c7, .ref c8, .ref c9]) htp
    refine ⟨_, tp, _, [.ref c5, .ref c6, .ref c7, .ref c8, .ref c9], false, s3 _ _ (s2 _ _ d1), rfl, sqT upd_same, fun us r => ?_, B.k5, ?_⟩
    · cases r with
      | cons r1 r => cases r with
        | cons r2 r => cases r with
          | cons r3 r => cases r with
            | cons r4 r => cases r with
              | cons r5 r =>
                cases r
                cases r1
                cases r2
                cases r3
                cases r4
                cases r5
                rfl
    refine iName ?_
    dsimp only
    have s23 := s2.trans s3
    have hl1' := s23 _ _ (upd_same (H := H) (a := l1) (o := .lst [.bl false, .bl true]))
    have hl2' := s3 _ _ (upd_same (H := upd H l1 (.lst [.bl false, .bl true])) (a := l2) (o := .lst [.bl false, .bl true, .bl false]))
    have d3 := s23 _ _ d1
    have s13 := s1.trans s23
    generalize upd (upd (upd H l1 (.lst [.bl false, .bl true])) l2 (.lst [.bl false, .bl true, .bl false])) tp (.tup [.ref c5, .ref c6, .ref c7, .ref c8, .ref c9]) = H3 at hl1' hl2' d3 s13 ⊢
    refine iSeq (iIfS (iOr ⟨.ref l1, rfl, .inl ⟨rfl, _, sqL hl1'⟩, l1, _, .bl true, rfl, rfl, sqL hl1', rfl, rfl, rfl, _, rfl, ?_⟩))
    refine iteF (iOr ⟨.ref l2, rfl, .ref l1, rfl, l1, _, _, _, rfl, rfl, sqL hl1', atI_nat (j := 0) rfl, .ref l1, rfl, l1, _, _, _, rfl, rfl, sqL hl1', atI_nat (j := 1) rfl, by show 3 ≤ sizeLine; omega, fun l4 hl4 => ?_⟩)
    have s4 := same_new (o := .lst [.bl false, .bl true, .bl false]) hl4
    refine ⟨.list [.bool false, .bool true, .bool false], .list [.bool false, .bool true, .bool false], .lst (sqL (s4 _ _ hl2')) (.cons (.bl _) (.cons (.bl _) (.cons (.bl _) .nil))), .lst (sqL upd_same) (.cons (.bl _) (.cons (.bl _) (.cons (.bl _) .nil))), by decide, by decide, _, rfl, ?_⟩
    refine iteF (iB ⟨.bl false, rfl, _, rfl, iteF (iNext ?_)⟩)
    dsimp only
    refine iRet ⟨.ref l1, rfl, l1, _, _, _, rfl, rfl, sqL (s4 _ _ hl1'), atI_nat (j := 0) rfl, _, rfl, ?_⟩
    refine iteF ⟨.ref p.1, rfl, rfl, _, .str z, s4 _ _ d3, rfl, by show 2 ≤ sizeLine; omega, fun r hr' => ?_⟩
    exact q _ r ((s13.trans s4).trans (same_new hr')) upd_same
end
end P56
namespace P56
open PySem PySem.Spec PyProof.Rows L2 AskG Ask
abbrev sRes : Stmt := topS 37
abbrev NRes : List Str := ["_law_ask", "_law_found", "_law_e"]
theorem scRes : FnScope NRes ["_law_ask"] (defScope sRes) := ⟨rfl, rfl, rfl, by decide +kernel, rfl, by decide +kernel, by decide +kernel⟩
/-- what _law_result makes of a lambda -/
def TTres (K : PySem.W.Frag) (C CA : Addr) : (XK → Hp → VK → Prop) → Hp → VK → Prop := fun tl H Q =>
  tl (fun cls d H' => cls = .ref C ∧ PySem.W.exmOne K (.ref C) (.ref CA) = some true ∧ ∃ (dd : Addr) (z : Str), d = some dd ∧ H' dd = some (.xd [("name", .str z)]) ∧ ∀ H'' r, Same H' H'' → H'' r = some (.tup [.str "name", .str z]) → Q (.ref r) H'') H
    (fun v H' => 2 ≤ sizeLine ∧ ∀ r, H' r = none → Q (.ref r) (upd H' r (.tup [.str "value", v])))
theorem takes_len {X : Cx} {W : WX} {n : Nat} (t : Takes X W) (hn : X.N.length = n) : Takes X (fun cls d σ H => σ.length = n → W cls d σ H) := by
  rintro u s' ⟨a, B, sI, pins, σ, H, cls, d, e, I, nb, up, sky, na, os, ag, w⟩
  exact t u s' ⟨a, B, sI, pins, σ, H, cls, d, e, I, nb, up, sky, na, os, ag, w (I.len.trans hn)⟩
/-- the suite's one call -/
def tErr (C a : Addr) (cls : Value) (d : Option Addr) : TE := fun σ H Q => σ[2]? = some (some (.ref a)) ∧ cls = .ref C ∧ ∃ (dd : Addr) (z : Str), d = some dd ∧ H dd = some (.xd [("name", .str z)]) ∧ ∀ H'' r, Same H H'' → H'' r = some (.tup [.str "name", .str z]) → Q (.ref r) H''
section
variable {X : Cx} {C CA g fE : Addr} {fdE : FuncData} {cdg : Value} {k : Nat}
theorem res_gives (q : Str) (hA : X.mg "AskError" = some (.ref CA)) (FE : Fun X.K "_law_error" "_law_error" sErr fE fdE) (bE : Binds X.K fdE ["_law_e"] []) (gE : X.mg "_law_error" = some (.ref fE)) (GE : FnE X.prog X.w X.K X.mg X.base k fE fdE ["_law_e"] (spErr C))
    (hr : Room (k + 1) X.A) : LamX.GivesTo X NRes "_law_result" (defScope sRes) g cdg (defBody sRes) "_law_ask" q (TTres X.K C CA) := by
  intro f c' s H Q tl act hc h
  have rm : L2H.RoomH k (X.A.deeper (envOfC "_law_result" (defScope sRes) s.heap.objs.size g cdg)) := L2H.roomH_of (hr.deeper _)
  refine ⟨_, pss_cons (ps_set (i := 1) scRes.nd rfl (.inl rfl) pe_non)
    (pss_cons (ps_try_as (X := (cxOf C8.CX0 X.prog X.w X.K X.mg X.base NRes "_law_result" (defScope sRes) g cdg X.A X.stack s H C8.E0).nox) (i := 2) (c := .ref CA)
      (tb := fun W D σ H => ∃ Ech : XK, (∀ cls d σ' H', σ'.length = 3 → Ech cls d H' → W cls d σ' H') ∧ σ[0]? = some (some (.ref f)) ∧ H c' = some (LamX.CodeO c' q) ∧ tl Ech H fun v H1 => 2 ≤ sizeLine ∧ ∀ r, H1 r = none → D.rt (.ref r) (upd H1 r (.tup [.str "value", v])))
      rfl rfl scRes.nd rfl rfl ⟨by rfl, by decide, .inl hA⟩ LamX.takes0 (fun W pn xe tk _ => ?_) (fun a oe cls d pn hz hd => pss_one (ps_set (i := 1) scRes.nd rfl (.inl rfl) (PE.less (t' := tErr C a cls d) (pe_e (X := (cxOf C8.CX0 X.prog X.w X.K X.mg X.base NRes "_law_result" (defScope sRes) g cdg X.A X.stack s H C8.E0).nox.suite a ((a, oe) :: pn)) (p := (a, oe)) GE ?_ List.mem_cons_self (by rfl) gE FE.kp bE (pa_cons (pv 2) pa_nil)) ?_))))
    (pss_one (ps_ret (pv 1)))), ?_⟩
  · refine ⟨fun pins s' σ H' D I h' => ?_⟩
    obtain ⟨Ech, hW, h1, h2, h3⟩ := h'
    refine PSs.run (t := tRet (tTup (tCons (tC (.str "value")) (tCons (fun σZ HZ Q => σZ[0]? = some (some (.ref f)) ∧ HZ c' = some (LamX.CodeO c' q) ∧ tl Ech HZ Q) tNil)))) (pss_one (ps_ret (pe_tup (pa_cons pe_str (pa_cons (act (fun cls d σ H => σ.length = 3 → W cls d σ H) pn xe Ech _ _ (takes_len (n := 3) tk rfl) fun cls d σ' H' e l => hW cls d σ' H' l e) pa_nil))))) pins s' σ H' D I ?_
    exact ⟨h1, h2, h3⟩
  · exact ⟨rm.dp, rm.un⟩
  · rintro σ H1 Q1 ⟨e, rfl, dd, z, rfl, hdd, q1⟩
    exact ⟨.ref a, e, dd, z, rfl, hz, hd, hdd, q1⟩
  · refine iSeq (iAsg (iName ?_))
    dsimp only
    refine iSeq ?_
    refine ⟨_, fun cls d σ' H' l e => ?_, rfl, hc, h⟩
    obtain ⟨rfl, ex, dd, z, rfl, hdd, q1⟩ := e
    refine ⟨true, ex, fun _ a na => ?_, fun z => by cases z⟩
    refine iAsg (te := tErr C a (.ref C) (some dd)) ?_
    refine ⟨?_, rfl, dd, z, rfl, hdd, fun H'' r s2 hr2 => iName ?_⟩
    · rw [List.getElem?_set_self (by omega)]
    · show ∃ v, _ ∧ _
      refine ⟨.ref r, ?_, q1 H'' r s2 hr2⟩
      rw [List.getElem?_set_ne (by decide), List.getElem?_set_self (by rw [List.length_set]; omega)]
end
end P56
/-! AskEl: lengths of what repr shows, added up. -/
namespace AskG
open PySem PySem.Spec PyProof.Rows L2
/-- items that repr shows in at most n signs together -/
structure FineL (k n : Nat) (ds : List PyData) : Prop where
  shw : PyData.showableAll ds = true
  nod : PyData.hasDictAll ds = false
  dep : PyData.depthAll ds ≤ k
  len : ((PyData.shownAll ds).map (·.length)).sum ≤ n
  num : (PyData.shownAll ds).length = ds.length
theorem FineL.nil {k n : Nat} : FineL k n [] := ⟨rfl, rfl, Nat.zero_le _, Nat.zero_le _, rfl⟩
theorem FineL.cons {k n m : Nat} {d : PyData} {ds : List PyData} (f : Fine k m d) (h : FineL k n ds) : FineL k (m + n) (d :: ds) := by
  refine ⟨?_, ?_, ?_, ?_, ?_⟩
  · show (d.showable && PyData.showableAll ds) = true
    rw [f.shw, h.shw]
    rfl
  · show (d.hasDict || PyData.hasDictAll ds) = false
    rw [f.nod, h.nod]
    rfl
  · exact Nat.max_le.mpr ⟨f.dep, h.dep⟩
  · show ((d.shown :: PyData.shownAll ds).map (·.length)).sum ≤ _
    rw [List.map_cons, List.sum_cons]
    have := f.len
    have := h.len
    omega
  · show (d.shown :: PyData.shownAll ds).length = _
    rw [List.length_cons, List.length_cons, h.num]
theorem FineL.mono {k n k' n' : Nat} {ds : List PyData} (h : FineL k n ds) (hk : k ≤ k') (hn : n ≤ n') : FineL k' n' ds :=
  ⟨h.shw, h.nod, Nat.le_trans h.dep hk, Nat.le_trans h.len hn, h.num⟩
theorem FineL.app {k m : Nat} {es : List PyData} (g : FineL k m es) : ∀ {n : Nat} {ds : List PyData}, FineL k n ds → FineL k (n + m) (ds ++ es)
  | n, [], _ => g.mono (Nat.le_refl _) (by omega)
  | n, d :: ds, h => by
    have s1 : (d.showable && PyData.showableAll ds) = true := h.shw
    rw [Bool.and_eq_true] at s1
    have s2 : (d.hasDict || PyData.hasDictAll ds) = false := h.nod
    rw [Bool.or_eq_false_iff] at s2
    have s3 : max d.depth (PyData.depthAll ds) ≤ k := h.dep
    have s4 : ((d.shown :: PyData.shownAll ds).map (·.length)).sum ≤ n := h.len
    rw [List.map_cons, List.sum_cons] at s4
    have s5 : (d.shown :: PyData.shownAll ds).length = (d :: ds).length := h.num
    rw [List.length_cons, List.length_cons] at s5
    have t : FineL k ((PyData.shownAll ds).map (·.length)).sum ds := ⟨s1.2, s2.2, by omega, Nat.le_refl _, by omega⟩
    exact (FineL.cons (m := d.shown.length) ⟨s1.1, s2.1, by omega, Nat.le_refl _⟩ (FineL.app g t)).mono (Nat.le_refl _) (by omega)
theorem FineL.by {k n m : Nat} {ds : List PyData} (h : ∀ d ∈ ds, Fine k n d) (hm : ds.length ≤ m) : FineL k (m * n) ds := by
  obtain ⟨h1, h2, h3, h4, h5⟩ := all_fine h
  exact ⟨h1, h2, h3, Nat.le_trans h4 (Nat.mul_le_mul_right _ hm), h5⟩
theorem FineL.tup {k n m : Nat} {ds : List PyData} (h : FineL k n ds) (hm : ds.length ≤ m) : Fine (k + 1) (n + 2 * m + 3) (.tuple ds) := by
  refine ⟨h.shw, h.nod, Nat.succ_le_succ h.dep, ?_⟩
  have t := tupleText_len_le (PyData.shownAll ds)
  have := h.len
  show (tupleText (PyData.shownAll ds)).length ≤ _
  rw [h.num] at t
  omega
theorem fine_small {i : Int} (h : i.natAbs < 10 ^ 12) : Fine 0 13 (.int i) := by
  refine ⟨?_, rfl, Nat.le_refl _, ?_⟩
  · refine decide_eq_true ?_
    by_cases z : i.natAbs = 0
    · rw [z]
      decide
    · have h2 : i.natAbs < 2 ^ 40 := Nat.lt_of_lt_of_le h (by decide)
      have := (Nat.log2_lt z).mpr h2
      omega
  · show (PySem.Str.ofString (toString i)).length ≤ 13
    rw [PySem.ofString_length]
    exact PySem.int_text_length_le10 (k := 12) (by decide) h
theorem fine_text {x : Str} (h : x.length ≤ 8) (hx : ∀ c ∈ x.cps.toList, c < 16 ^ 8) : Fine 0 82 (.str x) :=
  ⟨rfl, rfl, Nat.le_refl _, by
    have := StrLaws.reprText_len x hx
    show (reprText x).length ≤ _
    omega⟩
/-- a row of at most m cells on days of at most twelve digits -/
theorem fine_days {ρ : RowD} {m : Nat} (h : RowOk ρ) (hm : ρ.length ≤ m) (hd : ∀ x ∈ ρ, x.1.2.natAbs < 10 ^ 12) : Fine 3 (m * 2030 + 2 * m + 3) (rowPD ρ) := by
  refine FineL.tup (FineL.by (k := 2) (n := 2030) (m := m) (fun d hd' => ?_) (by rw [List.length_map]; exact hm)) (by rw [List.length_map]; exact hm)
  obtain ⟨x, hx, rfl⟩ := List.mem_map.mp hd'
  have c := h.cells x hx
  have f1 : Fine 1 (82 + (13 + 0) + 2 * 2 + 3) (cellD x.1) := FineL.tup (FineL.cons (fine_text c.short c.plain) (FineL.cons (fine_small (hd x hx)) (FineL.nil (n := 0)))) (m := 2) (Nat.le_refl _)
  have f2 : Fine 2 (102 + (1921 + 0) + 2 * 2 + 3) (pairD x) := FineL.tup (FineL.cons f1 (FineL.cons ((fine_int (h.lit x hx)).mono (by decide) (Nat.le_refl _)) (FineL.nil (n := 0)))) (m := 2) (Nat.le_refl _)
  exact f2
theorem repr_fine {K : PySem.W.Frag} {H : Hp} {a : Addr} {d : PyData} {n m : Nat} {Q : VK} (h : Dp K H (.ref a) d) (f : Fine n m d) (hn : n ≤ 60) (hm : m ≤ 16777216) (q : Q (.str d.shown) H) : rRepr K [.ref a] H Q :=
  ⟨a, d, rfl, h, f.shw, f.nod, Nat.le_trans f.dep hn, by rw [sizeLine_eq]; exact Nat.le_trans f.len hm, q⟩
end AskG
/-! AskMu: a tuple taken once or not at all. -/
namespace AskG
open PySem PySem.Spec PyProof.Rows L2
theorem mul_once (l : Addr) (items : Array Value) (n : Nat) (dd : Option Addr) (sl : Array (Option Value)) (u : Tok) :
    Meets (Builtin.«tuple.__mul__» ⟨[.ref l, .int 1 u], []⟩) (fun _ R s => s.heap.get? l = some { cls := .type "tuple", dict := dd, data := .seq items n, slots := sl } ∧ R (.ok (.ret (Value.ref l))) s) :=
  .of_wp fun prog w A R s h => by
    obtain ⟨hp, g, d, tk, os⟩ := s
    obtain ⟨hl, h⟩ := h
    have f1 := AutoSeq1.idx_int
    wp_walk using wpAny_loadPart' hl
    exact ⟨_, rfl, h⟩
theorem mul_none (l : Addr) (items : Array Value) (n : Nat) (dd : Option Addr) (sl : Array (Option Value)) (u : Tok) (hi : items.isEmpty = false) :
    Meets (Builtin.«tuple.__mul__» ⟨[.ref l, .int 0 u], []⟩) (fun _ R s => s.heap.get? l = some { cls := .type "tuple", dict := dd, data := .seq items n, slots := sl } ∧
      R (.ok (.ret (Value.ref s.heap.objs.size))) { s with heap := s.heap.push { cls := Value.type "tuple", data := Data.seq #[] }, toks := s.toks }) :=
  .of_wp fun prog w A R s h => by
    obtain ⟨hp, g, d, tk, os⟩ := s
    obtain ⟨hl, h⟩ := h
    have f1 := AutoSeq1.idx_int
    wp_walk using wpAny_loadPart' hl
    exact ⟨_, rfl, h⟩
/-- t * 0, t * 1 -/
def rRep1 (K : PySem.W.Frag) : R2 := fun x y H Q => ∃ l k xs, x = .ref l ∧ y = .int k ∧ SqT K H l xs ∧ xs ≠ [] ∧ 0 ≤ k ∧ k < 2 ∧ (k = 1 → Q (.ref l) H) ∧ (k = 0 → ∀ p, H p = none → Q (.ref p) (upd H p (.tup [])))
theorem op_rep1 {X : Cx} : OpR X (binaryOp .Mult) (rRep1 X.K) := by
  intro pins s σ H x y v u Q I rx ry h
  obtain ⟨l, k, xs, rfl, rfl, hT, hne, h1, h2, q1, q0⟩ := h
  cases rx
  obtain ⟨t, rfl⟩ := ry
  obtain ⟨its, r, ⟨⟨cls, dd, data, sl⟩, ho, hc, n, hd⟩, hs⟩ := I.tuple hT
  simp only at hc hd
  subst hc hd
  have hi : its.toArray.isEmpty = false := by
    cases its with
    | nil =>
      cases r
      exact absurd rfl hne
    | cons a b => rfl
  obtain rfl | rfl : k = 0 ∨ k = 1 := by omega
  · refine wpAny_binaryOp_repeat_ref (T := "tuple") (U := "int") (by decide) ⟨_, ho, rfl⟩ (fun s' => typeIs_int s' 0 t) noFill_tuple_mul F.fills_int_mul F.slot_int_rmul repeat_tuple F.slot_int_index.lookup
      (call_meets F.slot_int_rmul (typeIs_int s 0 t) F.entry_int_rmul (F.args_int_rmul_2 _ _) (int_rmul_tuple 0 t l its.toArray n dd sl)
        ⟨ho, rfl, ⟨_, ho, rfl⟩, call_meets F.slot_tuple_mul ⟨_, ho, rfl⟩ F.entry_tuple_mul (F.args_tuple_mul_2 _ _) (mul_none l its.toArray n dd sl t hi) ⟨ho, ?_⟩⟩)
    refine ⟨.ref s.heap.objs.size, _, I.laid (t' := s.toks) (o := .tup []) (fun b ob q => Heap.get?_push_of_some _ q) (Nat.le_refl _) ?_, rfl, q0 rfl _ (I.hok.fresh (Nat.le_refl _))⟩
    exact ⟨Nat.zero_le _, [], .nil, IsTup.new _ _⟩
  · refine wpAny_binaryOp_repeat_ref (T := "tuple") (U := "int") (by decide) ⟨_, ho, rfl⟩ (fun s' => typeIs_int s' 1 t) noFill_tuple_mul F.fills_int_mul F.slot_int_rmul repeat_tuple F.slot_int_index.lookup
      (call_meets F.slot_int_rmul (typeIs_int s 1 t) F.entry_int_rmul (F.args_int_rmul_2 _ _) (int_rmul_tuple 1 t l its.toArray n dd sl)
        ⟨ho, rfl, ⟨_, ho, rfl⟩, call_meets F.slot_tuple_mul ⟨_, ho, rfl⟩ F.entry_tuple_mul (F.args_tuple_mul_2 _ _) (mul_once l its.toArray n dd sl t) ⟨ho, ?_⟩⟩)
    exact ⟨.ref l, H, I, rfl, q1 rfl⟩
end AskG
namespace P56
open PySem PySem.Spec PyProof.Rows L2 AskG Ask
abbrev sLong : Stmt := topS 40
abbrev NLong : List Str := ["_law_seen", "_law_k", "_law_held_here", "_law_due"]
theorem scLong : FnScope NLong [] (defScope sLong) := ⟨rfl, rfl, rfl, by decide +kernel, rfl, by decide +kernel, by decide +kernel⟩
def mkR (x : Str) (i : Nat) : RowD := [((x, (0 : Int) + (i : Int)), 1)]
def seenL : List RowD := (List.range 10).map (mkR "b") ++ ([[(("c", 0), 2)], [(("c", 1), 3)]] : List RowD)
def dueL : List RowD := seenL ++ (List.range 10).map (mkR "a")
def R0 : Rt := ⟨"ann", [("a", 1)], 0, 9, .win 1⟩
theorem left0 : seenL ++ leftL [("p", R0)] 0 ["ann"] [] = dueL := by decide +kernel
theorem r0_ok : RtOk R0 := ⟨cellOk_of (by decide +kernel), by decide, fun x hx => by
  rw [List.mem_singleton.mp hx]
  exact cellOk_of (by decide +kernel), by decide, by decide, by decide, by decide, ⟨by decide, by decide⟩⟩
def oneB (ρ : RowD) : Bool := decide (ρ.length ≤ 1) && ρ.all fun x => cellB x.1 && decide (x.2.natAbs < 1000) && decide (x.1.2.natAbs < 1000)
theorem fine_due : Fine 4 99999 (.tuple (dueL.map rowPD)) := by
  have all : dueL.all oneB = true := by decide +kernel
  refine (Fine.tup (k := 3) (n := 2035) (m := 22) (fun d hd => ?_) (by rw [List.length_map]; decide +kernel)).mono (Nat.le_refl _) (by decide)
  obtain ⟨ρ, hρ, rfl⟩ := List.mem_map.mp hd
  have b := List.all_eq_true.mp all ρ hρ
  unfold oneB at b
  rw [Bool.and_eq_true, decide_eq_true_eq, List.all_eq_true] at b
  have c : ∀ x ∈ ρ, cellB x.1 = true ∧ x.2.natAbs < 1000 ∧ x.1.2.natAbs < 1000 := fun x hx => by
    have := b.2 x hx
    rw [Bool.and_eq_true, Bool.and_eq_true, decide_eq_true_eq, decide_eq_true_eq] at this
    exact ⟨this.1.1, this.1.2, this.2⟩
  refine fine_days (m := 1) ⟨by omega, fun x hx => cellOk_of (c x hx).1, fun x hx => ?_⟩ b.1 fun x hx => ?_
  · have := (c x hx).2.1
    by_cases z : x.2.natAbs = 0
    · rw [z]
      decide
    · have h2 : x.2.natAbs < 2 ^ 10 := by omega
      have := (Nat.log2_lt z).mpr h2
      omega
  · have := (c x hx).2.2
    omega
theorem dp_tup {K : PySem.W.Frag} {H : Hp} {p : Addr} {ys : List RowD} (h : TupRows H p ys) : Dp K H (.ref p) (.tuple (ys.map rowPD)) := by
  obtain ⟨bs, h1, h2⟩ := h
  exact .tup (sqT h1) (dp_all (f := rowPD) (R := RowAt H) (fun _ _ z => dp_row z) h2)
section
variable {P : Program} {w : World} {K : PySem.W.Frag} {mg : Str → Option Value} {base : Heap}
variable {C fL : Addr} {fdL : FuncData}
def prLong : Pr := fun vs H Q => vs = [] ∧ ∀ H', Same H H' → Q (.bl true) H'
theorem ok_long {f : Addr} {fd : FuncData} {k : Nat} (F : Fun K "_law_long_right" "_law_long_right" sLong f fd)
    (FL : Fun K "rows_left" "rows_left" sRL fL fdL) (bL : Binds K fdL PSR []) (gL : mg "rows_left" = some (.ref fL)) (GL : FnX P w K mg base (k + 5) fL fdL PSR (spRL C))
    (mt : mg "tuple" = none) (mr : mg "range" = none) (mp : mg "repr" = none) : FnG P w K mg base (k + 6) f fd [] prLong := by
  refine okG F scLong (fun vs H Q h => ?_) (fun cdv A outer s H vs Q hr h => ?_)
  · obtain ⟨rfl, _⟩ := h
    rfl
  · obtain ⟨rfl, q⟩ := h
    have big := sizeBig
    refine ⟨_, pss_cons (ps_set (i := 0) scLong.nd rfl (.inl rfl) (pe_op (op_catA : OpR _ _ (rCatA K)) (pe_callTy call_tuple_of (by rfl) mt (by decide +kernel) (pa_cons (pe_lc (own := [("_law_k", 1)]) (g := gName 1) (tt := tYes) rfl scLong.nd (pi_range1 rfl mr (pa_cons pe_int pa_nil)) (blkOk_by (N := NLong) (sc := defScope sLong) (by decide +kernel))
        (fun _ _ _ _ _ => pg_name (i := 1) scLong.nd rfl (.inl rfl)) (fun _ _ _ _ _ => pts_nil) (fun _ _ _ _ _ => pe_tup (pa_cons (pe_tup (pa_cons (pe_tup (pa_cons pe_str (pa_cons (pv 1) pa_nil))) (pa_cons pe_int pa_nil))) pa_nil))) pa_nil))
        (pe_tup (pa_cons (pe_tup (pa_cons (pe_tup (pa_cons (pe_tup (pa_cons pe_str (pa_cons pe_int pa_nil))) (pa_cons pe_int pa_nil))) pa_nil)) (pa_cons (pe_tup (pa_cons (pe_tup (pa_cons (pe_tup (pa_cons pe_str (pa_cons pe_int pa_nil))) (pa_cons pe_int pa_nil))) pa_nil)) pa_nil)))))
      (pss_cons (ps_set (i := 2) scLong.nd rfl (.inl rfl) (pe_tup (pa_cons (pe_tup (pa_cons pe_str (pa_cons (pe_tup (pa_cons pe_str (pa_cons (pe_tup (pa_cons (pe_tup (pa_cons pe_str (pa_cons pe_int pa_nil))) pa_nil)) (pa_cons pe_int (pa_cons pe_int (pa_cons (pe_tup (pa_cons pe_str (pa_cons pe_int pa_nil))) pa_nil)))))) pa_nil))) pa_nil)))
      (pss_cons (ps_set (i := 3) scLong.nd rfl (.inl rfl) (pe_op (op_catA : OpR _ _ (rCatA K)) (pv 0) (pe_callTy call_tuple_of (by rfl) mt (by decide +kernel) (pa_cons (pe_lc (own := [("_law_k", 1)]) (g := gName 1) (tt := tYes) rfl scLong.nd (pi_range1 rfl mr (pa_cons pe_int pa_nil)) (blkOk_by (N := NLong) (sc := defScope sLong) (by decide +kernel))
        (fun _ _ _ _ _ => pg_name (i := 1) scLong.nd rfl (.inl rfl)) (fun _ _ _ _ _ => pts_nil) (fun _ _ _ _ _ => pe_tup (pa_cons (pe_tup (pa_cons (pe_tup (pa_cons pe_str (pa_cons (pv 1) pa_nil))) (pa_cons pe_int pa_nil))) pa_nil))) pa_nil))))
      (pss_one (ps_ret (pe_cmpR op_eq (pe_callB (call_repr hr) (by rfl) mp (by decide +kernel) (pa_cons (pe_x GL hr.room (by rfl) gL FL.kp bL LamX.takes0 (pa_cons (pv 2) (pa_cons pe_int (pa_cons (pv 0) (pa_cons (pe_tup (pa_cons (pe_tup (pa_cons pe_str pa_nil)) (pa_cons (pe_tup pa_nil) (pa_cons pe_int pa_nil)))) (pa_cons (pe_tup pa_nil) pa_nil)))))) pa_nil)) (pe_callB (call_repr hr) (by rfl) mp (by decide +kernel) (pa_cons (pv 3) pa_nil)) (nomark _)))))), ?_⟩
    refine iSeq (iAsg ⟨10, rfl, by decide, by decide, fun D hD => ?_⟩)
    refine loop_rg (lo := 0) (n := 10) (fun i H' => Same H H' ∧ ∃ bs, H' D = some (.lst (bs.map V.ref)) ∧ Paired (RowAt H') bs ((List.range i).map (mkR "b"))) ⟨same_new hD, [], upd_same, .nil⟩ (fun i H' hi h => ?_) (fun H1 h => ?_)
    · obtain ⟨sm, bs, hbs, hbb⟩ := h
      have bl := Paired.length hbb
      rw [List.length_map, List.length_range] at bl
      refine ⟨wipe1, iYes (iteT ⟨.int (0 + (i : Int)), rfl, by show 2 ≤ sizeLine; omega, fun c hc => ⟨by show 2 ≤ sizeLine; omega, fun q1 hq1 => ⟨by show 1 ≤ sizeLine; omega, fun q2 hq2 => ?_⟩⟩⟩)⟩
      have t1 := same_new (o := .tup [.str "b", .int (0 + (i : Int))]) hc
      have t2 := same_new (o := .tup [.ref c, .int 1]) hq1
      have t3 := same_new (o := .tup [.ref q1]) hq2
      have t13 := (t1.trans t2).trans t3
      have hD3 := t13 _ _ hbs
      obtain ⟨H3, e3⟩ : ∃ H3 : Hp, H3 = upd (upd (upd H' c (.tup [.str "b", .int (0 + (i : Int))])) q1 (.tup [.ref c, .int 1])) q2 (.tup [.ref q1]) := ⟨_, rfl⟩
      rw [← e3] at t13 hD3 ⊢
      have hr3 : RowAt H3 q2 (mkR "b" i) := by
        rw [e3]
        exact ⟨[q1], upd_same, .cons ⟨c, t3 _ _ upd_same, t3 _ _ (t2 _ _ upd_same)⟩ .nil⟩
      have hb3 : Paired (RowAt H3) bs ((List.range i).map (mkR "b")) := Paired.mapP hbb fun _ _ z => z.keep (KeepT.of t13)
      clear e3
      have kp : KeepT H3 (upd H3 D (.lst (bs.map V.ref ++ [.ref q2]))) := KeepT.put hD3 fun _ z => nomatch z
      refine ⟨_, hD3, by rw [List.length_map]; omega, fun b o e => ?_, bs ++ [q2], by rw [upd_same, List.map_append]; rfl, ?_⟩
      · rw [upd_ne (ne_of_none e hD)]
        exact t13 _ _ (sm _ _ e)
      · rw [List.range_succ, List.map_append]
        exact Paired.snoc (Paired.mapP hb3 fun _ _ z => z.keep kp) (hr3.keep kp)
    obtain ⟨sm, bs, hbs, hbb⟩ := h
    refine ⟨D, _, rfl, .inl ⟨sqL hbs, fun kn hkn => ?_⟩⟩
    have u1 := same_new (o := .tup (bs.map V.ref)) hkn
    have hT : TupRows _ kn ((List.range 10).map (mkR "b")) := ⟨bs, upd_same, Paired.mapP hbb fun _ _ z => z.keep (KeepT.of u1)⟩
    have s1 := sm.trans u1
    generalize upd H1 kn (.tup (bs.map V.ref)) = H2 at hT s1 ⊢
    clear sm bs hbs hbb u1 hkn hD H1
    refine ⟨by show 2 ≤ sizeLine; omega, fun c1 hc1 => ⟨by show 2 ≤ sizeLine; omega, fun p1 hp1 => ⟨by show 1 ≤ sizeLine; omega, fun r1 hr1 => ⟨by show 2 ≤ sizeLine; omega, fun c2 hc2 => ⟨by show 2 ≤ sizeLine; omega, fun p2 hp2 => ⟨by show 1 ≤ sizeLine; omega, fun r2 hr2 => ⟨by show 2 ≤ sizeLine; omega, fun t2 ht2 => ?_⟩⟩⟩⟩⟩⟩⟩
    have v1 := same_new (o := .tup [.str "c", .int 0]) hc1
    have v2 := same_new (o := .tup [.ref c1, .int 2]) hp1
    have v3 := same_new (o := .tup [.ref p1]) hr1
    have v4 := same_new (o := .tup [.str "c", .int 1]) hc2
    have v5 := same_new (o := .tup [.ref c2, .int 3]) hp2
    have v6 := same_new (o := .tup [.ref p2]) hr2
    have v7 := same_new (o := .tup [.ref r1, .ref r2]) ht2
    have w67 := v6.trans v7
    have w57 := v5.trans w67
    have w47 := v4.trans w57
    have w37 := v3.trans w47
    have w27 := v2.trans w37
    have w17 := v1.trans w27
    have hR1 : RowAt _ r1 [(("c", 0), 2)] := ⟨[p1], w47 _ _ upd_same, .cons ⟨c1, w37 _ _ upd_same, w27 _ _ upd_same⟩ .nil⟩
    have hR2 : RowAt _ r2 [(("c", 1), 3)] := ⟨[p2], v7 _ _ upd_same, .cons ⟨c2, w67 _ _ upd_same, w57 _ _ upd_same⟩ .nil⟩
    have hT3 := hT.keep (KeepT.of w17)
    have ht3 : (upd (upd (upd (upd (upd (upd (upd H2 c1 (.tup [.str "c", .int 0])) p1 (.tup [.ref c1, .int 2])) r1 (.tup [.ref p1])) c2 (.tup [.str "c", .int 1])) p2 (.tup [.ref c2, .int 3])) r2 (.tup [.ref p2])) t2 (.tup [.ref r1, .ref r2])) t2 = some (.tup [.ref r1, .ref r2]) := upd_same
    have s3 := s1.trans w17
    generalize (upd (upd (upd (upd (upd (upd (upd H2 c1 (.tup [.str "c", .int 0])) p1 (.tup [.ref c1, .int 2])) r1 (.tup [.ref p1])) c2 (.tup [.str "c", .int 1])) p2 (.tup [.ref c2, .int 3])) r2 (.tup [.ref p2])) t2 (.tup [.ref r1, .ref r2])) = H3 at hR1 hR2 hT3 ht3 s3 ⊢
    clear w17 w27 w37 w47 w57 w67 v1 v2 v3 v4 v5 v6 v7 hT s1 ht2 hr2 hp2 hc2 hr1 hp1 hc1
    obtain ⟨ks, hks, hkk⟩ := hT3
    have kl := Paired.length hkk
    rw [List.length_map, List.length_range] at kl
    refine ⟨kn, t2, _, _, rfl, rfl, sqT hks, sqT ht3, by rw [List.length_map, kl]; show 12 ≤ sizeLine; omega, fun z => (by have := congrArg List.length z; rw [List.length_map, kl] at this; exact absurd this (by decide)), fun _ z => (by cases z), fun _ _ sa hsa => ?_⟩
    have u4 := same_new (o := .tup (ks.map V.ref ++ [.ref r1, .ref r2])) hsa
    have hS4 : TupRows (upd H3 sa (.tup (ks.map V.ref ++ [.ref r1, .ref r2]))) sa seenL := ⟨ks ++ [r1, r2], by rw [upd_same, List.map_append]; rfl, paired_app (Paired.mapP hkk fun _ _ z => z.keep (KeepT.of u4)) (.cons (hR1.keep (KeepT.of u4)) (.cons (hR2.keep (KeepT.of u4)) .nil))⟩
    have s4 := s3.trans u4
    generalize upd H3 sa (.tup (ks.map V.ref ++ [.ref r1, .ref r2])) = H4 at hS4 s4 ⊢
    clear u4 hsa hks hkk hR1 hR2 ht3 s3
    refine iName ?_
    dsimp only
    -- the right
    refine iSeq (iAsg ⟨by show 2 ≤ sizeLine; omega, fun g1 hg1 => ⟨by show 1 ≤ sizeLine; omega, fun g2 hg2 => ⟨by show 2 ≤ sizeLine; omega, fun g3 hg3 => ⟨by show 5 ≤ sizeLine; omega, fun g4 hg4 => ⟨by show 2 ≤ sizeLine; omega, fun g5 hg5 => ⟨by show 1 ≤ sizeLine; omega, fun g6 hg6 => ?_⟩⟩⟩⟩⟩⟩)
    have v1 := same_new (o := .tup [.str "a", .int 1]) hg1
    have v2 := same_new (o := .tup [.ref g1]) hg2
    have v3 := same_new (o := .tup [.str "window", .int 1]) hg3
    have v4 := same_new (o := .tup [.str "ann", .ref g2, .int 0, .int 9, .ref g3]) hg4
    have v5 := same_new (o := .tup [.str "p", .ref g4]) hg5
    have v6 := same_new (o := .tup [.ref g5]) hg6
    have w56 := v5.trans v6
    have w46 := v4.trans w56
    have w36 := v3.trans w46
    have w26 := v2.trans w36
    have w16 := v1.trans w26
    have hRt : RightsAt (upd (upd (upd (upd (upd (upd H4 g1 (.tup [.str "a", .int 1])) g2 (.tup [.ref g1])) g3 (.tup [.str "window", .int 1])) g4 (.tup [.str "ann", .ref g2, .int 0, .int 9, .ref g3])) g5 (.tup [.str "p", .ref g4])) g6 (.tup [.ref g5])) g6 [("p", R0)] := ⟨[g5], upd_same, .cons ⟨g4, v6 _ _ upd_same, g2, [g1], g3, w56 _ _ upd_same, w36 _ _ upd_same, .cons (w26 _ _ upd_same) .nil, w46 _ _ upd_same⟩ .nil⟩
    have hS5 := hS4.keep (KeepT.of w16)
    have s5 := s4.trans w16
    generalize (upd (upd (upd (upd (upd (upd H4 g1 (.tup [.str "a", .int 1])) g2 (.tup [.ref g1])) g3 (.tup [.str "window", .int 1])) g4 (.tup [.str "ann", .ref g2, .int 0, .int 9, .ref g3])) g5 (.tup [.str "p", .ref g4])) g6 (.tup [.ref g5])) = H5 at hRt hS5 s5 ⊢
    clear w16 w26 w36 w46 w56 v1 v2 v3 v4 v5 v6 hg1 hg2 hg3 hg4 hg5 hg6 hS4 s4
    refine iName ?_
    dsimp only
    -- what is due
    clear D
    refine iSeq (iAsg ⟨.ref sa, rfl, 10, rfl, by decide, by decide, fun D hD => ?_⟩)
    refine loop_rg (lo := 0) (n := 10) (fun i H' => Same H5 H' ∧ ∃ bs, H' D = some (.lst (bs.map V.ref)) ∧ Paired (RowAt H') bs ((List.range i).map (mkR "a"))) ⟨same_new hD, [], upd_same, .nil⟩ (fun i H' hi h => ?_) (fun H1 h => ?_)
    · obtain ⟨sm, bs, hbs, hbb⟩ := h
      have bl := Paired.length hbb
      rw [List.length_map, List.length_range] at bl
      refine ⟨wipe1, iYes (iteT ⟨.int (0 + (i : Int)), rfl, by show 2 ≤ sizeLine; omega, fun c hc => ⟨by show 2 ≤ sizeLine; omega, fun q1 hq1 => ⟨by show 1 ≤ sizeLine; omega, fun q2 hq2 => ?_⟩⟩⟩)⟩
      have t1 := same_new (o := .tup [.str "a", .int (0 + (i : Int))]) hc
      have t2 := same_new (o := .tup [.ref c, .int 1]) hq1
      have t3 := same_new (o := .tup [.ref q1]) hq2
      have t13 := (t1.trans t2).trans t3
      have hD3 := t13 _ _ hbs
      obtain ⟨H3, e3⟩ : ∃ H3 : Hp, H3 = upd (upd (upd H' c (.tup [.str "a", .int (0 + (i : Int))])) q1 (.tup [.ref c, .int 1])) q2 (.tup [.ref q1]) := ⟨_, rfl⟩
      rw [← e3] at t13 hD3 ⊢
      have hr3 : RowAt H3 q2 (mkR "a" i) := by
        rw [e3]
        exact ⟨[q1], upd_same, .cons ⟨c, t3 _ _ upd_same, t3 _ _ (t2 _ _ upd_same)⟩ .nil⟩
      have hb3 : Paired (RowAt H3) bs ((List.range i).map (mkR "a")) := Paired.mapP hbb fun _ _ z => z.keep (KeepT.of t13)
      clear e3
      have kp : KeepT H3 (upd H3 D (.lst (bs.map V.ref ++ [.ref q2]))) := KeepT.put hD3 fun _ z => nomatch z
      refine ⟨_, hD3, by rw [List.length_map]; omega, fun b o e => ?_, bs ++ [q2], by rw [upd_same, List.map_append]; rfl, ?_⟩
      · rw [upd_ne (ne_of_none e hD)]
        exact t13 _ _ (sm _ _ e)
      · rw [List.range_succ, List.map_append]
        exact Paired.snoc (Paired.mapP hb3 fun _ _ z => z.keep kp) (hr3.keep kp)
    obtain ⟨sm, bs, hbs, hbb⟩ := h
    refine ⟨D, _, rfl, .inl ⟨sqL hbs, fun da hda => ?_⟩⟩
    have u1 := same_new (o := .tup (bs.map V.ref)) hda
    have u2 := sm.trans u1
    have hRt6 := hRt.keep (KeepT.of u2)
    have hS6 := hS5.keep (KeepT.of u2)
    have s6 := s5.trans u2
    have hda6 : (upd H1 da (.tup (bs.map V.ref))) da = some (.tup (bs.map V.ref)) := upd_same
    have hbb6 : Paired (RowAt _) bs ((List.range 10).map (mkR "a")) := Paired.mapP hbb fun _ _ z => z.keep (KeepT.of u1)
    generalize upd H1 da (.tup (bs.map V.ref)) = H6 at hRt6 hS6 s6 hda6 hbb6 ⊢
    obtain ⟨ks, hks, hkk⟩ := id hS6
    have kl := Paired.length hkk
    have kl : ks.length = 12 := kl.trans (by decide +kernel)
    have bl := Paired.length hbb6
    rw [List.length_map, List.length_range] at bl
    refine ⟨sa, da, _, _, rfl, rfl, sqT hks, sqT hda6, by rw [List.length_map, List.length_map, kl, bl]; show 22 ≤ sizeLine; omega, fun z => (by have := congrArg List.length z; rw [List.length_map, kl] at this; exact absurd this (by decide)), fun _ z => (by have := congrArg List.length z; rw [List.length_map, bl] at this; exact absurd this (by decide)), fun _ _ ua hua => ?_⟩
    have u7 := same_new (o := .tup (ks.map V.ref ++ bs.map V.ref)) hua
    have hU7 : TupRows (upd H6 ua (.tup (ks.map V.ref ++ bs.map V.ref))) ua dueL := ⟨ks ++ bs, by rw [upd_same, List.map_append], paired_app (Paired.mapP hkk fun _ _ z => z.keep (KeepT.of u7)) (Paired.mapP hbb6 fun _ _ z => z.keep (KeepT.of u7))⟩
    have hRt7 := hRt6.keep (KeepT.of u7)
    have hS7 := hS6.keep (KeepT.of u7)
    have s7 := s6.trans u7
    generalize upd H6 ua (.tup (ks.map V.ref ++ bs.map V.ref)) = H7 at hU7 hRt7 hS7 s7 ⊢
    refine iName ?_
    dsimp only
    refine iRet ⟨.ref g6, rfl, .ref sa, rfl, by show 1 ≤ sizeLine; omega, fun e1 he1 => ⟨Nat.zero_le _, fun e2 he2 => ⟨by show 3 ≤ sizeLine; omega, fun e3 he3 => ⟨Nat.zero_le _, fun e4 he4 => ?_⟩⟩⟩⟩
    have v1 := same_new (o := .tup [.str "ann"]) he1
    have v2 := same_new (o := .tup []) he2
    have v3 := same_new (o := .tup [.ref e1, .ref e2, .int 0]) he3
    have v4 := same_new (o := .tup []) he4
    have v14 := ((v1.trans v2).trans v3).trans v4
    refine ⟨g6, sa, e3, e4, 0, [("p", R0)], seenL, ["ann"], [], rfl, ⟨hRt7.keep (KeepT.of v14), by decide, fun x hx => ?_, by decide, by decide, hS7.keep (KeepT.of v14), by decide +kernel, ⟨e1, _, _, v4 _ _ upd_same, ((v2.trans v3).trans v4) _ _ upd_same⟩, upd_same⟩, fun _ H8 p8 s8 h8 => ?_, fun z hz => ?_⟩
    · rw [List.mem_singleton.mp hx]
      exact ⟨r0_ok, ⟨by decide, by decide⟩⟩
    · rw [left0] at h8
      have f := fine_due
      have fl : (PyData.tuple (dueL.map rowPD)).shown.length ≤ sizeLine := by
        rw [sizeLine_eq]
        exact Nat.le_trans f.len (by decide)
      have fd : (PyData.tuple (dueL.map rowPD)).depth ≤ 60 := Nat.le_trans f.dep (by decide)
      refine ⟨p8, _, rfl, dp_tup h8, f.shw, f.nod, fd, fl, .ref ua, rfl, ua, _, rfl, dp_tup (hU7.keep (KeepT.of (v14.trans s8))), f.shw, f.nod, fd, fl, rfl, ?_⟩
      rw [decide_eq_true rfl]
      exact q _ ((s7.trans v14).trans s8)
    · cases hz
end
end P56
namespace P56
open PySem PySem.Spec PyProof.Rows L2 AskG Ask
/-! the data of the law -/
theorem small_lit {i : Int} (h : i.natAbs ≤ 1000) : i.natAbs.log2 < 1920 := by
  by_cases z : i.natAbs = 0
  · rw [z]
    decide
  · have h2 : i.natAbs < 2 ^ 10 := by omega
    have := (Nat.log2_lt z).mpr h2
    omega
theorem fine_kind {k : KindM} (h : k.Ok) : Fine 1 200 k.data := by
  have lit : ∀ {i : Int}, 0 ≤ i → i ≤ 30 → Fine 0 13 (.int i) := fun h1 h2 => fine_small (by omega)
  have st : ∀ {x : Str}, cellB (x, 0) = true → Fine 0 82 (.str x) := fun h => fine_text (cellOk_of h).short (cellOk_of h).plain
  have nn := h.nn
  cases k with
  | tot s => exact (FineL.tup (FineL.cons (st (by decide +kernel)) (FineL.cons (lit nn.1 nn.2) (FineL.nil (n := 0)))) (m := 2) (Nat.le_refl _)).mono (Nat.le_refl _) (by decide)
  | win l => exact (FineL.tup (FineL.cons (st (by decide +kernel)) (FineL.cons (lit nn.1 nn.2) (FineL.nil (n := 0)))) (m := 2) (Nat.le_refl _)).mono (Nat.le_refl _) (by decide)
  | per b e => exact (FineL.tup (FineL.cons (st (by decide +kernel)) (FineL.cons (lit nn.1 nn.2.1) (FineL.cons (lit nn.2.2.1 nn.2.2.2) (FineL.nil (n := 0))))) (m := 3) (Nat.le_refl _)).mono (Nat.le_refl _) (by decide)
theorem fine_right {R : Rt} (h : RtOk R) : Fine 3 20000 (rightD R) := by
  have ws : Fine 2 11556 (.tuple (R.ws.map AskG.cellD)) := Fine.tup (k := 1) (n := 3849) (m := 3) (fun d hd => by
    obtain ⟨x, hx, rfl⟩ := List.mem_map.mp hd
    exact fine_cell (h.ws x hx)) (by rw [List.length_map]; exact h.many)
  have := h.f0
  have := h.f1
  have := h.l0
  have := h.l1
  exact (FineL.tup (k := 2) (FineL.cons ((fine_text h.name.short h.name.plain).mono (by decide) (Nat.le_refl _)) (FineL.cons ws (FineL.cons ((fine_small (by omega)).mono (by decide) (Nat.le_refl _)) (FineL.cons ((fine_small (by omega)).mono (by decide) (Nat.le_refl _)) (FineL.cons ((fine_kind h.kind).mono (by decide) (Nat.le_refl _)) (FineL.nil (n := 0))))))) (m := 5) (Nat.le_refl _)).mono (Nat.le_refl _) (by decide)
def namedD (x : Str × Rt) : PyData := .tuple [.str x.1, rightD x.2]
def heldD (rs : List (Str × Rt)) : PyData := .tuple (rs.map namedD)
def rowsD (ys : List RowD) : PyData := .tuple (ys.map rowPD)
def wallD (G : List Str) (ρ : RowD) (m : Int) : PyData := .tuple [.tuple (G.map PyData.str), rowPD ρ, .int m]
def beforeD (rs : List (Str × Rt)) (ys : List RowD) (G : List Str) (ρ : RowD) (m : Int) : PyData := .tuple [heldD rs, rowsD ys, wallD G ρ m]
def okN : List Str := ["p", "q", "r", "s", "t", "u", "zz", "a"]
theorem okN_ok {z : Str} (h : z ∈ okN) : CellOk (z, 0) := by
  have all : (okN.all fun n => cellB (n, 0)) = true := by decide +kernel
  exact cellOk_of (List.all_eq_true.mp all z h)
theorem six_ok {z : Str} (h : z ∈ sixL) : z ∈ okN := by
  simp only [sixL, okN, List.mem_cons, List.not_mem_nil, or_false] at h ⊢
  rcases h with h | h | h | h | h | h <;> simp [h]
theorem three_ok {z : Str} (h : z ∈ three) : CellOk (z, 0) := by
  have all : (three.all fun n => cellB (n, 0)) = true := by decide +kernel
  exact cellOk_of (List.all_eq_true.mp all z h)
theorem fine_held {rs : List (Str × Rt)} (h : HeldG rs) : Fine 5 200000 (heldD rs) := by
  refine (Fine.tup (k := 4) (n := 20090) (m := 6) (fun d hd => ?_) (by rw [List.length_map]; exact h.few)).mono (Nat.le_refl _) (by decide)
  obtain ⟨x, hx, rfl⟩ := List.mem_map.mp hd
  have c := okN_ok (six_ok (h.names x hx))
  exact (FineL.tup (k := 3) (FineL.cons ((fine_text c.short c.plain).mono (by decide) (Nat.le_refl _)) (FineL.cons (fine_right (h.all x hx).ok) (FineL.nil (n := 0)))) (m := 2) (Nat.le_refl _)).mono (Nat.le_refl _) (by decide)
theorem fine_known {ys : List RowD} (h : ∀ ρ ∈ ys, RowOk ρ) (l : ys.length ≤ 4) : Fine 4 3082823 (rowsD ys) := by
  refine Fine.tup (k := 3) (n := 770703) (m := 4) (fun d hd => ?_) (by rw [List.length_map]; exact l)
  obtain ⟨x, hx, rfl⟩ := List.mem_map.mp hd
  exact fine_row (h x hx)
theorem fine_wall {G : List Str} {ρ : RowD} {m : Int} (h : G.Sublist three) (hρ : RowOk ρ) (m0 : 0 ≤ m) (m6 : m ≤ 6) : Fine 4 800000 (wallD G ρ m) := by
  have l3 : G.length ≤ 3 := h.length_le
  have f1 : Fine 1 (3 * (82 + 2) + 3) (.tuple (G.map PyData.str)) := Fine.tup (k := 0) (n := 82) (m := 3) (fun d hd => by
    obtain ⟨x, hx, rfl⟩ := List.mem_map.mp hd
    have c := three_ok (h.subset hx)
    exact fine_text c.short c.plain) (by rw [List.length_map]; exact l3)
  exact (FineL.tup (k := 3) (FineL.cons (f1.mono (by decide) (Nat.le_refl _)) (FineL.cons (fine_row hρ) (FineL.cons ((fine_small (by omega)).mono (by decide) (Nat.le_refl _)) (FineL.nil (n := 0))))) (m := 3) (Nat.le_refl _)).mono (Nat.le_refl _) (by decide)
theorem fine_before {rs : List (Str × Rt)} {ys : List RowD} {G : List Str} {ρ : RowD} {m : Int} (h : HeldG rs) (hy : ∀ ρ ∈ ys, RowOk ρ) (ly : ys.length ≤ 4) (hG : G.Sublist three) (hρ : RowOk ρ) (m0 : 0 ≤ m) (m6 : m ≤ 6) : Fine 6 9000000 (beforeD rs ys G ρ m) :=
  (FineL.tup (k := 5) (FineL.cons (fine_held h) (FineL.cons ((fine_known hy ly).mono (by decide) (Nat.le_refl _)) (FineL.cons ((fine_wall hG hρ m0 m6).mono (by decide) (Nat.le_refl _)) (FineL.nil (n := 0))))) (m := 3) (Nat.le_refl _)).mono (Nat.le_refl _) (by decide)
/-! what is left -/
theorem rowQ_small {R : Rt} (h : RtG R) {t : Int} (f : R.first ≤ t) (l : t ≤ R.last) : Fine 3 60963 (rowPD (rowQ R t)) := by
  have := h.day.f0
  have := h.day.l9
  obtain ⟨b1, b2, b3, b4⟩ := kind_bounds h.ok.kind (t := t) (by omega) (by omega)
  refine fine_days (m := 30) (rowQ_ok h f l) ?_ fun x hx => ?_
  · show (rowOn R.ws (R.kind.lo t) (R.kind.hi t)).length ≤ 30
    rw [rowOn_len]
    have : R.ws.length * (R.kind.hi t + 1 - R.kind.lo t).toNat ≤ 3 * 10 := Nat.mul_le_mul h.ok.many (by omega)
    omega
  · obtain ⟨c, hc, hx⟩ := List.mem_flatMap.mp hx
    obtain ⟨d, hd, rfl⟩ := List.mem_map.mp hx
    obtain ⟨i, hi, rfl⟩ := List.mem_map.mp hd
    have hi := List.mem_range.mp hi
    show (R.kind.lo t + (i : Int)).natAbs < 10 ^ 12
    omega
theorem left_small {rs : List (Str × Rt)} (h : ∀ x ∈ rs, RtG x.2) {T : Int} {G zs : List Str} : ∀ ρ ∈ leftL rs T G zs, Fine 3 60963 (rowPD ρ) := fun ρ hρ => by
  obtain ⟨x, hx, hm⟩ := List.mem_flatMap.mp hρ
  have hg := h x (List.mem_filter.mp hx).1
  unfold partL at hm
  split at hm
  · cases hm
  · obtain ⟨t, ht, rfl⟩ := List.mem_map.mp hm
    obtain ⟨j, hj, rfl⟩ := List.mem_map.mp ht
    have hj2 := List.mem_range.mp hj
    have m1 : x.2.first ≤ mx x.2.first T := by
      unfold mx
      split <;> omega
    exact rowQ_small hg (by omega) (by omega)
theorem left_few {rs : List (Str × Rt)} (h : HeldG rs) {T : Int} {G zs : List Str} : (leftL rs T G zs).length ≤ 60 := by
  have h1 := flat_few (T := T) (zs := zs) (l := rs.filter (inWall G)) fun x hx => ⟨(h.all x (List.mem_filter.mp hx).1).ok, (h.all x (List.mem_filter.mp hx).1).day⟩
  have h2 := List.length_filter_le (inWall G) rs
  have h3 := h.few
  unfold leftL
  omega
def expD (rs : List (Str × Rt)) (T : Int) (ys : List RowD) (G zs : List Str) : PyData := match strange (rs.filter (inWall G)) zs with
  | some z => .tuple [.str "name", .str z]
  | none => .tuple [.str "value", rowsD (ys ++ leftL rs T G zs)]
theorem exp_some {rs : List (Str × Rt)} {T : Int} {ys : List RowD} {G zs : List Str} {z : Str} (h : strange (rs.filter (inWall G)) zs = some z) : expD rs T ys G zs = .tuple [.str "name", .str z] := by
  unfold expD
  rw [h]
theorem exp_none {rs : List (Str × Rt)} {T : Int} {ys : List RowD} {G zs : List Str} (h : strange (rs.filter (inWall G)) zs = none) : expD rs T ys G zs = .tuple [.str "value", rowsD (ys ++ leftL rs T G zs)] := by
  unfold expD
  rw [h]
theorem fine_exp {rs : List (Str × Rt)} {T : Int} {ys : List RowD} {G zs : List Str} (h : HeldG rs) (hy : ∀ ρ ∈ ys, RowOk ρ) (ly : ys.length ≤ 4) (hz : ∀ z ∈ zs, z ∈ okN) : Fine 5 9000000 (expD rs T ys G zs) := by
  have st : ∀ {x : Str}, cellB (x, 0) = true → Fine 0 82 (.str x) := fun h => fine_text (cellOk_of h).short (cellOk_of h).plain
  cases e : strange (rs.filter (inWall G)) zs with
  | some z =>
    rw [exp_some e]
    have c := okN_ok (hz z (List.mem_of_find?_eq_some e))
    exact (FineL.tup (k := 0) (FineL.cons (st (by decide +kernel)) (FineL.cons (fine_text c.short c.plain) (FineL.nil (n := 0)))) (m := 2) (Nat.le_refl _)).mono (by decide) (by decide)
  | none =>
    rw [exp_none e]
    have l1 : FineL 3 (4 * 770703) (ys.map rowPD) := FineL.by (fun d hd => by
      obtain ⟨x, hx, rfl⟩ := List.mem_map.mp hd
      exact fine_row (hy x hx)) (by rw [List.length_map]; exact ly)
    have l2 : FineL 3 (60 * 60963) ((leftL rs T G zs).map rowPD) := FineL.by (fun d hd => by
      obtain ⟨x, hx, rfl⟩ := List.mem_map.mp hd
      exact left_small h.all x hx) (by rw [List.length_map]; exact left_few h)
    have l3 := FineL.app l2 l1
    rw [← List.map_append] at l3
    have f3 : Fine 4 _ (rowsD (ys ++ leftL rs T G zs)) := FineL.tup l3 (m := 64) (by
      rw [List.length_map, List.length_append]
      have := left_few h (T := T) (G := G) (zs := zs)
      omega)
    exact (FineL.tup (k := 4) (FineL.cons ((st (by decide +kernel)).mono (by decide) (Nat.le_refl _)) (FineL.cons f3 (FineL.nil (n := 0)))) (m := 2) (Nat.le_refl _)).mono (by decide) (by decide)
section
variable {K : PySem.W.Frag} {H : Hp}
theorem dp_held {a : Addr} {rs : List (Str × Rt)} (h : RightsAt H a rs) : Dp K H (.ref a) (heldD rs) := by
  obtain ⟨ps, h1, h2⟩ := h
  refine .tup (sqT h1) (dp_all (f := namedD) (R := NamedAt H) (fun p x z => ?_) h2)
  obtain ⟨r, h3, h4⟩ := z
  exact .tup (sqT h3) (.cons (.str _) (.cons (dp_right h4) .nil))
theorem dp_wall {wl g qa : Addr} {G : List Str} {ρ : RowD} {m : Int} (h : H wl = some (.tup [.ref g, .ref qa, .int m])) (hg : TxtAt H g G) (hq : RowAt H qa ρ) : Dp K H (.ref wl) (wallD G ρ m) :=
  .tup (sqT h) (.cons (.tup (sqT hg) (dp_tstr _)) (.cons (dp_row hq) (.cons (.int _) .nil)))
theorem dp_exp1 {r : Addr} {rs : List (Str × Rt)} {T : Int} {ys : List RowD} {G zs : List Str} {z : Str} (e : strange (rs.filter (inWall G)) zs = some z) (h : H r = some (.tup [.str "name", .str z])) : Dp K H (.ref r) (expD rs T ys G zs) := by
  rw [exp_some e]
  exact .tup (sqT h) (.cons (.str _) (.cons (.str _) .nil))
theorem dp_exp2 {r p : Addr} {rs : List (Str × Rt)} {T : Int} {ys : List RowD} {G zs : List Str} (e : strange (rs.filter (inWall G)) zs = none) (h : H r = some (.tup [.str "value", .ref p])) (hp : TupRows H p (ys ++ leftL rs T G zs)) : Dp K H (.ref r) (expD rs T ys G zs) := by
  rw [exp_none e]
  exact .tup (sqT h) (.cons (.str _) (.cons (dp_tup hp) .nil))
/-- what _law_result makes of rows_left -/
theorem tell {a kn b n C CA : Addr} {T : Int} {rs : List (Str × Rt)} {ys : List RowD} {G zs : List Str} {Q : VK} (ask : Asked H a kn b n T rs ys G zs) (ex : PySem.W.exmOne K (.ref C) (.ref CA) = some true)
    (q : ∀ H' r, Same H H' → Dp K H' (.ref r) (expD rs T ys G zs) → Q (.ref r) H') : TTres K C CA (fun E H' Q' => spRL C [.ref a, .int T, .ref kn, .ref b, .ref n] H' Q' E) H Q := by
  refine ⟨a, kn, b, n, T, rs, ys, G, zs, rfl, ask, fun e H' p s h => ⟨by have := sizeBig; omega, fun r hr => ?_⟩, fun z e H' d s h => ⟨rfl, ex, d, z, rfl, h, fun H'' r s2 h2 => ?_⟩⟩
  · have s2 := same_new (o := .tup [.str "value", .ref p]) hr
    exact q _ r (s.trans s2) (dp_exp2 e upd_same (h.keep (KeepT.of s2)))
  · exact q _ r (s.trans s2) (dp_exp1 e h2)
/-! the known rows, once more -/
theorem cat_rows {a b : Addr} {ys zs : List RowD} {Q : VK} (ha : TupRows H a ys) (hb : TupRows H b zs) (l : ys.length + zs.length ≤ 100) (q : ∀ H' p, Same H H' → TupRows H' p (ys ++ zs) → Q (.ref p) H') : rCatA K (.ref a) (.ref b) H Q := by
  obtain ⟨ps, h1, h2⟩ := id ha
  obtain ⟨qs, h3, h4⟩ := id hb
  have l1 := Paired.length h2
  have l2 := Paired.length h4
  have big := sizeBig
  refine ⟨a, b, _, _, rfl, rfl, sqT h1, sqT h3, by rw [List.length_map, List.length_map]; omega, fun e => ?_, fun _ e => ?_, fun _ _ p hp => ?_⟩
  · have e := congrArg List.length e
    rw [List.length_map, l1] at e
    rw [List.eq_nil_of_length_eq_zero e] at q
    exact q H b (Same.refl _) hb
  · have e := congrArg List.length e
    rw [List.length_map, l2] at e
    rw [List.eq_nil_of_length_eq_zero e, List.append_nil] at q
    exact q H a (Same.refl _) ha
  · have s := same_new (o := .tup (ps.map V.ref ++ qs.map V.ref)) hp
    exact q _ p s ⟨ps ++ qs, by rw [upd_same, List.map_append], paired_app (Paired.mapP h2 fun _ _ z => z.keep (KeepT.of s)) (Paired.mapP h4 fun _ _ z => z.keep (KeepT.of s))⟩
theorem cut1 (xs : List V) : cutV xs none (some 1) = xs.take 1 := by
  cases xs with
  | nil => rfl
  | cons x xs =>
    unfold cutV
    have e1 : HT.sIx (x :: xs).length 0 none = 0 := rfl
    have e2 : HT.sIx (x :: xs).length (x :: xs).length (some 1) = 1 := by
      unfold HT.sIx
      rw [List.length_cons]
      simp
      try omega
    rw [e1, e2]
    rfl
theorem cut_rows {a : Addr} {ys : List RowD} {Q : VK} (ha : TupRows H a ys) (q : ∀ H' p zs, Same H H' → TupRows H' p zs → zs = ys.take 1 → Q (.ref p) H') : rSlA K (.ref a) none (some 1) H Q := by
  obtain ⟨ps, h1, h2⟩ := id ha
  have l1 := Paired.length h2
  refine ⟨a, _, rfl, sqT h1, fun e => ?_, fun _ p hp => ?_⟩
  · refine q H a ys (Same.refl _) ha ?_
    have e2 := e.2
    rw [List.length_map] at e2
    have : ys.length ≤ 1 := by
      unfold HT.sIx at e2
      simp at e2
      omega
    rw [List.take_of_length_le this]
  · rw [cut1]
    have s := same_new (o := .tup ((ps.map V.ref).take 1)) hp
    refine q _ p (ys.take 1) s ⟨ps.take 1, by rw [upd_same, List.map_take], ?_⟩ rfl
    cases h2 with
    | nil => exact .nil
    | cons h t => exact .cons (h.keep (KeepT.of s)) .nil
theorem rep_rows {l e : Addr} {k : Int} {Q : VK} (hl : H l = some (.tup [.ref e])) (he : H e = some (.tup [])) (k0 : 0 ≤ k) (k2 : k < 2) (q : ∀ H' p zs, Same H H' → TupRows H' p zs → zs.length ≤ 1 → (∀ ρ ∈ zs, RowOk ρ) → Q (.ref p) H') : rRep1 K (.ref l) (.int k) H Q := by
  refine ⟨l, k, _, rfl, rfl, sqT hl, by simp, k0, k2, fun _ => ?_, fun _ p hp => ?_⟩
  · refine q H l [[]] (Same.refl _) ⟨[e], hl, .cons ⟨[], he, .nil⟩ .nil⟩ (Nat.le_refl _) fun ρ hρ => ?_
    rw [List.mem_singleton.mp hρ]
    exact ⟨Nat.zero_le _, fun x hx => absurd hx (by simp), fun x hx => absurd hx (by simp)⟩
  · exact q _ p [] (same_new hp) ⟨[], upd_same, .nil⟩ (Nat.zero_le _) fun ρ hρ => absurd hρ (by simp)
end
end P56
namespace P56
open PySem PySem.Spec PyProof.Rows L2 AskG Ask
abbrev sLaw : Stmt := topS 41
abbrev NL : List Str := ["_law_script", "_law_source_here", "_law_lap", "_law_held_here", "_law_now", "_law_seen", "_law_guard", "_law_own", "_law_every", "_law_pair", "_law_before", "_law_some_here", "_law_given", "_law_expected_here", "_law_told"]
theorem scLaw : FnScope NL ["_law_script"] (defScope sLaw) := ⟨rfl, rfl, rfl, by decide +kernel, rfl, by decide +kernel, by decide +kernel⟩
abbrev lamQ : Str := (envOfC "law" (defScope sLaw) 0 0 .none).qual ++ "<lambda>"
abbrev lamSc : Scope := { kind := .function, names := [("_law_given", .free), ("_law_guard", .free), ("_law_held_here", .free), ("_law_now", .free), ("_law_seen", .free), ("rows_left", .globalImplicit)], isGenerator := false, isCoroutine := false }
theorem lamOk : LamX.LamS (defScope sLaw) lamSc := LamX.lamS_by (by decide +kernel)
/-- the law's one table -/
abbrev TL (Pt : Addr) : List (Addr × Str) := [(Pt, lamQ)]
theorem tabs_keepF {F L Pt : Addr} {H H' : Hp} {b : Int} (t : LamX.Tabs (TL Pt) H) (f : FeedAt H F L b) (k : KeepF F H H') : LamX.Tabs (TL Pt) H' := by
  intro p hp
  obtain ⟨ps, h1, h2, h3⟩ := t p hp
  obtain ⟨_, _, _, _, hF, _⟩ := f
  refine ⟨ps, k _ _ (ne_of h1 hF fun z => nomatch z) h1, h2, fun pos cv hc => ?_⟩
  obtain ⟨c, e1, e2⟩ := h3 pos cv hc
  refine ⟨c, e1, k _ _ (ne_of e2 hF fun z => ?_) e2⟩
  unfold LamX.CodeO at z
  cases z
theorem keepT_ext {H H' : Hp} (h : LamX.ExtN H H') : KeepT H H' := fun b xs e => h b _ e fun _ z => nomatch z
/-- what stays through the laps' asking -/
structure LapAt (H : Hp) (F L : Addr) (b : Int) (a kn wl g qa l : Addr) (rs : List (Str × Rt)) (ys : List RowD) (G : List Str) (ρ : RowD) (m : Int) (ps : List Addr) : Prop where
  feed : FeedAt H F L b
  rights : RightsAt H a rs
  known : TupRows H kn ys
  wall : H wl = some (.tup [.ref g, .ref qa, .int m])
  group : TxtAt H g G
  query : RowAt H qa ρ
  list : H l = some (.lst (ps.map V.ref))
  texts : ∀ p ∈ ps, ∃ zs, TxtAt H p zs ∧ zs.length ≤ 10 ∧ ∀ z ∈ zs, z ∈ okN
theorem LapAt.ext {H H' : Hp} {F L : Addr} {b : Int} {a kn wl g qa l : Addr} {rs : List (Str × Rt)} {ys : List RowD} {G : List Str} {ρ : RowD} {m : Int} {ps : List Addr} (h : LapAt H F L b a kn wl g qa l rs ys G ρ m ps) (e : LamX.ExtN H H') : LapAt H' F L b a kn wl g qa l rs ys G ρ m ps := by
  have k := keepT_ext e
  refine ⟨?_, h.rights.keep k, h.known.keep k, k _ _ h.wall, k _ _ h.group, h.query.keep k, e _ _ h.list (fun _ z => nomatch z), fun p hp => ?_⟩
  · obtain ⟨ns, x, y, n, h1, h2, h3⟩ := h.feed
    exact ⟨ns, x, y, n, e _ _ h1 (fun _ z => nomatch z), e _ _ h2 (fun _ z => nomatch z), h3⟩
  · obtain ⟨zs, z1, z2⟩ := h.texts p hp
    exact ⟨zs, k _ _ z1, z2⟩
theorem LapAt.same {H H' : Hp} {F L : Addr} {b : Int} {a kn wl g qa l : Addr} {rs : List (Str × Rt)} {ys : List RowD} {G : List Str} {ρ : RowD} {m : Int} {ps : List Addr} (h : LapAt H F L b a kn wl g qa l rs ys G ρ m ps) (e : Same H H') : LapAt H' F L b a kn wl g qa l rs ys G ρ m ps := h.ext (LamX.ExtN.of e)
theorem kb_rev {K : PySem.W.Frag} {x qual : Str} {st : Stmt} {f : Addr} {fd : FuncData} (F : Fun K x qual st f fd)
    (h : ∀ (kV doc pm : Value) (an : Option Addr) (cdv ct a b c d e : Value), bindArgs (PySem.W.fnOf x qual (defArgs st) (defBody st) (defScope st) .none kV doc pm an cdv ct) ⟨[], [("names", a), ("wall", b), ("known", c), ("today", d), ("rights", e)]⟩ = pure (PSR.zip [e, d, c, b, a])) :
    KBn K fd PSR 0 ["names", "wall", "known", "today", "rights"] (fun _ ws => ws.reverse) (fun _ zs => zs.reverse) := by
  obtain ⟨oc, od, kV, doc, pm, an, cdv, ct, osl, rfl, lk, hcd⟩ := F.ex
  refine ⟨fun s us ws _ hu hw => ?_, fun r rz => rz.reverse⟩
  match us, ws, hu, hw with
  | [], [a, b, c, d, e], _, _ => exact .of_eq (h kV doc pm an cdv ct a b c d e)
section
variable {K : PySem.W.Frag} {H : Hp} {σ : L2.St} {a kn b n C CA : Addr} {T : Int} {rs : List (Str × Rt)} {ys : List RowD} {G zs : List Str} {Q : VK}
theorem tellP (h3 : σ[3]? = some (some (.ref a))) (h4 : σ[4]? = some (some (.int T))) (h5 : σ[5]? = some (some (.ref kn))) (h6 : σ[6]? = some (some (.ref b))) (h12 : σ[12]? = some (some (.ref n))) (ask : Asked H a kn b n T rs ys G zs) (ex : PySem.W.exmOne K (.ref C) (.ref CA) = some true)
    (q : ∀ H' r, Same H H' → Dp K H' (.ref r) (expD rs T ys G zs) → Q (.ref r) H') : TTres K C CA (fun E H' Q' => (fun E => tCallX (spRL C) (fun cls d _ H' => E cls d H') (tCons (tVar 3) (tCons (tVar 4) (tCons (tVar 5) (tCons (tVar 6) (tCons (tVar 12) tNil)))))) E σ H' Q') H Q :=
  ⟨.ref a, h3, .int T, h4, .ref kn, h5, .ref b, h6, .ref n, h12, tell (Q := Q) ask ex q⟩
theorem tellK (h3 : σ[3]? = some (some (.ref a))) (h4 : σ[4]? = some (some (.int T))) (h5 : σ[5]? = some (some (.ref kn))) (h6 : σ[6]? = some (some (.ref b))) (h12 : σ[12]? = some (some (.ref n))) (ask : Asked H a kn b n T rs ys G zs) (ex : PySem.W.exmOne K (.ref C) (.ref CA) = some true)
    (q : ∀ H' r, Same H H' → Dp K H' (.ref r) (expD rs T ys G zs) → Q (.ref r) H') : TTres K C CA (fun E H' Q' => (fun E => tCallXN 5 (spRL C) (fun cls d _ H' => E cls d H') (fun _ zs => zs.reverse) (tCons (tVar 12) (tCons (tVar 6) (tCons (tVar 5) (tCons (tVar 4) (tCons (tVar 3) tNil)))))) E σ H' Q') H Q :=
  ⟨.ref n, h12, .ref b, h6, .ref kn, h5, .int T, h4, .ref a, h3, rfl, tell (Q := Q) ask ex q⟩
end
section
variable {P : Program} {w : World} {K : PySem.W.Frag} {mg : Str → Option Value} {base : Heap}
def prLaw (K : PySem.W.Frag) (cs : List (Addr × Addr)) : Pr := fun vs H Q => ∃ (a : Addr) (ns : List Int), vs = [.ref a] ∧ SqL K H a (ns.map V.int) ∧ (∀ p ∈ cs, H p.2 = some (.tbl #[])) ∧ ∀ H', Q (.bl true) H'
variable {C CA fF fD fC fO fS fE fR fX fL fG : Addr} {fdF fdD fdC fdO fdS fdE fdR fdX fdL fdG : FuncData}
theorem ok_law {f c Pt : Addr} {od an : Option Addr} {oc kV doc pm ct : Value} {osl : Array (Option Value)} {k : Nat}
    (lk : K.lookup f = some ⟨oc, od, .func (PySem.W.fnOf "law" "law" (defArgs sLaw) (defBody sLaw) (defScope sLaw) .none kV doc pm an (.ref c) ct), osl⟩) (hcd : PySem.W.codeIn K (.ref c) "law" = true) (TB : LamX.TabB base mg c Pt)
    (FF : Fun K "_law_source" "_law_source" sFeed fF fdF) (bF : Binds K fdF ["_law_script"] []) (gF : mg "_law_source" = some (.ref fF)) (GF : FnG P w K mg base (k + 7) fF fdF ["_law_script"] (prFeed K))
    (FD : Fun K "_law_next" "_law_next" sDraw fD fdD) (bD : Binds K fdD ["_law_source_here", "_law_limit"] []) (gD : mg "_law_next" = some (.ref fD)) (GD : FnG P w K mg base (k + 7) fD fdD ["_law_source_here", "_law_limit"] prDraw)
    (FC : Fun K "_law_scene" "_law_scene" sScene fC fdC) (bC : Binds K fdC ["_law_source_here", "_law_most"] []) (gC : mg "_law_scene" = some (.ref fC)) (GC : FnG P w K mg base (k + 7) fC fdC ["_law_source_here", "_law_most"] prScene)
    (FO : Fun K "_law_own_names" "_law_own_names" sON fO fdO) (bO : Binds K fdO ["_law_held_here", "_law_guard"] []) (gO : mg "_law_own_names" = some (.ref fO)) (GO : FnG P w K mg base (k + 7) fO fdO ["_law_held_here", "_law_guard"] prON)
    (FS : Fun K "_law_some" "_law_some" sSome fS fdS) (bS : Binds K fdS ["_law_source_here", "_law_labels"] []) (gS : mg "_law_some" = some (.ref fS)) (GS : FnG P w K mg base (k + 7) fS fdS ["_law_source_here", "_law_labels"] prSome)
    (FX : Fun K "_law_expected" "_law_expected" sExp fX fdX) (bX : Binds K fdX PSL []) (gX : mg "_law_expected" = some (.ref fX)) (GX : FnG P w K mg base (k + 7) fX fdX PSL prExp)
    (FE : Fun K "_law_error" "_law_error" sErr fE fdE) (bE : Binds K fdE ["_law_e"] []) (gE : mg "_law_error" = some (.ref fE)) (GE : FnE P w K mg base (k + 5) fE fdE ["_law_e"] (spErr C))
    (FR : Fun K "_law_result" "_law_result" sRes fR fdR) (bR : Binds K fdR ["_law_ask"] []) (gR : mg "_law_result" = some (.ref fR)) (gA : mg "AskError" = some (.ref CA)) (ex : PySem.W.exmOne K (.ref C) (.ref CA) = some true)
    (FL : Fun K "rows_left" "rows_left" sRL fL fdL) (bL : Binds K fdL PSR []) (gL : mg "rows_left" = some (.ref fL)) (GL : FnX P w K mg base (k + 5) fL fdL PSR (spRL C))
    (FG : Fun K "_law_long_right" "_law_long_right" sLong fG fdG) (bG : Binds K fdG [] []) (gG : mg "_law_long_right" = some (.ref fG)) (GG : FnG P w K mg base (k + 7) fG fdG [] prLong)
    (mt : mg "tuple" = none) (mr : mg "range" = none) (mp : mg "repr" = none) :
    FnG P w K mg base (k + 8) f (PySem.W.fnOf "law" "law" (defArgs sLaw) (defBody sLaw) (defScope sLaw) .none kV doc pm an (.ref c) ct) ["_law_script"] (prLaw K [(c, Pt)]) := by
  obtain ⟨ocR, odR, kVR, docR, pmR, anR, cdR, ctR, oslR, rfl, lkR, hcR⟩ := FR.ex
  refine fnG_of lk hcd scLaw (fun vs H Q h => ?_) (fun A outer s H vs Q hr h => ?_)
  · obtain ⟨_, _, rfl, _⟩ := h
    rfl
  · obtain ⟨a0, ns, rfl, hS, hP, q⟩ := h
    have big := sizeBig
    have kL : KBn K fdL PSR 0 ["names", "wall", "known", "today", "rights"] (fun _ ws => ws.reverse) (fun _ zs => zs.reverse) := kb_rev FL fun _ _ _ _ _ _ _ _ _ _ _ => rfl
    have hP : H Pt = some (.tbl #[]) := hP _ (List.mem_singleton.mpr rfl)
    have hu : ∀ p ∈ TL Pt, p.1 = Pt → p.2 = lamQ := fun p hp _ => by rw [List.mem_singleton.mp hp]
    have hmT : (Pt, lamQ) ∈ TL Pt := List.mem_singleton.mpr rfl
    refine ⟨_, pss_cons (ps_if (pt_not (pt_val (pe_g0 GG hr (by rfl) gG FG.kp bG .nil))) (pss_one (ps_ret pe_bl)) pss_nil)
      (pss_cons (ps_set (i := 1) scLaw.nd rfl (.inl rfl) (pe_g GF hr (by rfl) gF FF.kp bF .nil (pa_cons (pv 0) pa_nil)))
      (pss_cons (ps_for PassesOwn.never rfl (pi_range1 rfl mr (pa_cons pe_int pa_nil)) (pg_name (i := 2) scLaw.nd rfl (.inl rfl))
        (pss_cons (ps_asg (pe_g GC hr (by rfl) gC FC.kp bC .nil (pa_cons (pv 1) (pa_cons pe_int pa_nil))) (pg_tup (by rfl) (pgs_cons (pg_name (i := 3) scLaw.nd rfl (.inr rfl)) (pgs_cons (pg_name (i := 4) scLaw.nd rfl (.inr rfl)) (pgs_cons (pg_name (i := 5) scLaw.nd rfl (.inr rfl)) (pgs_cons (pg_name (i := 6) scLaw.nd rfl (.inr rfl)) pgs_nil))))))
        (pss_cons (ps_set (i := 5) scLaw.nd rfl (.inr rfl) (pe_op (op_catA : OpR _ _ (rCatA K)) (pe_op (op_catA : OpR _ _ (rCatA K)) (pv 5) (pe_slice (sl_tupA : SlR _ (rSlA K)) (pv 5) po_none (po_some pe_int))) (pe_op (op_rep1 : OpR _ _ (rRep1 K)) (pe_tup (pa_cons (pe_tup pa_nil) pa_nil)) (pe_g GD hr (by rfl) gD FD.kp bD .nil (pa_cons (pv 1) (pa_cons pe_int pa_nil))))))
        (pss_cons (ps_par (by rfl) scLaw.nd (i := 7) (j := 8) rfl rfl (by decide) rfl rfl (pa_cons (pe_g GO hr (by rfl) gO FO.kp bO .nil (pa_cons (pv 3) (pa_cons (pv 6) pa_nil))) (pa_cons (pe_lc (own := [("_law_pair", 9)]) (g := gName 9) (tt := tYes) rfl scLaw.nd (pi_tup (pv 3)) (blkOk_by (N := NL) (sc := defScope sLaw) (by decide +kernel))
          (fun _ _ _ _ _ => pg_name (i := 9) scLaw.nd rfl (.inl rfl)) (fun _ _ _ _ _ => pts_nil) (fun _ _ _ _ _ => pe_ix (ix_tup : IxR _ (rIxT K)) (pv 9) pe_int (fun _ _ => rfl))) pa_nil)) (by rfl))
        (pss_cons (ps_set (i := 10) scLaw.nd rfl (.inl rfl) (pe_callB (call_repr hr) (by rfl) mp (by decide +kernel) (pa_cons (pe_tup (pa_cons (pv 3) (pa_cons (pv 5) (pa_cons (pv 6) pa_nil)))) pa_nil)))
        (pss_cons (ps_set (i := 11) scLaw.nd rfl (.inl rfl) (pe_lst (pa_cons (pe_tup pa_nil) (pa_cons (pe_callTy call_tuple_of (by rfl) mt (by decide +kernel) (pa_cons (pv 7) pa_nil)) (pa_cons (pe_g GS hr (by rfl) gS FS.kp bS .nil (pa_cons (pv 1) (pa_cons (pv 7) pa_nil))) (pa_cons (pe_g GS hr (by rfl) gS FS.kp bS .nil (pa_cons (pv 1) (pa_cons (pv 8) pa_nil))) pa_nil))))))
        (pss_one (ps_for PassesOwn.never rfl (pi_list (pe_op op_cat (pv 11) (pe_lst (pa_cons (pe_g GS hr (by rfl) gS FS.kp bS .nil (pa_cons (pv 1) (pa_cons (pe_op op_cat (pv 8) (pe_lst (pa_cons pe_str (pa_cons pe_str pa_nil)))) pa_nil))) pa_nil)))) (pg_name (i := 12) scLaw.nd rfl (.inr rfl))
          (pss_cons (ps_set (i := 13) scLaw.nd rfl (.inl rfl) (pe_callB (call_repr hr) (by rfl) mp (by decide +kernel) (pa_cons (pe_g GX hr (by rfl) gX FX.kp bX .nil (pa_cons (pv 3) (pa_cons (pv 4) (pa_cons (pv 5) (pa_cons (pv 6) (pa_cons (pv 12) pa_nil)))))) pa_nil)))
          (pss_cons (ps_if (pt_cmpR op_ne (pe_callB (call_repr hr) (by rfl) mp (by decide +kernel) (pa_cons (LamX.pe_lamcall (T := TL Pt) (TT := TTres K C CA) (k := k + 5) (t := fun E => tCallX (spRL C) (fun cls d _ H' => E cls d H') (tCons (tVar 3) (tCons (tVar 4) (tCons (tVar 5) (tCons (tVar 6) (tCons (tVar 12) tNil)))))) (by rfl) gR FR.kp lkR hcR bR scRes rfl (.inl rfl)
              (res_gives _ gA FE bE gE GE (hr.room.mono (by omega))) TB rfl hmT hu hr.room lamOk rfl (fun _ _ _ _ _ => rfl) (fun A' outer' s' H' E f' c' hr' => pe_x GL hr' (by rfl) gL FL.kp bL (takes_of rfl rfl rfl rfl) (pa_cons (pv 3) (pa_cons (pv 4) (pa_cons (pv 5) (pa_cons (pv 6) (pa_cons (pv 12) pa_nil))))))) pa_nil)) (pv 13) (nomark _)) (pss_one (ps_ret pe_bl)) pss_nil)
          (pss_cons (ps_set (i := 14) scLaw.nd rfl (.inl rfl) (LamX.pe_lamcall (T := TL Pt) (TT := TTres K C CA) (k := k + 5) (t := fun E => tCallXN 5 (spRL C) (fun cls d _ H' => E cls d H') (fun _ zs => zs.reverse) (tCons (tVar 12) (tCons (tVar 6) (tCons (tVar 5) (tCons (tVar 4) (tCons (tVar 3) tNil)))))) (by rfl) gR FR.kp lkR hcR bR scRes rfl (.inl rfl)
              (res_gives _ gA FE bE gE GE (hr.room.mono (by omega))) TB rfl hmT hu hr.room lamOk rfl (fun _ _ _ _ _ => rfl) (fun A' outer' s' H' E f' c' hr' => pe_xk (ks := ["names", "wall", "known", "today", "rights"]) GL hr' (by rfl) gL FL.kp kL (takes_of rfl rfl rfl rfl) (pk_cons (pv 12) (pk_cons (pv 6) (pk_cons (pv 5) (pk_cons (pv 4) (pk_cons (pv 3) pk_nil))))))))
          (pss_one (ps_if (PW.pt (pw_or (pt_cmpR op_ne (pe_callB (call_repr hr) (by rfl) mp (by decide +kernel) (pa_cons (pv 14) pa_nil)) (pv 13) (nomark _)) (pw_or1 (pt_cmpR op_ne (pe_callB (call_repr hr) (by rfl) mp (by decide +kernel) (pa_cons (pe_tup (pa_cons (pv 3) (pa_cons (pv 5) (pa_cons (pv 6) pa_nil)))) pa_nil)) (pv 10) (nomark _))))) (pss_one (ps_ret pe_bl)) pss_nil)))))))))))))
      (pss_one (ps_ret pe_bl)))), ?_⟩
    have hT0 : LamX.Tabs (TL Pt) H := fun p hp => by
      rw [List.mem_singleton.mp hp]
      exact LamX.TabS.nil hP
    refine iSeq (iIfS ⟨rfl, fun H1 s1 => ⟨true, rfl, iteF (iNext ?_)⟩⟩)
    dsimp only
    refine iSeq (iAsg ⟨.ref a0, rfl, a0, ns, rfl, s1.seq hS, fun H2 Fd L s2 hF => ?_⟩)
    refine iName ?_
    dsimp only
    have hT2 : LamX.Tabs (TL Pt) H2 := hT0.ext (s1.trans s2)
    clear hT0 hS hP s1 s2
    refine iSeq ⟨6, rfl, by decide, by decide, ?_⟩
    refine for_range (lo := 0) (n := 6) (fun i σ' H' => (∃ x2 x3 x4 x5 x6 x7 x8 x9 x10 x11 x12 x13 x14, σ' = [some (.ref a0), some (.ref Fd), x2, x3, x4, x5, x6, x7, x8, x9, x10, x11, x12, x13, x14]) ∧ FeedAt H' Fd L (200 * (i : Int)) ∧ LamX.Tabs (TL Pt) H') ⟨⟨_, _, _, _, _, _, _, _, _, _, _, _, _, rfl⟩, hF.up (by omega), hT2⟩ (fun i σ' H' hi h => ?_) (fun σ' H' h => ?_)
    · obtain ⟨⟨x2, x3, x4, x5, x6, x7, x8, x9, x10, x11, x12, x13, x14, rfl⟩, hF1, hT1⟩ := h
      clear hF hT2
      refine iName ?_
      dsimp only
      obtain ⟨b, eb⟩ : ∃ b : Int, b = 200 * (i : Int) := ⟨_, rfl⟩
      rw [← eb] at hF1
      have hb : b ≤ 1000 := by omega
      -- the scene
      refine iSeq (iAsg ⟨.ref Fd, rfl, Fd, L, b, rfl, hF1, by omega, fun H3 p a kn wl g qa rs T ys G ρ m k3 hF3 sc => ?_⟩)
      refine ⟨p, _, rfl, sqT sc.top, rfl, .ref a, _, rfl, .int T, _, rfl, .ref kn, _, rfl, .ref wl, _, rfl, rfl, ?_⟩
      dsimp only
      have hT3 := tabs_keepF hT1 hF1 k3
      -- the known rows
      refine iSeq (iAsg ⟨.ref kn, rfl, .ref kn, rfl, 1, rfl, cut_rows sc.known fun H4 p4 zs4 s4 h4 e4 => ?_⟩)
      have l4 : zs4.length ≤ 1 := by
        rw [e4, List.length_take]
        omega
      have ok4 : ∀ ρ ∈ zs4, RowOk ρ := fun ρ hρ => sc.rows ρ (by
        rw [e4] at hρ
        exact List.mem_of_mem_take hρ)
      have lys := sc.few
      refine cat_rows (sc.known.keep (KeepT.of s4)) h4 (by omega) fun H5 p5 s5 h5 => ?_
      refine ⟨Nat.zero_le _, fun e6 he6 => ⟨by show 1 ≤ sizeLine; omega, fun l6 hl6 => ?_⟩⟩
      have s6 := same_new (o := .tup []) he6
      have s7 := same_new (o := .tup [.ref e6]) hl6
      have s37 := ((s4.trans s5).trans s6).trans s7
      refine ⟨.ref Fd, rfl, Fd, L, 2, b + 130, rfl, hF3.same s37, by decide, by decide, by omega, fun d H8 d0 d2 k8 hF8 => ?_⟩
      have kt8 := k8.tup (hF3.same s37)
      refine rep_rows (kt8 _ _ upd_same) (kt8 _ _ (s7 _ _ upd_same)) d0 d2 fun H9 p9 zs9 s9 h9 l9 ok9 => ?_
      have h5' := ((h5.keep (KeepT.of (s6.trans s7))).keep kt8).keep (KeepT.of s9)
      refine cat_rows h5' h9 (by rw [List.length_append]; omega) fun H10 kn' s10 h10 => ?_
      refine iName ?_
      dsimp only
      have okY : ∀ ρ ∈ ys ++ zs4 ++ zs9, RowOk ρ := fun ρ hρ => by
        rcases List.mem_append.mp hρ with h | h
        · rcases List.mem_append.mp h with h | h
          · exact sc.rows ρ h
          · exact ok4 ρ h
        · exact ok9 ρ h
      have lY : (ys ++ zs4 ++ zs9).length ≤ 4 := by
        rw [List.length_append, List.length_append]
        omega
      generalize ys ++ zs4 ++ zs9 = Y at h10 okY lY
      have k310 : KeepF Fd H3 H10 := ((KeepF.of s37).trans k8).trans (KeepF.of (s9.trans s10))
      have hF10 := hF8.same (s9.trans s10)
      have kt10 := k310.tup hF3
      have hR10 := sc.rights.keep kt10
      have hW10 := kt10 _ _ sc.wall
      have hG10 : TxtAt H10 g G := kt10 _ _ sc.group
      have hQ10 := sc.query.keep kt10
      have hT10 := tabs_keepF hT3 hF3 k310
      have held := sc.held
      have t0 := sc.t0
      have t3 := sc.t3
      have gsub := sc.sub
      have qok := sc.qok
      have m0 := sc.m0
      have m6 := sc.m6
      clear sc h5' h5 h9 h4 kt8 s37 s4 s5 s6 s7 s9 s10 k8 hF8 hT3 k310 kt10 hF3 k3 hT1 hF1 he6 hl6
      have few := held.few
      -- the names
      refine iSeq ⟨.ref a, rfl, .ref wl, rfl, a, wl, rs, G, rfl, hR10, by omega, ⟨g, _, _, hW10, hG10⟩, fun H11 o s11 ho0 ho => ?_⟩
      obtain ⟨ps, hps, hpp⟩ := hR10.keep (KeepT.of s11)
      have pl := Paired.length hpp
      refine ⟨.ref a, rfl, a, rfl, ⟨_, sqT hps⟩, fun D hD => ?_⟩
      refine loop_tup (K := K) (a := a) (xs := ps.map V.ref) (fun i H' => Same H11 H' ∧ H' D = some (.lst (((rs.map (·.1)).take i).map V.str))) ⟨same_new hD, by rw [List.take_zero]; exact upd_same⟩ (fun i H' h => sqT (h.1 _ _ hps)) (fun i v H' hv h => ?_) (fun H12 h => ?_)
      · obtain ⟨sm, hcs⟩ := h
        rw [List.getElem?_map] at hv
        obtain ⟨pi, hpi, rfl⟩ := Option.map_eq_some_iff.mp hv
        obtain ⟨x, hx, r, hpr, _⟩ := paired_at' hpp hpi
        refine ⟨wipe1, iYes (iteT ⟨.ref pi, rfl, pi, _, _, _, rfl, rfl, sqT (sm _ _ hpr), atI_nat (j := 0) rfl, _, hcs, by rw [List.length_map, List.length_take, List.length_map]; omega, fun b o e => ?_, ?_⟩)⟩
        · rw [upd_ne (ne_of_none e hD)]
          exact sm _ _ e
        · rw [upd_same, List.take_add_one, List.getElem?_map, hx, List.map_append]
          rfl
      obtain ⟨sm, hD12⟩ := h
      have hD12 : H12 D = some (.lst ((rs.map (·.1)).map V.str)) := by
        rw [List.length_map, pl, ← List.length_map (f := fun x : Str × Rt => x.1), List.take_length] at hD12
        exact hD12
      refine ⟨.ref o, .ref D, rfl, ?_⟩
      dsimp only
      have s12 := s11.trans sm
      have ho12 := sm _ _ ho
      have hF12 := hF10.same s12
      have kt12 := KeepT.of s12
      have hR12 := hR10.keep kt12
      have hK12 := h10.keep kt12
      have hW12 := s12 _ _ hW10
      have hG12 : TxtAt H12 g G := s12 _ _ hG10
      have hQ12 := hQ10.keep kt12
      have hT12 : LamX.Tabs (TL Pt) H12 := hT10.ext s12
      clear hps hpp sm hD ho ho0 s11 hR10 h10 hW10 hG10 hQ10 hT10 hF10 kt12 s12
      -- what was before
      have fb := fine_before held okY lY gsub qok m0 m6
      have fbl : (beforeD rs Y G ρ m).shown.length ≤ sizeLine := by
        rw [sizeLine_eq]
        exact Nat.le_trans fb.len (by decide)
      refine iSeq (iAsg ⟨.ref a, rfl, .ref kn', rfl, .ref wl, rfl, by show 3 ≤ sizeLine; omega, fun bt hbt => ?_⟩)
      have s13 := same_new (o := .tup [.ref a, .ref kn', .ref wl]) hbt
      have kt13 := KeepT.of s13
      refine ⟨bt, beforeD rs Y G ρ m, rfl, .tup (sqT upd_same) (.cons (dp_held (hR12.keep kt13)) (.cons (dp_tup (hK12.keep kt13)) (.cons (dp_wall (s13 _ _ hW12) (s13 _ _ hG12) (hQ12.keep kt13)) .nil))), fb.shw, fb.nod, Nat.le_trans fb.dep (by decide), fbl, iName ?_⟩
      dsimp only
      have ho13 := s13 _ _ ho12
      have hD13 := s13 _ _ hD12
      have hF13 := hF12.same s13
      have hR13 := hR12.keep kt13
      have hK13 := hK12.keep kt13
      have hW13 := s13 _ _ hW12
      have hG13 : TxtAt _ g G := s13 _ _ hG12
      have hQ13 := hQ12.keep kt13
      have hT13 : LamX.Tabs (TL Pt) _ := hT12.ext s13
      generalize upd H12 bt (.tup [.ref a, .ref kn', .ref wl]) = H13 at ho13 hD13 hF13 hR13 hK13 hW13 hG13 hQ13 hT13 ⊢
      clear ho12 hD12 hF12 hR12 hK12 hW12 hG12 hQ12 hT12 s13 kt13 hbt
      -- the names that are given
      have ownok : ∀ z ∈ ownN rs G, z ∈ okN := fun z hz => by
        obtain ⟨x, hx, rfl⟩ := List.mem_map.mp hz
        exact six_ok (held.names x (List.mem_filter.mp hx).1)
      have everyok : ∀ z ∈ rs.map (·.1), z ∈ okN := fun z hz => by
        obtain ⟨x, hx, rfl⟩ := List.mem_map.mp hz
        exact six_ok (held.names x hx)
      have ownl : (ownN rs G).length ≤ 6 := by
        unfold ownN
        rw [List.length_map]
        exact Nat.le_trans (List.length_filter_le _ _) few
      have everyl : (rs.map (·.1)).length ≤ 6 := by
        rw [List.length_map]
        exact few
      have noF : ∀ {Hx : Hp} {bx : Int} {l : Addr} {xs : List V}, FeedAt Hx Fd L bx → Hx l = some (.lst xs) → l ≠ Fd := fun hF h => by
        obtain ⟨_, _, _, _, e, _⟩ := hF
        exact ne_of h e fun z => nomatch z
      have noFo := noF hF13 ho13
      have noFD := noF hF13 hD13
      refine iSeq (iAsg ⟨Nat.zero_le _, fun e0 he0 => ⟨.ref o, rfl, o, _, rfl, .inl ⟨sqL (same_new he0 _ _ ho13), fun t1 ht1 => ?_⟩⟩⟩)
      have s14 := same_new (o := .tup []) he0
      have s15 := same_new (o := .tup ((ownN rs G).map V.str)) ht1
      have s1315 := s14.trans s15
      refine ⟨.ref Fd, rfl, .ref o, rfl, Fd, L, o, ownN rs G, b + 130 + 1, rfl, hF13.same s1315, by omega, s1315 _ _ ho13, by omega, fun H16 p2 zs2 k16 hF16 hz2 lz2 mz2 => ?_⟩
      have k1316 := (KeepF.of s1315).trans k16
      refine ⟨.ref Fd, rfl, .ref D, rfl, Fd, L, D, rs.map (·.1), b + 130 + 1 + 10, rfl, hF16, by omega, k1316 _ _ noFD hD13, by omega, fun H17 p3 zs3 k17 hF17 hz3 lz3 mz3 => ⟨by show 4 ≤ sizeLine; omega, fun l1 hl1 => iName ?_⟩⟩
      dsimp only
      have s18 := same_new (o := .lst [.ref e0, .ref t1, .ref p2, .ref p3]) hl1
      have k1318 := (k1316.trans k17).trans (KeepF.of s18)
      have kt1518 : KeepT (upd (upd H13 e0 (.tup [])) t1 (.tup ((ownN rs G).map V.str))) _ := ((k16.tup (hF13.same s1315)).trans (k17.tup hF16)).trans (KeepT.of s18)
      have he18 : TxtAt _ e0 [] := kt1518 _ _ (s15 _ _ upd_same)
      have ht18 : TxtAt _ t1 (ownN rs G) := kt1518 _ _ upd_same
      have hz218 : TxtAt _ p2 zs2 := s18 _ _ (k17.tup hF16 _ _ hz2)
      have hz318 : TxtAt _ p3 zs3 := s18 _ _ hz3
      have hF18 := hF17.same s18
      have hD18 := k1318 _ _ noFD hD13
      have kt18 := k1318.tup hF13
      have hR18 := hR13.keep kt18
      have hK18 := hK13.keep kt18
      have hW18 := kt18 _ _ hW13
      have hG18 : TxtAt _ g G := kt18 _ _ hG13
      have hQ18 := hQ13.keep kt18
      have hT18 := tabs_keepF hT13 hF13 k1318
      have hl18 : (upd H17 l1 (.lst [.ref e0, .ref t1, .ref p2, .ref p3])) l1 = some (.lst [.ref e0, .ref t1, .ref p2, .ref p3]) := upd_same
      generalize upd H17 l1 (.lst [.ref e0, .ref t1, .ref p2, .ref p3]) = H18 at he18 ht18 hz218 hz318 hF18 hD18 hR18 hK18 hW18 hG18 hQ18 hT18 hl18 ⊢
      clear kt18 k1318 kt1518 s18 hl1 hz3 k17 hF17 hz2 hF16 k16 k1316 s1315 s15 s14 ht1 he0 ho13 hD13 hF13 hR13 hK13 hW13 hG13 hQ13 hT13
      refine ⟨.ref l1, rfl, .ref Fd, rfl, .ref D, rfl, by show 2 ≤ sizeLine; omega, fun e2 he2 => ⟨D, e2, _, _, rfl, rfl, same_new he2 _ _ hD18, upd_same, by rw [List.length_map]; show _ + 2 ≤ sizeLine; omega, fun e3 he3 => ?_⟩⟩
      have s19 := same_new (o := .lst [.str "zz", .str "a"]) he2
      have s20 := same_new (o := .lst ((rs.map (·.1)).map V.str ++ [.str "zz", .str "a"])) he3
      have s1820 := s19.trans s20
      refine ⟨Fd, L, e3, rs.map (·.1) ++ (["zz", "a"] : List Str), b + 130 + 1 + 10 + 10, rfl, hF18.same s1820, by omega, by rw [List.map_append]; exact upd_same, by rw [List.length_append]; show _ + 2 ≤ 10; omega, fun H21 p4 zs4 k21 hF21 hz4 lz4 mz4 => ⟨by show 1 ≤ sizeLine; omega, fun l2 hl2 => ?_⟩⟩
      have s22 := same_new (o := .lst [.ref p4]) hl2
      have noFl := noF hF18 hl18
      have k1822 := ((KeepF.of s1820).trans k21).trans (KeepF.of s22)
      refine ⟨l1, l2, _, _, rfl, rfl, k1822 _ _ noFl hl18, upd_same, by show 5 ≤ sizeLine; omega, fun l3 hl3 => ?_⟩
      have s23 := same_new (o := .lst ([.ref e0, .ref t1, .ref p2, .ref p3] ++ [.ref p4])) hl3
      have k1823 := k1822.trans (KeepF.of s23)
      have kt23 := k1823.tup hF18
      have lap : LapAt (upd (upd H21 l2 (.lst [.ref p4])) l3 (.lst ([.ref e0, .ref t1, .ref p2, .ref p3] ++ [.ref p4]))) Fd L (200 * ((i + 1 : Nat) : Int)) a kn' wl g qa l3 rs Y G ρ m [e0, t1, p2, p3, p4] := by
        refine ⟨(hF21.same (s22.trans s23)).up (by omega), hR18.keep kt23, hK18.keep kt23, kt23 _ _ hW18, kt23 _ _ hG18, hQ18.keep kt23, upd_same, fun p hp => ?_⟩
        simp only [List.mem_cons, List.not_mem_nil, or_false] at hp
        rcases hp with rfl | rfl | rfl | rfl | rfl
        · exact ⟨[], kt23 _ _ he18, Nat.zero_le _, fun z hz => absurd hz (by simp)⟩
        · exact ⟨_, kt23 _ _ ht18, by omega, ownok⟩
        · exact ⟨_, kt23 _ _ hz218, lz2, fun z hz => ownok z (mz2 z hz)⟩
        · exact ⟨_, kt23 _ _ hz318, lz3, fun z hz => everyok z (mz3 z hz)⟩
        · refine ⟨_, (s22.trans s23) _ _ hz4, lz4, fun z hz => ?_⟩
          rcases List.mem_append.mp (mz4 z hz) with h | h
          · exact everyok z h
          · simp only [List.mem_cons, List.not_mem_nil, or_false] at h
            rcases h with rfl | rfl <;> decide +kernel
      have hT23 := tabs_keepF hT18 hF18 k1823
      generalize upd (upd H21 l2 (.lst [.ref p4])) l3 (.lst ([.ref e0, .ref t1, .ref p2, .ref p3] ++ [.ref p4])) = H23 at lap hT23 ⊢
      clear kt23 k1823 s23 k1822 s22 hl3 hl2 hz4 k21 hF21 s1820 s19 s20 he2 he3 he18 ht18 hz218 hz318 hF18 hD18 hR18 hK18 hW18 hG18 hQ18 hT18 hl18
      generalize [e0, t1, p2, p3, p4] = gs at lap
      refine ⟨l3, rfl, ⟨_, sqL lap.list⟩, ?_⟩
      refine for_list (K := K) (a := l3) (xs := gs.map V.ref) (fun j σ' H' => (∃ z12 z13 z14, σ' = [some (.ref a0), some (.ref Fd), some (.int (0 + (i : Int))), some (.ref a), some (.int T), some (.ref kn'), some (.ref wl), some (.ref o), some (.ref D), x9, some (.str (beforeD rs Y G ρ m).shown), some (.ref l1), z12, z13, z14]) ∧ LapAt H' Fd L (200 * ((i + 1 : Nat) : Int)) a kn' wl g qa l3 rs Y G ρ m gs ∧ LamX.Tabs (TL Pt) H')
        ⟨⟨_, _, _, rfl⟩, lap, hT23⟩ (fun j σ' H' _ h => sqL h.2.1.list) (fun j x σ' H' hx h => ?_) (fun σ' H' h => ?_)
      · obtain ⟨⟨z12, z13, z14, rfl⟩, lap, hT⟩ := h
        rw [List.getElem?_map] at hx
        obtain ⟨pg, hpg, rfl⟩ := Option.map_eq_some_iff.mp hx
        obtain ⟨zs, hz, lz, mz⟩ := lap.texts pg (List.mem_of_getElem? hpg)
        refine iName ?_
        dsimp only
        have fe := fine_exp (T := T) (G := G) held okY lY mz
        have fel : (expD rs T Y G zs).shown.length ≤ sizeLine := by
          rw [sizeLine_eq]
          exact Nat.le_trans fe.len (by decide)
        have fed : (expD rs T Y G zs).depth ≤ 60 := Nat.le_trans fe.dep (by decide)
        have asked : ∀ {Hx : Hp}, LapAt Hx Fd L (200 * ((i + 1 : Nat) : Int)) a kn' wl g qa l3 rs Y G ρ m gs → TxtAt Hx pg zs → Asked Hx a kn' wl pg T rs Y G zs := fun lap hz =>
          ⟨lap.rights, by omega, fun x hx => ⟨(held.all x hx).ok, (held.all x hx).day⟩, t0, by omega, lap.known, by omega, ⟨g, _, _, lap.wall, lap.group⟩, hz⟩
        -- what is due
        have zok : ∀ z ∈ zs, PyData.strOk z = true := fun z hz => (okN_ok (mz z hz)).ok
        refine iSeq ?_
        refine split_s (fun σ' H1 => σ' = [some (.ref a0), some (.ref Fd), some (.int (0 + (i : Int))), some (.ref a), some (.int T), some (.ref kn'), some (.ref wl), some (.ref o), some (.ref D), x9, some (.str (beforeD rs Y G ρ m).shown), some (.ref l1), some (.ref pg), some (.str (expD rs T Y G zs).shown), z14] ∧ Same H' H1) (fun nx hnx => ?_) (fun σ' H1 hx => ?_)
        · refine iAsg ⟨.ref a, rfl, .int T, rfl, .ref kn', rfl, .ref wl, rfl, .ref pg, rfl, a, kn', wl, pg, T, rs, Y, G, zs, rfl, asked lap hz, fun x hx => (held.all x hx).up, by omega, zok, fun z e H1 r s1 h1 => ?_, fun e H1 r r2 s1 h1 h2 => ?_⟩
          · exact ⟨r, expD rs T Y G zs, rfl, dp_exp1 e h1, fe.shw, fe.nod, fed, fel, iName (hnx _ _ ⟨rfl, s1⟩)⟩
          · exact ⟨r, expD rs T Y G zs, rfl, dp_exp2 e h1 h2, fe.shw, fe.nod, fed, fel, iName (hnx _ _ ⟨rfl, s1⟩)⟩
        obtain ⟨rfl, s1⟩ := hx
        dsimp only
        have lap1 := lap.same s1
        have hT1 : LamX.Tabs (TL Pt) H1 := hT.ext s1
        have hz1 : TxtAt H1 pg zs := s1 _ _ hz
        clear s1 hz lap hT
        -- asked by position
        refine iSeq (iIfS ⟨hT1, fun H2 e2 hT2 => ?_⟩)
        have lap2 := lap1.ext e2
        have hz2 : TxtAt H2 pg zs := keepT_ext e2 _ _ hz1
        refine tellP rfl rfl rfl rfl rfl (asked lap2 hz2) ex fun H3 r s3 dp3 => ?_
        refine ⟨r, expD rs T Y G zs, rfl, dp3, fe.shw, fe.nod, fed, fel, .str (expD rs T Y G zs).shown, rfl, rfl, _, rfl, ?_⟩
        rw [decide_eq_true rfl]
        refine iteF (iNext ?_)
        dsimp only
        have lap3 := lap2.same s3
        have hT3 : LamX.Tabs (TL Pt) H3 := hT2.ext s3
        have hz3 : TxtAt H3 pg zs := s3 _ _ hz2
        clear lap1 hT1 hz1 lap2 hT2 hz2 e2 s3 dp3
        -- asked by name
        refine iSeq (iAsg ⟨hT3, fun H4 e4 hT4 => ?_⟩)
        have lap4 := lap3.ext e4
        have hz4 : TxtAt H4 pg zs := keepT_ext e4 _ _ hz3
        refine tellK rfl rfl rfl rfl rfl (asked lap4 hz4) ex fun H5 r5 s5 dp5 => ?_
        refine iName ?_
        dsimp only
        have lap5 := lap4.same s5
        have hT5 : LamX.Tabs (TL Pt) H5 := hT4.ext s5
        refine iIfS (iOr ⟨.ref r5, rfl, r5, expD rs T Y G zs, rfl, dp5, fe.shw, fe.nod, fed, fel, .str (expD rs T Y G zs).shown, rfl, rfl, _, rfl, ?_⟩)
        rw [decide_eq_true rfl]
        refine iteF ⟨.ref a, rfl, .ref kn', rfl, .ref wl, rfl, by show 3 ≤ sizeLine; omega, fun bt hbt => ?_⟩
        have s6 := same_new (o := .tup [.ref a, .ref kn', .ref wl]) hbt
        have lap6 := lap5.same s6
        refine ⟨bt, beforeD rs Y G ρ m, rfl, .tup (sqT upd_same) (.cons (dp_held lap6.rights) (.cons (dp_tup lap6.known) (.cons (dp_wall lap6.wall lap6.group lap6.query) .nil))), fb.shw, fb.nod, Nat.le_trans fb.dep (by decide), fbl, .str (beforeD rs Y G ρ m).shown, rfl, rfl, _, rfl, ?_⟩
        rw [decide_eq_true rfl]
        exact iteF ⟨⟨_, _, _, rfl⟩, lap6, hT5.ext s6⟩
      · obtain ⟨⟨z12, z13, z14, rfl⟩, lap, hT⟩ := h
        exact ⟨⟨_, _, _, _, _, _, _, _, _, _, _, _, _, rfl⟩, lap.feed, hT⟩
    · obtain ⟨⟨x2, x3, x4, x5, x6, x7, x8, x9, x10, x11, x12, x13, x14, rfl⟩, _⟩ := h
      dsimp only
      exact iRet (q _)
end
end P56
/-! The end of a law's row, by a promise of its def that holds where nothing is being shown. -/
namespace AskG
open PySem PySem.Spec PyProof.Rows L2
/-- from an abstract heap that tracks at most the script -/
theorem lawG_core {P : Program} {w : World} {K : PySem.W.Frag} {mg mb : Str → Option Value} {k : Nat} {fa a : Addr} {fd : FuncData} {x : Str} {pr : Pr}
    {s₁ : Shared} {vs : List Value} {H : Hp}
    (inK : K.In s₁.heap) (ns1 : s₁.heap.Ns mainGlobals mg) (ns2 : s₁.heap.Ns builtinsNs mb)
    (bb : ∀ x : Str, x ≠ "__name__" → mb x = bootBuiltins x) (lim : s₁.heap.NoLimit) (gn : s₁.gens = #[])
    (ha : s₁.heap.get? a = some { cls := .type "list", data := .seq vs.toArray }) (hr : RG k callerA)
    (F : ∀ base : Heap, K.In base → base.Ns mainGlobals mg → FnG P w K mg base k fa fd [x] pr)
    (bind : ∀ (s : Shared) (u : Value), BindsTo s fd ⟨[u], []⟩ [(x, u)])
    (only : Only H) (hok : HOk P w H s₁.heap) (at_a : ∀ b, H b ≠ none → b = a) (noK : H a ≠ none → K.lookup a = none)
    (hp : pr [.ref a] H fun v _ => v = .bl true) :
    codeAny (model P w) callerA (.call (.ref fa) ⟨[.ref a], []⟩)
      (fun r s' => r = .ok (.ret (.bool true)) ∧ OldK s₁.heap s'.heap ∧ s'.os = s₁.os ∧ AllBare s'.gens) s₁ := by
  have hid : ∀ {b : Addr} {o : Obj}, s₁.heap.get? b = some o → H b = none → (hidT s₁.heap H).get? b = some o :=
    fun e n => hidT_get e n
  have notA : ∀ {b : Addr} {o : Obj} {es : Array DictEntry} {ep : Nat}, s₁.heap.get? b = some o → o.data = .dict es ep → H b = none := by
    intro b o es ep e d
    cases q : H b with
    | none => rfl
    | some u =>
      have eb : b = a := at_a b (by rw [q]; simp)
      rw [eb, ha] at e
      cases e
      cases (show Data.seq vs.toArray _ = Data.dict es ep from d)
  have nsH : ∀ {b : Addr} {m : Str → Option Value}, s₁.heap.Ns b m → (hidT s₁.heap H).Ns b m := by
    rintro b m ⟨o, es, ep, e, d, r⟩
    exact ⟨o, es, ep, hid e (notA e d), d, r⟩
  have inH : K.In (hidT s₁.heap H) := by
    intro b o e
    refine hid (inK b o e) ?_
    cases q : H b with
    | none => rfl
    | some u =>
      have eb : b = a := at_a b (by rw [q]; simp)
      rw [eb, noK (by rw [← eb, q]; simp)] at e
      cases e
  have M : Mod K mg (hidT s₁.heap H) :=
    ⟨inH, nsH ns1, ⟨mb, nsH ns2, bb⟩, lim.elim fun mc h => ⟨mc, nsH h.1, h.2⟩⟩
  have e0 : Env0 P w K mg (hidT s₁.heap H) callerA [] s₁ H :=
    ⟨rfl, M, fun b o e => of_hidT e, Nat.le_of_eq (hidT_size _ _), trivial,
      fun b hb => absurd (show b ∈ ([] : List Addr) from hb) (by simp), hok, .of_eq gn⟩
  refine codeAny_mono ((F _ inH (nsH ns1)).goes callerA [] s₁ H ⟨[.ref a], []⟩ [.ref a] [.ref a] _ hr e0
    (bind s₁ (.ref a)) (.cons rfl .nil) hp) fun r s' h => ?_
  match r, h with
  | .error e, h => exact h.elim
  | .ok .next, h => exact h.elim
  | .ok .brk, h => exact h.elim
  | .ok .cont, h => exact h.elim
  | .ok (.ret u), h =>
    obtain ⟨v, H', os, bare, un, hok', r', q⟩ := h
    have q : v = .bl true := q
    subst q
    obtain rfl : u = Value.bool true := r'
    refine ⟨rfl, OldK.of_keep fun b o e => ?_, os, bare⟩
    cases hb : H b with
    | none =>
      exact un.keep b o e hb (fun z => absurd (show b ∈ ([] : List Addr) from z) (by simp)) (by simp)
    | some u =>
      rcases only b with z | ⟨ob, xs, z⟩
      · rw [hb] at z
        cases z
      · obtain ⟨e1, _⟩ := hok b _ z
        obtain ⟨e2, _⟩ := hok' b _ (un.frzs b ob _ z)
        rw [e] at e1
        cases e1
        exact e2
theorem lawG {P : Program} {w : World} {K : PySem.W.Frag} {mg mb : Str → Option Value} {k : Nat} {fa a : Addr} {fd : FuncData} {x : Str} {pr : Pr}
    {s₁ : Shared} {vs : List Value} {ns : List Int}
    (inK : K.In s₁.heap) (ns1 : s₁.heap.Ns mainGlobals mg) (ns2 : s₁.heap.Ns builtinsNs mb)
    (bb : ∀ x : Str, x ≠ "__name__" → mb x = bootBuiltins x) (lim : s₁.heap.NoLimit) (gn : s₁.gens = #[])
    (ha : s₁.heap.get? a = some { cls := .type "list", data := .seq vs.toArray }) (hi : IntsAre vs ns) (hl : ns.length ≤ sizeLine) (hr : RG k callerA)
    (F : ∀ base : Heap, K.In base → base.Ns mainGlobals mg → FnG P w K mg base k fa fd [x] pr)
    (bind : ∀ (s : Shared) (u : Value), BindsTo s fd ⟨[u], []⟩ [(x, u)])
    (hp : ∀ H : Hp, Only H → SqL K H a (ns.map V.int) → pr [.ref a] H fun v _ => v = .bl true) :
    codeAny (model P w) callerA (.call (.ref fa) ⟨[.ref a], []⟩)
      (fun r s' => r = .ok (.ret (.bool true)) ∧ OldK s₁.heap s'.heap ∧ s'.os = s₁.os ∧ AllBare s'.gens) s₁ := by
  have rv := vals_ints hi
  cases hk : K.lookup a with
  | some o =>
    have e := inK a o hk
    rw [ha] at e
    cases e
    refine lawG_core (H := fun _ => none) inK ns1 ns2 bb lim gn ha hr F bind (fun _ => .inl rfl)
      (fun b u z => nomatch (show (none : Option HO) = some u from z)) (fun b z => absurd rfl z) (fun z => absurd rfl z) ?_
    refine hp _ (fun _ => .inl rfl) (.inr ⟨_, vs.toArray, _, hk, rfl, rfl, rfl, ?_, by simpa using rv⟩)
    rw [List.size_toArray, hi.length]
    exact hl
  | none =>
    have at1 : (fun b => if b = a then some (HO.frz { cls := .type "list", data := .seq vs.toArray } (.lst (ns.map V.int))) else none : Hp) a =
        some (.frz { cls := .type "list", data := .seq vs.toArray } (.lst (ns.map V.int))) := if_pos rfl
    have else1 : ∀ b, b ≠ a → (fun b => if b = a then some (HO.frz { cls := .type "list", data := .seq vs.toArray } (.lst (ns.map V.int))) else none : Hp) b = none :=
      fun b h => if_neg h
    generalize (fun b => if b = a then some (HO.frz { cls := .type "list", data := .seq vs.toArray } (.lst (ns.map V.int))) else none : Hp) = H at at1 else1
    have only : Only H := fun b => by
      by_cases h : b = a
      · rw [h]
        exact .inr ⟨_, _, at1⟩
      · exact .inl (else1 b h)
    refine lawG_core (H := H) inK ns1 ns2 bb lim gn ha hr F bind only (fun b u z => ?_) (fun b z => ?_) (fun _ => hk) (hp H only (.inl (.inr ⟨_, at1⟩)))
    · by_cases h : b = a
      · subst h
        rw [at1] at z
        cases z
        exact ⟨ha, by rw [List.length_map]; exact hl, vs, _, rv, ha⟩
      · rw [else1 b h] at z
        cases z
    · by_cases h : b = a
      · exact h
      · exact absurd (else1 b h) z
/-- the goal behind the head -/
theorem walkG {l : PySem.W.OpenLaw} {n k : Nat} {q : Program} {loose : List Str} {XP : (Str → Option Value) → Heap → Prop} {YP : World → Heap → Prop} {d : DefRec}
    {K : Params → PySem.W.Frag} {pr : PySem.W.Frag → Pr} {x : Str}
    (hn : l.most = some n) (hn2 : n ≤ sizeLine) (hdf : d.params.defaults = []) (hr : RG k callerA)
    (hY : ∀ (w : World) (h : Heap), YP w h → (K w.params).In h)
    (F : ∀ (w : World) (mg : Str → Option Value) (fa : Addr) (h : Heap), (K w.params).In h → h.Ns mainGlobals mg → mg d.name = some (.ref fa) →
      ∃ fd : FuncData, (∀ (s : Shared) (u : Value), BindsTo s fd ⟨[u], []⟩ [(x, u)]) ∧
        ∀ base : Heap, (K w.params).In base → base.Ns mainGlobals mg → FnG l.prog w (K w.params) mg base k fa fd [x] (pr (K w.params)))
    (hp : ∀ (K : PySem.W.Frag) (H : Hp) (a : Addr) (ns : List Int), ns.length ≤ n → SqL K H a (ns.map V.int) → pr K [.ref a] H fun v _ => v = .bl true) :
    PySem.W.WalkO q loose XP YP l.row.toRowW d [] (fun f vs => PySem.call f vs) := by
  refine Att.attach_call hn hdf ?_
  intro w s₀ s₁ mg mb fa o pm cd doc a vs ns G Y ho hd hcd hmg hobj hints hlen hg
  have inK := hY w _ Y
  obtain ⟨fd, hb, hF⟩ := F w mg fa _ inK G.T.g hmg
  exact lawG inK G.T.g G.T.b G.T.builtins G.T.nolimit hg hobj hints (Nat.le_trans hlen hn2) hr hF hb fun H _ hS => hp _ H a ns hlen hS
end AskG
/-! AskZt: the end of a law's row whose def makes lambdas, by a promise that holds where nothing is being shown. -/
namespace AskG
open PySem PySem.Spec PyProof.Rows L2
/-- the tables of these code objects are empty and no part of K -/
structure Tables (K : PySem.W.Frag) (h : Heap) (cs : List (Addr × Addr)) : Prop where
  none : ∀ p ∈ cs, h.get? p.2 = some { cls := .none, data := .fields #[] }
  out : ∀ p ∈ cs, K.lookup p.2 = Option.none
  hd : ∀ p ∈ cs, PySem.W.CodeHd h p.1 p.2
/-- the module of the builtins -/
def BMain (mg : Str → Option Value) (h : Heap) : Prop := ∃ (bm : Addr) (ob : Obj), mg "__builtins__" = some (.ref bm) ∧ bm ≠ builtinsNs ∧ h.get? bm = some ob ∧ ob.cls = .type "module" ∧ ob.dict = some builtinsNs ∧ ob.data = .plain
section
variable {P : Program} {w : World} {K : PySem.W.Frag} {mg mb : Str → Option Value} {k : Nat} {fa a : Addr} {fd : FuncData} {x : Str} {pr : Pr} {s₁ : Shared} {vs : List Value} {H : Hp} {cs : List (Addr × Addr)}
theorem Tables.mem (T : Tables K s₁.heap cs) {b : Addr} (h : b ∈ cs.map (·.2)) : s₁.heap.get? b = some { cls := .none, data := .fields #[] } ∧ K.lookup b = Option.none := by
  obtain ⟨p, hp, rfl⟩ := List.mem_map.mp h
  exact ⟨T.none p hp, T.out p hp⟩
theorem lawT_core (inK : K.In s₁.heap) (ns1 : s₁.heap.Ns mainGlobals mg) (ns2 : s₁.heap.Ns builtinsNs mb)
    (bb : ∀ x : Str, x ≠ "__name__" → mb x = bootBuiltins x) (lim : s₁.heap.NoLimit) (gn : s₁.gens = #[])
    (T : Tables K s₁.heap cs) (bmn : BMain mg s₁.heap)
    (ha : s₁.heap.get? a = some { cls := .type "list", data := .seq vs.toArray }) (hr : RG k callerA)
    (F : ∀ base : Heap, K.In base → base.Ns mainGlobals mg → (∀ p ∈ cs, LamX.TabB base mg p.1 p.2) → FnG P w K mg base k fa fd [x] pr)
    (bind : ∀ (s : Shared) (u : Value), BindsTo s fd ⟨[u], []⟩ [(x, u)])
    (only : ∀ b, b ∈ cs.map (·.2) ∨ H b = none ∨ ∃ o xs, H b = some (.frz o (.lst xs))) (hok : HOk P w H s₁.heap) (at_a : ∀ b, H b ≠ none → b ∈ cs.map (·.2) ∨ b = a)
    (noK : H a ≠ none → K.lookup a = none) (tb : ∀ p ∈ cs, H p.2 = some (.tbl #[])) (hp : pr [.ref a] H fun v _ => v = .bl true) :
    codeAny (model P w) callerA (.call (.ref fa) ⟨[.ref a], []⟩)
      (fun r s' => r = .ok (.ret (.bool true)) ∧ OldK s₁.heap s'.heap ∧ s'.os = s₁.os ∧ AllBare s'.gens) s₁ := by
  -- what is neither a sequence nor a table is not tracked
  have notT : ∀ {b : Addr} {o : Obj}, s₁.heap.get? b = some o → (∀ xs n, o.data ≠ .seq xs n) → o.data ≠ .fields #[] → H b = none := by
    intro b o e n1 n2
    cases q : H b with
    | none => rfl
    | some u =>
      rcases at_a b (by rw [q]; simp) with z | rfl
      · rw [(T.mem z).1] at e
        cases e
        exact absurd rfl n2
      · rw [ha] at e
        cases e
        exact absurd rfl (n1 _ _)
  have nsH : ∀ {b : Addr} {m : Str → Option Value}, s₁.heap.Ns b m → (hidT s₁.heap H).Ns b m := by
    rintro b m ⟨o, es, ep, e, d, r⟩
    exact ⟨o, es, ep, hidT_get e (notT e (by rw [d]; intro _ _ z; cases z) (by rw [d]; intro z; cases z)), d, r⟩
  have inH : K.In (hidT s₁.heap H) := by
    intro b o e
    refine hidT_get (inK b o e) ?_
    cases q : H b with
    | none => rfl
    | some u =>
      rcases at_a b (by rw [q]; simp) with z | rfl
      · rw [(T.mem z).2] at e
        cases e
      · rw [noK (by rw [q]; simp)] at e
        cases e
  have TB : ∀ p ∈ cs, LamX.TabB (hidT s₁.heap H) mg p.1 p.2 := by
    intro p hp
    obtain ⟨go, ges, gep, ge, gd, _⟩ := ns1
    have np := T.none p hp
    constructor
    · obtain ⟨o, us, f, tf, fl, tg, i, n, tt, e1, r1, r2, r3⟩ := T.hd p hp
      refine ⟨o, us, f, tf, fl, tg, i, n, tt, hidT_get e1 (notT e1 ?_ ?_), r1, r2, r3⟩
      · rw [r2]
        intro _ _ z
        cases z
      · rw [r2]
        intro z
        cases z
        exact absurd r3.1 (by simp)
    · obtain ⟨bm, ob, b1, b2, b3, b4, b5, b6⟩ := bmn
      refine ⟨bm, ob, b1, b2, ?_, ?_, hidT_get b3 (notT b3 ?_ ?_), b4, b5, b6⟩
      · rintro rfl
        rw [ge] at b3
        cases b3
        rw [gd] at b6
        cases b6
      · rintro rfl
        rw [np] at b3
        cases b3
        cases b6
      · rw [b6]
        intro _ _ z
        cases z
      · rw [b6]
        intro z
        cases z
    · intro z
      rw [z, np] at ge
      cases ge
      cases gd
  have M : Mod K mg (hidT s₁.heap H) :=
    ⟨inH, nsH ns1, ⟨mb, nsH ns2, bb⟩, lim.elim fun mc h => ⟨mc, nsH h.1, h.2⟩⟩
  have e0 : Env0 P w K mg (hidT s₁.heap H) callerA [] s₁ H :=
    ⟨rfl, M, fun b o e => of_hidT e, Nat.le_of_eq (hidT_size _ _), trivial,
      fun b hb => absurd (show b ∈ ([] : List Addr) from hb) (by simp), hok, .of_eq gn⟩
  refine codeAny_mono ((F _ inH (nsH ns1) TB).goes callerA [] s₁ H ⟨[.ref a], []⟩ [.ref a] [.ref a] _ hr e0
    (bind s₁ (.ref a)) (.cons rfl .nil) hp) fun r s' h => ?_
  match r, h with
  | .error e, h => exact h.elim
  | .ok .next, h => exact h.elim
  | .ok .brk, h => exact h.elim
  | .ok .cont, h => exact h.elim
  | .ok (.ret u), h =>
    obtain ⟨v, H', os, bare, un, hok', r', q⟩ := h
    have q : v = .bl true := q
    subst q
    obtain rfl : u = Value.bool true := r'
    have stays : ∀ b o, b ∉ cs.map (·.2) → s₁.heap.get? b = some o → s'.heap.get? b = some o := by
      intro b o nb e
      rcases only b with z | z | ⟨ob, xs, z⟩
      · exact absurd z nb
      · exact un.keep b o e z (fun z => absurd (show b ∈ ([] : List Addr) from z) (by simp)) (by simp)
      · obtain ⟨e1, _⟩ := hok b _ z
        obtain ⟨e2, _⟩ := hok' b _ (un.frzs b ob _ z)
        rw [e] at e1
        cases e1
        exact e2
    have grown : ∀ b, b ∈ cs.map (·.2) → ∃ (p : Addr × Addr) (more : Array Value), p ∈ cs ∧ b = p.2 ∧ s'.heap.get? b = some { cls := .none, data := .fields more } := by
      intro b hb
      obtain ⟨p, hp, rfl⟩ := List.mem_map.mp hb
      obtain ⟨more, z⟩ := un.tbls p.2 #[] (tb p hp)
      exact ⟨p, _, hp, rfl, hok' p.2 _ z⟩
    refine ⟨rfl, ⟨fun b o e => ?_, fun b o e => ?_⟩, os, bare⟩
    · by_cases hb : b ∈ cs.map (·.2)
      · obtain ⟨p, more, hp, rfl, z⟩ := grown b hb
        rw [T.none p hp] at e
        cases e
        refine .inr (.inl ⟨((T.hd p hp).tab (T.none p hp)).isCodeTable, rfl, #[], more, rfl, ?_⟩)
        rw [Array.empty_append]
        exact z
      · exact .inl (stays b o hb e)
    · by_cases hb : b ∈ cs.map (·.2)
      · obtain ⟨_, _, _, _, z⟩ := grown b hb
        exact ⟨_, z⟩
      · exact ⟨o, stays b o hb e⟩
theorem lawT {ns : List Int} (inK : K.In s₁.heap) (ns1 : s₁.heap.Ns mainGlobals mg) (ns2 : s₁.heap.Ns builtinsNs mb)
    (bb : ∀ x : Str, x ≠ "__name__" → mb x = bootBuiltins x) (lim : s₁.heap.NoLimit) (gn : s₁.gens = #[])
    (T : Tables K s₁.heap cs) (bmn : BMain mg s₁.heap)
    (ha : s₁.heap.get? a = some { cls := .type "list", data := .seq vs.toArray }) (hi : IntsAre vs ns) (hl : ns.length ≤ sizeLine) (hr : RG k callerA)
    (F : ∀ base : Heap, K.In base → base.Ns mainGlobals mg → (∀ p ∈ cs, LamX.TabB base mg p.1 p.2) → FnG P w K mg base k fa fd [x] pr)
    (bind : ∀ (s : Shared) (u : Value), BindsTo s fd ⟨[u], []⟩ [(x, u)])
    (hp : ∀ H : Hp, (∀ p ∈ cs, H p.2 = some (.tbl #[])) → SqL K H a (ns.map V.int) → pr [.ref a] H fun v _ => v = .bl true) :
    codeAny (model P w) callerA (.call (.ref fa) ⟨[.ref a], []⟩)
      (fun r s' => r = .ok (.ret (.bool true)) ∧ OldK s₁.heap s'.heap ∧ s'.os = s₁.os ∧ AllBare s'.gens) s₁ := by
  have rv := vals_ints hi
  have aT : a ∉ cs.map (·.2) := by
    intro z
    have e := (T.mem z).1
    rw [ha] at e
    have e2 : Data.seq vs.toArray _ = Data.fields #[] := congrArg Obj.data (Option.some.inj e)
    cases e2
  have mem : ∀ p ∈ cs, p.2 ∈ cs.map (·.2) := fun p hp => List.mem_map.mpr ⟨p, hp, rfl⟩
  obtain ⟨G, hG⟩ : ∃ G : Hp, G = fun b => if b ∈ cs.map (·.2) then some (.tbl #[]) else none := ⟨_, rfl⟩
  have G1 : ∀ b, b ∈ cs.map (·.2) → G b = some (.tbl #[]) := fun b h => by
    rw [hG]
    exact if_pos h
  have G0 : ∀ b, b ∉ cs.map (·.2) → G b = none := fun b h => by
    rw [hG]
    exact if_neg h
  have okG : ∀ b u, G b = some u → ObjOk P w G s₁.heap b u ∧ b ∈ cs.map (·.2) ∧ u = .tbl #[] := fun b u z => by
    by_cases h : b ∈ cs.map (·.2)
    · rw [G1 b h] at z
      cases z
      exact ⟨(T.mem h).1, h, rfl⟩
    · rw [G0 b h] at z
      cases z
  clear hG
  cases hk : K.lookup a with
  | some o =>
    have e := inK a o hk
    rw [ha] at e
    cases e
    refine lawT_core (H := G) inK ns1 ns2 bb lim gn T bmn ha hr F bind (fun b => ?_)
      (fun b u z => (okG b u z).1) (fun b z => ?_) (fun z => absurd (G0 a aT) z) (fun p hp => G1 _ (mem p hp)) ?_
    · by_cases h : b ∈ cs.map (·.2)
      · exact .inl h
      · exact .inr (.inl (G0 b h))
    · by_cases h : b ∈ cs.map (·.2)
      · exact .inl h
      · exact absurd (G0 b h) z
    · refine hp _ (fun p hp => G1 _ (mem p hp)) (.inr ⟨_, vs.toArray, _, hk, rfl, rfl, rfl, ?_, by simpa using rv⟩)
      rw [List.size_toArray, hi.length]
      exact hl
  | none =>
    obtain ⟨H, hH⟩ : ∃ H : Hp, H = upd G a (.frz { cls := .type "list", data := .seq vs.toArray } (.lst (ns.map V.int))) := ⟨_, rfl⟩
    have at1 : H a = some (.frz { cls := .type "list", data := .seq vs.toArray } (.lst (ns.map V.int))) := by
      rw [hH]
      exact upd_same
    have else1 : ∀ b, b ≠ a → H b = G b := fun b h => by
      rw [hH]
      exact upd_ne h
    have tab1 : ∀ b, b ∈ cs.map (·.2) → H b = some (.tbl #[]) := fun b h => by
      rw [else1 b (fun z => aT (z ▸ h))]
      exact G1 b h
    clear hH
    refine lawT_core (H := H) inK ns1 ns2 bb lim gn T bmn ha hr F bind (fun b => ?_) (fun b u z => ?_) (fun b z => ?_) (fun _ => hk) (fun p hp => tab1 _ (mem p hp)) (hp H (fun p hp => tab1 _ (mem p hp)) (.inl (.inr ⟨_, at1⟩)))
    · by_cases h : b ∈ cs.map (·.2)
      · exact .inl h
      · by_cases e : b = a
        · subst e
          exact .inr (.inr ⟨_, _, at1⟩)
        · exact .inr (.inl ((else1 b e).trans (G0 b h)))
    · by_cases e : b = a
      · subst e
        rw [at1] at z
        cases z
        exact ⟨ha, by rw [List.length_map]; exact hl, vs, _, rv, ha⟩
      · rw [else1 b e] at z
        obtain ⟨_, h, rfl⟩ := okG b u z
        exact (T.mem h).1
    · by_cases h : b ∈ cs.map (·.2)
      · exact .inl h
      · by_cases e : b = a
        · exact .inr e
        · exact absurd ((else1 b e).trans (G0 b h)) z
end
/-- the goal behind the head, tables of the defs `own` told -/
theorem walkT {l : PySem.W.OpenLaw} {n k : Nat} {q : Program} {loose : List Str} {XP : (Str → Option Value) → Heap → Prop} {YP : World → Heap → Prop} {d : DefRec}
    {K : Params → PySem.W.Frag} {pr : PySem.W.Frag → List (Addr × Addr) → Pr} {x : Str} {own : List Str}
    (hn : l.most = some n) (hn2 : n ≤ sizeLine) (hdf : d.params.defaults = []) (hr : RG k callerA)
    (hY : ∀ (w : World) (h : Heap), YP w h → (K w.params).In h)
    (hrec : ∀ y ∈ own, ((recsOf q).find? fun e => e.name == y).isSome = true)
    (F : ∀ (w : World) (mg : Str → Option Value) (fa : Addr) (h : Heap), (K w.params).In h → h.Ns mainGlobals mg → mg d.name = some (.ref fa) →
      ∃ (fd : FuncData) (cs : List (Addr × Addr)), (∀ (s : Shared) (u : Value), BindsTo s fd ⟨[u], []⟩ [(x, u)]) ∧
        (∀ p ∈ cs, (K w.params).lookup p.2 = none ∧ ∃ y ∈ own, PySem.W.tabIn (K w.params) y = some p) ∧
        ∀ base : Heap, (K w.params).In base → base.Ns mainGlobals mg → (∀ p ∈ cs, LamX.TabB base mg p.1 p.2) → FnG l.prog w (K w.params) mg base k fa fd [x] (pr (K w.params) cs))
    (hp : ∀ (K : PySem.W.Frag) (cs : List (Addr × Addr)) (H : Hp) (a : Addr) (ns : List Int), ns.length ≤ n → (∀ p ∈ cs, H p.2 = some (.tbl #[])) → SqL K H a (ns.map V.int) → pr K cs [.ref a] H fun v _ => v = .bl true) :
    PySem.W.WalkO q loose XP YP l.row.toRowW d [] (fun f vs => PySem.call f vs) := by
  refine Att.attach_call hn hdf ?_
  intro w s₀ s₁ mg mb fa o pm cd doc a vs ns G Y ho hd hcd hmg hobj hints hlen hg
  have inK := hY w _ Y
  obtain ⟨fd, cs, hb, hT, hF⟩ := F w mg fa _ inK G.T.g hmg
  have T : Tables (K w.params) s₁.heap cs := by
    have key : ∀ p ∈ cs, PySem.W.CodeHd s₁.heap p.1 p.2 ∧ s₁.heap.get? p.2 = some (PySem.W.tabObj #[]) := by
      rintro ⟨c, P⟩ hp
      obtain ⟨_, y, hy, ht⟩ := hT _ hp
      obtain ⟨dr, hdr⟩ := Option.isSome_iff_exists.mp (hrec y hy)
      exact PySem.W.tab_of G.T inK hdr ht
    exact ⟨fun p hp => (key p hp).2, fun p hp => (hT p hp).1, fun p hp => (key p hp).1⟩
  exact lawT inK G.T.g G.T.b G.T.builtins G.T.nolimit hg T G.T.bmain hobj hints (Nat.le_trans hlen hn2) hr hF hb fun H hH hS => hp _ cs H a ns hlen hH hS
end AskG
namespace P56
open PySem PySem.Spec PyProof.Rows L2 AskG
/-- what the top has written -/
theorem all_mk {l : PySem.W.OpenLaw} {w : World} {K : PySem.W.Frag} {h : Heap} {mg : Str → Option Value} {fa : Addr} (X : K.In h) (G : h.Ns mainGlobals mg) (hfa : mg "law" = some (.ref fa))
    {f1 f2 f3 f4 f5 f6 f7 f8 f9 f10 f11 f12 f13 f14 f15 f16 f17 f18 f19 f20 f21 f22 f23 f24 f25 f26 fI C CA cc Pt c1e c2e c3e c4e c5e c6e c7e c8e c9e : Addr} {od1 an1 od2 an2 od3 an3 od4 an4 od5 an5 od6 an6 od7 an7 od8 an8 od9 an9 od10 an10 od11 an11 od12 an12 od13 an13 od14 an14 od15 an15 od16 an16 od17 an17 od18 an18 od19 an19 od20 an20 od21 an21 od22 an22 od23 an23 od24 an24 od25 an25 od26 an26 odI anI : Option Addr} {sl1 sl2 sl3 sl4 sl5 sl6 sl7 sl8 sl9 sl10 sl11 sl12 sl13 sl14 sl15 sl16 sl17 sl18 sl19 sl20 sl21 sl22 sl23 sl24 sl25 sl26 slI : Array (Option Value)} {oc1 kV1 dc1 pm1 ct1 oc2 kV2 dc2 pm2 ct2 oc3 kV3 dc3 pm3 ct3 oc4 kV4 dc4 pm4 ct4 oc5 kV5 dc5 pm5 ct5 oc6 kV6 dc6 pm6 ct6 oc7 kV7 dc7 pm7 ct7 oc8 kV8 dc8 pm8 ct8 oc9 kV9 dc9 pm9 ct9 oc10 kV10 dc10 pm10 ct10 oc11 kV11 dc11 pm11 ct11 oc12 kV12 dc12 pm12 ct12 oc13 kV13 dc13 pm13 ct13 oc14 kV14 dc14 pm14 ct14 oc15 kV15 dc15 pm15 ct15 oc16 kV16 dc16 pm16 ct16 oc17 kV17 dc17 pm17 ct17 oc18 kV18 dc18 pm18 ct18 oc19 kV19 dc19 pm19 ct19 oc20 kV20 dc20 pm20 ct20 oc21 kV21 dc21 pm21 ct21 oc22 kV22 dc22 pm22 ct22 oc23 kV23 dc23 pm23 ct23 oc24 kV24 dc24 pm24 ct24 oc25 kV25 dc25 pm25 ct25 oc26 kV26 dc26 pm26 ct26 cd1 cd2 cd3 cd4 cd5 cd6 cd7 cd8 cd9 cd10 cd11 cd12 cd13 cd14 cd15 cd16 cd17 cd18 cd19 cd20 cd21 cd22 cd23 cd24 cd25 ocI kVI dcI pmI ctI cdI : Value}
    {nm q : Str} {ecc : Value} {ddc : Option Addr} {vsc : Array Value} {slc : Array (Option Value)} {Nn : Addr} {bs bm : List Value} {sn : List Str} {sub : List Value} {ab : Bool} {col : Option Bool} {dd : Option Addr} {k0 k1 k2 k3 k5 : Option Value}
    (a1 : PySem.W.nsIn K mainGlobals "is_used_on" = some (some (.ref f1)))
    (l1 : K.lookup f1 = some ⟨oc1, od1, .func (PySem.W.fnOf "is_used_on" "is_used_on" (defArgs sUsed) (defBody sUsed) (defScope sUsed) .none kV1 dc1 pm1 an1 cd1 ct1), sl1⟩)
    (c1 : PySem.W.codeIn K cd1 "is_used_on" = true)
    (k1f : PySem.W.keepIn K (.ref f1) = true)
    (a2 : PySem.W.nsIn K mainGlobals "asked_days" = some (some (.ref f2)))
    (l2 : K.lookup f2 = some ⟨oc2, od2, .func (PySem.W.fnOf "asked_days" "asked_days" (defArgs sAsked) (defBody sAsked) (defScope sAsked) .none kV2 dc2 pm2 an2 cd2 ct2), sl2⟩)
    (c2 : PySem.W.codeIn K cd2 "asked_days" = true)
    (k2f : PySem.W.keepIn K (.ref f2) = true)
    (a3 : PySem.W.nsIn K mainGlobals "row_on_days" = some (some (.ref f3)))
    (l3 : K.lookup f3 = some ⟨oc3, od3, .func (PySem.W.fnOf "row_on_days" "row_on_days" (defArgs sOnDays) (defBody sOnDays) (defScope sOnDays) .none kV3 dc3 pm3 an3 cd3 ct3), sl3⟩)
    (c3 : PySem.W.codeIn K cd3 "row_on_days" = true)
    (k3f : PySem.W.keepIn K (.ref f3) = true)
    (a4 : PySem.W.nsIn K mainGlobals "question_on" = some (some (.ref f4)))
    (l4 : K.lookup f4 = some ⟨oc4, od4, .func (PySem.W.fnOf "question_on" "question_on" (defArgs sQ) (defBody sQ) (defScope sQ) .none kV4 dc4 pm4 an4 cd4 ct4), sl4⟩)
    (c4 : PySem.W.codeIn K cd4 "question_on" = true)
    (k4f : PySem.W.keepIn K (.ref f4) = true)
    (a5 : PySem.W.nsIn K mainGlobals "questions_from" = some (some (.ref f5)))
    (l5 : K.lookup f5 = some ⟨oc5, od5, .func (PySem.W.fnOf "questions_from" "questions_from" (defArgs sQF) (defBody sQF) (defScope sQF) .none kV5 dc5 pm5 an5 cd5 ct5), sl5⟩)
    (c5 : PySem.W.codeIn K cd5 "questions_from" = true)
    (k5f : PySem.W.keepIn K (.ref f5) = true)
    (a6 : PySem.W.nsIn K mainGlobals "check_names" = some (some (.ref f6)))
    (l6 : K.lookup f6 = some ⟨oc6, od6, .func (PySem.W.fnOf "check_names" "check_names" (defArgs sCN) (defBody sCN) (defScope sCN) .none kV6 dc6 pm6 an6 cd6 ct6), sl6⟩)
    (c6 : PySem.W.codeIn K cd6 "check_names" = true)
    (k6f : PySem.W.keepIn K (.ref f6) = true)
    (a7 : PySem.W.nsIn K mainGlobals "wall_rights" = some (some (.ref f7)))
    (l7 : K.lookup f7 = some ⟨oc7, od7, .func (PySem.W.fnOf "wall_rights" "wall_rights" (defArgs sWR) (defBody sWR) (defScope sWR) .none kV7 dc7 pm7 an7 cd7 ct7), sl7⟩)
    (c7 : PySem.W.codeIn K cd7 "wall_rights" = true)
    (k7f : PySem.W.keepIn K (.ref f7) = true)
    (a8 : PySem.W.nsIn K mainGlobals "owned_left" = some (some (.ref f8)))
    (l8 : K.lookup f8 = some ⟨oc8, od8, .func (PySem.W.fnOf "owned_left" "owned_left" (defArgs sOL) (defBody sOL) (defScope sOL) .none kV8 dc8 pm8 an8 cd8 ct8), sl8⟩)
    (c8 : PySem.W.codeIn K cd8 "owned_left" = true)
    (k8f : PySem.W.keepIn K (.ref f8) = true)
    (a9 : PySem.W.nsIn K mainGlobals "rows_left" = some (some (.ref f9)))
    (l9 : K.lookup f9 = some ⟨oc9, od9, .func (PySem.W.fnOf "rows_left" "rows_left" (defArgs sRL) (defBody sRL) (defScope sRL) .none kV9 dc9 pm9 an9 cd9 ct9), sl9⟩)
    (c9 : PySem.W.codeIn K cd9 "rows_left" = true)
    (k9f : PySem.W.keepIn K (.ref f9) = true)
    (a10 : PySem.W.nsIn K mainGlobals "_law_source" = some (some (.ref f10)))
    (l10 : K.lookup f10 = some ⟨oc10, od10, .func (PySem.W.fnOf "_law_source" "_law_source" (defArgs sFeed) (defBody sFeed) (defScope sFeed) .none kV10 dc10 pm10 an10 cd10 ct10), sl10⟩)
    (c10 : PySem.W.codeIn K cd10 "_law_source" = true)
    (k10f : PySem.W.keepIn K (.ref f10) = true)
    (a11 : PySem.W.nsIn K mainGlobals "_law_next" = some (some (.ref f11)))
    (l11 : K.lookup f11 = some ⟨oc11, od11, .func (PySem.W.fnOf "_law_next" "_law_next" (defArgs sDraw) (defBody sDraw) (defScope sDraw) .none kV11 dc11 pm11 an11 cd11 ct11), sl11⟩)
    (c11 : PySem.W.codeIn K cd11 "_law_next" = true)
    (k11f : PySem.W.keepIn K (.ref f11) = true)
    (a12 : PySem.W.nsIn K mainGlobals "_law_row" = some (some (.ref f12)))
    (l12 : K.lookup f12 = some ⟨oc12, od12, .func (PySem.W.fnOf "_law_row" "_law_row" (defArgs sRow) (defBody sRow) (defScope sRow) .none kV12 dc12 pm12 an12 cd12 ct12), sl12⟩)
    (c12 : PySem.W.codeIn K cd12 "_law_row" = true)
    (k12f : PySem.W.keepIn K (.ref f12) = true)
    (a13 : PySem.W.nsIn K mainGlobals "_law_question" = some (some (.ref f13)))
    (l13 : K.lookup f13 = some ⟨oc13, od13, .func (PySem.W.fnOf "_law_question" "_law_question" (defArgs sLQ) (defBody sLQ) (defScope sLQ) .none kV13 dc13 pm13 an13 cd13 ct13), sl13⟩)
    (c13 : PySem.W.codeIn K cd13 "_law_question" = true)
    (k13f : PySem.W.keepIn K (.ref f13) = true)
    (a14 : PySem.W.nsIn K mainGlobals "_law_days" = some (some (.ref f14)))
    (l14 : K.lookup f14 = some ⟨oc14, od14, .func (PySem.W.fnOf "_law_days" "_law_days" (defArgs sLD) (defBody sLD) (defScope sLD) .none kV14 dc14 pm14 an14 cd14 ct14), sl14⟩)
    (c14 : PySem.W.codeIn K cd14 "_law_days" = true)
    (k14f : PySem.W.keepIn K (.ref f14) = true)
    (a15 : PySem.W.nsIn K mainGlobals "_law_right" = some (some (.ref f15)))
    (l15 : K.lookup f15 = some ⟨oc15, od15, .func (PySem.W.fnOf "_law_right" "_law_right" (defArgs sRt) (defBody sRt) (defScope sRt) .none kV15 dc15 pm15 an15 cd15 ct15), sl15⟩)
    (c15 : PySem.W.codeIn K cd15 "_law_right" = true)
    (k15f : PySem.W.keepIn K (.ref f15) = true)
    (a16 : PySem.W.nsIn K mainGlobals "_law_group" = some (some (.ref f16)))
    (l16 : K.lookup f16 = some ⟨oc16, od16, .func (PySem.W.fnOf "_law_group" "_law_group" (defArgs sGroup) (defBody sGroup) (defScope sGroup) .none kV16 dc16 pm16 an16 cd16 ct16), sl16⟩)
    (c16 : PySem.W.codeIn K cd16 "_law_group" = true)
    (k16f : PySem.W.keepIn K (.ref f16) = true)
    (a17 : PySem.W.nsIn K mainGlobals "_law_held" = some (some (.ref f17)))
    (l17 : K.lookup f17 = some ⟨oc17, od17, .func (PySem.W.fnOf "_law_held" "_law_held" (defArgs sHeld) (defBody sHeld) (defScope sHeld) .none kV17 dc17 pm17 an17 cd17 ct17), sl17⟩)
    (c17 : PySem.W.codeIn K cd17 "_law_held" = true)
    (k17f : PySem.W.keepIn K (.ref f17) = true)
    (a18 : PySem.W.nsIn K mainGlobals "_law_scene" = some (some (.ref f18)))
    (l18 : K.lookup f18 = some ⟨oc18, od18, .func (PySem.W.fnOf "_law_scene" "_law_scene" (defArgs sScene) (defBody sScene) (defScope sScene) .none kV18 dc18 pm18 an18 cd18 ct18), sl18⟩)
    (c18 : PySem.W.codeIn K cd18 "_law_scene" = true)
    (k18f : PySem.W.keepIn K (.ref f18) = true)
    (a19 : PySem.W.nsIn K mainGlobals "_law_own_names" = some (some (.ref f19)))
    (l19 : K.lookup f19 = some ⟨oc19, od19, .func (PySem.W.fnOf "_law_own_names" "_law_own_names" (defArgs sON) (defBody sON) (defScope sON) .none kV19 dc19 pm19 an19 cd19 ct19), sl19⟩)
    (c19 : PySem.W.codeIn K cd19 "_law_own_names" = true)
    (k19f : PySem.W.keepIn K (.ref f19) = true)
    (a20 : PySem.W.nsIn K mainGlobals "_law_left" = some (some (.ref f20)))
    (l20 : K.lookup f20 = some ⟨oc20, od20, .func (PySem.W.fnOf "_law_left" "_law_left" (defArgs sLL) (defBody sLL) (defScope sLL) .none kV20 dc20 pm20 an20 cd20 ct20), sl20⟩)
    (c20 : PySem.W.codeIn K cd20 "_law_left" = true)
    (k20f : PySem.W.keepIn K (.ref f20) = true)
    (a21 : PySem.W.nsIn K mainGlobals "_law_error" = some (some (.ref f21)))
    (l21 : K.lookup f21 = some ⟨oc21, od21, .func (PySem.W.fnOf "_law_error" "_law_error" (defArgs sErr) (defBody sErr) (defScope sErr) .none kV21 dc21 pm21 an21 cd21 ct21), sl21⟩)
    (c21 : PySem.W.codeIn K cd21 "_law_error" = true)
    (k21f : PySem.W.keepIn K (.ref f21) = true)
    (a22 : PySem.W.nsIn K mainGlobals "_law_result" = some (some (.ref f22)))
    (l22 : K.lookup f22 = some ⟨oc22, od22, .func (PySem.W.fnOf "_law_result" "_law_result" (defArgs sRes) (defBody sRes) (defScope sRes) .none kV22 dc22 pm22 an22 cd22 ct22), sl22⟩)
    (c22 : PySem.W.codeIn K cd22 "_law_result" = true)
    (k22f : PySem.W.keepIn K (.ref f22) = true)
    (a23 : PySem.W.nsIn K mainGlobals "_law_expected" = some (some (.ref f23)))
    (l23 : K.lookup f23 = some ⟨oc23, od23, .func (PySem.W.fnOf "_law_expected" "_law_expected" (defArgs sExp) (defBody sExp) (defScope sExp) .none kV23 dc23 pm23 an23 cd23 ct23), sl23⟩)
    (c23 : PySem.W.codeIn K cd23 "_law_expected" = true)
    (k23f : PySem.W.keepIn K (.ref f23) = true)
    (a24 : PySem.W.nsIn K mainGlobals "_law_some" = some (some (.ref f24)))
    (l24 : K.lookup f24 = some ⟨oc24, od24, .func (PySem.W.fnOf "_law_some" "_law_some" (defArgs sSome) (defBody sSome) (defScope sSome) .none kV24 dc24 pm24 an24 cd24 ct24), sl24⟩)
    (c24 : PySem.W.codeIn K cd24 "_law_some" = true)
    (k24f : PySem.W.keepIn K (.ref f24) = true)
    (a25 : PySem.W.nsIn K mainGlobals "_law_long_right" = some (some (.ref f25)))
    (l25 : K.lookup f25 = some ⟨oc25, od25, .func (PySem.W.fnOf "_law_long_right" "_law_long_right" (defArgs sLong) (defBody sLong) (defScope sLong) .none kV25 dc25 pm25 an25 cd25 ct25), sl25⟩)
    (c25 : PySem.W.codeIn K cd25 "_law_long_right" = true)
    (k25f : PySem.W.keepIn K (.ref f25) = true)
    (a26 : PySem.W.nsIn K mainGlobals "law" = some (some (.ref f26)))
    (l26 : K.lookup f26 = some ⟨oc26, od26, .func (PySem.W.fnOf "law" "law" (defArgs sLaw) (defBody sLaw) (defScope sLaw) .none kV26 dc26 pm26 an26 (.ref cc) ct26), sl26⟩)
    (c26 : PySem.W.codeIn K (.ref cc) "law" = true)
    (k26f : PySem.W.keepIn K (.ref f26) = true)
    (z1 : PySem.W.nsIn K mainGlobals "sorted" = some none)
    (z2 : PySem.W.nsIn K mainGlobals "tuple" = some none)
    (z3 : PySem.W.nsIn K mainGlobals "list" = some none)
    (z4 : PySem.W.nsIn K mainGlobals "len" = some none)
    (z5 : PySem.W.nsIn K mainGlobals "range" = some none)
    (z6 : PySem.W.nsIn K mainGlobals "isinstance" = some none)
    (z7 : PySem.W.nsIn K mainGlobals "max" = some none)
    (z8 : PySem.W.nsIn K mainGlobals "min" = some none)
    (z9 : PySem.W.nsIn K mainGlobals "repr" = some none)
    (aC : PySem.W.nsIn K mainGlobals "UnknownName" = some (some (.ref C)))
    (aA : PySem.W.nsIn K mainGlobals "AskError" = some (some (.ref CA)))
    (b1c : PySem.W.nsIn K mainGlobals "InvalidPaper" = some (some (.ref c1e)))
    (b2c : PySem.W.nsIn K mainGlobals "PaperError" = some (some (.ref c2e)))
    (b3c : PySem.W.nsIn K mainGlobals "ArchiveError" = some (some (.ref c3e)))
    (b4c : PySem.W.nsIn K mainGlobals "TextError" = some (some (.ref c4e)))
    (b5c : PySem.W.nsIn K mainGlobals "InvalidStep" = some (some (.ref c5e)))
    (b6c : PySem.W.nsIn K mainGlobals "NotAnswerable" = some (some (.ref c6e)))
    (b7c : PySem.W.nsIn K mainGlobals "NothingToUndo" = some (some (.ref c7e)))
    (b8c : PySem.W.nsIn K mainGlobals "InvalidText" = some (some (.ref c8e)))
    (b9c : PySem.W.nsIn K mainGlobals "InvalidCommand" = some (some (.ref c9e)))
    (i1 : PySem.W.findIn K (.ref C) "__init__" = some (some (.ref fI)))
    (i2 : PySem.W.typeIn K (.ref fI) = some (.type "function"))
    (i3 : PySem.W.findIn K (.ref C) "name" = some none)
    (lI : K.lookup fI = some ⟨ocI, odI, .func (PySem.W.fnOf "__init__" "UnknownName.__init__" (defArgs sUnk) (defBody sUnk) (defScope sUnk) .none kVI dcI pmI anI cdI ctI), slI⟩)
    (cI : PySem.W.codeIn K cdI "UnknownName.__init__" = true)
    (kI : PySem.W.keepIn K (.ref fI) = true)
    (hC : K.lookup C = some (excClassObj nm q C Nn bs bm true sn sub ab col dd k0 k1 k2 k3 k5 "ValueError.__new__"))
    (hv : PySem.HandSPX.refsVE bm = true)
    (e1 : PySem.W.findIn K (.ref C) "__setattr__" = some (some (.builtin "object.__setattr__")))
    (e2 : PySem.W.subIn K (.ref C) (.type "BaseException") = some true)
    (e3 : PySem.W.typeIn K (.ref C) = some (.type "type"))
    (e4 : PySem.W.keepIn K (.ref C) = true)
    (x1 : PySem.W.findIn K (.ref C) "__getattribute__" = some (some (.builtin "BaseException.__getattribute__")))
    (x2 : PySem.W.findIn K (.ref C) "__getattr__" = some none)
    (x4 : PySem.W.hasDictIn K C = true)
    (x5 : PySem.W.findIn K (.ref C) "__class__" = some (some (.builtin "object.__class__")))
    (x6 : PySem.W.specialIn K (.builtin "object.__class__") "__get__" = some (some (.builtin "getset_descriptor.__get__")))
    (x7 : PySem.W.takesIn K (.builtin "object.__class__") = some true)
    (x8 : PySem.W.mroIn K C (.type "object") = some true)
    (y0 : PySem.W.kitOne K (.ref C) (.ref C) = some true)
    (y1 : PySem.W.kitOne K (.ref C) (.ref c1e) = some false)
    (y2 : PySem.W.kitOne K (.ref C) (.ref c2e) = some false)
    (y3 : PySem.W.kitOne K (.ref C) (.ref c3e) = some true)
    (y4 : PySem.W.kitOne K (.ref C) (.ref c4e) = some false)
    (y5 : PySem.W.kitAny K (.ref C) [.ref c5e, .ref c6e, .ref c7e, .ref c8e, .ref c9e] = some false)
    (ex : PySem.W.exmOne K (.ref C) (.ref CA) = some true)
    (lc : K.lookup cc = some ⟨ecc, ddc, .fields vsc, slc⟩)
    (vc : (vsc[11]? : Option Value) = some (.ref Pt))
    (tn : K.lookup Pt = none) :
    ∃ (fd : FuncData) (cs : List (Addr × Addr)), (∀ (s : Shared) (v : Value), BindsTo s fd ⟨[v], []⟩ [("_law_script", v)]) ∧ (∀ p ∈ cs, K.lookup p.2 = none ∧ ∃ y ∈ (["law"] : List Str), PySem.W.tabIn K y = some p) ∧ ∀ base : Heap, K.In base → base.Ns mainGlobals mg → (∀ p ∈ cs, LamX.TabB base mg p.1 p.2) → FnG l.prog w K mg base 8 fa fd ["_law_script"] (prLaw K cs) := by
  have e := hfa.symm.trans (PySem.W.mg_of X G a26)
  cases e
  have F1 := fun_mk (st := sUsed) l1 c1 k1f
  have b1 := F1.binds (ps := ["right", "day"]) fun _ _ _ _ _ _ us hl => match us, hl with | [_, _], _ => rfl
  have g1 := PySem.W.mg_of X G a1
  have F2 := fun_mk (st := sAsked) l2 c2 k2f
  have b2 := F2.binds (ps := ["right", "day"]) fun _ _ _ _ _ _ us hl => match us, hl with | [_, _], _ => rfl
  have g2 := PySem.W.mg_of X G a2
  have F3 := fun_mk (st := sOnDays) l3 c3 k3f
  have b3 := F3.binds (ps := ["right", "low", "high"]) fun _ _ _ _ _ _ us hl => match us, hl with | [_, _, _], _ => rfl
  have g3 := PySem.W.mg_of X G a3
  have F4 := fun_mk (st := sQ) l4 c4 k4f
  have b4 := F4.binds (ps := ["right", "day"]) fun _ _ _ _ _ _ us hl => match us, hl with | [_, _], _ => rfl
  have g4 := PySem.W.mg_of X G a4
  have F5 := fun_mk (st := sQF) l5 c5 k5f
  have b5 := F5.binds (ps := ["right", "today"]) fun _ _ _ _ _ _ us hl => match us, hl with | [_, _], _ => rfl
  have g5 := PySem.W.mg_of X G a5
  have F6 := fun_mk (st := sCN) l6 c6 k6f
  have b6 := F6.binds (ps := ["rights", "names"]) fun _ _ _ _ _ _ us hl => match us, hl with | [_, _], _ => rfl
  have g6 := PySem.W.mg_of X G a6
  have F7 := fun_mk (st := sWR) l7 c7 k7f
  have b7 := F7.binds (ps := ["rights", "wall"]) fun _ _ _ _ _ _ us hl => match us, hl with | [_, _], _ => rfl
  have g7 := PySem.W.mg_of X G a7
  have F8 := fun_mk (st := sOL) l8 c8 k8f
  have b8 := F8.binds (ps := ["rights", "today", "known", "wall", "names"]) fun _ _ _ _ _ _ us hl => match us, hl with | [_, _, _, _, _], _ => rfl
  have g8 := PySem.W.mg_of X G a8
  have F9 := fun_mk (st := sRL) l9 c9 k9f
  have b9 := F9.binds (ps := ["rights", "today", "known", "wall", "names"]) fun _ _ _ _ _ _ us hl => match us, hl with | [_, _, _, _, _], _ => rfl
  have g9 := PySem.W.mg_of X G a9
  have F10 := fun_mk (st := sFeed) l10 c10 k10f
  have b10 := F10.binds (ps := ["_law_script"]) fun _ _ _ _ _ _ us hl => match us, hl with | [_], _ => rfl
  have g10 := PySem.W.mg_of X G a10
  have F11 := fun_mk (st := sDraw) l11 c11 k11f
  have b11 := F11.binds (ps := ["_law_source_here", "_law_limit"]) fun _ _ _ _ _ _ us hl => match us, hl with | [_, _], _ => rfl
  have g11 := PySem.W.mg_of X G a11
  have F12 := fun_mk (st := sRow) l12 c12 k12f
  have b12 := F12.binds (ps := ["_law_source_here", "_law_cells", "_law_share"]) fun _ _ _ _ _ _ us hl => match us, hl with | [_, _, _], _ => rfl
  have g12 := PySem.W.mg_of X G a12
  have F13 := fun_mk (st := sLQ) l13 c13 k13f
  have b13 := F13.binds (ps := ["_law_right_here", "_law_day"]) fun _ _ _ _ _ _ us hl => match us, hl with | [_, _], _ => rfl
  have g13 := PySem.W.mg_of X G a13
  have F14 := fun_mk (st := sLD) l14 c14 k14f
  have b14 := F14.binds (ps := ["_law_right_here", "_law_now"]) fun _ _ _ _ _ _ us hl => match us, hl with | [_, _], _ => rfl
  have g14 := PySem.W.mg_of X G a14
  have F15 := fun_mk (st := sRt) l15 c15 k15f
  have b15 := F15.binds (ps := ["_law_source_here", "_law_accounts"]) fun _ _ _ _ _ _ us hl => match us, hl with | [_, _], _ => rfl
  have g15 := PySem.W.mg_of X G a15
  have F16 := fun_mk (st := sGroup) l16 c16 k16f
  have b16 := F16.binds (ps := ["_law_source_here"]) fun _ _ _ _ _ _ us hl => match us, hl with | [_], _ => rfl
  have g16 := PySem.W.mg_of X G a16
  have F17 := fun_mk (st := sHeld) l17 c17 k17f
  have b17 := F17.binds (ps := ["_law_source_here", "_law_most"]) fun _ _ _ _ _ _ us hl => match us, hl with | [_, _], _ => rfl
  have g17 := PySem.W.mg_of X G a17
  have F18 := fun_mk (st := sScene) l18 c18 k18f
  have b18 := F18.binds (ps := ["_law_source_here", "_law_most"]) fun _ _ _ _ _ _ us hl => match us, hl with | [_, _], _ => rfl
  have g18 := PySem.W.mg_of X G a18
  have F19 := fun_mk (st := sON) l19 c19 k19f
  have b19 := F19.binds (ps := ["_law_held_here", "_law_guard"]) fun _ _ _ _ _ _ us hl => match us, hl with | [_, _], _ => rfl
  have g19 := PySem.W.mg_of X G a19
  have F20 := fun_mk (st := sLL) l20 c20 k20f
  have b20 := F20.binds (ps := ["_law_held_here", "_law_now", "_law_seen", "_law_guard", "_law_given"]) fun _ _ _ _ _ _ us hl => match us, hl with | [_, _, _, _, _], _ => rfl
  have g20 := PySem.W.mg_of X G a20
  have F21 := fun_mk (st := sErr) l21 c21 k21f
  have b21 := F21.binds (ps := ["_law_e"]) fun _ _ _ _ _ _ us hl => match us, hl with | [_], _ => rfl
  have g21 := PySem.W.mg_of X G a21
  have F22 := fun_mk (st := sRes) l22 c22 k22f
  have b22 := F22.binds (ps := ["_law_ask"]) fun _ _ _ _ _ _ us hl => match us, hl with | [_], _ => rfl
  have g22 := PySem.W.mg_of X G a22
  have F23 := fun_mk (st := sExp) l23 c23 k23f
  have b23 := F23.binds (ps := ["_law_held_here", "_law_now", "_law_seen", "_law_guard", "_law_given"]) fun _ _ _ _ _ _ us hl => match us, hl with | [_, _, _, _, _], _ => rfl
  have g23 := PySem.W.mg_of X G a23
  have F24 := fun_mk (st := sSome) l24 c24 k24f
  have b24 := F24.binds (ps := ["_law_source_here", "_law_labels"]) fun _ _ _ _ _ _ us hl => match us, hl with | [_, _], _ => rfl
  have g24 := PySem.W.mg_of X G a24
  have F25 := fun_mk (st := sLong) l25 c25 k25f
  have b25 := F25.binds (ps := []) fun _ _ _ _ _ _ us hl => match us, hl with | [], _ => rfl
  have g25 := PySem.W.mg_of X G a25
  have FI := fun_mk (st := sUnk) lI cI kI
  have bI := FI.binds (ps := ["self", "name"]) fun _ _ _ _ _ _ us hl => match us, hl with | [_, _], _ => rfl
  have m1 := PySem.W.mg_none_of X G z1
  have m2 := PySem.W.mg_none_of X G z2
  have m3 := PySem.W.mg_none_of X G z3
  have m4 := PySem.W.mg_none_of X G z4
  have m5 := PySem.W.mg_none_of X G z5
  have m6 := PySem.W.mg_none_of X G z6
  have m7 := PySem.W.mg_none_of X G z7
  have m8 := PySem.W.mg_none_of X G z8
  have m9 := PySem.W.mg_none_of X G z9
  have U : UnkC K mg C fI := ⟨⟨⟨_, _, _, _, _, _, _, _, _, _, _, _, _, _, _, hC, hv⟩, e1, e2, e3, e4⟩, i1, i2, i3, PySem.W.mg_of X G aC⟩
  have B : ErrK K mg C c1e c2e c3e c4e c5e c6e c7e c8e c9e := ⟨⟨x1, x2, e2, x4, x5, x6, x7, x8⟩, ⟨x1, x2, e2, x4⟩, i3, PySem.W.mg_of X G aC, PySem.W.mg_of X G b1c, PySem.W.mg_of X G b2c, PySem.W.mg_of X G b3c, PySem.W.mg_of X G b4c, PySem.W.mg_of X G b5c, PySem.W.mg_of X G b6c, PySem.W.mg_of X G b7c, PySem.W.mg_of X G b8c, PySem.W.mg_of X G b9c, y0, y1, y2, y3, y4, y5⟩
  refine ⟨PySem.W.fnOf "law" "law" (defArgs sLaw) (defBody sLaw) (defScope sLaw) .none kV26 dc26 pm26 an26 (.ref cc) ct26, [(cc, Pt)], fun s v => .of_eq rfl, fun p hp => ?_, fun base _ _ TB => ?_⟩
  · rw [List.mem_singleton.mp hp]
    refine ⟨tn, "law", List.mem_singleton.mpr rfl, ?_⟩
    unfold PySem.W.tabIn
    rw [a26]
    dsimp only
    rw [l26]
    dsimp only
    rw [lc]
    dsimp only
    rw [vc]
  · have XQ : FnX l.prog w K mg base 2 f4 _ ["right", "day"] (quiet prQ) := ok_q (k := 0) F4 F1 b1 g1 F2 b2 g2 F3 b3 g3 m7 m8 m2 m5
    have XF : FnX l.prog w K mg base 3 f5 _ ["right", "today"] (quiet prQF) := ok_qf (k := 0) F5 F4 b4 g4 XQ m7 m5
    have XW : FnX l.prog w K mg base 1 f7 _ ["rights", "wall"] (quiet prWR) := ok_wr (k := 0) F7
    have XO : FnX l.prog w K mg base 4 f8 _ ["rights", "today", "known", "wall", "names"] (quiet prOL) := ok_ol (k := 0) F8 F7 b7 g7 (FnX.mono XW (by decide)) F5 b5 g5 XF
    have XC : FnX l.prog w K mg base 3 f6 _ ["rights", "names"] (spCN C) := ok_cn (k := 0) F6 U FI bI
    have XR : FnX l.prog w K mg base 5 f9 _ ["rights", "today", "known", "wall", "names"] (spRL C) := ok_rl (k := 0) F9 F6 b6 g6 (FnX.mono XC (by decide)) F7 b7 g7 (FnX.mono XW (by decide)) F8 b8 g8 XO m2
    have GF : FnG l.prog w K mg base 1 f10 _ ["_law_script"] (prFeed K) := ok_feed (k := 0) F10
    have GD : FnG l.prog w K mg base 1 f11 _ ["_law_source_here", "_law_limit"] prDraw := ok_draw (k := 0) F11 m4
    have GRw : FnG l.prog w K mg base 2 f12 _ ["_law_source_here", "_law_cells", "_law_share"] prRow := ok_row (k := 0) F12 F11 b11 g11 m4 m2
    have GG : FnG l.prog w K mg base 2 f16 _ ["_law_source_here"] prGroup := ok_group (k := 0) F16 F11 b11 g11 m4 m2
    have GLQ : FnG l.prog w K mg base 1 f13 _ ["_law_right_here", "_law_day"] prLQ := ok_lq (k := 0) F13 m7 m8 m5 m2 m1
    have GLD : FnG l.prog w K mg base 1 f14 _ ["_law_right_here", "_law_now"] prLD := ok_ld (k := 0) F14 m7 m5 m3
    have GON : FnG l.prog w K mg base 1 f19 _ ["_law_held_here", "_law_guard"] prON := ok_on (k := 0) F19
    have GLL : FnG l.prog w K mg base 2 f20 _ ["_law_held_here", "_law_now", "_law_seen", "_law_guard", "_law_given"] prLL := ok_ll (k := 0) F20 F13 b13 g13 GLQ F14 b14 g14 GLD m3 m2
    have GRt : FnG l.prog w K mg base 2 f15 _ ["_law_source_here", "_law_accounts"] prRt := ok_rt (k := 0) F15 F11 b11 g11 GD m2
    have GH : FnG l.prog w K mg base 3 f17 _ ["_law_source_here", "_law_most"] prHeld := ok_held (k := 0) F17 F11 b11 g11 (GD.mono (by decide)) F15 b15 g15 GRt m2
    have GX : FnG l.prog w K mg base 3 f23 _ ["_law_held_here", "_law_now", "_law_seen", "_law_guard", "_law_given"] prExp := ok_exp (k := 0) F23 F19 b19 g19 (GON.mono (by decide)) F20 b20 g20 GLL
    have GS : FnG l.prog w K mg base 2 f24 _ ["_law_source_here", "_law_labels"] prSome := ok_some (k := 0) F24 F11 b11 g11 GD m2 m1
    have GSc : FnG l.prog w K mg base 4 f18 _ ["_law_source_here", "_law_most"] prScene := ok_scene (k := 0) F18 F11 b11 g11 (GD.mono (by decide)) F17 b17 g17 GH F16 b16 g16 (GG.mono (by decide)) F12 b12 g12 (GRw.mono (by decide)) F20 b20 g20 (GLL.mono (by decide)) m2 m5 m4
    have GLo : FnG l.prog w K mg base 6 f25 _ [] prLong := ok_long (k := 0) F25 F9 b9 g9 XR m2 m5 m9
    have GE : FnE l.prog w K mg base 5 f21 _ ["_law_e"] (spErr C) := ok_err (k := 4) B F21 m6
    exact ok_law (k := 0) l26 c26 (TB _ (List.mem_singleton.mpr rfl)) F10 b10 g10 (GF.mono (by decide)) F11 b11 g11 (GD.mono (by decide)) F18 b18 g18 (GSc.mono (by decide)) F19 b19 g19 (GON.mono (by decide)) F24 b24 g24 (GS.mono (by decide)) F23 b23 g23 (GX.mono (by decide)) F21 b21 g21 GE F22 b22 g22 (PySem.W.mg_of X G aA) ex F9 b9 g9 XR F25 b25 g25 (GLo.mono (by decide)) m2 m5 m9
end P56
open PySem PySem.W PyProof.Rows
set_option maxHeartbeats 0 in
theorem PySem.Challenge.cw_askrights_k56_rows_left_told_holds : PySem.Challenge.rw_askrights_k56_rows_left_told.Holds := by
  w_on; o_law; k_head; (case hw => w_witness2)
  k_fill
  refine AskG.walkT (l := PySem.Challenge.rw_askrights_k56_rows_left_told) (n := 63) (k := 8) (x := "_law_script") (own := ["law"]) (pr := P56.prLaw) rfl (by decide) rfl ⟨⟨rfl, by decide, by decide⟩, rfl⟩ (fun w h Y => PySem.W.km_in_of Y) ?R ?F (fun _ _ _ a ns _ hT hS => ⟨a, ns, rfl, hS, hT, fun _ => rfl⟩)
  case R =>
    intro y hy
    rw [List.mem_singleton.mp hy]
    rfl
  case F =>
    intro w mg fa h KX G hmg
    refine' P56.all_mk KX G hmg ?a1 ?l1 ?c1 ?k1f ?a2 ?l2 ?c2 ?k2f ?a3 ?l3 ?c3 ?k3f ?a4 ?l4 ?c4 ?k4f ?a5 ?l5 ?c5 ?k5f ?a6 ?l6 ?c6 ?k6f ?a7 ?l7 ?c7 ?k7f ?a8 ?l8 ?c8 ?k8f ?a9 ?l9 ?c9 ?k9f ?a10 ?l10 ?c10 ?k10f ?a11 ?l11 ?c11 ?k11f ?a12 ?l12 ?c12 ?k12f ?a13 ?l13 ?c13 ?k13f ?a14 ?l14 ?c14 ?k14f ?a15 ?l15 ?c15 ?k15f ?a16 ?l16 ?c16 ?k16f ?a17 ?l17 ?c17 ?k17f ?a18 ?l18 ?c18 ?k18f ?a19 ?l19 ?c19 ?k19f ?a20 ?l20 ?c20 ?k20f ?a21 ?l21 ?c21 ?k21f ?a22 ?l22 ?c22 ?k22f ?a23 ?l23 ?c23 ?k23f ?a24 ?l24 ?c24 ?k24f ?a25 ?l25 ?c25 ?k25f ?a26 ?l26 ?c26 ?k26f ?z1 ?z2 ?z3 ?z4 ?z5 ?z6 ?z7 ?z8 ?z9 ?aC ?aA ?b1c ?b2c ?b3c ?b4c ?b5c ?b6c ?b7c ?b8c ?b9c ?i1 ?i2 ?i3 ?lI ?cI ?kI ?hC ?hv ?e1 ?e2 ?e3 ?e4 ?x1 ?x2 ?x4 ?x5 ?x6 ?x7 ?x8 ?y0 ?y1 ?y2 ?y3 ?y4 ?y5 ?ex ?lc ?vc ?tn
    (case a1 => k_is)
    (case l1 => k_is)
    (case c1 => k_is)
    (case k1f => k_is)
    (case a2 => k_is)
    (case l2 => k_is)
    (case c2 => k_is)
    (case k2f => k_is)
    (case a3 => k_is)
    (case l3 => k_is)
    (case c3 => k_is)
    (case k3f => k_is)
    (case a4 => k_is)
    (case l4 => k_is)
    (case c4 => k_is)
    (case k4f => k_is)
    (case a5 => k_is)
    (case l5 => k_is)
    (case c5 => k_is)
    (case k5f => k_is)
    (case a6 => k_is)
    (case l6 => k_is)
    (case c6 => k_is)
    (case k6f => k_is)
    (case a7 => k_is)
    (case l7 => k_is)
    (case c7 => k_is)
    (case k7f => k_is)
    (case a8 => k_is)
    (case l8 => k_is)
    (case c8 => k_is)
    (case k8f => k_is)
    (case a9 => k_is)
    (case l9 => k_is)
    (case c9 => k_is)
    (case k9f => k_is)
    (case a10 => k_is)
    (case l10 => k_is)
    (case c10 => k_is)
    (case k10f => k_is)
    (case a11 => k_is)
    (case l11 => k_is)
    (case c11 => k_is)
    (case k11f => k_is)
    (case a12 => k_is)
    (case l12 => k_is)
    (case c12 => k_is)
    (case k12f => k_is)
    (case a13 => k_is)
    (case l13 => k_is)
    (case c13 => k_is)
    (case k13f => k_is)
    (case a14 => k_is)
    (case l14 => k_is)
    (case c14 => k_is)
    (case k14f => k_is)
    (case a15 => k_is)
    (case l15 => k_is)
    (case c15 => k_is)
    (case k15f => k_is)
    (case a16 => k_is)
    (case l16 => k_is)
    (case c16 => k_is)
    (case k16f => k_is)
    (case a17 => k_is)
    (case l17 => k_is)
    (case c17 => k_is)
    (case k17f => k_is)
    (case a18 => k_is)
    (case l18 => k_is)
    (case c18 => k_is)
    (case k18f => k_is)
    (case a19 => k_is)
    (case l19 => k_is)
    (case c19 => k_is)
    (case k19f => k_is)
    (case a20 => k_is)
    (case l20 => k_is)
    (case c20 => k_is)
    (case k20f => k_is)
    (case a21 => k_is)
    (case l21 => k_is)
    (case c21 => k_is)
    (case k21f => k_is)
    (case a22 => k_is)
    (case l22 => k_is)
    (case c22 => k_is)
    (case k22f => k_is)
    (case a23 => k_is)
    (case l23 => k_is)
    (case c23 => k_is)
    (case k23f => k_is)
    (case a24 => k_is)
    (case l24 => k_is)
    (case c24 => k_is)
    (case k24f => k_is)
    (case a25 => k_is)
    (case l25 => k_is)
    (case c25 => k_is)
    (case k25f => k_is)
    (case a26 => k_is)
    (case l26 => k_is)
    (case c26 => k_is)
    (case k26f => k_is)
    (case z1 => k_is)
    (case z2 => k_is)
    (case z3 => k_is)
    (case z4 => k_is)
    (case z5 => k_is)
    (case z6 => k_is)
    (case z7 => k_is)
    (case z8 => k_is)
    (case z9 => k_is)
    (case aC => k_is)
    (case aA => k_is)
    (case b1c => k_is)
    (case b2c => k_is)
    (case b3c => k_is)
    (case b4c => k_is)
    (case b5c => k_is)
    (case b6c => k_is)
    (case b7c => k_is)
    (case b8c => k_is)
    (case b9c => k_is)
    (case i1 => k_is)
    (case i2 => k_is)
    (case i3 => k_is)
    (case lI => k_is)
    (case cI => k_is)
    (case kI => k_is)
    (case hC => k_is)
    (case hv => rfl)
    (case e1 => k_is)
    (case e2 => k_is)
    (case e3 => k_is)
    (case e4 => k_is)
    (case x1 => k_is)
    (case x2 => k_is)
    (case x4 => k_is)
    (case x5 => k_is)
    (case x6 => k_is)
    (case x7 => k_is)
    (case x8 => k_is)
    (case y0 => kit_is)
    (case y1 => kit_is)
    (case y2 => kit_is)
    (case y3 => kit_is)
    (case y4 => kit_is)
    (case y5 => kit_is)
    (case ex => kts_exm)
    (case lc => k_is)
    (case vc => rfl)
    (case tn => first | k_is | rfl)
