import PyProof.Rows.All
import Wide.All
import OpenK.AllK
import Wide.FinOn
import HandS.Words
import HandS.List
import PyProof.Rows.ReprR
import HandS.SortRule
import HandS.Conv
import KE.KDictPairs
import HandS.More
import HandS.TupLe
import HandS.DictComp
import HandS.Defaults
import PyProof.ReprLen
import PyProof.FitsInt
import HandS.Comp
import HandS.IsInst
import HandS.Walk
import HandS.Style
import HandS.TupAny
import PyProof.Rows.IntBool
import PyProof.Rows.EqBoolInt
import PyProof.CallStr
import HandS.Text
import HandS.ExcOwn
import HandS.ExcInit
import HandS.Lambda
import HandS.ForMost
import HandS.TupSets
import KE.KeyNested
import HandS.SortOrd
import HandS.TupMul
import HandS.NoneIn
import HandS.SetBool
import KE.GoesSet
import HandS.Iter
import HandS.Zip
import HandS.Wide
import HandS.SortKw
import KE.DatumOrd
import PyProof.Rows.SetFrom
import HandS.SetTxt0
import PyProof.Rows.SortStr
import PyProof.Rows.SortKeyStr
import PyProof.TupleOfSeq
import PyProof.NeKinds
import KE.DataMinMax
import KE.KEqDict
import HandS.Deep
import HandS.MakeKwOnly
import HandS.HotCalls
import HandS.ExcIs
import HandS.ExcField
import KE.KExcIs
import HandS.Ends
import KE.KNestM
import PySem.Challenge.RW_askrights_k37_costs_told
set_option Elab.async false
set_option linter.all false
set_option maxRecDepth 100000
set_option maxHeartbeats 8000000
/-! Defs that are only called while nothing is being shown: calls whose surroundings hold no guard, so that repr gives the plain text. -/
namespace AskG
open PySem PySem.Spec PyProof.Rows L2

/-- what a def promises, nothing being raised -/
abbrev Pr := List V → Hp → VK → Prop

/-- room for k calls, and no guard around -/
structure RG (k : Nat) (A : Around) : Prop where
  room : Room k A
  still : A.guards = some []
theorem RG.mono {j k : Nat} {A : Around} (r : RG k A) (h : j ≤ k) : RG j A :=
  ⟨r.room.mono h, r.still⟩
theorem RG.deeper {k : Nat} {A : Around} (r : RG (k + 1) A) (env : Env) : RG k (A.deeper env) :=
  ⟨r.room.deeper env, r.still⟩

section
variable (P : Program) (w : World) (K : PySem.W.Frag) (mg : Str → Option Value) (base : Heap)
structure FnG (k : Nat) (f : Addr) (fd : FuncData) (ps : List Str) (pr : Pr) : Prop where
  many : ∀ vs H Q, pr vs H Q → vs.length = ps.length
  goes : ∀ (A : Around) (outer : List Env) (s : Shared) (H : Hp) (args : Args)
    (us : List Value) (vs : List V) (Q : VK), RG k A → Env0 P w K mg base A outer s H →
    BindsTo s fd args (ps.zip us) → Vals vs us → pr vs H Q →
    codeAny (model P w) A (.call (.ref f) args) (CR CX0 outer P w H s Q E0) s
end

section
variable {P : Program} {w : World} {K : PySem.W.Frag} {mg : Str → Option Value} {base : Heap}
theorem FnG.mono {j k : Nat} {f : Addr} {fd : FuncData} {ps : List Str} {pr : Pr}
    (F : FnG P w K mg base j f fd ps pr) (h : j ≤ k) : FnG P w K mg base k f fd ps pr :=
  ⟨F.many, fun A outer s H args us vs Q hr => F.goes A outer s H args us vs Q (hr.mono h)⟩

/-- a def of the text, by its body -/
theorem fnG_of {k : Nat} {f : Addr} {name qual : Str} {params : Arguments} {body : List Stmt}
    {scope : Scope} {dV kV doc pm cdv ct oc : Value} {an od : Option Addr}
    {osl : Array (Option Value)} {N ps : List Str} {pr : Pr}
    (at_f : K.lookup f = some ⟨oc, od, .func (PySem.W.fnOf name qual params body scope dV kV doc pm an cdv ct), osl⟩)
    (code : PySem.W.codeIn K cdv qual = true) (S : FnScope N ps scope)
    (many : ∀ vs H Q, pr vs H Q → vs.length = ps.length)
    (body_ok : ∀ (A : Around) (outer : List Env) (s : Shared) (H : Hp) (vs : List V) (Q : VK),
      RG k (A.deeper (envOfC qual scope s.heap.objs.size f cdv)) → pr vs H Q →
      ∃ t, PSs (cxOf CX0 P w K mg base N qual scope f cdv A outer s H E0).nox body t ∧
        t { nx := fun _ H' => Q .non H', rt := Q } (start N vs) H) :
    FnG P w K mg base (k + 1) f
      (PySem.W.fnOf name qual params body scope dV kV doc pm an cdv ct) ps pr := by
  constructor
  · exact many
  intro A outer s H args us vs Q hr e0 hb hv hp
  have hl := many _ _ _ hp
  have inK : K.In s.heap := e0.mod.kin.keeps fun b o q => (e0.bs b o q).1
  have nl : s.heap.NoLimit := e0.mod.nolimit.keeps fun b o q => (e0.bs b o q).1
  have kinds : ∀ y ∈ ps.zip us, scope.names.lookup y.1 = some .local ∨
      (scope.names.lookup y.1 = some .cell ∧
        ((cellsFrom (s.heap.objs.size + 1) scope.names []).lookup y.1).isSome = true) := by
    rintro ⟨n, v⟩ hy
    cases S.par n (List.of_mem_zip hy).1 with
    | inl q => exact Or.inl q
    | inr q => exact Or.inr ⟨q, PySem.W.cellsFrom_some _ _ _ (Or.inl q)⟩
  refine codeAny_call_function hr.room.depth (inK _ _ at_f) rfl S.co S.gen rfl
    (PySem.W.codeRec_of inK code) (hb _ _ _ _ ?_)
  refine wpAny_newFunctionEnv_cells S.kind kinds fun env he s1 x => ?_
  subst he
  refine ⟨nl.keeps x.toInCall.keep, codeAny_func ?_⟩
  obtain ⟨t, ht, hq⟩ := body_ok A outer s H vs Q (hr.deeper _) hp
  have I : Inv (cxOf CX0 P w K mg base N qual scope f cdv A outer s H E0) [] (start N vs) H s1 :=
    inv_start S hr.room.hd e0 hl hv x
  refine wpAny_mono (ht.nox.run [] s1 (start N vs) H _ I hq) (fun fl s' hs => ?_)
    fun e s' hs => hs
  cases fl with
  | ret u =>
    obtain ⟨v, σ', H', J, rv, q⟩ := hs
    exact ⟨v, H', J.os, J.bare, J.base, J.hok, rv, q⟩
  | next =>
    obtain ⟨σ', H', J, q⟩ := hs
    exact ⟨V.non, H', J.os, J.bare, J.base, J.hok, rfl, q⟩
  | brk => exact hs.elim fun _ z => z.elim fun _ z => False.elim z.2
  | cont => exact hs.elim fun _ z => z.elim fun _ z => False.elim z.2

theorem okG {x qual : Str} {st : Stmt} {f : Addr} {fd : FuncData} {N ps : List Str} {k : Nat} {pr : Pr}
    (F : Fun K x qual st f fd) (S : FnScope N ps (defScope st))
    (many : ∀ vs H Q, pr vs H Q → vs.length = ps.length)
    (body_ok : ∀ (cdv : Value) (A : Around) (outer : List Env) (s : Shared) (H : Hp) (vs : List V) (Q : VK),
      RG k (A.deeper (envOfC qual (defScope st) s.heap.objs.size f cdv)) → pr vs H Q →
      ∃ t, PSs (cxOf CX0 P w K mg base N qual (defScope st) f cdv A outer s H E0).nox (defBody st) t ∧
        t { nx := fun _ H' => Q .non H', rt := Q } (start N vs) H) :
    FnG P w K mg base (k + 1) f fd ps pr := by
  obtain ⟨oc, od, kV, doc, pm, an, cdv, ct, osl, rfl, lk, hcd⟩ := F.ex
  exact fnG_of lk hcd S many fun A outer s H vs Q hr hp => body_ok cdv A outer s H vs Q hr hp
end

/-! ### calls -/
/-- f(..): the written arguments, then the defaults -/
def tCallG (pr : Pr) (dvs : List V) (t : TA) : TE := fun σ H Q => t σ H fun vs H1 => pr (vs ++ dvs) H1 Q
/-- f(.., k = ..) -/
def tCallKG (pr : Pr) (gV : List V → List V → List V) (t tk : TA) : TE := fun σ H Q =>
  t σ H fun vs H1 => tk σ H1 fun zs H2 => pr (gV vs zs) H2 Q

section
variable {X : Cx} {k : Nat} {f : Addr} {fd : FuncData} {ps : List Str} {pr : Pr}
theorem goG {pins : List (Addr × Obj)} {σ : L2.St} {H : Hp} {s : Shared} {Q : VK} {args : Args}
    {us : List Value} {vs : List V} (F : FnG X.prog X.w X.K X.mg X.base k f fd ps pr)
    (hr : RG k X.A) (I : Inv X pins σ H s) (hb : BindsTo s fd args (ps.zip us)) (r : Vals vs us)
    (h : pr vs H Q) : wpAny (model X.prog X.w) X.A (call (.ref f) args.pos args.kw) (EP X pins σ Q) X.xe s := by
  refine wpAny_call (codeAny_mono (F.goes X.A X.stack s H args us vs Q hr I.env0 hb r h)
    fun r s' hq => ?_)
  match r, hq with
  | .error e, hq => exact hq.elim
  | .ok (.ret u), hq => exact I.after hq
  | .ok .next, hq => exact hq.elim
  | .ok .brk, hq => exact hq.elim
  | .ok .cont, hq => exact hq.elim
end
section
variable {X : Cx} {k : Nat} {f : Addr} {fd : FuncData} {ps : List Str} {pr : Pr} {dvs : List V} {ds : List Value}
  {x : Str} {p pos : Pos} {e : Expr} {es : List Expr} {t : TA}
theorem goP {pins : List (Addr × Obj)} {σ : L2.St} {H : Hp} {s : Shared} {Q : VK} {us : List Value} {vs : List V}
    (F : FnG X.prog X.w X.K X.mg X.base k f fd ps pr) (hr : RG k X.A) (hb : Binds X.K fd ps ds) (hd : Vals dvs ds)
    (I : Inv X pins σ H s) (r : Vals vs us) (h : pr (vs ++ dvs) H Q) :
    wpAny (model X.prog X.w) X.A (call (.ref f) us) (EP X pins σ Q) X.xe s := by
  have r2 : Vals (vs ++ dvs) (us ++ ds) := r.append hd
  have hl : (us ++ ds).length = ps.length := r2.length.symm.trans (F.many _ _ _ h)
  exact goG (args := ⟨us, []⟩) F hr I (hb s us I.kIn hl) r2 h

/-- f(e, ..) -/
theorem pe_g (F : FnG X.prog X.w X.K X.mg X.base k f fd ps pr) (hr : RG k X.A) (hg : Gl X x)
    (hm : X.mg x = some (.ref f)) (hk : PySem.W.keepIn X.K (.ref f) = true) (hb : Binds X.K fd ps ds) (hd : Vals dvs ds)
    (ha : PA X (e :: es) t) (hdb : (x == ("__debug__" : Str)) = false := by decide)
    (he : starEach (e :: es) X.env = (false, eval e X.env) :: starEach es X.env := by rfl)
    (hpl : (backTo pos (starEach es X.env)).any (·.1) = false := by rfl) :
    PE X (.Call (.Name x p) (e :: es) [] pos) (tCallG pr dvs t) := by
  constructor
  intro pins s σ H Q I h
  refine wpAny_Call_Name_kw (ld_glob I hg hm ?_ hdb)
  refine PySem.W.callWith_K (h₀ := X.base) I.ok.mod.kin hk (thn (ha.run pos pins s σ H _ I h) ?_) he hpl
  rintro us s1 ⟨vs, H1, I1, r, q⟩
  exact ⟨I1.kIn, goP F hr hb hd I1 r q⟩
/-- f() -/
theorem pe_g0 (F : FnG X.prog X.w X.K X.mg X.base k f fd ps pr) (hr : RG k X.A) (hg : Gl X x)
    (hm : X.mg x = some (.ref f)) (hk : PySem.W.keepIn X.K (.ref f) = true) (hb : Binds X.K fd ps ds) (hd : Vals dvs ds)
    (hdb : (x == ("__debug__" : Str)) = false := by decide) : PE X (.Call (.Name x p) [] [] pos) (tCallG pr dvs tNil) := by
  constructor
  intro pins s σ H Q I h
  refine wpAny_Call_Name_kw (ld_glob I hg hm ?_ hdb)
  exact PySem.W.callWith_K0 I.kIn hk (goP (us := []) F hr hb hd I .nil h)
variable {ks : List Str} {g : List Value → List Value → List Value} {gV : List V → List V → List V} {kws : List Keyword} {tk : TA}
theorem goK {pins : List (Addr × Obj)} {σ : L2.St} {H : Hp} {s : Shared} {Q : VK} {us ws : List Value} {vs zs : List V}
    (F : FnG X.prog X.w X.K X.mg X.base k f fd ps pr) (hr : RG k X.A) (hb : KBinds X.K fd ps ks g gV)
    (I : Inv X pins σ H s) (r : Vals vs us) (rz : Vals zs ws) (h : pr (gV vs zs) H Q) :
    wpAny (model X.prog X.w) X.A (call (.ref f) us (ks.zip ws)) (EP X pins σ Q) X.xe s := by
  have r2 := hb.rel r rz
  have hl : (g us ws).length = ps.length := r2.length.symm.trans (F.many _ _ _ h)
  exact goG (args := ⟨us, ks.zip ws⟩) F hr I (hb.to s us ws I.kIn hl) r2 h
/-- f(e, .., k = v, ..) -/
theorem pe_gk (F : FnG X.prog X.w X.K X.mg X.base k f fd ps pr) (hr : RG k X.A) (hg : Gl X x)
    (hm : X.mg x = some (.ref f)) (hk : PySem.W.keepIn X.K (.ref f) = true) (hb : KBinds X.K fd ps ks g gV)
    (ha : PA X (e :: es) t) (hkw : PK X kws tk)
    (hall : (backToKw pos (keywordEach kws X.env)).all (·.1.isSome) = true := by rfl)
    (hks : (backToKw pos (keywordEach kws X.env)).filterMap (·.1) = ks := by rfl)
    (hdb : (x == ("__debug__" : Str)) = false := by decide)
    (he : starEach (e :: es) X.env = (false, eval e X.env) :: starEach es X.env := by rfl)
    (hpl : ((backTo pos (starEach (e :: es) X.env)).any (·.1) || (backToKw pos (keywordEach kws X.env)).any (·.1.isNone)) = false := by rfl) :
    PE X (.Call (.Name x p) (e :: es) kws pos) (tCallKG pr gV t tk) := by
  constructor
  intro pins s σ H Q I h
  refine wpAny_Call_Name_kw (ld_glob I hg hm ?_ hdb)
  refine PySem.W.callWith_KW (h₀ := X.base) I.ok.mod.kin hk hall (thn (ha.run pos pins s σ H _ I h) ?_) hpl he
  rintro us s1 ⟨vs, H1, I1, r, q⟩
  refine thn (hkw.run pos pins s1 σ H1 _ I1 q) ?_
  rintro ws s2 ⟨zs, H2, I2, rz, q2⟩
  refine ⟨I2.kIn, ?_⟩
  rw [hks]
  exact goK F hr hb I2 r rz q2
end

/-! ### repr of data -/
section
variable {X : Cx}
def rRepr (K : PySem.W.Frag) : List V → Hp → VK → Prop := fun xs H Q => ∃ (a : Addr) (d : PyData), xs = [.ref a] ∧
  Dp K H (.ref a) d ∧ d.showable = true ∧ d.hasDict = false ∧ d.depth ≤ 60 ∧ d.shown.length ≤ sizeLine ∧ Q (.str d.shown) H
theorem call_repr {k : Nat} (hr : RG k X.A) : CallR X (.builtin "repr") (rRepr X.K) := by
  intro pins s σ H xs us Q I r q
  obtain ⟨a, d, ex, hD, hs, hnd, hdp, hsz, q⟩ := q
  subst ex
  obtain ⟨u, eu, rx⟩ := vals1 r
  subst eu
  cases rx
  obtain ⟨as, rd⟩ := Dp.reads I d (.ref a) (.ref a) hD rfl
  have hu := hr.room.units
  exact repr_of_reads' rd hs (PyData.noDict_hsm hnd) hr.still (by omega) (fun _ _ z => z)
    (fun h' u tk hk => ⟨.str d.shown, H, I.kept hk, ⟨u, rfl⟩, q⟩) hsz
end
end AskG
/-! Cells (a text, an int) as keys of dicts: their order, sorted(d). -/
namespace AskG
open PySem PySem.Spec PyProof.Rows L2

abbrev Cell := Str × Int
/-- a cell as a key -/
abbrev ck (c : Cell) : List Key := [Sum.inr c.1, Sum.inl c.2]
/-- the order of cells -/
def ltC (p q : Cell) : Bool := if p.1 = q.1 then decide (p.2 < q.2) else decide (p.1.cps.toList < q.1.cps.toList)

theorem str_ext {x y : Str} (h : x.cps.toList = y.cps.toList) : x = y := by
  obtain ⟨⟨a⟩⟩ := x
  obtain ⟨⟨b⟩⟩ := y
  have h : a = b := h
  rw [h]
theorem ltC_iff {p q : Cell} : ltC p q = true ↔ (p.1.cps.toList < q.1.cps.toList) ∨ (p.1 = q.1 ∧ p.2 < q.2) := by
  unfold ltC
  by_cases e : p.1 = q.1
  · rw [if_pos e, decide_eq_true_eq]
    constructor
    · intro h
      exact Or.inr ⟨e, h⟩
    · rintro (h | h)
      · rw [e] at h
        exact absurd h (List.lt_irrefl _)
      · exact h.2
  · rw [if_neg e, decide_eq_true_eq]
    constructor
    · intro h
      exact Or.inl h
    · rintro (h | h)
      · exact h
      · exact absurd h.1 e
theorem codes_tri (x y : List Nat) : x < y ∨ x = y ∨ y < x := by
  by_cases h1 : x < y
  · exact Or.inl h1
  · by_cases h2 : y < x
    · exact Or.inr (Or.inr h2)
    · exact Or.inr (Or.inl (List.le_antisymm (List.not_lt.mp h2) (List.not_lt.mp h1)))
theorem ltC_tri (p q : Cell) : ltC p q = true ∨ p = q ∨ ltC q p = true := by
  rcases codes_tri p.1.cps.toList q.1.cps.toList with h | h | h
  · exact Or.inl (ltC_iff.mpr (Or.inl h))
  · have e := str_ext h
    rcases Int.lt_trichotomy p.2 q.2 with g | g | g
    · exact Or.inl (ltC_iff.mpr (Or.inr ⟨e, g⟩))
    · exact Or.inr (Or.inl (Prod.ext e g))
    · exact Or.inr (Or.inr (ltC_iff.mpr (Or.inr ⟨e.symm, g⟩)))
  · exact Or.inr (Or.inr (ltC_iff.mpr (Or.inl h)))
theorem ltC_trans {p q r : Cell} (h1 : ltC p q = true) (h2 : ltC q r = true) : ltC p r = true := by
  refine ltC_iff.mpr ?_
  rcases ltC_iff.mp h1 with a | ⟨a, a'⟩ <;> rcases ltC_iff.mp h2 with b | ⟨b, b'⟩
  · exact Or.inl (List.lt_trans a b)
  · exact Or.inl (b ▸ a)
  · exact Or.inl (a ▸ b)
  · exact Or.inr ⟨a.trans b, Int.lt_trans a' b'⟩
theorem ltC_irr (p : Cell) : ltC p p = false := by
  cases h : ltC p p with
  | false => rfl
  | true =>
    rcases ltC_iff.mp h with a | ⟨_, a⟩
    · exact absurd a (List.lt_irrefl _)
    · exact absurd a (Int.lt_irrefl _)
theorem ltC_asym {p q : Cell} (h : ltC p q = true) : ltC q p = false := by
  cases g : ltC q p with
  | false => rfl
  | true =>
    have := ltC_trans h g
    rw [ltC_irr] at this
    cases this
theorem swo_cells {α : Type} (k : α → Cell) : SrtO.Swo fun v u => ltC (k v) (k u) := by
  refine ⟨fun x y h => ltC_asym h, fun x y z h1 h2 => ?_⟩
  cases g : ltC (k z) (k x) with
  | false => rfl
  | true =>
    rcases ltC_tri (k x) (k y) with a | a | a
    · have := ltC_trans g a
      rw [h2] at this
      cases this
    · rw [← a, g] at h2
      cases h2
    · rw [h1] at a
      cases a

/-- the value is a tuple of a text and an int -/
def IsCl (h : Heap) (v : Value) (c : Cell) : Prop := ∃ (a : Addr) (t u : Tok), v = .ref a ∧ IsTup h a #[.str c.1 t, .int c.2 u]
section
variable {prog : Program} {w : World} {A : Around} {E : Value → Shared → Prop} {s : Shared}
theorem cell_cmp {vs : List Value} {k : Value → Cell} (hp : ∀ v ∈ vs, IsCl s.heap v (k v)) :
    SrtO.Cmp prog w A s (tuples' true) (fun p => p.1 ∈ vs) (SrtO.lt2 fun v u => ltC (k v) (k u)) := by
  intro p q hm hm'
  have h1 := hp _ hm
  have h2 := hp _ hm'
  show wpAny (model prog w) A (keyLt' (tuples' true) p.1 q.1) (fun r s' => s' = s ∧ r = ltC (k p.1) (k q.1)) (fun _ _ => False) s
  generalize k p.1 = c at h1 ⊢
  generalize k q.1 = d at h2 ⊢
  obtain ⟨a, t, u, e, o, ho, hc, n, hd⟩ := h1
  obtain ⟨a', t', u', e', o', ho', hc', n', hd'⟩ := h2
  rw [e, e']
  refine PySem.W.kat_lt ho hd ho' hd' ?_
  show PySem.W.KatLex prog w A true (decide (2 < 2)) _ [(.str c.1 t, .str d.1 t'), (.int c.2 u, .int d.2 u')] 0 s
  refine PySem.W.kat_cons (SeqAt.EqAt.str_str c.1 t d.1 t' prog w _ _ ?_)
  refine PySem.W.kat_go (fun e1 => ?_) (fun e1 => ?_)
  · have ex : c.1 = d.1 := by simpa using e1
    refine PySem.W.kat_yes (PySem.W.kat_cons (SeqAt.EqAt.int_int c.2 u d.2 u' prog w _ _ ?_))
    refine PySem.W.kat_go (fun e2 => ?_) (fun e2 => ?_)
    · have ey : c.2 = d.2 := by simpa using e2
      have e3 : ltC c d = false := by
        rw [show c = d from Prod.ext ex ey]
        exact ltC_irr d
      exact PySem.W.kat_yes (PySem.W.kat_nil ⟨rfl, e3.symm⟩)
    · have e3 : ltC c d = decide (c.2 < d.2) := if_pos ex
      refine PySem.W.kat_no (PySem.W.kat_one _ _ (PyProof.Rows.lt_int ?_))
      exact (show s = s ∧ decide (c.2 < d.2) = ltC c d from ⟨rfl, e3.symm⟩)
  · have ex : ¬ c.1 = d.1 := by simpa using e1
    have e3 : ltC c d = decide (c.1.cps.toList < d.1.cps.toList) := if_neg ex
    exact PySem.W.kat_no (oneLt_str ⟨rfl, e3.symm⟩)
theorem cell_firsts {h : Heap} : ∀ {vs : List Value}, (∀ v ∈ vs, ∃ c, IsCl h v c) →
    ∃ fs : List Value, PySem.W.KatTups h vs fs ∧ fs.length = vs.length ∧ ∀ f ∈ fs, ∃ x t, f = Value.str x t
  | [], _ => ⟨[], .nil, rfl, fun f hf => absurd hf (by simp)⟩
  | v :: vs, x => by
    obtain ⟨fs, k, hl, hi⟩ := cell_firsts (vs := vs) fun u hu => x u (List.mem_cons_of_mem _ hu)
    obtain ⟨c, a, t, u, rfl, o, ho, hc, n, hd⟩ := x v List.mem_cons_self
    refine ⟨.str c.1 t :: fs, .cons ho hc hd rfl k, congrArg (· + 1) hl, fun f hf => ?_⟩
    rcases List.mem_cons.mp hf with rfl | hf
    · exact ⟨_, _, rfl⟩
    · exact hi f hf
theorem IsCl.keeps {h h' : Heap} {v : Value} {c : Cell} (x : IsCl h v c) (k : ∀ b o, h.get? b = some o → o.cls = .type "tuple" → h'.get? b = some o) : IsCl h' v c := by
  obtain ⟨a, t, u, e, o, ho, hc, r⟩ := x
  exact ⟨a, t, u, e, o, k _ _ ho hc, hc, r⟩
theorem cells_sortable {a : Addr} {vs : List Value} {k : Value → Cell} (h0 : 0 < vs.length) (hp : ∀ v ∈ vs, IsCl s.heap v (k v))
    (ha : ∀ o, s.heap.get? a = some o → o.cls ≠ .type "tuple") : SrtO.SortableO prog w A s a vs fun v u => ltC (k v) (k u) := by
  intro h' keep
  have hp' : ∀ v ∈ vs, IsCl h' v (k v) := fun v hm => (hp v hm).keeps fun b o e c => keep b o (fun z => by subst z; exact ha o e c) e
  obtain ⟨fs, h1, h2, h3⟩ := cell_firsts fun v hm => ⟨_, hp' v hm⟩
  refine ⟨tuples' true, fun Q E hq => ?_, cell_cmp hp'⟩
  refine PySem.W.kat_kind (T := .type "str") h1 (by omega) (fun f hm => ?_) (by rfl) ?_
  · obtain ⟨x, t, rfl⟩ := h3 f hm
    exact PySem.W.Looks.now
  · have e : (Value.type "str" != Value.type "tuple") = true := by first | decide +kernel | rfl | decide
    rw [e]
    exact hq
end
end AskG
/-! sorted(d), dict(pairs) of dicts whose keys are cells. -/
namespace AskG
open PySem PySem.Spec PyProof.Rows L2

/-- a tracked tuple of a text and an int -/
def CellAt (H : Hp) (b : Addr) (c : Cell) : Prop := H b = some (.tup [.str c.1, .int c.2])
/-- the cell that stands behind a value -/
def cellOf (H : Hp) : Value → Cell
  | .ref a => match H a with
    | some (.tup [.str x, .int y]) => (x, y)
    | _ => (⟨#[]⟩, 0)
  | _ => (⟨#[]⟩, 0)
theorem cellOf_at {H : Hp} {b : Addr} {c : Cell} (h : CellAt H b c) : cellOf H (.ref b) = c := by
  unfold CellAt at h
  show (match H b with
    | some (.tup [.str x, .int y]) => (x, y)
    | _ => ((⟨#[]⟩, 0) : Cell)) = c
  rw [h]
theorem isCl_of {P : Program} {w : World} {H : Hp} {h : Heap} {b : Addr} {c : Cell} (ok : HOk P w H h) (e : CellAt H b c) : IsCl h (.ref b) c := by
  obtain ⟨_, its, r, ht⟩ := (show ObjOk P w H h b (.tup [.str c.1, .int c.2]) from ok b _ e)
  obtain ⟨x, y, ei, rx, ry⟩ := vals2 r
  obtain ⟨t, rfl⟩ := rx
  obtain ⟨u, rfl⟩ := ry
  subst ei
  exact ⟨b, t, u, rfl, ht⟩
theorem ck_inj {c d : Cell} (h : ck c = ck d) : c = d := by
  injection h with h1 h2
  injection h1 with h1
  injection h2 with h2 _
  injection h2 with h2
  exact Prod.ext h1 h2

/-- sorted(d), d a dict whose keys are the cells cs -/
def rSortT : List V → Hp → VK → Prop := fun xs H Q => ∃ (d : Addr) (kvs : List (List Key × V)) (cs : List Cell),
  xs = [.ref d] ∧ Rd H d (.dT kvs) ∧ kvs.map (·.1) = cs.map ck ∧
  ∀ (ys : List Cell) (bs : List Addr) (p : Addr), ys.Perm cs → ys.Pairwise (fun a b => ltC a b = true) →
    Paired (CellAt H) bs ys → H p = none → Q (.ref p) (upd H p (.lst (bs.map V.ref)))
theorem paired_of {α β : Type} {R : α → β → Prop} (f : α → β) : ∀ {l : List α}, (∀ x ∈ l, R x (f x)) → Paired R l (l.map f)
  | [], _ => .nil
  | x :: l, h => .cons (h x List.mem_cons_self) (paired_of f fun y hy => h y (List.mem_cons_of_mem _ hy))
theorem strict_of : ∀ {ys : List Cell}, ys.Pairwise (fun a b => ltC b a = false) → ys.Nodup → ys.Pairwise (fun a b => ltC a b = true) := by
  intro ys h n
  refine (h.and n).imp ?_
  rintro a b ⟨h1, h2⟩
  rcases ltC_tri a b with g | g | g
  · exact g
  · exact absurd g h2
  · rw [h1] at g
    cases g
section
variable {X : Cx}
theorem cr_sortT (hc : X.calm = true) : CallR X (.builtin "sorted") rSortT := by
  intro pins s σ H xs us Q I r q
  obtain ⟨d, kvs, cs, ex, hd, hks, q⟩ := q
  subst ex
  obtain ⟨u, eu, rx⟩ := vals1 r
  subst eu
  cases rx
  obtain ⟨z, hs, ks, pr, o, es, ep, ho, hx, hdt, he, hn⟩ :=
    (show ObjOk X.prog X.w H s.heap d (.dT kvs) from hd.ok I.hok)
  have l1 : es.size = ks.length := size_of_entries he
  have l2 : kvs.length = ks.length := Paired.length pr
  have hkk : ks.map (·.1) = cs.map ck := by
    rw [← hks]
    clear q he hn hd l1 l2 hks z
    induction pr with
    | nil => rfl
    | cons h t ih => rw [List.map_cons, List.map_cons, ih, h.1]
  have atK : ∀ x ∈ ks, H x.2.1 = some (.tup (x.1.map kV)) := by
    clear q he hn hd l1 l2 hks z hkk
    induction pr with
    | nil => exact fun x hx => absurd hx (by simp)
    | cons h t ih =>
      intro x hx
      rcases List.mem_cons.mp hx with e | hx
      · subst e
        rw [← h.1]
        exact h.2.1
      · exact ih x hx
  have atC : ∀ x ∈ ks, ∃ c, x.1 = ck c ∧ CellAt H x.2.1 c := by
    intro x hx
    have : x.1 ∈ cs.map ck := by
      rw [← hkk]
      exact List.mem_map_of_mem hx
    obtain ⟨c, _, ec⟩ := List.mem_map.mp this
    refine ⟨c, ec.symm, ?_⟩
    have := atK x hx
    rw [← ec] at this
    exact this
  refine Calls.call_function_entry PyProof.Rows.kind_sorted PyProof.Rows.plain_sorted
    PyProof.Rows.entry_sorted (PyProof.Rows.args_sorted1 _) ?_
  unfold Builtin.«sorted»
  refine wpAny_bind (m := checkCount "sorted" 1 1 _) (wpAny_pure ?_)
  refine wpAny_bind (PySem.W.kdu_collect (A := X.A.in1) (kdl_raw hs hx hdt) (I.ok.hd hc) ho (by omega) ?_)
  intro h' tk acc hk it
  have ea : acc.toList = ks.map fun x => Value.ref x.2.1 := by
    have hl : acc.toList.length = ks.length := by
      rw [Array.length_toList, it.1]
      exact l1
    apply List.ext_getElem?
    intro j
    rw [List.getElem?_map]
    cases hj : acc.toList[j]? with
    | none =>
      have h1 := List.getElem?_eq_none_iff.mp hj
      rw [List.getElem?_eq_none (by omega)]
      all_goals rfl
    | some v =>
      obtain ⟨en, hen, hv⟩ := it.2 j v (by rw [← Array.getElem?_toList]; exact hj)
      have qe := entry_at he j
      rw [hen] at qe
      cases hb : ks[j]? with
      | none =>
        rw [hb] at qe
        exact nomatch (show some en = none from qe)
      | some b =>
        rw [hb] at qe
        have e2 : en = entryOfKey (tupleKind (mixKind X.prog X.w)) b := Option.some.inj qe
        rw [hv, e2]
        all_goals rfl
  generalize acc.toList = vs at ea ⊢
  subst ea
  have hz : (ks.map fun x => Value.ref x.2.1).length ≤ sizeLine := by
    rw [List.length_map]
    omega
  have I1 : Inv X pins σ H { s with heap := h', toks := tk } := I.kept hk
  refine wpAny_bind (wpAny_newList ?_ hz)
  generalize hvs : (ks.map fun x => Value.ref x.2.1) = vs at hz ⊢
  have hoL : (h'.push (seqObj "list" vs.toArray 0)).get? h'.objs.size = some (seqObj "list" vs.toArray 0) :=
    Heap.get?_push_size _ rfl
  have hcl : ∀ v ∈ vs, ∃ b c, v = .ref b ∧ CellAt H b c := by
    intro v hv
    rw [← hvs] at hv
    obtain ⟨x, hx, rfl⟩ := List.mem_map.mp hv
    obtain ⟨c, _, hc⟩ := atC x hx
    exact ⟨_, c, rfl, hc⟩
  show wpAny _ _ _ _ _ { s with heap := h'.push (seqObj "list" vs.toArray 0), toks := tk }
  refine wpAny_bind (wpAny_holding (wpAny_call_entry PyProof.Rows.slot_list_sort ⟨_, hoL, rfl⟩ PyProof.Rows.entry_list_sort
    (SrtO.list_sort_ord (ltv := fun v u => ltC (cellOf H v) (cellOf H u)) (swo_cells _) hoL hz (fun h2 => ?_) (fun out hs hb => ⟨_, rfl, ?_⟩))
    (PyProof.Rows.args_list_sort _)))
  · refine cells_sortable (by omega) (fun v hv => ?_) fun o' eo => ?_
    · obtain ⟨b, c, rfl, hc⟩ := hcl v hv
      rw [cellOf_at hc]
      exact (isCl_of I1.hok hc).keeps fun b o e _ => Heap.get?_push_of_some _ e
    · have e' : some o' = some (seqObj "list" vs.toArray 0) := eo.symm.trans hoL
      cases e'
      intro c
      exact absurd (Value.type.inj c) (by decide)
  · obtain ⟨e', he'⟩ := PyProof.Rows.sortedHeap_at (vs := vs) (out := out.toArray) hoL
    have hout : ∀ v ∈ out, ∃ b c, v = .ref b ∧ CellAt H b c := fun v hv => hcl v (hb.perm.mem_iff.mp hv)
    have hbs : ∃ bs : List Addr, out = bs.map Value.ref := by
      clear hb hs he'
      induction out with
      | nil => exact ⟨[], rfl⟩
      | cons v l ih =>
        obtain ⟨bs, rfl⟩ := ih fun u hu => hout u (List.mem_cons_of_mem _ hu)
        obtain ⟨b, c, rfl, _⟩ := hout v List.mem_cons_self
        exact ⟨b :: bs, rfl⟩
    obtain ⟨bs, rfl⟩ := hbs
    have hcs : (vs.map (cellOf H)) = cs := by
      rw [← hvs, List.map_map]
      have inj : ∀ {a b : List Cell}, a.map ck = b.map ck → a = b := by
        intro a
        induction a with
        | nil =>
          intro b h
          cases b with
          | nil => rfl
          | cons _ _ => cases h
        | cons x a ih =>
          intro b h
          cases b with
          | nil => cases h
          | cons y b =>
            rw [List.map_cons, List.map_cons] at h
            injection h with h1 h2
            rw [ck_inj h1, ih h2]
      refine inj ?_
      rw [List.map_map, ← hkk]
      refine List.map_congr_left fun x hx => ?_
      obtain ⟨c, ec, hc⟩ := atC x hx
      show ck (cellOf H (.ref x.2.1)) = x.1
      rw [cellOf_at hc, ec]
    have perm : ((bs.map Value.ref).map (cellOf H)).Perm cs := by
      rw [← hcs]
      exact hb.perm.map _
    have hcn : cs.Nodup := by
      have := hn
      rw [hkk] at this
      exact (List.pairwise_map.mp this).imp fun h e => h (congrArg ck e)
    have hst := strict_of (List.pairwise_map.mpr hs) (perm.nodup_iff.mpr hcn)
    have hlen : (bs.map V.ref).length ≤ sizeLine := by
      have := hb.perm.length_eq
      rw [List.length_map] at this ⊢
      omega
    refine wpAny_pure ⟨_, rfl, .ref h'.objs.size, upd H h'.objs.size (.lst (bs.map V.ref)), I1.laid (t' := tk) (fun b u e => ?_) (Nat.le_refl _)
      (show ObjOk X.prog X.w _ _ _ (.lst (bs.map V.ref)) from ⟨hlen, bs.map Value.ref, e', vals_refs _, he'⟩), rfl,
      q _ bs _ perm hst ?_ (I1.hok.fresh (Nat.le_refl _))⟩
    · have hb : b < h'.objs.size := Heap.lt_size e
      rw [PyProof.Rows.sortedHeap_old (Nat.ne_of_lt hb) (by rw [size_push']; exact Nat.lt_succ_of_lt hb)]
      exact Heap.get?_push_of_some _ e
    · rw [List.map_map]
      refine paired_of _ fun b hb' => ?_
      obtain ⟨b2, c, e2, hc⟩ := hout (.ref b) (List.mem_map_of_mem hb')
      cases e2
      show CellAt H b (cellOf H (.ref b))
      rw [cellOf_at hc]
      exact hc

/-! ### dict(pairs) -/
/-- one after another, later ones win -/
def putAll (kvs more : List (List Key × V)) : List (List Key × V) := more.foldl (fun acc kv => putK acc kv.1 kv.2) kvs
theorem length_putAll : ∀ (more kvs : List (List Key × V)), (putAll kvs more).length ≤ kvs.length + more.length
  | [], kvs => Nat.le_refl _
  | m :: more, kvs => by
    have h1 := length_putAll more (putK kvs m.1 m.2)
    have h2 := length_putK kvs m.1 m.2
    rw [List.length_cons]
    show (putAll (putK kvs m.1 m.2) more).length ≤ _
    omega
theorem ktAll {H : Hp} {more : List (List Key × V)} {ms : List (List Key × Addr × Value)} (r : KT H more ms) :
    ∀ {kvs : List (List Key × V)} {xs : List (List Key × Addr × Value)}, KT H kvs xs → KT H (putAll kvs more) (storedAllH xs ms) := by
  induction r with
  | nil => exact fun h => h
  | @cons p q _ _ h t ih =>
    intro kvs xs g
    show KT H (putAll (putK kvs p.1 p.2) _) (storedAllH (storedH xs q.1 q.2.1 q.2.2) _)
    refine ih ?_
    have := KT.put g p.1 (b := q.2.1) h.2.1 h.2.2
    rw [h.1] at this ⊢
    exact this
/-- a tracked pair: a key tuple and a value -/
def PairAt' (K : PySem.W.Frag) (H : Hp) (p : Addr) (kv : List Key × V) : Prop := ∃ b, SqT K H p [.ref b, kv.2] ∧ H b = some (.tup (kv.1.map kV))
theorem pairsT_of {pins : List (Addr × Obj)} {σ : L2.St} {H : Hp} {s : Shared} (I : Inv X pins σ H s) : ∀ {ps : List Addr} {kvs : List (List Key × V)}, Paired (PairAt' X.K H) ps kvs →
    ∃ ms : List (List Key × Addr × Value), KT H kvs ms ∧ ms.length = ps.length ∧ ∀ (j : Nat) (q : List Key × Addr × Value), ms[j]? = some q → ∃ b : Addr, ps[j]? = some b ∧ IsTup s.heap b #[.ref q.2.1, q.2.2]
  | _, _, .nil => ⟨[], .nil, rfl, fun j q e => by simp at e⟩
  | _, _, .cons (a := p) (b := kv) h t => by
    obtain ⟨ms, r, hl, hp⟩ := pairsT_of I t
    obtain ⟨b, hb, hk⟩ := h
    obtain ⟨its, rv, ht, _⟩ := I.tuple hb
    obtain ⟨u, y, ei, ru, ry⟩ := vals2 rv
    subst ei
    cases ru
    refine ⟨(kv.1, b, y) :: ms, .cons ⟨rfl, hk, ry⟩ r, congrArg (· + 1) hl, fun j q e => ?_⟩
    cases j with
    | zero =>
      have e' : (kv.1, b, y) = q := Option.some.inj e
      subst e'
      exact ⟨p, rfl, ht⟩
    | succ j =>
      obtain ⟨b', e1, e2⟩ := hp j q (by simpa using e)
      exact ⟨b', by simpa using e1, e2⟩
/-- dict(xs), xs a list of pairs whose keys are tuples -/
theorem call_dictT {k : Nat} (hc : X.calm = true) (hr : Room k X.A) : CallR X (.type "dict") (fun xs H Q => ∃ (a : Addr) (ps : List Addr) (kvs : List (List Key × V)), xs = [.ref a] ∧ SqL X.K H a (ps.map V.ref) ∧ Paired (PairAt' X.K H) ps kvs ∧
    ∀ p, H p = none → Q (.ref p) (upd H p (.dT (putAll [] kvs)))) := by
  intro pins s σ H xs us Q I r q
  obtain ⟨a, ps, kvs, ex, hq, hp, q⟩ := q
  subst ex
  obtain ⟨u, eu, rx⟩ := vals1 r
  subst eu
  cases rx
  obtain ⟨its, rv, pl, hz⟩ := I.list hq
  have ei := refs_at rv
  subst ei
  rw [List.length_map] at hz
  obtain ⟨ms, rel, hl, hpr⟩ := pairsT_of I hp
  obtain ⟨o, n, ho, hcl, hd, hdat⟩ := pl
  have hu := hr.units
  have isK : ∀ (h' : Heap), (∀ b o, s.heap.get? b = some o → h'.get? b = some o) → ∀ x ∈ ms, (tupleKind (mixKind X.prog X.w)).is h' x.1 x.2.1 := by
    intro h' kp x hx
    have ok' : HOk X.prog X.w H h' := (I.kept (t' := s.toks) kp).hok
    have all : ∀ {l : List (List Key × V)} {m : List (List Key × Addr × Value)}, KT H l m → ∀ x ∈ m, H x.2.1 = some (.tup (x.1.map kV)) := by
      intro l m q
      induction q with
      | nil => exact fun x hx => absurd hx (by simp)
      | cons h t ih =>
        intro x hx
        rcases List.mem_cons.mp hx with e | hx
        · subst e
          rw [← h.1]
          exact h.2.1
        · exact ih x hx
    exact key_of ok' (all rel x hx)
  have pit : PairItems s.heap (ps.map Value.ref).toArray (fun j => ps.getD j 0) (ms.map fun q => (Value.ref q.2.1, q.2.2)) := by
    refine ⟨by simp [hl], fun j k' v e => ?_⟩
    rw [List.getElem?_map] at e
    cases em : ms[j]? with
    | none =>
      rw [em] at e
      cases e
    | some q' =>
      rw [em] at e
      obtain ⟨b, e1, e2⟩ := hpr j q' em
      have e3 : (Value.ref q'.2.1, q'.2.2) = (k', v) := Option.some.inj e
      injection e3 with e4 e5
      have eg : ps.getD j 0 = b := by rw [List.getD_eq_getElem?_getD, e1]; rfl
      refine ⟨?_, ?_⟩
      · show _ = some (Value.ref (ps.getD j 0))
        rw [eg]
        simp [e1]
      · show PairAt s.heap (ps.getD j 0) k' v
        rw [eg, ← e4, ← e5]
        exact .inl e2
  have hsz : ms.length ≤ sizeLine := by rw [hl]; exact hz
  have P := PairArg.list (prog := X.prog) (w := X.w) a (ps.map Value.ref).toArray (fun j => ps.getD j 0) (ms.map fun q => (Value.ref q.2.1, q.2.2))
  refine call_dict_pairsH (knd := tupleKind (mixKind X.prog X.w)) (ps := ms) P (I.ok.hd hc) (tupleKind_room_in1 (A := X.A.in1) (by show X.A.units + 1 + 1 < _; omega)) ⟨⟨o, n, ho, hcl, hd, hdat⟩, pit⟩ ⟨by rw [List.length_map], fun i key v e => ?_⟩ (fun h' hk' x hx => ?_) (by rw [List.length_map]; exact hsz) fun h' tk hd' kp => ?_
  · have e : (ms.map fun q => (Value.ref q.2.1, q.2.2))[i]? = some (key, v) := e
    rw [List.getElem?_map] at e
    cases em : ms[i]? with
    | none =>
      rw [em] at e
      cases e
    | some q' =>
      rw [em] at e
      have e3 : (Value.ref q'.2.1, q'.2.2) = (key, v) := Option.some.inj e
      injection e3 with e4 e5
      exact ⟨q'.1, q'.2.1, by rw [← e5], e4.symm⟩
  · exact isK h' (fun b o e => hk' b o (Nat.ne_of_lt (Heap.lt_size e)) (by simp) e) x hx
  · have kp' : ∀ b o, s.heap.get? b = some o → h'.get? b = some o := fun b o e => kp b o (by simp) e
    have hm : (s.heap.objs.size == sysModules) = false := beq_eq_false_iff_ne.mpr (Nat.ne_of_gt I.big)
    have hfr : H s.heap.objs.size = none := I.hok.fresh (Nat.le_refl _)
    have hlen : (putAll [] kvs).length ≤ sizeLine := by
      refine Nat.le_trans (length_putAll kvs []) ?_
      rw [List.length_nil, Nat.zero_add, Paired.length rel]
      exact hsz
    obtain ⟨q1, es, ep, h1, h2, h3, h4, _, h5⟩ := hd'
    refine ⟨.ref s.heap.objs.size, upd H s.heap.objs.size (.dT (putAll [] kvs)), I.laid (t' := tk) kp' (Nat.le_refl _)
      (show ObjOk X.prog X.w _ _ _ (.dT (putAll [] kvs)) from ⟨hlen, hm, storedAllH [] ms, (ktAll rel .nil).keeps fun c ys ec => ?_, q1, es, ep, h1, h2, h3, h4, h5⟩), rfl, q _ hfr⟩
    rw [upd_ne (ne_of_none ec hfr)]
    exact ec
end
end AskG
/-! cell < cell -/
namespace AskG
open PySem PySem.Spec PyProof.Rows L2
def rLtC : R2 := fun x y H Q => ∃ (a b : Addr) (c d : Cell), x = .ref a ∧ y = .ref b ∧ CellAt H a c ∧ CellAt H b d ∧ Q (.bl (ltC c d)) H
theorem op_ltC {X : Cx} (hu : X.A.units < cLine) : OpR X (compareOp .Lt) rLtC := by
  intro pins s σ H x y v u Q I rx ry h
  obtain ⟨a, b, c, d, rfl, rfl, ha, hb, q⟩ := h
  cases rx
  cases ry
  obtain ⟨a', t, t', e, ht⟩ := isCl_of I.hok ha
  cases e
  obtain ⟨b', u, u', e, hu2⟩ := isCl_of I.hok hb
  cases e
  have R := Ob.RcOp.tuples_lt (A := X.A) (s := s) (e := fun j => if j = 0 then c.1 == d.1 else c.2 == d.2)
    (r := fun j => if j = 0 then decide (c.1.cps.toList < d.1.cps.toList) else decide (c.2 < d.2)) ht hu2 hu
    (fun j h1 h2 => by
      have h1 : j < 2 := h1
      match j, h1 with
      | 0, _ => exact SeqAt.EqAt.str_str c.1 t d.1 u
      | 1, _ => exact SeqAt.EqAt.int_int c.2 t' d.2 u')
    (fun j h1 h2 _ => by
      have h1 : j < 2 := h1
      match j, h1 with
      | 0, _ => exact fun _ _ _ _ h => PyProof.Rows.lt_str h
      | 1, _ => exact fun _ _ _ _ h => PyProof.Rows.lt_int h)
  have e : Ob.lexAt (fun j => if j = 0 then c.1 == d.1 else c.2 == d.2) (fun j => if j = 0 then decide (c.1.cps.toList < d.1.cps.toList) else decide (c.2 < d.2)) (decide (2 < 2)) 0 (min 2 2) = ltC c d := by
    show (if (c.1 == d.1) = true then (if (c.2 == d.2) = true then decide (2 < 2) else decide (c.2 < d.2)) else decide (c.1.cps.toList < d.1.cps.toList)) = ltC c d
    unfold ltC
    by_cases e1 : c.1 = d.1
    · rw [if_pos (beq_iff_eq.mpr e1), if_pos e1]
      by_cases e2 : c.2 = d.2
      · rw [if_pos (beq_iff_eq.mpr e2), e2, decide_eq_false (Int.lt_irrefl _)]
        rfl
      · rw [if_neg fun z => e2 (beq_iff_eq.mp z)]
    · rw [if_neg fun z => e1 (beq_iff_eq.mp z), if_neg e1]
  have R2 : Ob.RcOp .Lt X.A s (.ref a) (.ref b) (ltC c d) := by
    rw [← e]
    exact R
  have z : wpAny (model X.prog X.w) X.A (compareOp .Lt (.ref a) (.ref b)) (EP X pins σ Q) X.xe s :=
    R2 X.prog X.w X.xe (EP X pins σ Q) ⟨.bl _, H, I, rfl, q⟩
  exact z
end AskG
/-! {k: v for .. in ..}, the keys tuples. -/
namespace AskG
open PySem PySem.Spec PyProof.Rows L2

theorem setT {X : Cx} {pins : List (Addr × Obj)} {σ : L2.St} {H : Hp} {s : Shared} {E : Value → Shared → Prop} {D b : Addr}
    {kvs : List (List Key × V)} {k : List Key} {v : V} {r : Value} {Q : Unit → Shared → Prop} (hu : X.A.units + 1 < cLine)
    (I : Inv X pins σ H s) (hD : H D = some (.dT kvs)) (hb : H b = some (.tup (k.map kV))) (hz : kvs.length < sizeLine)
    (rv : RelV v r) (h : ∀ s', Inv X pins σ (upd H D (.dT (putK kvs k v))) s' → Q () s') :
    wpAny (model X.prog X.w) X.A (dictSet D (.ref b) r) Q E s := by
  obtain ⟨z, hd, xs, rel, dd⟩ := dt_of I.hok hD
  have hx : xs.length ≤ sizeLine := by
    rw [← Paired.length rel]
    exact z
  have hl : (putK kvs k v).length ≤ sizeLine := by
    have := length_putK kvs k v
    omega
  refine wpAny_dictSet_heap (hsz := hx) (knd := tupleKind (mixKind X.prog X.w)) (show X.A.units < cLine by omega)
    (key_of I.hok hb) dd fun h' dd' hs => h _ ?_
  obtain ⟨q, es, ep, hq, h2, h3, h4, _, h5⟩ := dd'
  refine d_write I (by rw [hD]; exact True.intro) hs ⟨q, hq⟩
    ⟨hl, hd, _, (rel.put k hb rv).keeps fun c ys ec => ?_, q, es, ep, hq, h2, h3, h4, h5⟩
  rw [upd_ne (ne_of ec hD (fun z => nomatch z))]
  exact ec

/-- the reading: D the new dict -/
def tDcT (wi : TI) (g : TG) (tk tv : TE) (vs : List Nat) : TE := fun σ H Q => wi σ H fun J H1 => ∀ D, H1 D = none →
  ∃ W : Nat → Nat → Hp → Prop, (∃ m, W 0 m (upd H1 D (.dT []))) ∧ ∀ i m H, W i m H →
    (J.stop i H ∧ Q (.ref D) H) ∨ (J.go i H ∧ ∃ Nx : Hp → Prop, (∀ H', Nx H' → ∃ m', m' < m ∧ W (i + 1) m' H') ∧
      ∀ x H', J.yld i H x H' → g x (wipe σ vs) H' fun σ2 H2 => wipe σ2 vs = wipe σ vs ∧
        tk σ2 H2 fun y H4 => tv σ2 H4 fun z H5 => ∃ b kvs k, y = .ref b ∧ H5 b = some (.tup (k.map kV)) ∧
          H5 D = some (.dT kvs) ∧ kvs.length < sizeLine ∧ Nx (upd H5 D (.dT (putK kvs k z))))

section
variable {X : Cx}
theorem pe_dcT {kx vx tg iter : Expr} {scope : Scope} {own : List (Str × Nat)} {pos : Pos} {wi : TI} {g : TG} {tk tv : TE}
    (hu : X.A.units + 1 < cLine) (hc : X.calm = true) (hN : X.N.Nodup) (hi : PI X tg iter wi) (ok : BlkOk X.N X.env.scope scope own)
    (hg : ∀ (s : Shared) (H : Hp) (C : Addr) (cl : List (Str × Addr)) (fp : List Addr),
      PG (X.blk s H scope (compEnvC scope cl C X.env) fp) tg g)
    (hk : ∀ (s : Shared) (H : Hp) (C : Addr) (cl : List (Str × Addr)) (fp : List Addr),
      PE (X.blk s H scope (compEnvC scope cl C X.env) fp) kx tk)
    (he : ∀ (s : Shared) (H : Hp) (C : Addr) (cl : List (Str × Addr)) (fp : List Addr),
      PE (X.blk s H scope (compEnvC scope cl C X.env) fp) vx tv)
    (hs : ∀ x, foldedSetIterable iter X.env x = pure x := by intro _; rfl) :
    PE X (.DictComp kx vx [⟨tg, iter, [], 0⟩] scope pos) (tDcT wi g tk tv (own.map (·.2))) := by
  constructor
  intro pins s σ H Q I h
  rw [arm_eval_DictComp]
  have hfree : ∀ y ∈ scope.names, y.2 = .free → ∃ c, X.env.cells.lookup y.1 = some c := by
    intro y hy e
    exact (ok.free y hy e).elim (fun k => I.ok.has _ (.inl k)) fun k => I.ok.has _ (.inr k)
  refine wpAny_comprehension_free rfl hs (closure_ok hfree) ok.kind (fun y hy e => by rw [ok.uniq y hy, e])
    (thn (hi.run pins s σ H _ I h) fun xv s1 hx => thn hx ?_)
  rintro itv s2 ⟨it, fp, tn, J, H2, e, I2, T, st2, f2, q⟩
  subst e
  refine wpAny_newObj_type (newEnv_comp ?_)
  generalize hD : s2.heap.objs.size = D
  have hDn : H2 D = none := I2.hok.fresh (Nat.le_of_eq hD)
  obtain ⟨W, ⟨m0, w0⟩, turn⟩ := q D hDn
  generalize hs3 : ({ s2 with heap := s2.heap.push { cls := .type "dict", data := .dict #[] } } : Shared) = s3
  have I3 : Inv X pins σ (upd H2 D (.dT [])) s3 := by
    rw [← hs3]
    refine I2.laid (t' := s2.toks) (fun b o e => Heap.get?_push_of_some _ e) (Nat.le_of_eq hD) ?_
    rw [← hD]
    exact dt_empty s2.heap I2.big
  have h3 : s3.heap = s2.heap.push { cls := .type "dict", data := .dict #[] } := by rw [← hs3]
  have sz : ∀ b ∈ fp, b < s2.heap.objs.size := fun b hb => (T.obj _ _ st2 b hb).elim fun o e => Heap.lt_size e.1
  have f3 : ∀ b ∈ fp, FpOk X pins (upd H2 D (.dT [])) b ∧ b < s3.heap.objs.size := by
    intro b hb
    have hlt := sz b hb
    refine ⟨⟨?_, (f2 b hb).2⟩, by rw [h3, Heap.size_push]; exact Nat.lt_succ_of_lt hlt⟩
    rw [upd_ne (by rw [← hD]; exact Nat.ne_of_lt hlt)]
    exact (f2 b hb).1
  have st3 : tn 0 s3.heap := T.keep _ _ _ st2 fun b _ o e => by
    rw [h3]
    exact Heap.get?_push_of_some _ e
  have I4 := block_start I3 ok hN f3
  have pg := hg s3 (upd H2 D (.dT [])) s3.heap.objs.size
    (cellsFrom (s3.heap.objs.size + 1) scope.names (cloFrom X.env.cells scope.names [])) fp
  have pk := hk s3 (upd H2 D (.dT [])) s3.heap.objs.size
    (cellsFrom (s3.heap.objs.size + 1) scope.names (cloFrom X.env.cells scope.names [])) fp
  have pe := he s3 (upd H2 D (.dT [])) s3.heap.objs.size
    (cellsFrom (s3.heap.objs.size + 1) scope.names (cloFrom X.env.cells scope.names [])) fp
  have nfp : ∀ b ∈ fp, (upd H2 D (.dT [])) b = none := fun b hb => (f3 b hb).1.1
  show codeAny _ _ (.compStart (.DictComp kx vx [⟨tg, iter, [], 0⟩] scope pos) 0 (.ref it) (.ref D)
    (compEnvC scope (cellsFrom (s3.heap.objs.size + 1) scope.names (cloFrom X.env.cells scope.names [])) s3.heap.objs.size X.env)) _
    { s3 with heap := pushCells (s3.heap.push { cls := .type "dict", data := .dict #[] }) scope.names }
  generalize hce : compEnvC scope (cellsFrom (s3.heap.objs.size + 1) scope.names (cloFrom X.env.cells scope.names [])) s3.heap.objs.size X.env = ce at I4 pg pk pe ⊢
  have cL : ce.locals = s3.heap.objs.size := by
    subst hce
    rfl
  generalize hH3 : upd H2 D (.dT []) = H3 at I3 I4 pg pk pe w0 nfp f3
  generalize hs4 : ({ s3 with heap := pushCells (s3.heap.push { cls := .type "dict", data := .dict #[] }) scope.names } : Shared) = s4 at I4 ⊢
  have st4 : tn 0 s4.heap := T.keep _ _ _ st3 fun b _ o e => by
    rw [← hs4]
    exact pushCells_keeps _ _ _ _ (Heap.get?_push_of_some _ e)
  have stat : ∀ {σ' : L2.St} {H' : Hp} {s' : Shared}, Inv (X.blk s3 H3 scope ce fp) [] σ' H' s' → (∀ b ∈ fp, H' b = none) →
      ∀ b ∈ fp, FpOk (X.blk s3 H3 scope ce fp) [] H' b := by
    intro σ' H' s' I' hn b hb
    exact ⟨hn b hb, (I'.ok.exf b hb).1, I'.ok.exfs b hb, .inl hb, fun x c e => (I'.ok.exf b hb).2 x c e,
      fun p hp => absurd (show p ∈ ([] : List (Addr × Obj)) ++ [] from hp) (by simp)⟩
  refine codeAny_compStart_dict ?loop (T.self X.A 0 _ _ _ st4 ?loop)
  refine compLoop_anyD (fun n s' => ∃ i H', Inv (X.blk s3 H3 scope ce fp) [] (wipe σ (own.map (·.2))) H' s' ∧ tn i s'.heap ∧
    (∀ b ∈ fp, H' b = none) ∧ W i n H') ?_ m0 ⟨0, H3, I4, st4, nfp, w0⟩
  rintro n s5 ⟨i, H5, I5, st5, n5, w5⟩
  rcases turn i n H5 w5 with ⟨stop, qq⟩ | ⟨go, Nx, hNx, step⟩
  · have td := T.done (X.blk s3 H3 scope ce fp) rfl rfl rfl hc i [] s5 _ H5 (fun _ _ => False) I5 (stat I5 n5) st5 stop
    refine thnF td ?_
    rintro r s6 ⟨hr, I6⟩
    subst hr
    have I7 : Inv X pins σ H5 s6 := I3.call' (ch := fp) I6.os I6.base I6.hok I6.bare fun b hb =>
      ⟨(f3 b hb).1.2.2.2.1, (f3 b hb).1.2.1, (f3 b hb).1.2.2.2.2.1, (f3 b hb).1.2.2.2.2.2⟩
    have nC : H5 s3.heap.objs.size = none := by
      have z : H5 ce.locals = none := I6.free
      rw [cL] at z
      exact z
    obtain ⟨m, hn, _⟩ := I6.loc
    have hn : s6.heap.Ns ce.locals m := hn
    rw [cL] at hn
    obtain ⟨f0, f1, f2, f3, f4, f5⟩ := I3.fpOk (Nat.le_refl _) nC
    refine ⟨m, hn, fun h'' sb => ?_⟩
    exact ⟨.ref D, H5, I7.turned (t' := s6.toks) (fun b o hb e => (sb.2 b hb).trans e) f0 f1 f3 f4 f5, rfl, qq⟩
  · have ti := T.item (X.blk s3 H3 scope ce fp) rfl rfl rfl hc i [] s5 _ H5 (fun _ _ => False) I5 (stat I5 n5) st5 go
    refine thnF ti ?_
    rintro r s6 ⟨u, hr, h6⟩
    subst hr
    refine thnF h6 ?_
    rintro _ s7 ⟨x, H7, I7, r7, y7, st7, n7⟩
    have I7' := I7.pinned (stat I7 n7) (T.obj _ _ st7)
    refine thnF (pg.run _ s7 _ H7 x u _ I7' r7 (step x H7 y7)) ?_
    rintro _ s8 ⟨σ8, H8, I8, hw8, q8⟩
    refine wpAny_pure ?_
    have fin : ∀ {s' : Shared} {H' : Hp}, Inv (X.blk s3 H3 scope ce fp) ([] ++ pinsAt fp s7.heap) σ8 H' s' → Nx H' →
        ∃ m, m < n ∧ ∃ i H', Inv (X.blk s3 H3 scope ce fp) [] (wipe σ (own.map (·.2))) H' s' ∧ tn i s'.heap ∧ (∀ b ∈ fp, H' b = none) ∧ W i m H' := by
      intro s' H' I' nx
      obtain ⟨m', hm, w'⟩ := hNx H' nx
      have pin' : ∀ b ∈ fp, ∀ o, s7.heap.get? b = some o → s'.heap.get? b = some o ∧ H' b = none := by
        intro b hb o e
        have z := I'.pin (b, o) (List.mem_append_right _ (List.mem_append_right _ (mem_pinsAt hb e)))
        exact ⟨z.1, z.2.1⟩
      have hl : (wipe σ (own.map (·.2))).length = σ8.length := by rw [← hw8, wipe_length]
      refine ⟨m', hm, i + 1, H', (I'.unpinned (pins := [])).weak hl (fun j v e => ?_),
        T.keep _ _ _ st7 fun b hb o e => (pin' b hb o e).1, fun b hb => ?_, w'⟩
      · rw [← hw8] at e
        exact (wipe_some e).1
      · obtain ⟨o, e, _⟩ := T.obj _ _ st7 b hb
        exact (pin' b hb o e).2
    show wpAny _ _ (eval kx ce) _ _ _
    refine thnF (pk.run _ s8 σ8 H8 _ I8 q8) ?_
    rintro z s10 ⟨yk, H10, I10, r10, q10⟩
    refine thnF (pe.run _ s10 σ8 H10 _ I10 q10) ?_
    rintro z2 s11 ⟨yv, H11, I11, r11, b, kvs, k, ek, hb, hD11, hz11, nx⟩
    subst ek
    cases r10
    exact setT (X := X.blk s3 H3 scope ce fp) hu I11 hD11 hb hz11 r11 fun s12 I12 => fin I12 nx
end
end AskG
/-! The mathematics of rows: sums, multiples, parts, effects. -/
namespace AskG
open PySem PySem.Spec PyProof.Rows L2

abbrev RowD := List (Cell × Int)
def getO (m : RowD) (c : Cell) : Option Int := (m.find? fun x => decide (x.1 = c)).map (·.2)
def get0 (m : RowD) (c : Cell) : Int := (getO m c).getD 0
def putC (m : RowD) (c : Cell) (w : Int) : RowD :=
  if m.any (fun x => decide (x.1 = c)) then m.map (fun x => if x.1 = c then (x.1, w) else x) else m ++ [(c, w)]
def keys (m : RowD) : List Cell := m.map (·.1)
/-- as the dict holds it -/
def dk (m : RowD) : List (List Key × V) := m.map fun x => (ck x.1, .int x.2)

theorem dk_keys (m : RowD) : (dk m).map (·.1) = (keys m).map ck := by
  unfold dk keys
  rw [List.map_map, List.map_map]
  rfl
theorem dk_length (m : RowD) : (dk m).length = m.length := List.length_map _
theorem getO_cons (x : Cell × Int) (m : RowD) (c : Cell) : getO (x :: m) c = if x.1 = c then some x.2 else getO m c := by
  unfold getO
  rw [List.find?_cons]
  by_cases h : x.1 = c <;> simp [h]
theorem get0_cons (x : Cell × Int) (m : RowD) (c : Cell) : get0 (x :: m) c = if x.1 = c then x.2 else get0 m c := by
  unfold get0
  rw [getO_cons]
  by_cases h : x.1 = c <;> simp [h]
theorem get0_nil (c : Cell) : get0 [] c = 0 := rfl
theorem dk_val : ∀ (m : RowD) (c : Cell), valV (dk m) (ck c) = (getO m c).map V.int
  | [], _ => rfl
  | x :: m, c => by
    rw [getO_cons]
    by_cases h : x.1 = c
    · rw [if_pos h]
      exact valV_pos (p := (ck x.1, V.int x.2)) (congrArg ck h)
    · rw [if_neg h]
      exact (valV_neg (p := (ck x.1, V.int x.2)) (fun e => h (ck_inj e))).trans (dk_val m c)
theorem dk_any (m : RowD) (c : Cell) : ((dk m).any fun kv => decide (kv.1 = ck c)) = m.any fun x => decide (x.1 = c) := by
  unfold dk
  rw [List.any_map]
  congr 1
  funext x
  show decide (ck x.1 = ck c) = decide (x.1 = c)
  by_cases h : x.1 = c
  · rw [h, decide_eq_true rfl, decide_eq_true rfl]
  · rw [decide_eq_false h, decide_eq_false fun e => h (ck_inj e)]
theorem dk_put (m : RowD) (c : Cell) (w : Int) : putK (dk m) (ck c) (.int w) = dk (putC m c w) := by
  unfold putK putC
  rw [dk_any]
  by_cases h : (m.any fun x => decide (x.1 = c)) = true
  · rw [if_pos h, if_pos h]
    unfold dk
    rw [List.map_map, List.map_map]
    refine List.map_congr_left fun x _ => ?_
    show (if ck x.1 = ck c then (ck x.1, V.int w) else (ck x.1, V.int x.2)) = _
    by_cases g : x.1 = c
    · rw [if_pos (congrArg ck g)]
      show _ = (fun x : Cell × Int => (ck x.1, V.int x.2)) (if x.1 = c then (x.1, w) else x)
      rw [if_pos g]
    · rw [if_neg fun e => g (ck_inj e)]
      show _ = (fun x : Cell × Int => (ck x.1, V.int x.2)) (if x.1 = c then (x.1, w) else x)
      rw [if_neg g]
  · rw [if_neg h, if_neg h]
    unfold dk
    rw [List.map_append]
    rfl
theorem mem_any {m : RowD} {c : Cell} : (m.any fun x => decide (x.1 = c)) = true ↔ c ∈ keys m := by
  rw [List.any_eq_true]
  unfold keys
  constructor
  · rintro ⟨x, hx, e⟩
    exact List.mem_map.mpr ⟨x, hx, of_decide_eq_true e⟩
  · intro h
    obtain ⟨x, hx, e⟩ := List.mem_map.mp h
    exact ⟨x, hx, decide_eq_true e⟩
theorem keys_put (m : RowD) (c : Cell) (w : Int) : keys (putC m c w) = if c ∈ keys m then keys m else keys m ++ [c] := by
  unfold putC
  by_cases h : (m.any fun x => decide (x.1 = c)) = true
  · rw [if_pos h, if_pos (mem_any.mp h)]
    unfold keys
    rw [List.map_map]
    refine List.map_congr_left fun x _ => ?_
    show (if x.1 = c then (x.1, w) else x).1 = x.1
    by_cases g : x.1 = c
    · rw [if_pos g]
    · rw [if_neg g]
  · rw [if_neg h, if_neg fun z => h (mem_any.mpr z)]
    unfold keys
    rw [List.map_append]
    rfl
theorem nodup_put {m : RowD} (n : (keys m).Nodup) (c : Cell) (w : Int) : (keys (putC m c w)).Nodup := by
  rw [keys_put]
  by_cases h : c ∈ keys m
  · rw [if_pos h]
    exact n
  · rw [if_neg h]
    refine List.nodup_append.mpr ⟨n, List.nodup_cons.mpr ⟨by simp, List.nodup_nil⟩, fun a ha b hb e => ?_⟩
    rw [List.mem_singleton.mp hb] at e
    exact h (e ▸ ha)
theorem length_put (m : RowD) (c : Cell) (w : Int) : (putC m c w).length ≤ m.length + 1 := by
  unfold putC
  split
  · rw [List.length_map]
    omega
  · rw [List.length_append]
    exact Nat.le_refl _
theorem mem_put {m : RowD} {c : Cell} {w : Int} {x : Cell × Int} (h : x ∈ putC m c w) : x ∈ m ∨ x = (c, w) := by
  unfold putC at h
  split at h
  · obtain ⟨y, hy, e⟩ := List.mem_map.mp h
    by_cases g : y.1 = c
    · rw [if_pos g] at e
      rw [← e, g]
      exact Or.inr rfl
    · rw [if_neg g] at e
      rw [← e]
      exact Or.inl hy
  · rcases List.mem_append.mp h with h | h
    · exact Or.inl h
    · exact Or.inr (List.mem_singleton.mp h)
theorem put_new {m : RowD} {c : Cell} {w : Int} (h : c ∉ keys m) : putC m c w = m ++ [(c, w)] := by
  unfold putC
  rw [if_neg fun z => h (mem_any.mp z)]
theorem getO_none {m : RowD} {c : Cell} (h : c ∉ keys m) : getO m c = none := by
  induction m with
  | nil => rfl
  | cons x m ih =>
    rw [getO_cons, if_neg fun e => h (by rw [← e]; exact List.mem_cons_self)]
    exact ih fun z => h (List.mem_cons_of_mem _ z)
theorem get0_none {m : RowD} {c : Cell} (h : c ∉ keys m) : get0 m c = 0 := by
  unfold get0
  rw [getO_none h]
  rfl
theorem getO_some {m : RowD} {c : Cell} (h : c ∈ keys m) : ∃ w, getO m c = some w ∧ (c, w) ∈ m := by
  induction m with
  | nil => cases h
  | cons x m ih =>
    rw [getO_cons]
    by_cases e : x.1 = c
    · rw [if_pos e]
      exact ⟨x.2, rfl, by rw [← e]; exact List.mem_cons_self⟩
    · rw [if_neg e]
      rcases List.mem_cons.mp h with g | g
      · exact absurd g.symm e
      · obtain ⟨w, h1, h2⟩ := ih g
        exact ⟨w, h1, List.mem_cons_of_mem _ h2⟩
theorem getO_mem {m : RowD} (n : (keys m).Nodup) {x : Cell × Int} (h : x ∈ m) : getO m x.1 = some x.2 := by
  induction m with
  | nil => cases h
  | cons y m ih =>
    rw [getO_cons]
    have n' := List.nodup_cons.mp n
    rcases List.mem_cons.mp h with e | h
    · rw [e, if_pos rfl]
    · rw [if_neg, ih n'.2 h]
      intro e
      refine n'.1 ?_
      show y.1 ∈ keys m
      rw [e]
      exact List.mem_map_of_mem h
theorem get0_mem {m : RowD} (n : (keys m).Nodup) {x : Cell × Int} (h : x ∈ m) : get0 m x.1 = x.2 := by
  unfold get0
  rw [getO_mem n h]
  rfl

/-! ### the dicts that are made -/
def ofRow (r : RowD) : RowD := r.foldl (fun m x => putC m x.1 x.2) []
def addF (m : RowD) (r : RowD) (t : Int) : RowD := r.foldl (fun m x => putC m x.1 (get0 m x.1 + t * x.2)) m
theorem nodup_fold (f : RowD → Cell × Int → Int) : ∀ (r m : RowD), (keys m).Nodup → (keys (r.foldl (fun m x => putC m x.1 (f m x)) m)).Nodup
  | [], _, h => h
  | x :: r, m, h => nodup_fold f r _ (nodup_put h _ _)
theorem length_fold (f : RowD → Cell × Int → Int) : ∀ (r m : RowD), (r.foldl (fun m x => putC m x.1 (f m x)) m).length ≤ m.length + r.length
  | [], m => Nat.le_refl _
  | x :: r, m => by
    have h1 := length_fold f r (putC m x.1 (f m x))
    have h2 := length_put m x.1 (f m x)
    rw [List.length_cons]
    show (r.foldl (fun m x => putC m x.1 (f m x)) (putC m x.1 (f m x))).length ≤ _
    omega
theorem ofRow_nodup (r : RowD) : (keys (ofRow r)).Nodup := nodup_fold (fun _ x => x.2) r [] List.nodup_nil
theorem addF_nodup {m : RowD} (h : (keys m).Nodup) (r : RowD) (t : Int) : (keys (addF m r t)).Nodup := nodup_fold (fun m x => get0 m x.1 + t * x.2) r m h
theorem ofRow_length (r : RowD) : (ofRow r).length ≤ r.length := by
  have := length_fold (fun _ x => x.2) r []
  rw [List.length_nil, Nat.zero_add] at this
  exact this
theorem addF_length (m r : RowD) (t : Int) : (addF m r t).length ≤ m.length + r.length := length_fold (fun m x => get0 m x.1 + t * x.2) r m
theorem fold_app : ∀ (r m : RowD), (keys (m ++ r)).Nodup → r.foldl (fun m x => putC m x.1 x.2) m = m ++ r
  | [], m, _ => (List.append_nil m).symm
  | x :: r, m, h => by
    have e : m ++ x :: r = (m ++ [x]) ++ r := by simp
    have hx : x.1 ∉ keys m := by
      unfold keys at h ⊢
      rw [List.map_append, List.map_cons] at h
      intro hm
      exact (List.nodup_append.mp h).2.2 _ hm _ List.mem_cons_self rfl
    show r.foldl _ (putC m x.1 x.2) = _
    rw [put_new hx, e]
    rw [e] at h
    exact fold_app r _ h
theorem ofRow_self {r : RowD} (h : (keys r).Nodup) : ofRow r = r := fold_app r [] h
theorem addF_app (t : Int) : ∀ (r m : RowD), (keys (m ++ r)).Nodup → addF m r t = m ++ r.map fun x => (x.1, t * x.2)
  | [], m, _ => (List.append_nil m).symm
  | x :: r, m, h => by
    have hx : x.1 ∉ keys m := by
      unfold keys at h ⊢
      rw [List.map_append, List.map_cons] at h
      intro hm
      exact (List.nodup_append.mp h).2.2 _ hm _ List.mem_cons_self rfl
    show addF (putC m x.1 (get0 m x.1 + t * x.2)) r t = _
    rw [put_new hx, get0_none hx, Int.zero_add]
    have e : (m ++ [(x.1, t * x.2)]) ++ r.map (fun x => (x.1, t * x.2)) = m ++ (x :: r).map fun x => (x.1, t * x.2) := by simp
    rw [← e]
    refine addF_app t r _ ?_
    unfold keys at h ⊢
    rw [show (m ++ [(x.1, t * x.2)] ++ r).map (·.1) = (m ++ x :: r).map (·.1) by simp]
    exact h

/-! ### sorted cells -/
def insC (c : Cell) : List Cell → List Cell
  | [] => [c]
  | d :: l => if ltC c d = true then c :: d :: l else d :: insC c l
def sortC (l : List Cell) : List Cell := l.foldr insC []
theorem insC_perm (c : Cell) : ∀ l, (insC c l).Perm (c :: l)
  | [] => List.Perm.refl _
  | d :: l => by
    unfold insC
    split
    · exact List.Perm.refl _
    · exact ((insC_perm c l).cons d).trans (List.Perm.swap c d l)
theorem sortC_perm : ∀ l, (sortC l).Perm l
  | [] => List.Perm.refl _
  | c :: l => (insC_perm c (sortC l)).trans ((sortC_perm l).cons c)
abbrev Rising (l : List Cell) : Prop := l.Pairwise fun a b => ltC a b = true
theorem insC_rising {c : Cell} : ∀ {l : List Cell}, Rising l → c ∉ l → Rising (insC c l)
  | [], _, _ => List.pairwise_singleton _ _
  | d :: l, h, n => by
    have hd := List.pairwise_cons.mp h
    unfold insC
    split
    · rename_i hc
      refine List.pairwise_cons.mpr ⟨fun a ha => ?_, h⟩
      rcases List.mem_cons.mp ha with e | ha
      · rw [e]
        exact hc
      · exact ltC_trans hc (hd.1 a ha)
    · rename_i hc
      have hdc : ltC d c = true := by
        rcases ltC_tri d c with g | g | g
        · exact g
        · exact absurd (g ▸ List.mem_cons_self) n
        · exact absurd g hc
      refine List.pairwise_cons.mpr ⟨fun a ha => ?_, insC_rising hd.2 fun z => n (List.mem_cons_of_mem _ z)⟩
      rcases List.mem_cons.mp ((insC_perm c l).mem_iff.mp ha) with e | ha
      · rw [e]
        exact hdc
      · exact hd.1 a ha
theorem sortC_rising : ∀ {l : List Cell}, l.Nodup → Rising (sortC l)
  | [], _ => List.Pairwise.nil
  | c :: l, n => insC_rising (sortC_rising (List.nodup_cons.mp n).2) fun z => (List.nodup_cons.mp n).1 ((sortC_perm l).mem_iff.mp z)
theorem rising_uniq : ∀ {a b : List Cell}, a.Perm b → Rising a → Rising b → a = b
  | [], b, p, _, _ => by
    cases b with
    | nil => rfl
    | cons y b => exact absurd (p.mem_iff.mpr List.mem_cons_self) (by simp)
  | x :: a, [], p, _, _ => absurd (p.mem_iff.mp List.mem_cons_self) (by simp)
  | x :: a, y :: b, p, ha, hb => by
    have hx := List.pairwise_cons.mp ha
    have hy := List.pairwise_cons.mp hb
    have e : x = y := by
      rcases List.mem_cons.mp (p.mem_iff.mp List.mem_cons_self) with e | h1
      · exact e
      · rcases List.mem_cons.mp (p.mem_iff.mpr List.mem_cons_self) with e | h2
        · exact e.symm
        · have := ltC_trans (hx.1 _ h2) (hy.1 _ h1)
          rw [ltC_irr] at this
          cases this
    subst e
    rw [rising_uniq (List.Perm.cons_inv p) hx.2 hy.2]
theorem rising_nodup {l : List Cell} (h : Rising l) : l.Nodup := h.imp fun h e => by
  rw [e, ltC_irr] at h
  cases h
theorem sortC_self {l : List Cell} (h : Rising l) : sortC l = l := rising_uniq (sortC_perm l) (sortC_rising (rising_nodup h)) h

/-! ### tidy rows -/
def pick (m : RowD) (ys : List Cell) : RowD := (ys.map fun c => (c, get0 m c)).filter fun x => decide (x.2 ≠ 0)
def tidy (m : RowD) : RowD := pick m (sortC (keys m))
structure OkRow (r : RowD) : Prop where
  up : Rising (keys r)
  nz : ∀ x ∈ r, x.2 ≠ 0
theorem keys_pick (m : RowD) (ys : List Cell) : (keys (pick m ys)).Sublist ys := by
  unfold pick keys
  have h := (List.filter_sublist (l := ys.map fun c => (c, get0 m c)) (p := fun x => decide (x.2 ≠ 0))).map (·.1)
  rw [List.map_map] at h
  have e : ys.map ((fun x : Cell × Int => x.1) ∘ fun c => (c, get0 m c)) = ys := by
    rw [show ((fun x : Cell × Int => x.1) ∘ fun c => (c, get0 m c)) = id from rfl]
    exact List.map_id _
  rw [e] at h
  exact h
theorem ok_tidy {m : RowD} (n : (keys m).Nodup) : OkRow (tidy m) :=
  ⟨(sortC_rising n).sublist (keys_pick m _), fun x hx => of_decide_eq_true (List.mem_filter.mp hx).2⟩
theorem tidy_length (m : RowD) : (tidy m).length ≤ m.length := by
  have h := (keys_pick m (sortC (keys m))).length_le
  rw [(sortC_perm (keys m)).length_eq] at h
  unfold keys at h
  rw [List.length_map, List.length_map] at h
  exact h
theorem tidy_mem {m : RowD} (n : (keys m).Nodup) {x : Cell × Int} (h : x ∈ tidy m) : x ∈ m := by
  have h := (List.mem_filter.mp h).1
  obtain ⟨c, hc, e⟩ := List.mem_map.mp h
  obtain ⟨w, h1, h2⟩ := getO_some ((sortC_perm (keys m)).mem_iff.mp hc)
  rw [← e]
  have : get0 m c = w := by
    unfold get0
    rw [h1]
    rfl
  rw [this]
  exact h2
def addR (a b : RowD) (t : Int) : RowD := tidy (addF (ofRow a) b t)
def scaleR (r : RowD) (t : Int) : RowD := if t = 0 then [] else r.map fun x => (x.1, x.2 * t)
theorem tidy_self {r : RowD} (h : Rising (keys r)) : tidy r = r.filter fun x => decide (x.2 ≠ 0) := by
  unfold tidy pick
  rw [sortC_self h]
  have n := rising_nodup h
  have e : (keys r).map (fun c => (c, get0 r c)) = r := by
    unfold keys
    rw [List.map_map]
    have : ∀ x ∈ r, ((fun c => (c, get0 r c)) ∘ fun x : Cell × Int => x.1) x = id x := by
      intro x hx
      show (x.1, get0 r x.1) = x
      rw [get0_mem n hx]
    rw [List.map_congr_left this]
    exact List.map_id _
  rw [e]
theorem addR_nil {r : RowD} (h : OkRow r) (t : Int) : addR [] r t = scaleR r t := by
  unfold addR
  have e0 : ofRow [] = [] := rfl
  rw [e0, addF_app t r [] (rising_nodup h.up), List.nil_append]
  have hk : keys (r.map fun x => (x.1, t * x.2)) = keys r := by
    unfold keys
    rw [List.map_map]
    rfl
  rw [tidy_self (by rw [hk]; exact h.up)]
  unfold scaleR
  by_cases ht : t = 0
  · rw [if_pos ht]
    refine List.filter_eq_nil_iff.mpr fun x hx => ?_
    obtain ⟨y, _, e⟩ := List.mem_map.mp hx
    rw [← e, ht]
    simp
  · rw [if_neg ht, List.filter_eq_self.mpr fun x hx => ?_]
    · refine List.map_congr_left fun x _ => ?_
      rw [Int.mul_comm]
    · obtain ⟨y, hy, e⟩ := List.mem_map.mp hx
      rw [← e]
      exact decide_eq_true (Int.mul_ne_zero ht (h.nz y hy))

/-! ### effects -/
def effR (a b : RowD) : Int := (a.map fun x => x.2 * get0 (ofRow b) x.1).sum
theorem sum_at (c : Cell) (v : Int) : ∀ {b : RowD}, (keys b).Nodup → (b.map fun y => y.2 * (if c = y.1 then v else 0)).sum = v * get0 b c
  | [], _ => by simp [get0_nil]
  | y :: b, n => by
    have n' := List.nodup_cons.mp n
    rw [List.map_cons, List.sum_cons, sum_at c v n'.2, get0_cons]
    by_cases e : c = y.1
    · rw [if_pos e, if_pos e.symm, get0_none (by rw [e]; exact n'.1)]
      rw [Int.mul_comm]
      omega
    · rw [if_neg e, if_neg fun z => e z.symm]
      omega
theorem sum_split (f g h : Cell × Int → Int) : ∀ b : RowD, (∀ y ∈ b, f y = g y + h y) → (b.map f).sum = (b.map g).sum + (b.map h).sum
  | [], _ => rfl
  | y :: b, e => by
    rw [List.map_cons, List.map_cons, List.map_cons, List.sum_cons, List.sum_cons, List.sum_cons,
      sum_split f g h b fun z hz => e z (List.mem_cons_of_mem _ hz), e y List.mem_cons_self]
    omega
theorem sum_sym : ∀ {a b : RowD}, (keys a).Nodup → (keys b).Nodup →
    (a.map fun x => x.2 * get0 b x.1).sum = (b.map fun y => y.2 * get0 a y.1).sum
  | [], b, _, _ => by
    have : ∀ b : RowD, (b.map fun y : Cell × Int => y.2 * get0 [] y.1).sum = 0 := by
      intro b
      induction b with
      | nil => rfl
      | cons y b ih =>
        rw [List.map_cons, List.sum_cons, ih, get0_nil]
        omega
    rw [this]
    rfl
  | x :: a, b, na, nb => by
    have n' := List.nodup_cons.mp na
    rw [List.map_cons, List.sum_cons, sum_sym n'.2 nb]
    rw [sum_split (fun y => y.2 * get0 (x :: a) y.1) (fun y => y.2 * (if x.1 = y.1 then x.2 else 0)) (fun y => y.2 * get0 a y.1) b]
    · rw [sum_at x.1 x.2 nb]
    · intro y _
      show y.2 * get0 (x :: a) y.1 = y.2 * (if x.1 = y.1 then x.2 else 0) + y.2 * get0 a y.1
      rw [get0_cons]
      by_cases e : x.1 = y.1
      · rw [if_pos e, if_pos e, get0_none (by rw [← e]; exact n'.1)]
        omega
      · rw [if_neg e, if_neg e]
        omega
theorem effR_sym {a b : RowD} (ha : OkRow a) (hb : OkRow b) : effR a b = effR b a := by
  unfold effR
  rw [ofRow_self (rising_nodup ha.up), ofRow_self (rising_nodup hb.up)]
  exact sum_sym (rising_nodup ha.up) (rising_nodup hb.up)

/-! ### what a sum holds -/
theorem getO_map {m : RowD} {c d : Cell} {w : Int} : getO (m.map fun x => if x.1 = c then (x.1, w) else x) d = if d = c then (getO m d).map (fun _ => w) else getO m d := by
  induction m with
  | nil => by_cases h : d = c <;> simp [getO, h]
  | cons x m ih =>
    rw [List.map_cons, getO_cons, getO_cons, ih]
    by_cases h1 : x.1 = c
    · rw [if_pos h1]
      by_cases h2 : d = c
      · simp [h1, h2]
      · have h3 : ¬ c = d := fun e => h2 e.symm
        simp [h1, h2, h3]
    · rw [if_neg h1]
      by_cases h2 : d = c
      · have h3 : ¬ x.1 = d := fun e => h1 (e.trans h2)
        simp [h1, h2]
      · simp [h2]
theorem getO_app {m : RowD} {x : Cell × Int} {d : Cell} : getO (m ++ [x]) d = (getO m d).or (if x.1 = d then some x.2 else none) := by
  induction m with
  | nil =>
    rw [List.nil_append, getO_cons]
    rfl
  | cons y m ih =>
    rw [List.cons_append, getO_cons, getO_cons, ih]
    by_cases h : y.1 = d <;> simp [h]
theorem get0_put (m : RowD) (c d : Cell) (w : Int) : get0 (putC m c w) d = if d = c then w else get0 m d := by
  unfold putC get0
  by_cases h : (m.any fun x => decide (x.1 = c)) = true
  · rw [if_pos h, getO_map]
    by_cases e : d = c
    · rw [if_pos e, if_pos e]
      obtain ⟨v, hv, _⟩ := getO_some (mem_any.mp h)
      rw [e, hv]
      rfl
    · rw [if_neg e, if_neg e]
  · rw [if_neg h, getO_app]
    by_cases e : d = c
    · rw [if_pos e, if_pos e.symm, e, getO_none fun z => h (mem_any.mpr z)]
      rfl
    · rw [if_neg e, if_neg fun z => e z.symm]
      cases getO m d <;> rfl
theorem addF_get (t : Int) (d : Cell) : ∀ (r m : RowD), (keys r).Nodup → get0 (addF m r t) d = get0 m d + t * get0 r d
  | [], m, _ => by
    rw [get0_nil, Int.mul_zero, Int.add_zero]
    rfl
  | x :: r, m, n => by
    have n' := List.nodup_cons.mp n
    show get0 (addF (putC m x.1 (get0 m x.1 + t * x.2)) r t) d = _
    rw [addF_get t d r _ n'.2, get0_put, get0_cons]
    by_cases e : d = x.1
    · rw [if_pos e, if_pos e.symm, e, get0_none n'.1, Int.mul_zero, Int.add_zero]
    · rw [if_neg e, if_neg fun z => e z.symm]
theorem addF_keys (t : Int) (d : Cell) : ∀ (r m : RowD), d ∈ keys (addF m r t) → d ∈ keys m ∨ d ∈ keys r
  | [], m, h => Or.inl h
  | x :: r, m, h => by
    rcases addF_keys t d r _ h with h | h
    · rw [keys_put] at h
      by_cases e : x.1 ∈ keys m
      · rw [if_pos e] at h
        exact Or.inl h
      · rw [if_neg e] at h
        rcases List.mem_append.mp h with h | h
        · exact Or.inl h
        · rw [List.mem_singleton.mp h]
          exact Or.inr List.mem_cons_self
    · exact Or.inr (List.mem_cons_of_mem _ h)
theorem sub_length : ∀ {l m : List Cell}, l.Nodup → (∀ x ∈ l, x ∈ m) → l.length ≤ m.length
  | [], _, _, _ => Nat.zero_le _
  | x :: l, m, n, h => by
    have n' := List.nodup_cons.mp n
    have hx := h x List.mem_cons_self
    have := sub_length (l := l) (m := m.erase x) n'.2 fun y hy => (List.mem_erase_of_ne (a := y) (b := x) fun e => n'.1 (by rw [← e]; exact hy)).mpr (h y (List.mem_cons_of_mem _ hy))
    rw [List.length_erase_of_mem hx] at this
    have : 0 < m.length := List.length_pos_of_mem hx
    rw [List.length_cons]
    omega
/-- rows on some cells, with bounded weights -/
structure DrawnR (cs : List Cell) (B : Int) (r : RowD) : Prop where
  ok : OkRow r
  on : ∀ c ∈ keys r, c ∈ cs
  lit : ∀ c, -B ≤ get0 r c ∧ get0 r c ≤ B
theorem DrawnR.mono {cs : List Cell} {B C : Int} {r : RowD} (h : DrawnR cs B r) (e : B ≤ C) : DrawnR cs C r := ⟨h.ok, h.on, fun c => by have := h.lit c; omega⟩
theorem DrawnR.many {cs : List Cell} {B : Int} {r : RowD} (h : DrawnR cs B r) : r.length ≤ cs.length := by
  have := sub_length (rising_nodup h.ok.up) h.on
  unfold keys at this
  rw [List.length_map] at this
  exact this
theorem DrawnR.at' {cs : List Cell} {B : Int} {r : RowD} (h : DrawnR cs B r) {x : Cell × Int} (hx : x ∈ r) : -B ≤ x.2 ∧ x.2 ≤ B := by
  have := h.lit x.1
  rw [get0_mem (rising_nodup h.ok.up) hx] at this
  exact this
theorem get0_tidy {m : RowD} (n : (keys m).Nodup) (c : Cell) : get0 (tidy m) c = get0 m c := by
  by_cases h : c ∈ keys (tidy m)
  · obtain ⟨w, h1, h2⟩ := getO_some h
    have e1 : get0 (tidy m) c = w := by
      unfold get0
      rw [h1]
      rfl
    have e2 := get0_mem n (tidy_mem n h2)
    rw [e1]
    exact e2.symm
  · rw [get0_none h]
    by_cases hm : c ∈ keys m
    · by_cases h0 : get0 m c = 0
      · exact h0.symm
      · exfalso
        refine h ?_
        have : (c, get0 m c) ∈ tidy m := List.mem_filter.mpr ⟨List.mem_map.mpr ⟨c, (sortC_perm (keys m)).mem_iff.mpr hm, rfl⟩, decide_eq_true h0⟩
        exact List.mem_map_of_mem (f := fun x : Cell × Int => x.1) this
    · exact (get0_none hm).symm
theorem get0_ofRow {a : RowD} (h : OkRow a) (c : Cell) : get0 (ofRow a) c = get0 a c := by rw [ofRow_self (rising_nodup h.up)]
theorem get0_addR {a b : RowD} (ha : OkRow a) (hb : OkRow b) (t : Int) (c : Cell) : get0 (addR a b t) c = get0 a c + t * get0 b c := by
  unfold addR
  rw [get0_tidy (addF_nodup (ofRow_nodup a) b t), addF_get t c b _ (rising_nodup hb.up), get0_ofRow ha]
theorem DrawnR.sum {cs : List Cell} {B C : Int} {a b : RowD} (ha : DrawnR cs B a) (hb : DrawnR cs C b) : DrawnR cs (B + C) (addR a b 1) := by
  have n := addF_nodup (ofRow_nodup a) b 1
  refine ⟨ok_tidy n, fun c hc => ?_, fun c => ?_⟩
  · have h1 : c ∈ keys (addF (ofRow a) b 1) := by
      obtain ⟨x, hx, e⟩ := List.mem_map.mp hc
      rw [← e]
      exact List.mem_map_of_mem (tidy_mem n hx)
    rcases addF_keys 1 c b _ h1 with h | h
    · rw [ofRow_self (rising_nodup ha.ok.up)] at h
      exact ha.on c h
    · exact hb.on c h
  · rw [get0_addR ha.ok hb.ok, Int.one_mul]
    have h1 := ha.lit c
    have h2 := hb.lit c
    omega
theorem ok_nil : OkRow [] := ⟨List.Pairwise.nil, fun x hx => absurd hx (by simp)⟩
theorem drawn_nil {cs : List Cell} {B : Int} (h : 0 ≤ B) : DrawnR cs B [] := ⟨ok_nil, fun c hc => absurd hc (by simp [keys]), fun c => by rw [get0_nil]; omega⟩
theorem drawn_tidy {m : RowD} {cs : List Cell} {B : Int} (hm : keys m = cs) (n : cs.Nodup) (h0 : 0 ≤ B) (hB : ∀ x ∈ m, -B ≤ x.2 ∧ x.2 ≤ B) : DrawnR cs B (tidy m) := by
  have nm : (keys m).Nodup := by
    rw [hm]
    exact n
  refine ⟨ok_tidy nm, fun c hc => ?_, fun c => ?_⟩
  · rw [← hm]
    obtain ⟨x, hx, e⟩ := List.mem_map.mp hc
    rw [← e]
    exact List.mem_map_of_mem (tidy_mem nm hx)
  · rw [get0_tidy nm]
    by_cases h : c ∈ keys m
    · obtain ⟨w, h1, h2⟩ := getO_some h
      have : get0 m c = w := by
        unfold get0
        rw [h1]
        rfl
      rw [this]
      exact hB _ h2
    · rw [get0_none h]
      omega
end AskG
/-! Rows in the heap. -/
namespace AskG
open PySem PySem.Spec PyProof.Rows L2

def PairRow (H : Hp) (p : Addr) (x : Cell × Int) : Prop := ∃ b, H p = some (.tup [.ref b, .int x.2]) ∧ CellAt H b x.1
def RowAt (H : Hp) (r : Addr) (ρ : RowD) : Prop := ∃ ps : List Addr, H r = some (.tup (ps.map V.ref)) ∧ Paired (PairRow H) ps ρ
/-- the tuples stay -/
def KeepT (H H' : Hp) : Prop := ∀ b xs, H b = some (.tup xs) → H' b = some (.tup xs)
theorem KeepT.of {H H' : Hp} (h : Same H H') : KeepT H H' := fun b xs e => h b _ e
theorem KeepT.trans {H H1 H2 : Hp} (h : KeepT H H1) (g : KeepT H1 H2) : KeepT H H2 := fun b xs e => g b xs (h b xs e)
theorem KeepT.refl (H : Hp) : KeepT H H := fun _ _ e => e
theorem KeepT.new {H : Hp} {p : Addr} {o : HO} (h : H p = none) : KeepT H (upd H p o) := fun b xs e => by
  rw [upd_ne (ne_of_none e h)]
  exact e
theorem KeepT.put {H : Hp} {p : Addr} {o u : HO} (h : H p = some u) (n : ∀ xs, u ≠ .tup xs) : KeepT H (upd H p o) := fun b xs e => by
  rw [upd_ne (ne_of e h fun z => n xs z.symm)]
  exact e
theorem CellAt.keep {H H' : Hp} {b : Addr} {c : Cell} (h : CellAt H b c) (k : KeepT H H') : CellAt H' b c := k _ _ h
theorem PairRow.keep {H H' : Hp} {p : Addr} {x : Cell × Int} (h : PairRow H p x) (k : KeepT H H') : PairRow H' p x := by
  obtain ⟨b, h1, h2⟩ := h
  exact ⟨b, k _ _ h1, h2.keep k⟩
theorem RowAt.keep {H H' : Hp} {r : Addr} {ρ : RowD} (h : RowAt H r ρ) (k : KeepT H H') : RowAt H' r ρ := by
  obtain ⟨ps, h1, h2⟩ := h
  exact ⟨ps, k _ _ h1, Paired.mapP h2 fun _ _ z => z.keep k⟩
theorem same_new {H : Hp} {p : Addr} {o : HO} (h : H p = none) : Same H (upd H p o) := fun b x e => by
  rw [upd_ne (ne_of_none e h)]
  exact e
theorem paired_at {α β : Type} {R : α → β → Prop} : ∀ {l : List α} {m : List β}, Paired R l m → ∀ {i : Nat} {y : β}, m[i]? = some y → ∃ x, l[i]? = some x ∧ R x y
  | _, _, .nil, i, y, e => by simp at e
  | _, _, .cons (a := a) h t, 0, y, e => ⟨a, rfl, by rw [← Option.some.inj e]; exact h⟩
  | _, _, .cons h t, i + 1, y, e => by
    obtain ⟨x, h1, h2⟩ := paired_at t (i := i) (by simpa using e)
    exact ⟨x, by simpa using h1, h2⟩
theorem paired_at' {α β : Type} {R : α → β → Prop} : ∀ {l : List α} {m : List β}, Paired R l m → ∀ {i : Nat} {x : α}, l[i]? = some x → ∃ y, m[i]? = some y ∧ R x y
  | _, _, .nil, i, y, e => by simp at e
  | _, _, .cons (b := b) h t, 0, y, e => ⟨b, rfl, by rw [← Option.some.inj e]; exact h⟩
  | _, _, .cons h t, i + 1, y, e => by
    obtain ⟨x, h1, h2⟩ := paired_at' t (i := i) (by simpa using e)
    exact ⟨x, by simpa using h1, h2⟩
theorem sqT {K : PySem.W.Frag} {H : Hp} {a : Addr} {xs : List V} (h : H a = some (.tup xs)) : SqT K H a xs := .inl (.inl h)
theorem sqL {K : PySem.W.Frag} {H : Hp} {a : Addr} {xs : List V} (h : H a = some (.lst xs)) : SqL K H a xs := .inl (.inl h)

/-! ### comprehensions of dicts over a tuple -/
theorem dcT_tup {K : PySem.W.Frag} {a : Addr} {xs : List V} {g : TG} {tk tv : TE} {vs : List Nat} {σ : L2.St} {H1 : Hp} {D : Addr} {Qd : Hp → Prop}
    (Pv : Nat → Hp → Prop) (h0 : Pv 0 (upd H1 D (.dT []))) (hl : ∀ i H, i ≤ xs.length → Pv i H → SqT K H a xs)
    (hs : ∀ i x H, xs[i]? = some x → Pv i H → g x (wipe σ vs) H fun σ2 H2 => wipe σ2 vs = wipe σ vs ∧ tk σ2 H2 fun y H4 => tv σ2 H4 fun z H5 =>
      ∃ b kvs k, y = .ref b ∧ H5 b = some (.tup (k.map kV)) ∧ H5 D = some (.dT kvs) ∧ kvs.length < sizeLine ∧ Pv (i + 1) (upd H5 D (.dT (putK kvs k z))))
    (hd : ∀ H, Pv xs.length H → Qd H) :
    ∃ W : Nat → Nat → Hp → Prop, (∃ m, W 0 m (upd H1 D (.dT []))) ∧ ∀ i m H, W i m H →
      ((Itt K a).stop i H ∧ Qd H) ∨ ((Itt K a).go i H ∧ ∃ Nx : Hp → Prop, (∀ H', Nx H' → ∃ m', m' < m ∧ W (i + 1) m' H') ∧
        ∀ x H', (Itt K a).yld i H x H' → g x (wipe σ vs) H' fun σ2 H2 => wipe σ2 vs = wipe σ vs ∧ tk σ2 H2 fun y H4 => tv σ2 H4 fun z H5 =>
          ∃ b kvs k, y = .ref b ∧ H5 b = some (.tup (k.map kV)) ∧ H5 D = some (.dT kvs) ∧ kvs.length < sizeLine ∧ Nx (upd H5 D (.dT (putK kvs k z)))) := by
  refine ⟨fun i m H => m = xs.length - i ∧ i ≤ xs.length ∧ Pv i H, ⟨xs.length, by simp, Nat.zero_le _, h0⟩, ?_⟩
  rintro i m H ⟨rfl, hi, p⟩
  have q := hl i H hi p
  by_cases hlt : i < xs.length
  · refine .inr ⟨⟨xs, xs[i], q, by simp [hlt]⟩, Pv (i + 1), fun H' p' => ⟨xs.length - (i + 1), by omega, rfl, hlt, p'⟩, ?_⟩
    rintro x H' ⟨e, y⟩
    subst e
    exact hs i x _ (y xs q) p
  · obtain rfl : i = xs.length := by omega
    exact .inl ⟨⟨xs, q, Nat.le_refl _⟩, hd H p⟩

theorem set2 {σ : L2.St} {a b : Nat} {v w : V} (ha : a < σ.length) (hb : b < σ.length) (hab : a ≠ b) :
    ((σ.set a (some v)).set b (some w))[a]? = some (some v) ∧ ((σ.set a (some v)).set b (some w))[b]? = some (some w) := by
  constructor
  · rw [List.getElem?_set_ne (fun e => hab e.symm), List.getElem?_set_self ha]
  · rw [List.getElem?_set_self (by rw [List.length_set]; exact hb)]
theorem set_over {σ : L2.St} (i : Nat) (x : Option V) : (σ.set i x).set i none = σ.set i none := List.set_set ..
theorem wipe2 {σ : L2.St} {a b : Nat} {v w : V} (hab : a ≠ b) : wipe (((wipe σ [a, b]).set a (some v)).set b (some w)) [a, b] = wipe σ [a, b] := by
  show ((((((σ.set b none).set a none)).set a (some v)).set b (some w)).set b none).set a none = (σ.set b none).set a none
  rw [List.set_set, List.set_set, List.set_comm _ _ hab, List.set_set, List.set_set]
theorem sizeBig : 100000 < sizeLine := by decide

/-- {cell: weight for cell, weight in row} -/
theorem dc_row {K : PySem.W.Frag} {i a b : Nat} {σ : L2.St} {H : Hp} {Q : VK} {r : Addr} {ρ : RowD} (hi : σ[i]? = some (some (.ref r))) (R : RowAt H r ρ)
    (ha : a < σ.length) (hb : b < σ.length) (hab : a ≠ b) (hz : ρ.length ≤ 1000)
    (q : ∀ D, H D = none → Q (.ref D) (upd H D (.dT (dk (ofRow ρ))))) :
    tDcT (iTup K (tVar i)) (gTup K 2 (gCons (gName a) (gCons (gName b) gNil))) (tVar a) (tVar b) [a, b] σ H Q := by
  obtain ⟨ps, hr, hp⟩ := R
  refine ⟨.ref r, hi, r, rfl, ⟨_, sqT hr⟩, fun D hD => ?_⟩
  refine dcT_tup (xs := ps.map V.ref) (fun i H' => H' = upd H D (.dT (dk (ofRow (ρ.take i))))) rfl (fun i H' _ e => ?_) (fun i x H' hx e => ?_) (fun H' e => ?_)
  · rw [e]
    refine sqT ?_
    rw [upd_ne (ne_of_none hr hD)]
    exact hr
  · subst e
    rw [List.getElem?_map] at hx
    cases hpi : ps[i]? with
    | none =>
      rw [hpi] at hx
      cases hx
    | some p =>
      rw [hpi] at hx
      have ex : V.ref p = x := Option.some.inj hx
      subst ex
      obtain ⟨y, hy, bb, h1, h2⟩ := paired_at' hp hpi
      have kp : KeepT H (upd H D (.dT (dk (ofRow (ρ.take i))))) := KeepT.new hD
      refine ⟨p, [.ref bb, .int y.2], rfl, sqT (kp _ _ h1), rfl, .ref bb, [.int y.2], rfl, .int y.2, [], rfl, rfl, ?_⟩
      refine ⟨wipe2 hab, .ref bb, (set2 (by rw [wipe_length]; exact ha) (by rw [wipe_length]; exact hb) hab).1, .int y.2, (set2 (by rw [wipe_length]; exact ha) (by rw [wipe_length]; exact hb) hab).2, bb, dk (ofRow (ρ.take i)), ck y.1, rfl, kp _ _ h2, upd_same, ?_, ?_⟩
      · rw [dk_length]
        have h1 := ofRow_length (ρ.take i)
        have h2 := List.length_take_le i ρ
        have := sizeBig
        have h3 : (ρ.take i).length ≤ ρ.length := by
          rw [List.length_take]
          omega
        omega
      · rw [upd_upd, dk_put, List.take_add_one, hy]
        show _ = upd H D (.dT (dk ((ρ.take i ++ [y]).foldl _ [])))
        rw [List.foldl_append]
        rfl
  · have : (ps.map V.ref).length = ρ.length := by rw [List.length_map, Paired.length hp]
    rw [e, this, List.take_length]
    exact q D hD

theorem ck_kV (c : Cell) : (ck c).map kV = [V.str c.1, V.int c.2] := rfl
theorem wipe1 {σ : L2.St} {a : Nat} {v : V} : wipe ((wipe σ [a]).set a (some v)) [a] = wipe σ [a] := by
  show (((σ.set a none).set a (some v)).set a none) = σ.set a none
  rw [List.set_set, List.set_set]
theorem wipe_at {σ : L2.St} {a i : Nat} (h : i ≠ a) : (wipe σ [a])[i]? = σ[i]? := by
  show (σ.set a none)[i]? = σ[i]?
  exact List.getElem?_set_ne (fun e => h e.symm)
theorem dget_of {H : Hp} {D b : Addr} {m : RowD} {c : Cell} (hD : H D = some (.dT (dk m))) (hb : CellAt H b c) : DGet H D (.ref b) ((getO m c).map V.int) := by
  have := DGet.t (k := ck c) hD (by rw [ck_kV]; exact hb)
  rw [dk_val] at this
  exact this
/-- [(cell, weights[cell]) for cell in sorted(weights) if weights[cell] != 0] -/
theorem lc_tidy {K : PySem.W.Frag} {iw ic : Nat} {σ : L2.St} {H : Hp} {Q : VK} {D : Addr} {m : RowD} (hw : σ[iw]? = some (some (.ref D))) (hne : iw ≠ ic) (hic : ic < σ.length)
    (hD : H D = some (.dT (dk m))) (n : (keys m).Nodup) (hz : m.length ≤ 1000)
    (q : ∀ H' L ps, Same H H' → H L = none → H' L = some (.lst (ps.map V.ref)) → Paired (PairRow H') ps (tidy m) → Q (.ref L) H') :
    tLc (iList K (tCB rSortT (tCons (tVar iw) tNil))) (gName ic) (tTest (tOp rNe (tDGet (tVar iw) (tVar ic)) (tC (V.int 0))))
      (tTup (tCons (tVar ic) (tCons (tDGet (tVar iw) (tVar ic)) tNil))) [ic] σ H Q := by
  refine ⟨.ref D, hw, D, dk m, keys m, rfl, .inl hD, dk_keys m, fun ys bs p hp hup hbs hpn => ?_⟩
  have ey : ys = sortC (keys m) := rising_uniq (hp.trans (sortC_perm (keys m)).symm) hup (sortC_rising n)
  have s1 : Same H (upd H p (.lst (bs.map V.ref))) := same_new hpn
  refine ⟨p, rfl, ⟨_, sqL upd_same⟩, fun L hL => ?_⟩
  have hLH : H L = none := s1.free hL
  refine lc_list (xs := bs.map V.ref) (fun i H' => Same (upd H p (.lst (bs.map V.ref))) H' ∧ ∃ ps, H' L = some (.lst (ps.map V.ref)) ∧ Paired (PairRow H') ps (pick m (ys.take i)) ∧ ps.length ≤ i)
    ⟨same_new hL, [], upd_same, .nil, Nat.le_refl _⟩ (fun i H' _ h => sqL (h.1 _ _ upd_same)) (fun i x H' hx h => ?_) (fun H' h => ?_)
  · obtain ⟨sm, ps, hps, hpp, hpl⟩ := h
    have smH : Same H H' := s1.trans sm
    rw [List.getElem?_map] at hx
    cases hbi : bs[i]? with
    | none =>
      rw [hbi] at hx
      cases hx
    | some b =>
      rw [hbi] at hx
      have ex : V.ref b = x := Option.some.inj hx
      subst ex
      obtain ⟨c, hc, hcb⟩ := paired_at' hbs hbi
      have hcm : c ∈ keys m := hp.mem_iff.mp (List.mem_of_getElem? hc)
      obtain ⟨w, hw1, hw2⟩ := getO_some hcm
      have hcb' : CellAt H' b c := hcb.keep (KeepT.of smH)
      have dg : DGet H' D (.ref b) (some (.int w)) := by
        have := dget_of (smH _ _ hD) hcb'
        rw [hw1] at this
        exact this
      have g0 : get0 m c = w := by
        unfold get0
        rw [hw1]
        rfl
      have bl : i < bs.length := (List.getElem?_eq_some_iff.mp hbi).1
      have ysl : bs.length = ys.length := Paired.length hbs
      have yml : ys.length = m.length := by
        rw [hp.length_eq]
        exact List.length_map _
      have big := sizeBig
      have aw : ((wipe σ [ic]).set ic (some (.ref b)))[iw]? = some (some (.ref D)) := by
        rw [List.getElem?_set_ne (fun e => hne e.symm), wipe_at hne]
        exact hw
      have ac : ((wipe σ [ic]).set ic (some (.ref b)))[ic]? = some (some (.ref b)) := List.getElem?_set_self (by rw [wipe_length]; exact hic)
      have pk : pick m (ys.take (i + 1)) = pick m (ys.take i) ++ (if w ≠ 0 then [(c, w)] else []) := by
        rw [List.take_add_one, hc]
        unfold pick
        rw [List.map_append, List.filter_append]
        congr 1
        show List.filter _ [(c, get0 m c)] = _
        rw [g0]
        by_cases h0 : w = 0
        · simp [h0]
        · simp [h0]
      refine ⟨wipe1, .ref D, aw, .ref b, ac, D, .int w, rfl, dg, rfl, _, rfl, ?_⟩
      by_cases h0 : w = 0
      · rw [h0]
        refine iteF ?_
        refine ⟨sm, ps, hps, ?_, by omega⟩
        rw [pk, if_neg (by simp [h0]), List.append_nil]
        exact hpp
      · have e0 : (!decide (V.int w = V.int 0)) = true := by
          rw [decide_eq_false fun z => h0 (V.int.inj z)]
          rfl
        rw [e0]
        refine iteT ?_
        refine ⟨.ref b, ac, .ref D, aw, .ref b, ac, D, .int w, rfl, dg, by show 2 ≤ sizeLine; decide, fun t ht => ?_⟩
        have nLt : L ≠ t := ne_of_none hps ht
        refine ⟨ps.map V.ref, by rw [upd_ne nLt]; exact hps, by rw [List.length_map]; omega, ?_, ps ++ [t], ?_, ?_, ?_⟩
        · intro b' o' e'
          have nb : b' ≠ L := ne_of_none e' hL
          rw [upd_ne nb, upd_ne (ne_of_none (sm _ _ e') ht)]
          exact sm _ _ e'
        · rw [upd_same, List.map_append]
          rfl
        · have kp : KeepT H' (upd (upd H' t (.tup [.ref b, .int w])) L (.lst (ps.map V.ref ++ [.ref t]))) :=
            (KeepT.new ht).trans (KeepT.put (u := .lst (ps.map V.ref)) (by rw [upd_ne nLt]; exact hps) (fun _ z => nomatch z))
          rw [pk, if_pos h0]
          refine Paired.snoc (Paired.mapP hpp fun _ _ z => z.keep kp) ⟨b, ?_, hcb'.keep kp⟩
          rw [upd_ne nLt.symm, upd_same]
        · rw [List.length_append]
          show ps.length + 1 ≤ i + 1
          omega
  · obtain ⟨sm, ps, hps, hpp, _⟩ := h
    have e : ys.take (bs.map V.ref).length = ys := List.take_of_length_le (by rw [List.length_map, Paired.length hbs]; exact Nat.le_refl _)
    rw [e, ey] at hpp
    exact q H' L ps (s1.trans sm) hLH hps hpp

/-- the row of a made list of pairs -/
theorem row_of_list {H : Hp} {L p : Addr} {ps : List Addr} {ρ : RowD} (hp : H p = none) (h : Paired (PairRow H) ps ρ) : RowAt (upd H p (.tup (ps.map V.ref))) p ρ :=
  ⟨ps, upd_same, Paired.mapP h fun _ _ z => z.keep (KeepT.new hp)⟩

/-- for cell, weight in row: weights[cell] = weights.get(cell, 0) + t * weight -/
theorem for_add {K : PySem.W.Frag} {io iw a b : Nat} {σ : L2.St} {H : Hp} {Dn : Ends} {Dd r : Addr} {π m : RowD} {t : Int} {tv : TE}
    (hio : σ[io]? = some (some (.ref r))) (hiw : σ[iw]? = some (some (.ref Dd))) (wa : iw ≠ a) (wb : iw ≠ b) (ha : a < σ.length) (hb : b < σ.length) (hab : a ≠ b)
    (R : RowAt H r π) (hD : H Dd = some (.dT (dk m))) (hz : m.length + π.length ≤ 1000)
    (htv : ∀ (σ' : L2.St) (H' : Hp) (c : Cell) (w : Int) (m' : RowD) (bb : Addr) (Q : VK), (c, w) ∈ π → (∀ j, j ≠ a → j ≠ b → σ'[j]? = σ[j]?) → σ'[a]? = some (some (.ref bb)) → σ'[b]? = some (some (.int w)) →
      H' Dd = some (.dT (dk m')) → CellAt H' bb c → Q (.int (get0 m' c + t * w)) H' → tv σ' H' Q)
    (q : ∀ σ', (∀ j, j ≠ a → j ≠ b → σ'[j]? = σ[j]?) → σ'.length = σ.length → Dn.nx σ' (upd H Dd (.dT (dk (addF m π t))))) :
    tFor (iTup K (tVar io)) (gTup K 2 (gCons (gName a) (gCons (gName b) gNil))) (sDPut (tVar iw) (tVar a) tv) Dn σ H := by
  obtain ⟨ps, hr, hp⟩ := R
  refine ⟨.ref r, hio, r, rfl, ⟨_, sqT hr⟩, ?_⟩
  refine for_tup (xs := ps.map V.ref) (fun i σ' H' => (∀ j, j ≠ a → j ≠ b → σ'[j]? = σ[j]?) ∧ σ'.length = σ.length ∧ H' = upd H Dd (.dT (dk (addF m (π.take i) t))))
    ⟨fun _ _ _ => rfl, rfl, ?_⟩ (fun i σ' H' _ h => ?_) (fun i x σ' H' hx h => ?_) (fun σ' H' h => ?_)
  · funext c
    show H c = upd H Dd (.dT (dk m)) c
    by_cases e : c = Dd
    · rw [e, upd_same, hD]
    · rw [upd_ne e]
  · rw [h.2.2]
    refine sqT ?_
    rw [upd_ne (ne_of hr hD fun z => nomatch z)]
    exact hr
  · obtain ⟨hj, hl, rfl⟩ := h
    rw [List.getElem?_map] at hx
    cases hpi : ps[i]? with
    | none =>
      rw [hpi] at hx
      cases hx
    | some p =>
      rw [hpi] at hx
      have ex : V.ref p = x := Option.some.inj hx
      subst ex
      obtain ⟨y, hy, bb, h1, h2⟩ := paired_at' hp hpi
      have kp : KeepT H (upd H Dd (.dT (dk (addF m (π.take i) t)))) := KeepT.put hD fun _ z => nomatch z
      have s2 := set2 (v := .ref bb) (w := .int y.2) (by rw [hl]; exact ha) (by rw [hl]; exact hb) hab
      have hj' : ∀ j, j ≠ a → j ≠ b → ((σ'.set a (some (.ref bb))).set b (some (.int y.2)))[j]? = σ[j]? := fun j h1 h2 => by
        rw [List.getElem?_set_ne (fun e => h2 e.symm), List.getElem?_set_ne (fun e => h1 e.symm)]
        exact hj j h1 h2
      refine ⟨p, [.ref bb, .int y.2], rfl, sqT (kp _ _ h1), rfl, .ref bb, [.int y.2], rfl, .int y.2, [], rfl, rfl, ?_⟩
      refine htv _ _ y.1 y.2 (addF m (π.take i) t) bb _ (List.mem_of_getElem? hy) hj' s2.1 s2.2 upd_same (kp _ _ h2) ?_
      have pl : (π.take i).length ≤ π.length := by
        rw [List.length_take]
        omega
      have al := addF_length m (π.take i) t
      have big := sizeBig
      refine ⟨.ref Dd, by rw [hj' iw wa wb]; exact hiw, .ref bb, s2.1, Dd, _, rfl, DPut.t (k := ck y.1) upd_same (by rw [ck_kV]; exact kp _ _ h2) (by rw [dk_length]; omega), ?_⟩
      refine ⟨hj', by rw [List.length_set, List.length_set]; exact hl, ?_⟩
      rw [upd_upd, dk_put, List.take_add_one, hy]
      show _ = upd H Dd (.dT (dk ((π.take i ++ [y]).foldl _ m)))
      rw [List.foldl_append]
      rfl
  · obtain ⟨hj, hl, rfl⟩ := h
    have e : π.take (ps.map V.ref).length = π := List.take_of_length_le (by rw [List.length_map, Paired.length hp]; exact Nat.le_refl _)
    rw [e]
    exact q σ' hj hl

/-! ### readings, opened one at a time -/
theorem iSeq {t u : TS} {D : Ends} {σ : L2.St} {H : Hp} (h : t { D with nx := u D } σ H) : tSeq t u D σ H := h
theorem iAsg {te : TE} {g : TG} {D : Ends} {σ : L2.St} {H : Hp} (h : te σ H fun x H1 => g x σ H1 D.nx) : tAsg te g D σ H := h
theorem iRet {te : TE} {D : Ends} {σ : L2.St} {H : Hp} (h : te σ H D.rt) : tRet te D σ H := h
theorem iCB {r : List V → Hp → VK → Prop} {t : TA} {σ : L2.St} {H : Hp} {Q : VK} (h : t σ H fun vs H1 => r vs H1 Q) : tCB r t σ H Q := h
theorem iCons {ta : TE} {tr : TA} {σ : L2.St} {H : Hp} {Q : List V → Hp → Prop} (h : ta σ H fun x H1 => tr σ H1 fun xs H2 => Q (x :: xs) H2) : tCons ta tr σ H Q := h
theorem iOp {r : R2} {ta tb : TE} {σ : L2.St} {H : Hp} {Q : VK} (h : ta σ H fun x H1 => tb σ H1 fun y H2 => r x y H2 Q) : tOp r ta tb σ H Q := h
theorem iTest {t : TE} {σ : L2.St} {H : Hp} {Q : Bool → Hp → Prop} (h : t σ H fun x H' => ∃ k, x = .bl k ∧ Q k H') : tTest t σ H Q := h
theorem iNext {D : Ends} {σ : L2.St} {H : Hp} (h : D.nx σ H) : tNext D σ H := h
theorem iName {i : Nat} {v : V} {σ : L2.St} {H : Hp} {Q : L2.St → Hp → Prop} (h : Q (σ.set i (some v)) H) : gName i v σ H Q := h
/-- a value by what holds of it -/
theorem split_k {t : TE} {σ : L2.St} {H : Hp} {Q : VK} (R : V → Hp → Prop) (h1 : ∀ Q' : VK, (∀ v H', R v H' → Q' v H') → t σ H Q') (h2 : ∀ v H', R v H' → Q v H') : t σ H Q := h1 Q h2
/-- a block by what holds behind it -/
theorem split_s {t : TS} {D : Ends} {σ : L2.St} {H : Hp} (R : L2.St → Hp → Prop) (h1 : ∀ nx : L2.St → Hp → Prop, (∀ σ' H', R σ' H' → nx σ' H') → t { D with nx := nx } σ H) (h2 : ∀ σ' H', R σ' H' → D.nx σ' H') : t D σ H := h1 D.nx h2
theorem iNil {σ : L2.St} {H : Hp} {Q : List V → Hp → Prop} (h : Q [] H) : tNil σ H Q := h
end AskG
/-! sorted(..) of a list of pairs of a cell and a weight. -/
namespace AskG
open PySem PySem.Spec PyProof.Rows L2
def ltX (x y : Cell × Int) : Bool := if x.1 = y.1 then decide (x.2 < y.2) else ltC x.1 y.1
theorem ltX_iff {x y : Cell × Int} : ltX x y = true ↔ ltC x.1 y.1 = true ∨ (x.1 = y.1 ∧ x.2 < y.2) := by
  unfold ltX
  by_cases e : x.1 = y.1
  · rw [if_pos e, decide_eq_true_eq]
    constructor
    · exact fun h => .inr ⟨e, h⟩
    · rintro (h | h)
      · rw [e, ltC_irr] at h
        cases h
      · exact h.2
  · rw [if_neg e]
    constructor
    · exact fun h => .inl h
    · rintro (h | h)
      · exact h
      · exact absurd h.1 e
theorem ltX_tri (x y : Cell × Int) : ltX x y = true ∨ x = y ∨ ltX y x = true := by
  rcases ltC_tri x.1 y.1 with h | h | h
  · exact .inl (ltX_iff.mpr (.inl h))
  · rcases Int.lt_trichotomy x.2 y.2 with g | g | g
    · exact .inl (ltX_iff.mpr (.inr ⟨h, g⟩))
    · exact .inr (.inl (Prod.ext h g))
    · exact .inr (.inr (ltX_iff.mpr (.inr ⟨h.symm, g⟩)))
  · exact .inr (.inr (ltX_iff.mpr (.inl h)))
theorem ltX_trans {x y z : Cell × Int} (h1 : ltX x y = true) (h2 : ltX y z = true) : ltX x z = true := by
  refine ltX_iff.mpr ?_
  rcases ltX_iff.mp h1 with a | ⟨a, a'⟩ <;> rcases ltX_iff.mp h2 with b | ⟨b, b'⟩
  · exact .inl (ltC_trans a b)
  · exact .inl (b ▸ a)
  · exact .inl (a ▸ b)
  · exact .inr ⟨a.trans b, Int.lt_trans a' b'⟩
theorem ltX_irr (x : Cell × Int) : ltX x x = false := by
  cases h : ltX x x with
  | false => rfl
  | true =>
    rcases ltX_iff.mp h with a | ⟨_, a⟩
    · rw [ltC_irr] at a
      cases a
    · exact absurd a (Int.lt_irrefl _)
theorem ltX_asym {x y : Cell × Int} (h : ltX x y = true) : ltX y x = false := by
  cases g : ltX y x with
  | false => rfl
  | true =>
    have := ltX_trans h g
    rw [ltX_irr] at this
    cases this
theorem swo_X {α : Type} (k : α → Cell × Int) : SrtO.Swo fun v u => ltX (k v) (k u) := by
  refine ⟨fun x y h => ltX_asym h, fun x y z h1 h2 => ?_⟩
  cases g : ltX (k z) (k x) with
  | false => rfl
  | true =>
    rcases ltX_tri (k x) (k y) with a | a | a
    · have := ltX_trans g a
      rw [h2] at this
      cases this
    · rw [← a, g] at h2
      cases h2
    · rw [h1] at a
      cases a
/-- the value is a tuple of a cell and an int -/
def IsPr (h : Heap) (v : Value) (x : Cell × Int) : Prop := ∃ (a b : Addr) (t : Tok), v = .ref a ∧ IsTup h a #[.ref b, .int x.2 t] ∧ IsCl h (.ref b) x.1
theorem IsPr.keeps {h h' : Heap} {v : Value} {x : Cell × Int} (p : IsPr h v x) (k : ∀ b o, h.get? b = some o → o.cls = .type "tuple" → h'.get? b = some o) : IsPr h' v x := by
  obtain ⟨a, b, t, e, ⟨o, ho, hc, r⟩, c⟩ := p
  exact ⟨a, b, t, e, ⟨o, k _ _ ho hc, hc, r⟩, c.keeps k⟩
section
variable {prog : Program} {w : World} {A : Around} {E : Value → Shared → Prop} {s : Shared}
theorem cells_lt {a b : Addr} {c d : Cell} (ha : IsCl s.heap (.ref a) c) (hb : IsCl s.heap (.ref b) d) (hu : A.units < cLine) : Ob.RcOp .Lt A s (.ref a) (.ref b) (ltC c d) := by
  obtain ⟨a', t, t', e, ht⟩ := ha
  cases e
  obtain ⟨b', u, u', e, hu2⟩ := hb
  cases e
  have R := Ob.RcOp.tuples_lt (A := A) (s := s) (e := fun j => if j = 0 then c.1 == d.1 else c.2 == d.2)
    (r := fun j => if j = 0 then decide (c.1.cps.toList < d.1.cps.toList) else decide (c.2 < d.2)) ht hu2 hu
    (fun j h1 h2 => by
      have h1 : j < 2 := h1
      match j, h1 with
      | 0, _ => exact SeqAt.EqAt.str_str c.1 t d.1 u
      | 1, _ => exact SeqAt.EqAt.int_int c.2 t' d.2 u')
    (fun j h1 h2 _ => by
      have h1 : j < 2 := h1
      match j, h1 with
      | 0, _ => exact fun _ _ _ _ h => PyProof.Rows.lt_str h
      | 1, _ => exact fun _ _ _ _ h => PyProof.Rows.lt_int h)
  have e : Ob.lexAt (fun j => if j = 0 then c.1 == d.1 else c.2 == d.2) (fun j => if j = 0 then decide (c.1.cps.toList < d.1.cps.toList) else decide (c.2 < d.2)) (decide (2 < 2)) 0 (min 2 2) = ltC c d := by
    show (if (c.1 == d.1) = true then (if (c.2 == d.2) = true then decide (2 < 2) else decide (c.2 < d.2)) else decide (c.1.cps.toList < d.1.cps.toList)) = ltC c d
    unfold ltC
    by_cases e1 : c.1 = d.1
    · rw [if_pos (beq_iff_eq.mpr e1), if_pos e1]
      by_cases e2 : c.2 = d.2
      · rw [if_pos (beq_iff_eq.mpr e2), e2, decide_eq_false (Int.lt_irrefl _)]
        rfl
      · rw [if_neg fun z => e2 (beq_iff_eq.mp z)]
    · rw [if_neg fun z => e1 (beq_iff_eq.mp z), if_neg e1]
  rw [← e]
  exact R
theorem cells_eq {a b : Addr} {c d : Cell} (ha : IsCl s.heap (.ref a) c) (hb : IsCl s.heap (.ref b) d) (hu : A.units < cLine) : SeqAt.EqAt A s (.ref a) (.ref b) (decide (c = d)) := by
  obtain ⟨a', t, t', e, ht⟩ := ha
  cases e
  obtain ⟨b', u, u', e, hu2⟩ := hb
  cases e
  by_cases z : a = b
  · subst z
    obtain ⟨o, ho, _, n, hd⟩ := ht
    obtain ⟨o', ho', _, n', hd'⟩ := hu2
    rw [ho] at ho'
    cases ho'
    rw [hd] at hd'
    have e : c = d := by
      injection hd' with e1 _
      have e1 := congrArg Array.toList e1
      simp only [List.cons.injEq, Value.str.injEq, Value.int.injEq] at e1
      exact Prod.ext e1.1.1 e1.2.1.1
    rw [decide_eq_true e]
    exact SeqAt.EqAt.same _
  · have R := SeqAt.RcAt.tuples (A := A) (s := s) (e := fun j => if j = 0 then c.1 == d.1 else c.2 == d.2) ht hu2 hu
      (fun j h1 h2 => by
        have h1 : j < 2 := h1
        match j, h1 with
        | 0, _ => exact SeqAt.EqAt.str_str c.1 t d.1 u
        | 1, _ => exact SeqAt.EqAt.int_int c.2 t' d.2 u')
    have e : ((List.range (min 2 2)).all (fun j => if j = 0 then c.1 == d.1 else c.2 == d.2) && (2 : Nat) == 2) = decide (c = d) := by
      show ((c.1 == d.1 && (c.2 == d.2 && true)) && true) = decide (c = d)
      by_cases q : c = d
      · rw [q, decide_eq_true rfl]
        simp
      · rw [decide_eq_false q]
        by_cases q1 : c.1 = d.1
        · have q2 : ¬ c.2 = d.2 := fun q2 => q (Prod.ext q1 q2)
          simp [q2]
        · simp [q1]
    rw [← e]
    exact SeqAt.EqAt.of_refs z R
theorem pr_cmp {vs : List Value} {k : Value → Cell × Int} (hu : A.units < cLine) (hp : ∀ v ∈ vs, IsPr s.heap v (k v)) :
    SrtO.Cmp prog w A s (tuples' false) (fun p => p.1 ∈ vs) (SrtO.lt2 fun v u => ltX (k v) (k u)) := by
  intro p q hm hm'
  have h1 := hp _ hm
  have h2 := hp _ hm'
  show wpAny (model prog w) A (keyLt' (tuples' false) p.1 q.1) (fun r s' => s' = s ∧ r = ltX (k p.1) (k q.1)) (fun _ _ => False) s
  generalize k p.1 = x at h1 ⊢
  generalize k q.1 = y at h2 ⊢
  obtain ⟨a, b, t, e, ⟨o, ho, hc, n, hd⟩, cb⟩ := h1
  obtain ⟨a', b', t', e', ⟨o', ho', hc', n', hd'⟩, cb'⟩ := h2
  rw [e, e']
  refine PySem.W.kat_lt ho hd ho' hd' ?_
  show PySem.W.KatLex prog w A false (decide (2 < 2)) _ [(.ref b, .ref b'), (.int x.2 t, .int y.2 t')] 0 s
  refine PySem.W.kat_cons (cells_eq cb cb' hu prog w _ _ ?_)
  refine PySem.W.kat_go (fun e1 => ?_) (fun e1 => ?_)
  · have ex : x.1 = y.1 := of_decide_eq_true e1
    refine PySem.W.kat_yes (PySem.W.kat_cons (SeqAt.EqAt.int_int x.2 t y.2 t' prog w _ _ ?_))
    refine PySem.W.kat_go (fun e2 => ?_) (fun e2 => ?_)
    · have ey : x.2 = y.2 := by simpa using e2
      have e3 : ltX x y = false := by
        rw [show x = y from Prod.ext ex ey]
        exact ltX_irr y
      exact PySem.W.kat_yes (PySem.W.kat_nil ⟨rfl, e3.symm⟩)
    · have e3 : ltX x y = decide (x.2 < y.2) := if_pos ex
      refine PySem.W.kat_no (PySem.W.kat_one _ _ (PyProof.Rows.lt_int ?_))
      exact (show s = s ∧ decide (x.2 < y.2) = ltX x y from ⟨rfl, e3.symm⟩)
  · have ex : ¬ x.1 = y.1 := of_decide_eq_false e1
    have e3 : ltX x y = ltC x.1 y.1 := if_neg ex
    refine PySem.W.kat_no (PySem.W.kat_one _ _ (cells_lt cb cb' hu prog w _ _ ?_))
    exact (show s = s ∧ ltC x.1 y.1 = ltX x y from ⟨rfl, e3.symm⟩)
theorem pr_firsts {h : Heap} : ∀ {vs : List Value}, (∀ v ∈ vs, ∃ c, IsPr h v c) →
    ∃ fs : List Value, PySem.W.KatTups h vs fs ∧ fs.length = vs.length ∧ ∀ f ∈ fs, ∃ b c, f = Value.ref b ∧ IsCl h (.ref b) c
  | [], _ => ⟨[], .nil, rfl, fun f hf => absurd hf (by simp)⟩
  | v :: vs, x => by
    obtain ⟨fs, k, hl, hi⟩ := pr_firsts (vs := vs) fun u hu => x u (List.mem_cons_of_mem _ hu)
    obtain ⟨c, a, b, t, rfl, ⟨o, ho, hc, n, hd⟩, hb⟩ := x v List.mem_cons_self
    refine ⟨.ref b :: fs, .cons ho hc hd rfl k, congrArg (· + 1) hl, fun f hf => ?_⟩
    rcases List.mem_cons.mp hf with rfl | hf
    · exact ⟨_, _, rfl, hb⟩
    · exact hi f hf
theorem pr_sortable {a : Addr} {vs : List Value} {k : Value → Cell × Int} (hu : A.units < cLine) (h0 : 0 < vs.length) (hp : ∀ v ∈ vs, IsPr s.heap v (k v))
    (ha : ∀ o, s.heap.get? a = some o → o.cls ≠ .type "tuple") : SrtO.SortableO prog w A s a vs fun v u => ltX (k v) (k u) := by
  intro h' keep
  have hp' : ∀ v ∈ vs, IsPr h' v (k v) := fun v hm => (hp v hm).keeps fun b o e c => keep b o (fun z => by subst z; exact ha o e c) e
  obtain ⟨fs, h1, h2, h3⟩ := pr_firsts fun v hm => ⟨_, hp' v hm⟩
  refine ⟨tuples' false, fun Q E hq => ?_, pr_cmp hu hp'⟩
  refine PySem.W.kat_kind (T := .type "tuple") h1 (by omega) (fun f hm => ?_) (by rfl) ?_
  · obtain ⟨b, c, rfl, b', _, _, e, o, ho, hc, _⟩ := h3 f hm
    cases e
    exact fun A Q E s k q => wpAny_typeOf ⟨o, k _ _ ho, hc⟩ q
  · have e : (Value.type "tuple" != Value.type "tuple") = false := by first | decide +kernel | rfl | decide
    rw [e]
    exact hq
end
/-- the pair that stands behind a value -/
def pairOf (H : Hp) : Value → Cell × Int
  | .ref a => match H a with
    | some (.tup [.ref b, .int w]) => (cellOf H (.ref b), w)
    | _ => ((⟨#[]⟩, 0), 0)
  | _ => ((⟨#[]⟩, 0), 0)
theorem pairOf_at {H : Hp} {p : Addr} {x : Cell × Int} (h : PairRow H p x) : pairOf H (.ref p) = x := by
  obtain ⟨b, h1, h2⟩ := h
  show (match H p with
    | some (.tup [.ref b, .int w]) => (cellOf H (.ref b), w)
    | _ => (((⟨#[]⟩, 0), 0) : Cell × Int)) = x
  rw [h1]
  show (cellOf H (.ref b), x.2) = x
  rw [cellOf_at h2]
theorem isPr_of {P : Program} {w : World} {H : Hp} {h : Heap} {p : Addr} {x : Cell × Int} (ok : HOk P w H h) (e : PairRow H p x) : IsPr h (.ref p) x := by
  obtain ⟨b, h1, h2⟩ := e
  obtain ⟨_, its, r, ht⟩ := (show ObjOk P w H h p (.tup [.ref b, .int x.2]) from ok p _ h1)
  obtain ⟨u, v, ei, ru, rv⟩ := vals2 r
  obtain ⟨t, rfl⟩ := rv
  cases ru
  subst ei
  exact ⟨p, b, t, rfl, ht, isCl_of ok h2⟩
/-- sorted(l), l a list of pairs of a cell and a weight -/
def rSortX (K : PySem.W.Frag) : List V → Hp → VK → Prop := fun xs H Q => ∃ (a : Addr) (ps : List Addr) (ρ : RowD), xs = [.ref a] ∧ SqL K H a (ps.map V.ref) ∧ Paired (PairRow H) ps ρ ∧
  ∀ (ys : List Addr) (π : RowD) (p : Addr), π.Perm ρ → π.Pairwise (fun a b => ltX b a = false) → Paired (PairRow H) ys π → H p = none → Q (.ref p) (upd H p (.lst (ys.map V.ref)))
theorem paired_map {α β : Type} {R : α → β → Prop} (f : α → β) (h : ∀ a b, R a b → f a = b) : ∀ {l : List α} {m : List β}, Paired R l m → l.map f = m
  | _, _, .nil => rfl
  | _, _, .cons h1 t => by rw [List.map_cons, h _ _ h1, paired_map f h t]
theorem paired_mem {α β : Type} {R : α → β → Prop} : ∀ {l : List α} {m : List β}, Paired R l m → ∀ a ∈ l, ∃ b, R a b
  | _, _, .nil, a, h => absurd h (by simp)
  | _, _, .cons h1 t, a, h => by
    rcases List.mem_cons.mp h with rfl | h
    · exact ⟨_, h1⟩
    · exact paired_mem t a h
section
variable {X : Cx}
theorem cr_sortX (hu : X.A.units + 64 < cLine) : CallR X (.builtin "sorted") (rSortX X.K) := by
  intro pins s σ H vs us Q I r h
  obtain ⟨a, ps, ρ, rfl, hs, hx, q⟩ := h
  obtain ⟨its, rv, hl, hz⟩ := I.list hs
  obtain ⟨u, rfl, ru⟩ := vals1 r
  obtain rfl : u = Value.ref a := ru
  have ei : its = ps.map Value.ref := by
    clear hl hz q hx hs
    induction ps generalizing its with
    | nil =>
      cases rv
      rfl
    | cons p ps ih =>
      cases rv with
      | cons h1 t =>
        cases h1
        rw [List.map_cons, ih _ t]
  subst ei
  have hp : ∀ v ∈ ps.map Value.ref, ∃ p x, v = .ref p ∧ PairRow H p x := fun v hv => by
    obtain ⟨p, hp, rfl⟩ := List.mem_map.mp hv
    obtain ⟨x, hx'⟩ := paired_mem hx p hp
    exact ⟨p, x, rfl, hx'⟩
  refine SrtO.sorted_ord (ltv := fun v u => ltX (pairOf H v) (pairOf H u)) (swo_X _) hl.isList (by rw [← rv.length]; exact hz) (fun h2 h₁ a' ha kk => ?_) fun out h1 h2 => ?_
  · refine pr_sortable (s := { s with heap := h₁ }) (by show X.A.units + 1 + 1 < cLine; omega) (by omega) (fun v hv => ?_) fun o e => ?_
    · obtain ⟨p, x, rfl, hx'⟩ := hp v hv
      rw [pairOf_at hx']
      exact (isPr_of I.hok hx').keeps fun b o e _ => (kk b o e).2
    · have e' : some o = some (seqObj "list" (ps.map Value.ref).toArray 0) := e.symm.trans ha
      cases e'
      intro c
      exact absurd (Value.type.inj c) (by decide)
  · have hout : ∀ v ∈ out, ∃ p x, v = .ref p ∧ PairRow H p x := fun v hv => hp v (h2.perm.mem_iff.mp hv)
    have hys : ∃ ys : List Addr, out = ys.map Value.ref := by
      clear h1 h2
      induction out with
      | nil => exact ⟨[], rfl⟩
      | cons v l ih =>
        obtain ⟨ys, rfl⟩ := ih fun u hu => hout u (List.mem_cons_of_mem _ hu)
        obtain ⟨p, x, rfl, _⟩ := hout v List.mem_cons_self
        exact ⟨p :: ys, rfl⟩
    obtain ⟨ys, rfl⟩ := hys
    obtain ⟨n, hn⟩ := PyProof.Rows.sortedAll_at s.heap (ps.map Value.ref) (ys.map Value.ref).toArray
    have hlen : (ys.map V.ref).length ≤ sizeLine := by
      have := h2.perm.length_eq
      rw [List.length_map, List.length_map] at this
      rw [List.length_map] at hz ⊢
      omega
    have em : (ps.map Value.ref).map (pairOf H) = ρ := by
      rw [List.map_map]
      exact paired_map (R := PairRow H) _ (fun p x h => pairOf_at h) hx
    refine ⟨.ref (s.heap.objs.size + 1), upd H (s.heap.objs.size + 1) (.lst (ys.map V.ref)), I.laid (t' := s.toks) (fun b o e => PyProof.Rows.sortedAll_old e) (Nat.le_succ _) ⟨hlen, ys.map Value.ref, n, vals_refs _, hn⟩, rfl, q ys ((ys.map Value.ref).map (pairOf H)) _ ?_ (List.pairwise_map.mpr h1) ?_ (I.hok.fresh (Nat.le_succ _))⟩
    · rw [← em]
      exact h2.perm.map _
    · rw [List.map_map]
      refine paired_of _ fun p hp' => ?_
      obtain ⟨p2, x, e2, hx'⟩ := hout (.ref p) (List.mem_map_of_mem hp')
      cases e2
      show PairRow H p (pairOf H (.ref p))
      rw [pairOf_at hx']
      exact hx'
end
end AskG
/-! Comprehensions over rows. -/
namespace AskG
open PySem PySem.Spec PyProof.Rows L2
abbrev g2 (K : PySem.W.Frag) (a b : Nat) : TG := gTup K 2 (gCons (gName a) (gCons (gName b) gNil))
/-- the slots at a turn: the two targets, all else as it was -/
structure Turn2 (σ σ' : L2.St) (a b : Nat) (v w : V) : Prop where
  fst : σ'[a]? = some (some v)
  snd : σ'[b]? = some (some w)
  old : ∀ j, j ≠ a → j ≠ b → σ'[j]? = σ[j]?
theorem turn2 {σ : L2.St} {a b : Nat} {v w : V} (ha : a < σ.length) (hb : b < σ.length) (hab : a ≠ b) :
    Turn2 σ (((wipe σ [a, b]).set a (some v)).set b (some w)) a b v w := by
  have s2 := set2 (σ := wipe σ [a, b]) (v := v) (w := w) (by rw [wipe_length]; exact ha) (by rw [wipe_length]; exact hb) hab
  refine ⟨s2.1, s2.2, fun j h1 h2 => ?_⟩
  rw [List.getElem?_set_ne (fun e => h2 e.symm), List.getElem?_set_ne (fun e => h1 e.symm)]
  show ((σ.set b none).set a none)[j]? = _
  rw [List.getElem?_set_ne (fun e => h1 e.symm), List.getElem?_set_ne (fun e => h2 e.symm)]

/-- [(cell, g weight) for cell, weight in row if ..] -/
theorem lc_rows {K : PySem.W.Frag} {i a b : Nat} {σ : L2.St} {H : Hp} {Q : VK} {r : Addr} {ρ : RowD} {tt : TT} {tw : TE} (keep : Cell × Int → Bool) (g : Cell × Int → Int)
    (hi : σ[i]? = some (some (.ref r))) (R : RowAt H r ρ) (ha : a < σ.length) (hb : b < σ.length) (hab : a ≠ b) (hz : ρ.length ≤ 1000)
    (htt : ∀ σ' H' bb x (Q : Bool → Hp → Prop), x ∈ ρ → Same H H' → Turn2 σ σ' a b (.ref bb) (.int x.2) → CellAt H' bb x.1 → (∀ H'', Same H' H'' → Q (keep x) H'') → tt σ' H' Q)
    (htw : ∀ σ' H' bb x (Q : VK), x ∈ ρ → Same H H' → Turn2 σ σ' a b (.ref bb) (.int x.2) → CellAt H' bb x.1 → Q (.int (g x)) H' → tw σ' H' Q)
    (q : ∀ H' L ps, Same H H' → H L = none → H' L = some (.lst (ps.map V.ref)) → Paired (PairRow H') ps ((ρ.filter keep).map fun x => (x.1, g x)) → Q (.ref L) H') :
    tLc (iTup K (tVar i)) (g2 K a b) tt (tTup (tCons (tVar a) (tCons tw tNil))) [a, b] σ H Q := by
  obtain ⟨qs, hr, hp⟩ := R
  refine ⟨.ref r, hi, r, rfl, ⟨_, sqT hr⟩, fun L hL => ?_⟩
  refine lc_tup (xs := qs.map V.ref) (fun i H' => Same H H' ∧ ∃ ps, H' L = some (.lst (ps.map V.ref)) ∧ Paired (PairRow H') ps (((ρ.take i).filter keep).map fun x => (x.1, g x)) ∧ ps.length ≤ i)
    ⟨same_new hL, [], upd_same, .nil, Nat.le_refl _⟩ (fun i H' _ h => sqT (h.1 _ _ hr)) (fun i x H' hx h => ?_) (fun H' h => ?_)
  · obtain ⟨sm, ps, hps, hpp, hpl⟩ := h
    rw [List.getElem?_map] at hx
    cases hqi : qs[i]? with
    | none =>
      rw [hqi] at hx
      cases hx
    | some p =>
      rw [hqi] at hx
      have ex : V.ref p = x := Option.some.inj hx
      subst ex
      obtain ⟨y, hy, bb, h1, h2⟩ := paired_at' hp hqi
      have hym := List.mem_of_getElem? hy
      have kp := KeepT.of sm
      have il : i < qs.length := (List.getElem?_eq_some_iff.mp hqi).1
      have ql : qs.length = ρ.length := Paired.length hp
      have big := sizeBig
      have T := turn2 (v := .ref bb) (w := .int y.2) ha hb hab
      refine ⟨p, [.ref bb, .int y.2], rfl, sqT (kp _ _ h1), rfl, .ref bb, [.int y.2], rfl, .int y.2, [], rfl, rfl, ?_⟩
      refine ⟨wipe2 hab, htt _ _ bb y _ hym sm T (h2.keep kp) fun H2 sm2 => ?_⟩
      have kp2 := KeepT.of sm2
      have pk : ((ρ.take (i + 1)).filter keep).map (fun x => (x.1, g x)) = ((ρ.take i).filter keep).map (fun x => (x.1, g x)) ++ (if keep y = true then [(y.1, g y)] else []) := by
        rw [List.take_add_one, hy, List.filter_append, List.map_append]
        congr 1
        show List.map _ (List.filter keep [y]) = _
        cases hk : keep y with
        | true => simp [hk]
        | false => simp [hk]
      cases hk : keep y with
      | false =>
        refine iteF ⟨sm.trans sm2, ps, sm2 _ _ hps, ?_, by omega⟩
        rw [pk, hk, if_neg (by decide), List.append_nil]
        exact Paired.mapP hpp fun _ _ z => z.keep kp2
      | true =>
        refine iteT ⟨.ref bb, T.fst, htw _ _ bb y _ hym (sm.trans sm2) T ((h2.keep kp).keep kp2) ⟨by show 2 ≤ sizeLine; decide, fun t ht => ?_⟩⟩
        have hps2 := sm2 _ _ hps
        have nLt : L ≠ t := ne_of_none hps2 ht
        refine ⟨ps.map V.ref, by rw [upd_ne nLt]; exact hps2, by rw [List.length_map]; omega, ?_, ps ++ [t], ?_, ?_, ?_⟩
        · intro b' o' e'
          have e2 := sm2 _ _ (sm _ _ e')
          rw [upd_ne (ne_of_none e' hL), upd_ne (ne_of_none e2 ht)]
          exact e2
        · rw [upd_same, List.map_append]
          rfl
        · have kp3 : KeepT H2 (upd (upd H2 t (.tup [.ref bb, .int (g y)])) L (.lst (ps.map V.ref ++ [.ref t]))) :=
            (KeepT.new ht).trans (KeepT.put (u := .lst (ps.map V.ref)) (by rw [upd_ne nLt]; exact hps2) (fun _ z => nomatch z))
          rw [pk, hk, if_pos rfl]
          refine Paired.snoc (Paired.mapP hpp fun _ _ z => (z.keep kp2).keep kp3) ⟨bb, ?_, ((h2.keep kp).keep kp2).keep kp3⟩
          rw [upd_ne nLt.symm, upd_same]
        · rw [List.length_append]
          show ps.length + 1 ≤ i + 1
          omega
  · obtain ⟨sm, ps, hps, hpp, _⟩ := h
    have e : ρ.take (qs.map V.ref).length = ρ := List.take_of_length_le (by rw [List.length_map, Paired.length hp]; exact Nat.le_refl _)
    rw [e] at hpp
    exact q H' L ps sm hL hps hpp

theorem iYes {σ : L2.St} {H : Hp} {Q : Bool → Hp → Prop} (h : Q true H) : tYes σ H Q := h
/-- [g of cell, weight for cell, weight in row] -/
theorem lc_ints {K : PySem.W.Frag} {i a b : Nat} {σ : L2.St} {H : Hp} {Q : VK} {r : Addr} {ρ : RowD} {tw : TE} (g : Cell × Int → Int)
    (hi : σ[i]? = some (some (.ref r))) (R : RowAt H r ρ) (ha : a < σ.length) (hb : b < σ.length) (hab : a ≠ b) (hz : ρ.length ≤ 1000)
    (htw : ∀ σ' H' bb x (Q : VK), x ∈ ρ → Same H H' → Turn2 σ σ' a b (.ref bb) (.int x.2) → CellAt H' bb x.1 → Q (.int (g x)) H' → tw σ' H' Q)
    (q : ∀ H' L, Same H H' → H L = none → H' L = some (.lst ((ρ.map g).map V.int)) → Q (.ref L) H') :
    tLc (iTup K (tVar i)) (g2 K a b) tYes tw [a, b] σ H Q := by
  obtain ⟨qs, hr, hp⟩ := R
  refine ⟨.ref r, hi, r, rfl, ⟨_, sqT hr⟩, fun L hL => ?_⟩
  refine lc_tup (xs := qs.map V.ref) (fun i H' => Same H H' ∧ H' L = some (.lst (((ρ.take i).map g).map V.int)))
    ⟨same_new hL, upd_same⟩ (fun i H' _ h => sqT (h.1 _ _ hr)) (fun i x H' hx h => ?_) (fun H' h => ?_)
  · obtain ⟨sm, hps⟩ := h
    rw [List.getElem?_map] at hx
    cases hqi : qs[i]? with
    | none =>
      rw [hqi] at hx
      cases hx
    | some p =>
      rw [hqi] at hx
      have ex : V.ref p = x := Option.some.inj hx
      subst ex
      obtain ⟨y, hy, bb, h1, h2⟩ := paired_at' hp hqi
      have kp := KeepT.of sm
      have big := sizeBig
      have T := turn2 (v := .ref bb) (w := .int y.2) ha hb hab
      refine ⟨p, [.ref bb, .int y.2], rfl, sqT (kp _ _ h1), rfl, .ref bb, [.int y.2], rfl, .int y.2, [], rfl, rfl, ?_⟩
      refine ⟨wipe2 hab, iYes (iteT (htw _ _ bb y _ (List.mem_of_getElem? hy) sm T (h2.keep kp) ⟨_, hps, ?_, ?_, ?_⟩))⟩
      · rw [List.length_map, List.length_map, List.length_take]
        omega
      · intro b' o' e'
        rw [upd_ne (ne_of_none e' hL)]
        exact sm _ _ e'
      · rw [upd_same, List.take_add_one, hy]
        show _ = some (HO.lst (((ρ.take i ++ [y]).map g).map V.int))
        rw [List.map_append, List.map_append]
        rfl
  · obtain ⟨sm, hps⟩ := h
    have e : ρ.take (qs.map V.ref).length = ρ := List.take_of_length_le (by rw [List.length_map, Paired.length hp]; exact Nat.le_refl _)
    rw [e] at hps
    exact q H' L sm hL hps

theorem set1_at {σ : L2.St} {a : Nat} {v : V} (ha : a < σ.length) : ((wipe σ [a]).set a (some v))[a]? = some (some v) := List.getElem?_set_self (by rw [wipe_length]; exact ha)
theorem set1_old {σ : L2.St} {a j : Nat} {v : V} (h : j ≠ a) : ((wipe σ [a]).set a (some v))[j]? = σ[j]? := by
  rw [List.getElem?_set_ne (fun e => h e.symm), wipe_at h]
/-- one turn of [pair for pair in pairs if ..] -/
theorem pairs_turn {a : Nat} {σ : L2.St} {H H' : Hp} {L : Addr} {qs : List Addr} {ρ : RowD} {tt : TT} (keep : Cell × Int → Bool)
    (ha : a < σ.length) (hp : Paired (PairRow H) qs ρ) (hz : ρ.length ≤ 1000) (hL : H L = none)
    (htt : ∀ σ' H' p x (Q : Bool → Hp → Prop), x ∈ ρ → Same H H' → σ'[a]? = some (some (.ref p)) → (∀ j, j ≠ a → σ'[j]? = σ[j]?) → PairRow H' p x → (∀ H'', Same H' H'' → Q (keep x) H'') → tt σ' H' Q)
    {i : Nat} {x : V} (hx : (qs.map V.ref)[i]? = some x) (h : Same H H' ∧ ∃ ps, H' L = some (.lst (ps.map V.ref)) ∧ Paired (PairRow H') ps ((ρ.take i).filter keep) ∧ ps.length ≤ i) :
    gName a x (wipe σ [a]) H' fun σ2 H2 => wipe σ2 [a] = wipe σ [a] ∧ tt σ2 H2 fun b H3 => if b = true then tVar a σ2 H3 fun y H4 => ∃ acc, H4 L = some (.lst acc) ∧ acc.length < sizeLine ∧
      (Same H (upd H4 L (.lst (acc ++ [y]))) ∧ ∃ ps, (upd H4 L (.lst (acc ++ [y]))) L = some (.lst (ps.map V.ref)) ∧ Paired (PairRow (upd H4 L (.lst (acc ++ [y])))) ps ((ρ.take (i + 1)).filter keep) ∧ ps.length ≤ i + 1)
      else (Same H H3 ∧ ∃ ps, H3 L = some (.lst (ps.map V.ref)) ∧ Paired (PairRow H3) ps ((ρ.take (i + 1)).filter keep) ∧ ps.length ≤ i + 1) := by
  obtain ⟨sm, ps, hps, hpp, hpl⟩ := h
  rw [List.getElem?_map] at hx
  cases hqi : qs[i]? with
  | none =>
    rw [hqi] at hx
    cases hx
  | some p =>
    rw [hqi] at hx
    have ex : V.ref p = x := Option.some.inj hx
    subst ex
    obtain ⟨y, hy, hpy⟩ := paired_at' hp hqi
    have kp := KeepT.of sm
    have il : i < qs.length := (List.getElem?_eq_some_iff.mp hqi).1
    have ql : qs.length = ρ.length := Paired.length hp
    have big := sizeBig
    refine ⟨wipe1, htt _ _ p y _ (List.mem_of_getElem? hy) sm (set1_at ha) (fun j hj => set1_old hj) (hpy.keep kp) fun H2 sm2 => ?_⟩
    have kp2 := KeepT.of sm2
    have pk : (ρ.take (i + 1)).filter keep = (ρ.take i).filter keep ++ (if keep y = true then [y] else []) := by
      rw [List.take_add_one, hy, List.filter_append]
      congr 1
      show List.filter keep [y] = _
      cases hk : keep y with
      | true => simp [hk]
      | false => simp [hk]
    cases hk : keep y with
    | false =>
      refine iteF ⟨sm.trans sm2, ps, sm2 _ _ hps, ?_, by omega⟩
      rw [pk, hk, if_neg (by decide), List.append_nil]
      exact Paired.mapP hpp fun _ _ z => z.keep kp2
    | true =>
      have hps2 := sm2 _ _ hps
      refine iteT ⟨.ref p, set1_at ha, ps.map V.ref, hps2, by rw [List.length_map]; omega, ?_, ps ++ [p], ?_, ?_, ?_⟩
      · intro b' o' e'
        rw [upd_ne (ne_of_none e' hL)]
        exact sm2 _ _ (sm _ _ e')
      · rw [upd_same, List.map_append]
        rfl
      · have kp3 : KeepT H2 (upd H2 L (.lst (ps.map V.ref ++ [.ref p]))) := KeepT.put (u := .lst (ps.map V.ref)) hps2 (fun _ z => nomatch z)
        rw [pk, hk, if_pos rfl]
        exact Paired.snoc (Paired.mapP hpp fun _ _ z => (z.keep kp2).keep kp3) (((hpy.keep kp).keep kp2).keep kp3)
      · rw [List.length_append]
        show ps.length + 1 ≤ i + 1
        omega
/-- [pair for pair in row if ..] -/
theorem lc_pairsT {K : PySem.W.Frag} {i a : Nat} {σ : L2.St} {H : Hp} {Q : VK} {r : Addr} {qs : List Addr} {ρ : RowD} {tt : TT} (keep : Cell × Int → Bool)
    (hi : σ[i]? = some (some (.ref r))) (hr : H r = some (.tup (qs.map V.ref))) (hp : Paired (PairRow H) qs ρ) (ha : a < σ.length) (hz : ρ.length ≤ 1000)
    (htt : ∀ σ' H' p x (Q : Bool → Hp → Prop), x ∈ ρ → Same H H' → σ'[a]? = some (some (.ref p)) → (∀ j, j ≠ a → σ'[j]? = σ[j]?) → PairRow H' p x → (∀ H'', Same H' H'' → Q (keep x) H'') → tt σ' H' Q)
    (q : ∀ H' L ps, Same H H' → H L = none → H' L = some (.lst (ps.map V.ref)) → Paired (PairRow H') ps (ρ.filter keep) → Q (.ref L) H') :
    tLc (iTup K (tVar i)) (gName a) tt (tVar a) [a] σ H Q := by
  refine ⟨.ref r, hi, r, rfl, ⟨_, sqT hr⟩, fun L hL => ?_⟩
  refine lc_tup (xs := qs.map V.ref) (fun i H' => Same H H' ∧ ∃ ps, H' L = some (.lst (ps.map V.ref)) ∧ Paired (PairRow H') ps ((ρ.take i).filter keep) ∧ ps.length ≤ i)
    ⟨same_new hL, [], upd_same, .nil, Nat.le_refl _⟩ (fun i H' _ h => sqT (h.1 _ _ hr)) (fun i x H' hx h => pairs_turn keep ha hp hz hL htt hx h) (fun H' h => ?_)
  obtain ⟨sm, ps, hps, hpp, _⟩ := h
  have e : ρ.take (qs.map V.ref).length = ρ := List.take_of_length_le (by rw [List.length_map, Paired.length hp]; exact Nat.le_refl _)
  rw [e] at hpp
  exact q H' L ps sm hL hps hpp
theorem lc_pairsL {K : PySem.W.Frag} {i a : Nat} {σ : L2.St} {H : Hp} {Q : VK} {r : Addr} {qs : List Addr} {ρ : RowD} {tt : TT} (keep : Cell × Int → Bool)
    (hi : σ[i]? = some (some (.ref r))) (hr : H r = some (.lst (qs.map V.ref))) (hp : Paired (PairRow H) qs ρ) (ha : a < σ.length) (hz : ρ.length ≤ 1000)
    (htt : ∀ σ' H' p x (Q : Bool → Hp → Prop), x ∈ ρ → Same H H' → σ'[a]? = some (some (.ref p)) → (∀ j, j ≠ a → σ'[j]? = σ[j]?) → PairRow H' p x → (∀ H'', Same H' H'' → Q (keep x) H'') → tt σ' H' Q)
    (q : ∀ H' L ps, Same H H' → H L = none → H' L = some (.lst (ps.map V.ref)) → Paired (PairRow H') ps (ρ.filter keep) → Q (.ref L) H') :
    tLc (iList K (tVar i)) (gName a) tt (tVar a) [a] σ H Q := by
  refine ⟨.ref r, hi, r, rfl, ⟨_, sqL hr⟩, fun L hL => ?_⟩
  refine lc_list (xs := qs.map V.ref) (fun i H' => Same H H' ∧ ∃ ps, H' L = some (.lst (ps.map V.ref)) ∧ Paired (PairRow H') ps ((ρ.take i).filter keep) ∧ ps.length ≤ i)
    ⟨same_new hL, [], upd_same, .nil, Nat.le_refl _⟩ (fun i H' _ h => sqL (h.1 _ _ hr)) (fun i x H' hx h => pairs_turn keep ha hp hz hL htt hx h) (fun H' h => ?_)
  obtain ⟨sm, ps, hps, hpp, _⟩ := h
  have e : ρ.take (qs.map V.ref).length = ρ := List.take_of_length_le (by rw [List.length_map, Paired.length hp]; exact Nat.le_refl _)
  rw [e] at hpp
  exact q H' L ps sm hL hps hpp
end AskG
/-! Calls with keywords. -/
namespace AskG
open PySem PySem.Spec PyProof.Rows L2
section
variable {P : Program} {w : World} {K : PySem.W.Frag} {mg : Str → Option Value} {base : Heap}
theorem okGD {x qual : Str} {params : Arguments} {body : List Stmt} {scope : Scope} {dvs : List V} {kws : List (Str × V)} {f : Addr} {fd : FuncData} {N ps : List Str} {k : Nat} {pr : Pr}
    (F : FunD K x qual params body scope dvs kws f fd) (S : FnScope N ps scope) (many : ∀ vs H Q, pr vs H Q → vs.length = ps.length)
    (body_ok : ∀ (cdv : Value) (A : Around) (outer : List Env) (s : Shared) (H : Hp) (vs : List V) (Q : VK),
      RG k (A.deeper (envOfC qual scope s.heap.objs.size f cdv)) → pr vs H Q →
      ∃ t, PSs (cxOf CX0 P w K mg base N qual scope f cdv A outer s H E0).nox body t ∧
        t { nx := fun _ H' => Q .non H', rt := Q } (start N vs) H) : FnG P w K mg base (k + 1) f fd ps pr := by
  obtain ⟨oc, od, dV, kV, doc, pm, an, cdv, ct, osl, rfl, lk, hcd, _, _⟩ := F.ex
  exact fnG_of lk hcd S many fun A outer s H vs Q hr hp => body_ok cdv A outer s H vs Q hr hp
end
def tCallNG (n m : Nat) (pr : Pr) (gV : List V → List V → List V) (t tk : TA) : TE := fun σ H Q =>
  t σ H fun vs H1 => tk σ H1 fun zs H2 => vs.length = n ∧ zs.length = m ∧ pr (gV vs zs) H2 Q
section
variable {X : Cx} {k n : Nat} {f : Addr} {fd : FuncData} {ps ks : List Str} {pr : Pr} {x : Str} {p pos : Pos} {e : Expr} {es : List Expr} {kws : List Keyword}
  {t tk : TA} {g : List Value → List Value → List Value} {gV : List V → List V → List V}
theorem goN {pins : List (Addr × Obj)} {σ : L2.St} {H : Hp} {s : Shared} {Q : VK} {us ws : List Value} {vs zs : List V}
    (F : FnG X.prog X.w X.K X.mg X.base k f fd ps pr) (hr : RG k X.A) (hb : KBn X.K fd ps n ks g gV)
    (I : Inv X pins σ H s) (r : Vals vs us) (rz : Vals zs ws) (l1 : vs.length = n) (l2 : zs.length = ks.length) (h : pr (gV vs zs) H Q) :
    wpAny (model X.prog X.w) X.A (call (.ref f) us (ks.zip ws)) (EP X pins σ Q) X.xe s :=
  goG (args := ⟨us, ks.zip ws⟩) F hr I (hb.to s us ws I.kIn (r.length.symm.trans l1) (rz.length.symm.trans l2)) (hb.rel r rz) h
/-- f(e, .., k = v, ..) -/
theorem pe_gn (F : FnG X.prog X.w X.K X.mg X.base k f fd ps pr) (hr : RG k X.A) (hg : Gl X x)
    (hm : X.mg x = some (.ref f)) (hk : PySem.W.keepIn X.K (.ref f) = true) (hb : KBn X.K fd ps n ks g gV)
    (ha : PA X (e :: es) t) (hkw : PK X kws tk)
    (hall : (backToKw pos (keywordEach kws X.env)).all (·.1.isSome) = true := by rfl)
    (hks : (backToKw pos (keywordEach kws X.env)).filterMap (·.1) = ks := by rfl)
    (hdb : (x == ("__debug__" : Str)) = false := by decide)
    (he : starEach (e :: es) X.env = (false, eval e X.env) :: starEach es X.env := by rfl)
    (hpl : ((backTo pos (starEach (e :: es) X.env)).any (·.1) || (backToKw pos (keywordEach kws X.env)).any (·.1.isNone)) = false := by rfl) :
    PE X (.Call (.Name x p) (e :: es) kws pos) (tCallNG n ks.length pr gV t tk) := by
  constructor
  intro pins s σ H Q I h
  refine wpAny_Call_Name_kw (ld_glob I hg hm ?_ hdb)
  refine PySem.W.callWith_KW (h₀ := X.base) I.ok.mod.kin hk hall (thn (ha.run pos pins s σ H _ I h) ?_) hpl he
  rintro us s1 ⟨vs, H1, I1, r, q⟩
  refine thn (hkw.run pos pins s1 σ H1 _ I1 q) ?_
  rintro ws s2 ⟨zs, H2, I2, rz, l1, l2, q2⟩
  refine ⟨I2.kIn, ?_⟩
  rw [hks]
  exact goN F hr hb I2 r rz l1 l2 q2
/-- f(k = v, ..) -/
theorem pe_gn0 (F : FnG X.prog X.w X.K X.mg X.base k f fd ps pr) (hr : RG k X.A) (hg : Gl X x)
    (hm : X.mg x = some (.ref f)) (hk : PySem.W.keepIn X.K (.ref f) = true) (hb : KBn X.K fd ps 0 ks g gV)
    (hkw : PK X kws tk)
    (hall : (backToKw pos (keywordEach kws X.env)).all (·.1.isSome) = true := by rfl)
    (hks : (backToKw pos (keywordEach kws X.env)).filterMap (·.1) = ks := by rfl)
    (hdb : (x == ("__debug__" : Str)) = false := by decide)
    (hpl : ((backTo pos (starEach [] X.env)).any (·.1) || (backToKw pos (keywordEach kws X.env)).any (·.1.isNone)) = false := by rfl) :
    PE X (.Call (.Name x p) [] kws pos) (tCallNG 0 ks.length pr gV tNil tk) := by
  constructor
  intro pins s σ H Q I h
  refine wpAny_Call_Name_kw (ld_glob I hg hm ?_ hdb)
  refine PySem.W.callWith_KW0 (h₀ := X.base) I.ok.mod.kin hk hall ?_ hpl
  refine thn (hkw.run pos pins s σ H _ I h) ?_
  rintro ws s2 ⟨zs, H2, I2, rz, l1, l2, q2⟩
  refine ⟨I2.kIn, ?_⟩
  rw [hks]
  exact goN (us := []) F hr hb I2 .nil rz l1 l2 q2
end
end AskG
/-! Rows as data: what repr shows of them, == with []. -/
namespace AskG
open PySem PySem.Spec PyProof.Rows L2
/-- data that repr shows in at most n signs -/
structure Fine (k n : Nat) (d : PyData) : Prop where
  shw : d.showable = true
  nod : d.hasDict = false
  dep : d.depth ≤ k
  len : d.shown.length ≤ n
theorem Fine.mono {k n k' n' : Nat} {d : PyData} (h : Fine k n d) (hk : k ≤ k') (hn : n ≤ n') : Fine k' n' d :=
  ⟨h.shw, h.nod, Nat.le_trans h.dep hk, Nat.le_trans h.len hn⟩
theorem all_fine {k n : Nat} : ∀ {ds : List PyData}, (∀ d ∈ ds, Fine k n d) →
    PyData.showableAll ds = true ∧ PyData.hasDictAll ds = false ∧ PyData.depthAll ds ≤ k ∧ ((PyData.shownAll ds).map (·.length)).sum ≤ ds.length * n ∧ (PyData.shownAll ds).length = ds.length
  | [], _ => ⟨rfl, rfl, Nat.zero_le _, Nat.zero_le _, rfl⟩
  | d :: ds, h => by
    obtain ⟨h1, h2, h3, h4, h5⟩ := all_fine (ds := ds) fun e he => h e (List.mem_cons_of_mem _ he)
    have f := h d List.mem_cons_self
    refine ⟨?_, ?_, ?_, ?_, ?_⟩
    · show (d.showable && PyData.showableAll ds) = true
      rw [f.shw, h1]
      rfl
    · show (d.hasDict || PyData.hasDictAll ds) = false
      rw [f.nod, h2]
      rfl
    · show max d.depth (PyData.depthAll ds) ≤ k
      exact Nat.max_le.mpr ⟨f.dep, h3⟩
    · show ((d.shown :: PyData.shownAll ds).map (·.length)).sum ≤ _
      rw [List.map_cons, List.sum_cons, List.length_cons, Nat.succ_mul]
      have := f.len
      omega
    · show (d.shown :: PyData.shownAll ds).length = _
      rw [List.length_cons, List.length_cons, h5]
theorem Fine.tup {k n m : Nat} {ds : List PyData} (h : ∀ d ∈ ds, Fine k n d) (hm : ds.length ≤ m) : Fine (k + 1) (m * (n + 2) + 3) (.tuple ds) := by
  obtain ⟨h1, h2, h3, h4, h5⟩ := all_fine h
  refine ⟨h1, h2, Nat.succ_le_succ h3, ?_⟩
  have := tupleText_len_le (PyData.shownAll ds)
  show (tupleText (PyData.shownAll ds)).length ≤ _
  have e : ds.length * (n + 2) ≤ m * (n + 2) := Nat.mul_le_mul_right _ hm
  have e2 : ds.length * (n + 2) = ds.length * n + 2 * ds.length := by rw [Nat.mul_add, Nat.mul_comm ds.length 2]
  rw [h5] at this
  omega
theorem Fine.lst {k n m : Nat} {ds : List PyData} (h : ∀ d ∈ ds, Fine k n d) (hm : ds.length ≤ m) : Fine (k + 1) (m * (n + 2) + 3) (.list ds) := by
  obtain ⟨h1, h2, h3, h4, h5⟩ := all_fine h
  refine ⟨h1, h2, Nat.succ_le_succ h3, ?_⟩
  have := listText_len_le (PyData.shownAll ds)
  show (listText (PyData.shownAll ds)).length ≤ _
  have e : ds.length * (n + 2) ≤ m * (n + 2) := Nat.mul_le_mul_right _ hm
  have e2 : ds.length * (n + 2) = ds.length * n + 2 * ds.length := by rw [Nat.mul_add, Nat.mul_comm ds.length 2]
  rw [h5] at this
  omega
theorem fine_int {i : Int} (h : i.natAbs.log2 < 1920) : Fine 0 1921 (.int i) :=
  ⟨decide_eq_true h, rfl, Nat.le_refl _, int_text_len_1921 h⟩
theorem fine_str {x : Str} (h : x.length ≤ 8) (hx : ∀ c ∈ x.cps.toList, c < 16 ^ 8) : Fine 0 1921 (.str x) :=
  ⟨rfl, rfl, Nat.le_refl _, by
    have := StrLaws.reprText_len x hx
    show (reprText x).length ≤ _
    omega⟩

/-- sizes of what rows hold -/
structure CellOk (c : Cell) : Prop where
  short : c.1.length ≤ 8
  plain : ∀ n ∈ c.1.cps.toList, n < 16 ^ 8
  ok : PyData.strOk c.1 = true
  lit : c.2.natAbs.log2 < 1920
def cellD (c : Cell) : PyData := .tuple [.str c.1, .int c.2]
def pairD (x : Cell × Int) : PyData := .tuple [cellD x.1, .int x.2]
def rowPD (ρ : RowD) : PyData := .tuple (ρ.map pairD)
structure RowOk (ρ : RowD) : Prop where
  many : ρ.length ≤ 100
  cells : ∀ x ∈ ρ, CellOk x.1
  lit : ∀ x ∈ ρ, x.2.natAbs.log2 < 1920
theorem fine_cell {c : Cell} (h : CellOk c) : Fine 1 3849 (cellD c) := by
  refine Fine.tup (k := 0) (n := 1921) (m := 2) (fun d hd => ?_) (Nat.le_refl _)
  rcases List.mem_cons.mp hd with e | hd
  · rw [e]
    exact fine_str h.short h.plain
  · rw [List.mem_singleton.mp hd]
    exact fine_int h.lit
theorem fine_pair {x : Cell × Int} (h : CellOk x.1) (hw : x.2.natAbs.log2 < 1920) : Fine 2 7705 (pairD x) := by
  refine Fine.tup (k := 1) (n := 3849) (m := 2) (fun d hd => ?_) (Nat.le_refl _)
  rcases List.mem_cons.mp hd with e | hd
  · rw [e]
    exact fine_cell h
  · rw [List.mem_singleton.mp hd]
    exact (fine_int hw).mono (by decide) (by decide)
theorem fine_row {ρ : RowD} (h : RowOk ρ) : Fine 3 770703 (rowPD ρ) := by
  refine Fine.tup (k := 2) (n := 7705) (m := 100) (fun d hd => ?_) (by rw [List.length_map]; exact h.many)
  obtain ⟨x, hx, rfl⟩ := List.mem_map.mp hd
  exact fine_pair (h.cells x hx) (h.lit x hx)

section
variable {K : PySem.W.Frag} {H : Hp}
theorem dp_cell {b : Addr} {c : Cell} (h : CellAt H b c) : Dp K H (.ref b) (cellD c) := .tup (sqT h) (.cons (.str _) (.cons (.int _) .nil))
theorem dp_pair {p : Addr} {x : Cell × Int} (h : PairRow H p x) : Dp K H (.ref p) (pairD x) := by
  obtain ⟨b, h1, h2⟩ := h
  exact .tup (sqT h1) (.cons (dp_cell h2) (.cons (.int _) .nil))
theorem dp_all {R : Addr → α → Prop} {f : α → PyData} (h : ∀ p x, R p x → Dp K H (.ref p) (f x)) : ∀ {ps : List Addr} {l : List α}, Paired R ps l → DpAll K H (ps.map V.ref) (l.map f)
  | _, _, .nil => .nil
  | _, _, .cons h1 t => .cons (h _ _ h1) (dp_all h t)
theorem dp_row {r : Addr} {ρ : RowD} (h : RowAt H r ρ) : Dp K H (.ref r) (rowPD ρ) := by
  obtain ⟨ps, h1, h2⟩ := h
  exact .tup (sqT h1) (dp_all (f := pairD) (R := PairRow H) (fun _ _ z => dp_pair z) h2)
end
/-! ### == of lists -/
theorem shaped_nil : SeqAt.shaped (.list []) = true := by decide
theorem can_all {f : α → PyData} : ∀ {l : List α}, (∀ x ∈ l, (f x).canLay0 = true) → PyData.canLayAll0 (l.map f) = true
  | [], _ => rfl
  | x :: l, h => by
    show ((f x).canLay0 && PyData.canLayAll0 (l.map f)) = true
    rw [h x List.mem_cons_self, can_all fun y hy => h y (List.mem_cons_of_mem _ hy)]
    rfl
theorem depth_all {f : α → PyData} {k : Nat} : ∀ {l : List α}, (∀ x ∈ l, (f x).depth ≤ k) → PyData.depthAll (l.map f) ≤ k
  | [], _ => Nat.zero_le _
  | x :: l, h => by
    show max (f x).depth (PyData.depthAll (l.map f)) ≤ k
    exact Nat.max_le.mpr ⟨h x List.mem_cons_self, depth_all fun y hy => h y (List.mem_cons_of_mem _ hy)⟩
theorem shaped_ints (ns : List Int) : SeqAt.shaped (.list (ns.map PyData.int)) = true := by
  have h1 : PyData.canLayAll0 (ns.map PyData.int) = true := can_all fun _ _ => rfl
  have h2 : PyData.depthAll (ns.map PyData.int) ≤ 0 := depth_all fun _ _ => Nat.le_refl _
  show (PyData.canLayAll0 (ns.map PyData.int) && decide (PyData.depthAll (ns.map PyData.int) + 1 ≤ 64)) = true
  rw [h1, decide_eq_true (by omega)]
  rfl
theorem shaped_pairs {ρ : RowD} (h : ∀ x ∈ ρ, CellOk x.1) : SeqAt.shaped (.list (ρ.map pairD)) = true := by
  have h1 : PyData.canLayAll0 (ρ.map pairD) = true := can_all fun x hx => by
    show (((PyData.strOk x.1.1) && (true && true)) && (true && true)) = true
    rw [(h x hx).ok]
    rfl
  have h2 : PyData.depthAll (ρ.map pairD) ≤ 2 := depth_all fun x _ => by
    show max (max 0 (max 0 0) + 1) (max 0 0) + 1 ≤ 2
    decide
  show (PyData.canLayAll0 (ρ.map pairD) && decide (PyData.depthAll (ρ.map pairD) + 1 ≤ 64)) = true
  rw [h1, decide_eq_true (by omega)]
  rfl
theorem dp_ints {K : PySem.W.Frag} {H : Hp} : ∀ ns : List Int, DpAll K H (ns.map V.int) (ns.map PyData.int)
  | [] => .nil
  | n :: ns => .cons (.int n) (dp_ints ns)
/-- the same by computation -/
def cellB (c : Cell) : Bool := decide (c.1.length ≤ 8) && c.1.cps.toList.all (fun n => decide (n < 16 ^ 8)) && PyData.strOk c.1 && decide (c.2.natAbs.log2 < 1920)
theorem cellOk_of {c : Cell} (h : cellB c = true) : CellOk c := by
  unfold cellB at h
  rw [Bool.and_eq_true, Bool.and_eq_true, Bool.and_eq_true] at h
  obtain ⟨⟨⟨h1, h2⟩, h3⟩, h4⟩ := h
  exact ⟨of_decide_eq_true h1, fun n hn => of_decide_eq_true (List.all_eq_true.mp h2 n hn), h3, of_decide_eq_true h4⟩
end AskG
/-! Rights: their kinds, their questions; a comprehension with two fors. -/
namespace AskG
open PySem PySem.Spec PyProof.Rows L2
inductive KindM
  | tot (s : Int)
  | win (l : Int)
  | per (b e : Int)
def KindM.vals : KindM → List V
  | .tot s => [.str "total", .int s]
  | .win l => [.str "window", .int l]
  | .per b e => [.str "period", .int b, .int e]
def KindM.data : KindM → PyData
  | .tot s => .tuple [.str "total", .int s]
  | .win l => .tuple [.str "window", .int l]
  | .per b e => .tuple [.str "period", .int b, .int e]
def KindM.lo (t : Int) : KindM → Int
  | .tot s => s
  | .win l => if t - l + 1 > 0 then t - l + 1 else 0
  | .per b _ => b
def KindM.hi (t : Int) : KindM → Int
  | .tot _ => t
  | .win _ => t
  | .per _ e => if t < e then t else e
structure KindM.Ok (k : KindM) : Prop where
  nn : match k with
    | .tot s => 0 ≤ s ∧ s ≤ 30
    | .win l => 0 ≤ l ∧ l ≤ 30
    | .per b e => 0 ≤ b ∧ b ≤ 30 ∧ 0 ≤ e ∧ e ≤ 30
structure Rt where
  person : Str
  ws : List Cell
  first : Int
  last : Int
  kind : KindM
def RightAt (H : Hp) (a : Addr) (R : Rt) : Prop := ∃ (wa : Addr) (ps : List Addr) (ka : Addr), H a = some (.tup [.str R.person, .ref wa, .int R.first, .int R.last, .ref ka]) ∧
  H wa = some (.tup (ps.map V.ref)) ∧ Paired (CellAt H) ps R.ws ∧ H ka = some (.tup R.kind.vals)
theorem CellAt.keepT {H H' : Hp} {b : Addr} {c : Cell} (h : CellAt H b c) (k : KeepT H H') : CellAt H' b c := k _ _ h
theorem RightAt.keep {H H' : Hp} {a : Addr} {R : Rt} (h : RightAt H a R) (k : KeepT H H') : RightAt H' a R := by
  obtain ⟨wa, ps, ka, h1, h2, h3, h4⟩ := h
  exact ⟨wa, ps, ka, k _ _ h1, k _ _ h2, Paired.mapP h3 fun _ _ z => z.keepT k, k _ _ h4⟩
def rightD (R : Rt) : PyData := .tuple [.str R.person, .tuple (R.ws.map cellD), .int R.first, .int R.last, R.kind.data]
theorem dp_kind {K : PySem.W.Frag} {H : Hp} {a : Addr} {k : KindM} (h : H a = some (.tup k.vals)) : Dp K H (.ref a) k.data := by
  cases k with
  | tot s => exact .tup (sqT h) (.cons (.str _) (.cons (.int _) .nil))
  | win l => exact .tup (sqT h) (.cons (.str _) (.cons (.int _) .nil))
  | per b e => exact .tup (sqT h) (.cons (.str _) (.cons (.int _) (.cons (.int _) .nil)))
theorem dp_right {K : PySem.W.Frag} {H : Hp} {a : Addr} {R : Rt} (h : RightAt H a R) : Dp K H (.ref a) (rightD R) := by
  obtain ⟨wa, ps, ka, h1, h2, h3, h4⟩ := h
  exact .tup (sqT h1) (.cons (.str _) (.cons (.tup (sqT h2) (dp_all (f := cellD) (R := CellAt H) (fun _ _ z => dp_cell z) h3)) (.cons (.int _) (.cons (.int _) (.cons (dp_kind h4) .nil)))))
structure RtOk (R : Rt) : Prop where
  name : CellOk (R.person, 0)
  many : R.ws.length ≤ 3
  ws : ∀ x ∈ R.ws, CellOk x
  f0 : 0 ≤ R.first
  f1 : R.first ≤ 30
  l0 : 0 ≤ R.last
  l1 : R.last ≤ 30
  kind : R.kind.Ok
def daysOf (lo hi : Int) : List Int := (List.range (hi + 1 - lo).toNat).map fun (i : Nat) => lo + (i : Int)
def rowOn (ws : List Cell) (lo hi : Int) : RowD := ws.flatMap fun x => (daysOf lo hi).map fun d => ((x.1, d), x.2)
def usedB (R : Rt) (t : Int) : Bool := decide (R.first ≤ t) && decide (t ≤ R.last)
def rowQ (R : Rt) (t : Int) : RowD := rowOn R.ws (R.kind.lo t) (R.kind.hi t)
theorem kind_bounds {k : KindM} (h : k.Ok) {t : Int} (t0 : 0 ≤ t) (t9 : t ≤ 9) : 0 ≤ k.lo t ∧ k.lo t ≤ 30 ∧ k.hi t ≤ 9 ∧ 0 ≤ k.hi t := by
  have h := h.nn
  cases k with
  | tot s =>
    refine ⟨h.1, h.2, t9, t0⟩
  | win l =>
    have h : 0 ≤ l ∧ l ≤ 30 := h
    show 0 ≤ (if t - l + 1 > 0 then t - l + 1 else 0) ∧ (if t - l + 1 > 0 then t - l + 1 else 0) ≤ 30 ∧ t ≤ 9 ∧ 0 ≤ t
    split <;> omega
  | per b e =>
    have h : 0 ≤ b ∧ b ≤ 30 ∧ 0 ≤ e ∧ e ≤ 30 := h
    show 0 ≤ b ∧ b ≤ 30 ∧ (if t < e then t else e) ≤ 9 ∧ 0 ≤ (if t < e then t else e)
    split <;> omega
theorem days_len (lo hi : Int) : (daysOf lo hi).length = (hi + 1 - lo).toNat := by
  unfold daysOf
  rw [List.length_map, List.length_range]
theorem rowOn_len : ∀ (ws : List Cell) (lo hi : Int), (rowOn ws lo hi).length = ws.length * (hi + 1 - lo).toNat
  | [], _, _ => by
    rw [List.length_nil, Nat.zero_mul]
    rfl
  | x :: ws, lo, hi => by
    show ((daysOf lo hi).map (fun d => ((x.1, d), x.2)) ++ rowOn ws lo hi).length = _
    rw [List.length_append, List.length_map, days_len, rowOn_len ws lo hi, List.length_cons, Nat.succ_mul]
    omega
/-! ### [.. for x in t for d in range(..)] -/
section
variable {K : PySem.W.Frag} {a : Addr} {xs : List V} {g : TG} {wi1 : TI} {g1 : TG} {te : TE} {vs vs1 : List Nat} {σ : L2.St} {H1 : Hp} {D : Addr} {Qd : Hp → Prop} {lo : Int} {n : Nat}
theorem lc2_go (P : Nat → Nat → Hp → Prop) (h0 : P 0 0 (upd H1 D (.lst []))) (hl : ∀ i H, P i 0 H → SqT K H a xs)
    (hg : ∀ x σ H (Q Q' : L2.St → Hp → Prop), (∀ σ2 H2, Q σ2 H2 → Q' σ2 H2) → g x σ H Q → g x σ H Q')
    (hg1 : ∀ x σ H (Q Q' : L2.St → Hp → Prop), (∀ σ2 H2, Q σ2 H2 → Q' σ2 H2) → g1 x σ H Q → g1 x σ H Q')
    (hte : ∀ σ H (Q Q' : VK), (∀ v H2, Q v H2 → Q' v H2) → te σ H Q → te σ H Q')
    (hs : ∀ i x H, xs[i]? = some x → P i 0 H → g x (wipe σ vs) H fun σ2 H2 => wipe σ2 vs = wipe σ vs ∧ P i 0 H2 ∧ (∀ R : It → Hp → Prop, R (Itr lo n) H2 → wi1 σ2 H2 R) ∧
      ∀ j H', j < n → P i j H' → g1 (.int (lo + j)) (wipe σ2 vs1) H' fun σ3 H5 => wipe σ3 vs1 = wipe σ2 vs1 ∧ te σ3 H5 fun y H7 => ∃ acc, H7 D = some (.lst acc) ∧ acc.length < sizeLine ∧ P i (j + 1) (upd H7 D (.lst (acc ++ [y]))))
    (hn : ∀ i H, P i n H → P (i + 1) 0 H) (hd : ∀ H, P xs.length 0 H → Qd H) :
    ∃ W : Nat → Nat → Hp → Prop, (∃ m, W 0 m (upd H1 D (.lst []))) ∧ ∀ i m H, W i m H →
      ((Itt K a).stop i H ∧ Qd H) ∨ ((Itt K a).go i H ∧ ∃ Nx : Hp → Prop, (∀ H', Nx H' → ∃ m', m' < m ∧ W (i + 1) m' H') ∧ ∀ x H', (Itt K a).yld i H x H' → g x (wipe σ vs) H' fun σ2 H2 => wipe σ2 vs = wipe σ vs ∧ tYes σ2 H2 fun b H3 =>
        if b = true then wi1 σ2 H3 fun J1 H4 => ∃ W1 : Nat → Nat → Hp → Prop, (∃ m, W1 0 m H4) ∧ ∀ j k H, W1 j k H →
          (J1.stop j H ∧ Nx H) ∨ (J1.go j H ∧ ∃ Nx1 : Hp → Prop, (∀ H', Nx1 H' → ∃ k', k' < k ∧ W1 (j + 1) k' H') ∧ ∀ x H', J1.yld j H x H' → g1 x (wipe σ2 vs1) H' fun σ3 H5 => wipe σ3 vs1 = wipe σ2 vs1 ∧ tYes σ3 H5 fun b H6 =>
            if b = true then te σ3 H6 fun y H7 => ∃ acc, H7 D = some (.lst acc) ∧ acc.length < sizeLine ∧ Nx1 (upd H7 D (.lst (acc ++ [y]))) else Nx1 H6)
        else Nx H3) := by
  refine ⟨fun i m H => m = xs.length - i ∧ i ≤ xs.length ∧ P i 0 H, ⟨xs.length, by simp, Nat.zero_le _, h0⟩, ?_⟩
  rintro i m H ⟨rfl, hi, p⟩
  have q := hl i H p
  by_cases hlt : i < xs.length
  · refine .inr ⟨⟨xs, xs[i], q, by simp [hlt]⟩, fun H' => P (i + 1) 0 H', fun H' p' => ⟨xs.length - (i + 1), by omega, rfl, hlt, p'⟩, fun x H' y => ?_⟩
    obtain ⟨e, y⟩ := y
    subst e
    refine hg _ _ _ _ _ (fun σ2 H2 z => ?_) (hs i x _ (y xs q) p)
    obtain ⟨z1, z2, z3, z4⟩ := z
    refine ⟨z1, iYes (iteT (z3 _ ?_))⟩
    refine ⟨fun j k H => k = n - j ∧ j ≤ n ∧ P i j H, ⟨n, by simp, Nat.zero_le _, z2⟩, ?_⟩
    rintro j k H5 ⟨rfl, hj, pj⟩
    by_cases hjn : j < n
    · refine .inr ⟨hjn, fun H' => P i (j + 1) H', fun H' p' => ⟨n - (j + 1), by omega, rfl, hjn, p'⟩, fun x H' y => ?_⟩
      obtain ⟨rfl, rfl⟩ := y
      refine hg1 _ _ _ _ _ (fun σ3 H6 u => ?_) (z4 j _ hjn pj)
      exact ⟨u.1, iYes (iteT u.2)⟩
    · have e : j = n := by omega
      subst e
      exact .inl ⟨Nat.le_refl _, hn i _ pj⟩
  · have e : i = xs.length := by omega
    subst e
    exact .inl ⟨⟨xs, q, Nat.le_refl _⟩, hd H p⟩
end
end AskG
/-! Values of any kind, and what the kind checks say of them. -/
namespace AskG
open PySem PySem.Spec PyProof.Rows L2
mutual
/-- the data that lies at a value; D is no part of it -/
inductive DH (D : Addr) (H : Hp) : V → PyData → Prop
  | non : DH D H .non .none
  | bl (b : Bool) : DH D H (.bl b) (.bool b)
  | int (i : Int) : DH D H (.int i) (.int i)
  | str (x : Str) : DH D H (.str x) (.str x)
  | lst {a : Addr} {xs : List V} {ds : List PyData} (n : a ≠ D) (e : H a = some (.lst xs)) (t : DHs D H xs ds) : DH D H (.ref a) (.list ds)
  | tup {a : Addr} {xs : List V} {ds : List PyData} (e : H a = some (.tup xs)) (t : DHs D H xs ds) : DH D H (.ref a) (.tuple ds)
inductive DHs (D : Addr) (H : Hp) : List V → List PyData → Prop
  | nil : DHs D H [] []
  | cons {v : V} {vs : List V} {d : PyData} {ds : List PyData} (h : DH D H v d) (t : DHs D H vs ds) : DHs D H (v :: vs) (d :: ds)
end
structure KeepD (D : Addr) (H H' : Hp) : Prop where
  tup : ∀ b xs, H b = some (.tup xs) → H' b = some (.tup xs)
  lst : ∀ b xs, b ≠ D → H b = some (.lst xs) → H' b = some (.lst xs)
theorem KeepD.of {D : Addr} {H H' : Hp} (h : Same H H') : KeepD D H H' := ⟨fun b _ e => h b _ e, fun b _ _ e => h b _ e⟩
theorem KeepD.trans {D : Addr} {H H1 H2 : Hp} (h : KeepD D H H1) (g : KeepD D H1 H2) : KeepD D H H2 := ⟨fun b xs e => g.tup b xs (h.tup b xs e), fun b xs n e => g.lst b xs n (h.lst b xs n e)⟩
mutual
theorem DH.keep {D : Addr} {H H' : Hp} (k : KeepD D H H') : ∀ {v : V} {d : PyData}, DH D H v d → DH D H' v d
  | _, _, .non => .non
  | _, _, .bl b => .bl b
  | _, _, .int i => .int i
  | _, _, .str x => .str x
  | _, _, .lst n e t => .lst n (k.lst _ _ n e) (DHs.keep k t)
  | _, _, .tup e t => .tup (k.tup _ _ e) (DHs.keep k t)
theorem DHs.keep {D : Addr} {H H' : Hp} (k : KeepD D H H') : ∀ {vs : List V} {ds : List PyData}, DHs D H vs ds → DHs D H' vs ds
  | _, _, .nil => .nil
  | _, _, .cons h t => .cons (DH.keep k h) (DHs.keep k t)
end
mutual
/-- an address that is still free is no part -/
theorem DH.shun {D E : Addr} {H : Hp} (f : H E = none) : ∀ {v : V} {d : PyData}, DH D H v d → DH E H v d
  | _, _, .non => .non
  | _, _, .bl b => .bl b
  | _, _, .int i => .int i
  | _, _, .str x => .str x
  | _, _, .lst n e t => .lst (fun z => by rw [z, f] at e; cases e) e (DHs.shun f t)
  | _, _, .tup e t => .tup e (DHs.shun f t)
theorem DHs.shun {D E : Addr} {H : Hp} (f : H E = none) : ∀ {vs : List V} {ds : List PyData}, DHs D H vs ds → DHs E H vs ds
  | _, _, .nil => .nil
  | _, _, .cons h t => .cons (DH.shun f h) (DHs.shun f t)
end
mutual
theorem DH.dp {K : PySem.W.Frag} {D : Addr} {H : Hp} : ∀ {v : V} {d : PyData}, DH D H v d → Dp K H v d
  | _, _, .non => .non
  | _, _, .bl b => .bl b
  | _, _, .int i => .int i
  | _, _, .str x => .str x
  | _, _, .lst _ e t => .lst (sqL e) (DHs.dp t)
  | _, _, .tup e t => .tup (sqT e) (DHs.dp t)
theorem DHs.dp {K : PySem.W.Frag} {D : Addr} {H : Hp} : ∀ {vs : List V} {ds : List PyData}, DHs D H vs ds → DpAll K H vs ds
  | _, _, .nil => .nil
  | _, _, .cons h t => .cons (DH.dp h) (DHs.dp t)
end
theorem DHs.len {D : Addr} {H : Hp} : ∀ {vs : List V} {ds : List PyData}, DHs D H vs ds → vs.length = ds.length
  | _, _, .nil => rfl
  | _, _, .cons _ t => by rw [List.length_cons, List.length_cons, DHs.len t]
theorem DHs.at {D : Addr} {H : Hp} : ∀ {vs : List V} {ds : List PyData}, DHs D H vs ds → ∀ {i : Nat} {v : V}, vs[i]? = some v → ∃ d, ds[i]? = some d ∧ DH D H v d
  | _, _, .nil, i, v, e => by cases i <;> cases e
  | _, _, .cons h t, 0, v, e => by
    cases e
    exact ⟨_, rfl, h⟩
  | _, _, .cons h t, i + 1, v, e => DHs.at t e
theorem DHs.app {D : Addr} {H : Hp} : ∀ {vs ws : List V} {ds es : List PyData}, DHs D H vs ds → DHs D H ws es → DHs D H (vs ++ ws) (ds ++ es)
  | _, _, _, _, .nil, h => h
  | _, _, _, _, .cons h t, g => .cons h (DHs.app t g)
/-! ### sizes -/
mutual
def smallD : PyData → Bool
  | .str s => decide (s.length ≤ 1000) && PyData.strOk s
  | .list ds => decide (ds.length ≤ 1000) && smallDs ds
  | .tuple ds => decide (ds.length ≤ 1000) && smallDs ds
  | .dict _ => false
  | _ => true
def smallDs : List PyData → Bool
  | [] => true
  | d :: ds => smallD d && smallDs ds
end
theorem smallDs_at : ∀ {ds : List PyData} {i : Nat} {d : PyData}, smallDs ds = true → ds[i]? = some d → smallD d = true
  | [], i, _, _, e => by cases i <;> cases e
  | x :: ds, 0, _, h, e => by
    cases e
    unfold smallDs at h
    rw [Bool.and_eq_true] at h
    exact h.1
  | x :: ds, i + 1, _, h, e => by
    unfold smallDs at h
    rw [Bool.and_eq_true] at h
    exact smallDs_at (ds := ds) (i := i) h.2 e
theorem small_tup {ds : List PyData} (h : smallD (.tuple ds) = true) : ds.length ≤ 1000 ∧ smallDs ds = true := by
  unfold smallD at h
  rw [Bool.and_eq_true] at h
  exact ⟨of_decide_eq_true h.1, h.2⟩
theorem small_lst {ds : List PyData} (h : smallD (.list ds) = true) : ds.length ≤ 1000 ∧ smallDs ds = true := by
  unfold smallD at h
  rw [Bool.and_eq_true] at h
  exact ⟨of_decide_eq_true h.1, h.2⟩
theorem small_str {s : Str} (h : smallD (.str s) = true) : s.length ≤ 1000 := by
  unfold smallD at h
  rw [Bool.and_eq_true] at h
  exact of_decide_eq_true h.1
theorem small_strOk {s : Str} (h : smallD (.str s) = true) : PyData.strOk s = true := by
  unfold smallD at h
  rw [Bool.and_eq_true] at h
  exact h.2
mutual
theorem small_lay : ∀ {d : PyData}, smallD d = true → d.canLay0 = true
  | .none, _ => rfl
  | .bool _, _ => rfl
  | .int _, _ => rfl
  | .str _, h => small_strOk h
  | .list _, h => small_lays (small_lst h).2
  | .tuple _, h => small_lays (small_tup h).2
  | .dict _, h => by cases h
theorem small_lays : ∀ {ds : List PyData}, smallDs ds = true → PyData.canLayAll0 ds = true
  | [], _ => rfl
  | d :: ds, h => by
    unfold smallDs at h
    rw [Bool.and_eq_true] at h
    show (d.canLay0 && PyData.canLayAll0 ds) = true
    rw [small_lay h.1, small_lays h.2]
    rfl
end
/-! ### kinds -/
def tyN : PyData → String
  | .none => "NoneType"
  | .bool _ => "bool"
  | .int _ => "int"
  | .str _ => "str"
  | .list _ => "list"
  | .tuple _ => "tuple"
  | .dict _ => "dict"
theorem DH.ty {K : PySem.W.Frag} {D : Addr} {H : Hp} {v : V} {d : PyData} (h : DH D H v d) : TyX K H v (.type (tyN d)) := by
  cases h with
  | non => exact .base .non
  | bl b => exact .base (.bl b)
  | int i => exact .base (.int i)
  | str x => exact .base (.str x)
  | lst _ e _ => exact .base (.lst e)
  | tup e _ => exact .base (.tup e)
def intB : PyData → Bool
  | .bool _ => true
  | .int _ => true
  | _ => false
def boolB : PyData → Bool
  | .bool _ => true
  | _ => false
def strB : PyData → Bool
  | .str _ => true
  | _ => false
def tupB : PyData → Bool
  | .tuple _ => true
  | _ => false
theorem kit_int : ∀ d : PyData, kitB (tyN d) "int" = some (intB d)
  | .none => show kitB "NoneType" "int" = some false from by decide +kernel
  | .bool _ => show kitB "bool" "int" = some true from by decide +kernel
  | .int _ => show kitB "int" "int" = some true from by decide +kernel
  | .str _ => show kitB "str" "int" = some false from by decide +kernel
  | .list _ => show kitB "list" "int" = some false from by decide +kernel
  | .tuple _ => show kitB "tuple" "int" = some false from by decide +kernel
  | .dict _ => show kitB "dict" "int" = some false from by decide +kernel
theorem kit_bool : ∀ d : PyData, kitB (tyN d) "bool" = some (boolB d)
  | .none => show kitB "NoneType" "bool" = some false from by decide +kernel
  | .bool _ => show kitB "bool" "bool" = some true from by decide +kernel
  | .int _ => show kitB "int" "bool" = some false from by decide +kernel
  | .str _ => show kitB "str" "bool" = some false from by decide +kernel
  | .list _ => show kitB "list" "bool" = some false from by decide +kernel
  | .tuple _ => show kitB "tuple" "bool" = some false from by decide +kernel
  | .dict _ => show kitB "dict" "bool" = some false from by decide +kernel
theorem kit_str : ∀ d : PyData, kitB (tyN d) "str" = some (strB d)
  | .none => show kitB "NoneType" "str" = some false from by decide +kernel
  | .bool _ => show kitB "bool" "str" = some false from by decide +kernel
  | .int _ => show kitB "int" "str" = some false from by decide +kernel
  | .str _ => show kitB "str" "str" = some true from by decide +kernel
  | .list _ => show kitB "list" "str" = some false from by decide +kernel
  | .tuple _ => show kitB "tuple" "str" = some false from by decide +kernel
  | .dict _ => show kitB "dict" "str" = some false from by decide +kernel
theorem kit_tup : ∀ d : PyData, kitB (tyN d) "tuple" = some (tupB d)
  | .none => show kitB "NoneType" "tuple" = some false from by decide +kernel
  | .bool _ => show kitB "bool" "tuple" = some false from by decide +kernel
  | .int _ => show kitB "int" "tuple" = some false from by decide +kernel
  | .str _ => show kitB "str" "tuple" = some false from by decide +kernel
  | .list _ => show kitB "list" "tuple" = some false from by decide +kernel
  | .tuple _ => show kitB "tuple" "tuple" = some true from by decide +kernel
  | .dict _ => show kitB "dict" "tuple" = some false from by decide +kernel
def itemD (d : PyData) (i : Nat) : PyData := match d with
  | .tuple ds => ds.getD i .none
  | _ => .none
def isIntD (d : PyData) : Bool := intB d && !boolB d
def geD (d : PyData) : Bool := match d with
  | .int i => decide (0 ≤ i)
  | _ => false
def isNumD (d : PyData) : Bool := isIntD d && geD d
def lettersD : Str := "abcdefghijklmnopqrstuvwxyz"
def nameS (s : Str) : Bool := (decide (1 ≤ s.length) && decide (s.length ≤ 8)) && s.cps.toList.all fun n => decide (n ∈ lettersD.cps.toList)
def isNameD (d : PyData) : Bool := match d with
  | .str s => nameS s
  | _ => false
def isPairD (d : PyData) : Bool := match d with
  | .tuple ds => decide (ds.length = 2)
  | _ => false
def isCellD (d : PyData) : Bool := isPairD d && (isNameD (itemD d 0) && isNumD (itemD d 1))
def nzD (d : PyData) : Bool := match d with
  | .int i => decide (i ≠ 0)
  | _ => true
def isWtD (d : PyData) : Bool := isPairD d && (isCellD (itemD d 0) && (isIntD (itemD d 1) && nzD (itemD d 1)))
theorem int_of {d : PyData} (h : isIntD d = true) : ∃ i, d = .int i := by
  cases d with
  | int i => exact ⟨i, rfl⟩
  | bool b => cases h
  | none => cases h
  | str _ => cases h
  | list _ => cases h
  | tuple _ => cases h
  | dict _ => cases h
theorem pair_of {d : PyData} (h : isPairD d = true) : ∃ x y, d = .tuple [x, y] := by
  cases d with
  | tuple ds =>
    have e : ds.length = 2 := of_decide_eq_true h
    match ds, e with
    | [x, y], _ => exact ⟨x, y, rfl⟩
  | _ => cases h
theorem DH.int_inv {D : Addr} {H : Hp} {v : V} {i : Int} (h : DH D H v (.int i)) : v = .int i := by
  cases h
  rfl
theorem DH.str_inv {D : Addr} {H : Hp} {v : V} {s : Str} (h : DH D H v (.str s)) : v = .str s := by
  cases h
  rfl
theorem DH.tup_inv {D : Addr} {H : Hp} {v : V} {ds : List PyData} (h : DH D H v (.tuple ds)) : ∃ a xs, v = .ref a ∧ H a = some (.tup xs) ∧ DHs D H xs ds := by
  cases h with
  | tup e t => exact ⟨_, _, rfl, e, t⟩
theorem DH.pair_inv {D : Addr} {H : Hp} {v : V} {x y : PyData} (h : DH D H v (.tuple [x, y])) : ∃ a p q, v = .ref a ∧ H a = some (.tup [p, q]) ∧ DH D H p x ∧ DH D H q y := by
  obtain ⟨a, xs, rfl, e, t⟩ := h.tup_inv
  cases t with
  | cons h1 t =>
    cases t with
    | cons h2 t =>
      cases t
      exact ⟨a, _, _, rfl, e, h1, h2⟩
/-- a check of one value -/
def prKind (f : PyData → Bool) : Pr := fun vs H Q => ∃ (v : V) (d : PyData) (D : Addr), vs = [v] ∧ DH D H v d ∧ smallD d = true ∧ ∀ H', Same H H' → Q (.bl (f d)) H'
end AskG
/-! How long the text of data is. -/
namespace AskG
open PySem PySem.Spec PyProof.Rows L2
mutual
/-- whole numbers of at most eighty digits -/
def litD : PyData → Bool
  | .int i => decide (i.natAbs < 10 ^ 80)
  | .list ds => litDs ds
  | .tuple ds => litDs ds
  | .dict _ => false
  | _ => true
def litDs : List PyData → Bool
  | [] => true
  | d :: ds => litD d && litDs ds
end
mutual
def wtD : PyData → Nat
  | .none => 5
  | .bool _ => 5
  | .int _ => 81
  | .str s => 10 * s.length + 2
  | .list ds => wtDs ds + 2 * ds.length + 3
  | .tuple ds => wtDs ds + 2 * ds.length + 3
  | .dict _ => 0
def wtDs : List PyData → Nat
  | [] => 0
  | d :: ds => wtD d + wtDs ds
end
structure Told (d : PyData) : Prop where
  shw : d.showable = true
  nod : d.hasDict = false
  len : d.shown.length ≤ wtD d
structure Tolds (ds : List PyData) : Prop where
  shw : PyData.showableAll ds = true
  nod : PyData.hasDictAll ds = false
  len : ((PyData.shownAll ds).map (·.length)).sum ≤ wtDs ds
  cnt : (PyData.shownAll ds).length = ds.length
theorem told_int {i : Int} (h : i.natAbs < 10 ^ 80) : Told (.int i) := by
  have h2 : i.natAbs < 2 ^ 1900 := Nat.lt_trans h (by decide)
  have h3 : i.natAbs.log2 < 1920 := by
    by_cases z : i.natAbs = 0
    · rw [z]
      decide
    · have := (Nat.log2_lt z).mpr h2
      omega
  refine ⟨decide_eq_true h3, rfl, ?_⟩
  show (PySem.Str.ofString (toString i)).length ≤ 81
  rw [PySem.ofString_length]
  exact PySem.int_text_length_le10 (k := 80) (by decide) h
theorem told_str {s : Str} (h : PyData.strOk s = true) : Told (.str s) := by
  refine ⟨rfl, rfl, ?_⟩
  show (reprText s).length ≤ 10 * s.length + 2
  refine StrLaws.reprText_len s fun c hc => ?_
  have := Array.all_eq_true'.mp h c (Array.mem_toList_iff.mp hc)
  have := of_decide_eq_true this
  omega
mutual
theorem told : ∀ {d : PyData}, smallD d = true → litD d = true → Told d
  | .none, _, _ => ⟨rfl, rfl, by decide +kernel⟩
  | .bool true, _, _ => ⟨rfl, rfl, by decide +kernel⟩
  | .bool false, _, _ => ⟨rfl, rfl, by decide +kernel⟩
  | .int i, _, h => told_int (of_decide_eq_true h)
  | .str s, h, _ => told_str (small_strOk h)
  | .list ds, h, g => by
    have t := tolds (small_lst h).2 (show litDs ds = true from g)
    refine ⟨t.shw, t.nod, ?_⟩
    have := listText_len_le (PyData.shownAll ds)
    show (listText (PyData.shownAll ds)).length ≤ wtDs ds + 2 * ds.length + 3
    rw [t.cnt] at this
    have := t.len
    omega
  | .tuple ds, h, g => by
    have t := tolds (small_tup h).2 (show litDs ds = true from g)
    refine ⟨t.shw, t.nod, ?_⟩
    have := tupleText_len_le (PyData.shownAll ds)
    show (tupleText (PyData.shownAll ds)).length ≤ wtDs ds + 2 * ds.length + 3
    rw [t.cnt] at this
    have := t.len
    omega
  | .dict _, h, _ => by cases h
theorem tolds : ∀ {ds : List PyData}, smallDs ds = true → litDs ds = true → Tolds ds
  | [], _, _ => ⟨rfl, rfl, Nat.le_refl _, rfl⟩
  | d :: ds, h, g => by
    unfold smallDs at h
    unfold litDs at g
    rw [Bool.and_eq_true] at h g
    have a := told h.1 g.1
    have b := tolds h.2 g.2
    refine ⟨?_, ?_, ?_, ?_⟩
    · show (d.showable && PyData.showableAll ds) = true
      rw [a.shw, b.shw]
      rfl
    · show (d.hasDict || PyData.hasDictAll ds) = false
      rw [a.nod, b.nod]
      rfl
    · show ((d.shown :: PyData.shownAll ds).map (·.length)).sum ≤ wtD d + wtDs ds
      rw [List.map_cons, List.sum_cons]
      have := a.len
      have := b.len
      omega
    · show (d.shown :: PyData.shownAll ds).length = _
      rw [List.length_cons, List.length_cons, b.cnt]
end
theorem wtDs_app : ∀ xs ys : List PyData, wtDs (xs ++ ys) = wtDs xs + wtDs ys
  | [], ys => by
    show wtDs ys = 0 + wtDs ys
    omega
  | x :: xs, ys => by
    show wtD x + wtDs (xs ++ ys) = wtD x + wtDs xs + wtDs ys
    rw [wtDs_app xs ys]
    omega
/-- the text of data at a value -/
theorem repr_told {K : PySem.W.Frag} {D H a d} {Q : VK} (h : DH D H (.ref a) d) (s : smallD d = true) (l : litD d = true) (dep : d.depth ≤ 60) (w : wtD d ≤ 16777216) (q : Q (.str d.shown) H) : rRepr K [.ref a] H Q := by
  have t := told s l
  exact ⟨a, d, rfl, h.dp, t.shw, t.nod, dep, by rw [sizeLine_eq]; exact Nat.le_trans t.len w, q⟩
end AskG
/-! Measures of data: lengths, numbers, depth, weight; how they go with lists. -/
namespace AskG
open PySem PySem.Spec PyProof.Rows L2
/-- plain signs only -/
def ascS (s : Str) : Bool := s.cps.toList.all fun c => decide (c < 128)
theorem asc_ok {s : Str} (h : ascS s = true) : PyData.strOk s = true :=
  Array.all_eq_true'.mpr fun c hc => decide_eq_true (by
    have := of_decide_eq_true (List.all_eq_true.mp h c (Array.mem_toList_iff.mpr hc))
    omega)
theorem asc_app {s z : Str} (h : ascS s = true) (g : ascS z = true) : ascS (s ++ z) = true := by
  show ((s.cps ++ z.cps).toList.all fun c => decide (c < 128)) = true
  rw [Array.toList_append, List.all_append]
  exact Bool.and_eq_true_iff.mpr ⟨h, g⟩
theorem asc_sub {s z : Str} (h : ascS s = true) (g : ∀ c ∈ z.cps.toList, c ∈ s.cps.toList) : ascS z = true :=
  List.all_eq_true.mpr fun c hc => List.all_eq_true.mp h c (g c hc)
mutual
/-- strings of plain signs, no dicts -/
def okS : PyData → Bool
  | .str s => ascS s
  | .list ds => okSs ds
  | .tuple ds => okSs ds
  | .dict _ => false
  | _ => true
def okSs : List PyData → Bool
  | [] => true
  | d :: ds => okS d && okSs ds
end
mutual
/-- the greatest length of a string, a list, a tuple in it -/
def bigD : PyData → Nat
  | .str s => s.length
  | .list ds => max ds.length (bigDs ds)
  | .tuple ds => max ds.length (bigDs ds)
  | _ => 0
def bigDs : List PyData → Nat
  | [] => 0
  | d :: ds => max (bigD d) (bigDs ds)
end
mutual
/-- the greatest whole number in it, without sign -/
def topD : PyData → Nat
  | .int i => i.natAbs
  | .list ds => topDs ds
  | .tuple ds => topDs ds
  | _ => 0
def topDs : List PyData → Nat
  | [] => 0
  | d :: ds => max (topD d) (topDs ds)
end
mutual
theorem small_by : ∀ {d : PyData}, okS d = true → bigD d ≤ 1000 → smallD d = true
  | .none, _, _ => rfl
  | .bool _, _, _ => rfl
  | .int _, _, _ => rfl
  | .str s, h, g => by
    have h : PyData.strOk s = true := asc_ok h
    have g : s.length ≤ 1000 := g
    unfold smallD
    rw [decide_eq_true g, h]
    rfl
  | .list ds, h, g => by
    have g : max ds.length (bigDs ds) ≤ 1000 := g
    unfold smallD
    rw [decide_eq_true (by omega), smalls_by (ds := ds) h (by omega)]
    rfl
  | .tuple ds, h, g => by
    have g : max ds.length (bigDs ds) ≤ 1000 := g
    unfold smallD
    rw [decide_eq_true (by omega), smalls_by (ds := ds) h (by omega)]
    rfl
  | .dict _, h, _ => by cases h
theorem smalls_by : ∀ {ds : List PyData}, okSs ds = true → bigDs ds ≤ 1000 → smallDs ds = true
  | [], _, _ => rfl
  | d :: ds, h, g => by
    unfold okSs at h
    rw [Bool.and_eq_true] at h
    have g : max (bigD d) (bigDs ds) ≤ 1000 := g
    unfold smallDs
    rw [small_by h.1 (by omega), smalls_by h.2 (by omega)]
    rfl
end
mutual
theorem lit_by : ∀ {d : PyData}, okS d = true → topD d < 10 ^ 80 → litD d = true
  | .none, _, _ => rfl
  | .bool _, _, _ => rfl
  | .int _, _, g => decide_eq_true g
  | .str _, _, _ => rfl
  | .list ds, h, g => lits_by (ds := ds) h g
  | .tuple ds, h, g => lits_by (ds := ds) h g
  | .dict _, h, _ => by cases h
theorem lits_by : ∀ {ds : List PyData}, okSs ds = true → topDs ds < 10 ^ 80 → litDs ds = true
  | [], _, _ => rfl
  | d :: ds, h, g => by
    unfold okSs at h
    rw [Bool.and_eq_true] at h
    have g : max (topD d) (topDs ds) < 10 ^ 80 := g
    unfold litDs
    rw [lit_by h.1 (by omega), lits_by h.2 (by omega)]
    rfl
end
/-- measures of a list's items, all at once -/
structure All (b t k n : Nat) (ds : List PyData) : Prop where
  ok : okSs ds = true
  big : bigDs ds ≤ b
  top : topDs ds ≤ t
  dep : PyData.depthAll ds ≤ k
  wt : wtDs ds ≤ n
structure Of (b t k n : Nat) (d : PyData) : Prop where
  ok : okS d = true
  big : bigD d ≤ b
  top : topD d ≤ t
  dep : d.depth ≤ k
  wt : wtD d ≤ n
theorem All.nil {b t k n : Nat} : All b t k n [] := ⟨rfl, Nat.zero_le _, Nat.zero_le _, Nat.zero_le _, Nat.zero_le _⟩
theorem All.cons {b t k n m : Nat} {d : PyData} {ds : List PyData} (h : Of b t k m d) (g : All b t k n ds) : All b t k (m + n) (d :: ds) := by
  refine ⟨?_, ?_, ?_, ?_, ?_⟩
  · unfold okSs
    rw [h.ok, g.ok]
    rfl
  · show max (bigD d) (bigDs ds) ≤ b
    exact Nat.max_le.mpr ⟨h.big, g.big⟩
  · show max (topD d) (topDs ds) ≤ t
    exact Nat.max_le.mpr ⟨h.top, g.top⟩
  · show max d.depth (PyData.depthAll ds) ≤ k
    exact Nat.max_le.mpr ⟨h.dep, g.dep⟩
  · show wtD d + wtDs ds ≤ m + n
    have := h.wt
    have := g.wt
    omega
theorem All.head {b t k n : Nat} {d : PyData} {ds : List PyData} (h : All b t k n (d :: ds)) : Of b t k n d := by
  have h1 := h.ok
  unfold okSs at h1
  rw [Bool.and_eq_true] at h1
  have h2 : max (bigD d) (bigDs ds) ≤ b := h.big
  have h3 : max (topD d) (topDs ds) ≤ t := h.top
  have h4 : max d.depth (PyData.depthAll ds) ≤ k := h.dep
  have h5 : wtD d + wtDs ds ≤ n := h.wt
  exact ⟨h1.1, by omega, by omega, by omega, by omega⟩
theorem All.tail {b t k n : Nat} {d : PyData} {ds : List PyData} (h : All b t k n (d :: ds)) : All b t k n ds := by
  have h1 := h.ok
  unfold okSs at h1
  rw [Bool.and_eq_true] at h1
  have h2 : max (bigD d) (bigDs ds) ≤ b := h.big
  have h3 : max (topD d) (topDs ds) ≤ t := h.top
  have h4 : max d.depth (PyData.depthAll ds) ≤ k := h.dep
  have h5 : wtD d + wtDs ds ≤ n := h.wt
  exact ⟨h1.2, by omega, by omega, by omega, by omega⟩
theorem All.mono {b t k n b' t' k' n' : Nat} {ds : List PyData} (h : All b t k n ds) (hb : b ≤ b') (ht : t ≤ t') (hk : k ≤ k') (hn : n ≤ n') : All b' t' k' n' ds :=
  ⟨h.ok, Nat.le_trans h.big hb, Nat.le_trans h.top ht, Nat.le_trans h.dep hk, Nat.le_trans h.wt hn⟩
theorem Of.mono {b t k n b' t' k' n' : Nat} {d : PyData} (h : Of b t k n d) (hb : b ≤ b') (ht : t ≤ t') (hk : k ≤ k') (hn : n ≤ n') : Of b' t' k' n' d :=
  ⟨h.ok, Nat.le_trans h.big hb, Nat.le_trans h.top ht, Nat.le_trans h.dep hk, Nat.le_trans h.wt hn⟩
theorem All.app {b t k : Nat} : ∀ {xs ys : List PyData} {n m : Nat}, All b t k n xs → All b t k m ys → All b t k (n + m) (xs ++ ys)
  | [], ys, n, m, _, g => g.mono (Nat.le_refl _) (Nat.le_refl _) (Nat.le_refl _) (by omega)
  | x :: xs, ys, n, m, h, g => by
    have w : wtD x + wtDs xs ≤ n := h.wt
    have hx : Of b t k (wtD x) x := ⟨h.head.ok, h.head.big, h.head.top, h.head.dep, Nat.le_refl _⟩
    have hxs : All b t k (wtDs xs) xs := ⟨h.tail.ok, h.tail.big, h.tail.top, h.tail.dep, Nat.le_refl _⟩
    exact (All.cons hx (All.app hxs g)).mono (Nat.le_refl _) (Nat.le_refl _) (Nat.le_refl _) (by omega)
theorem All.drop {b t k n : Nat} : ∀ {ds : List PyData} (i : Nat), All b t k n ds → All b t k n (ds.drop i)
  | _, 0, h => h
  | [], _ + 1, _ => .nil
  | _ :: _, i + 1, h => All.drop i h.tail
theorem All.take {b t k : Nat} : ∀ {ds : List PyData} {n : Nat} (i : Nat), All b t k n ds → All b t k n (ds.take i)
  | _, _, 0, _ => .nil
  | [], _, _ + 1, _ => .nil
  | x :: ds, n, i + 1, h => by
    have w : wtD x + wtDs ds ≤ n := h.wt
    have hx : Of b t k (wtD x) x := ⟨h.head.ok, h.head.big, h.head.top, h.head.dep, Nat.le_refl _⟩
    have hxs : All b t k (wtDs ds) ds := ⟨h.tail.ok, h.tail.big, h.tail.top, h.tail.dep, Nat.le_refl _⟩
    exact (All.cons hx (All.take i hxs)).mono (Nat.le_refl _) (Nat.le_refl _) (Nat.le_refl _) w
theorem All.rev {b t k : Nat} : ∀ {ds : List PyData} {n : Nat}, All b t k n ds → All b t k n ds.reverse
  | [], _, h => .nil
  | x :: ds, n, h => by
    have w : wtD x + wtDs ds ≤ n := h.wt
    have hx : Of b t k (wtD x) x := ⟨h.head.ok, h.head.big, h.head.top, h.head.dep, Nat.le_refl _⟩
    have hxs : All b t k (wtDs ds) ds := ⟨h.tail.ok, h.tail.big, h.tail.top, h.tail.dep, Nat.le_refl _⟩
    rw [List.reverse_cons]
    exact (All.app (All.rev hxs) (All.cons hx (All.nil (n := 0)))).mono (Nat.le_refl _) (Nat.le_refl _) (Nat.le_refl _) (by omega)
theorem All.at {b t k n : Nat} : ∀ {ds : List PyData} {i : Nat} {d : PyData}, All b t k n ds → ds[i]? = some d → Of b t k n d
  | [], i, _, _, e => by cases i <;> cases e
  | x :: ds, 0, _, h, e => by
    cases e
    exact h.head
  | x :: ds, i + 1, _, h, e => All.at h.tail e
theorem Of.tup {b t k n : Nat} {ds : List PyData} (h : All b t k n ds) (hl : ds.length ≤ b) : Of b t (k + 1) (n + 2 * ds.length + 3) (.tuple ds) :=
  ⟨h.ok, Nat.max_le.mpr ⟨hl, h.big⟩, h.top, Nat.succ_le_succ h.dep, by
    show wtDs ds + 2 * ds.length + 3 ≤ _
    have := h.wt
    omega⟩
theorem Of.lst {b t k n : Nat} {ds : List PyData} (h : All b t k n ds) (hl : ds.length ≤ b) : Of b t (k + 1) (n + 2 * ds.length + 3) (.list ds) :=
  ⟨h.ok, Nat.max_le.mpr ⟨hl, h.big⟩, h.top, Nat.succ_le_succ h.dep, by
    show wtDs ds + 2 * ds.length + 3 ≤ _
    have := h.wt
    omega⟩
theorem Of.items {b t k n : Nat} {ds : List PyData} (h : Of b t (k + 1) n (.tuple ds)) : All b t k n ds ∧ ds.length ≤ b ∧ wtDs ds + 2 * ds.length + 3 ≤ n := by
  have h2 : max ds.length (bigDs ds) ≤ b := h.big
  have h5 : wtDs ds + 2 * ds.length + 3 ≤ n := h.wt
  exact ⟨⟨h.ok, by omega, h.top, Nat.le_of_succ_le_succ h.dep, by omega⟩, by omega, h5⟩
theorem Of.small {b t k n : Nat} {d : PyData} (h : Of b t k n d) (hb : b ≤ 1000) : smallD d = true := small_by h.ok (Nat.le_trans h.big hb)
theorem Of.lit {b t k n : Nat} {d : PyData} (h : Of b t k n d) (ht : t < 10 ^ 80) : litD d = true := lit_by h.ok (Nat.lt_of_le_of_lt h.top ht)
end AskG
/-! t[::-1] of a tuple. -/
namespace AskG
open PySem PySem.Spec PyProof.Rows L2 HT
section
variable {prog : Program} {w : World} {A : Around} {E : Value → Shared → Prop} {s : Shared}
theorem adjust_rev (n : Nat) : Builtin.Slice.sliceAdjust none none (-1) (n : Int) = ((n : Int) - 1, -1) := rfl
theorem places_rev (n : Nat) : Builtin.Slice.slicePlaces ((n : Int) - 1) (-1) (-1) = n := by
  unfold Builtin.Slice.slicePlaces
  by_cases h : n = 0
  · subst h
    rfl
  · simp
    try omega
theorem sliceApplied_rev {sl : Addr} {vs : Value} {n : Nat} {Q : Int × Int × Nat → Shared → Prop} (hs : s.heap.IsSliceOf sl .none .none vs) (ps : IsPart vs (some (-1)))
    (h : Q ((n : Int) - 1, -1, n) s) : wpAny (model prog w) A (Builtin.Slice.sliceApplied (.ref sl) (pure (n : Int))) Q E s := by
  obtain ⟨os, hos, hcs, hds⟩ := id hs
  unfold Builtin.Slice.sliceApplied Builtin.Slice.sliceFields
  refine wpAny_bind (wpAny_bind (wpAny_field hos hds (x := .none) rfl (wpAny_bind (wpAny_field hos hds (x := .none) rfl (wpAny_bind (wpAny_field hos hds (x := vs) rfl (wpAny_pure ?_)))))))
  refine wpAny_bind (slicePart_ ps ?_)
  show wpAny _ _ (if ((-1 : Int) == 0) = true then _ else _) _ _ s
  rw [if_neg (by decide)]
  refine wpAny_bind (slicePart_none (wpAny_bind (slicePart_none (wpAny_bind (wpAny_pure ?_)))))
  show wpAny _ _ (match Builtin.Slice.sliceAdjust none none (-1) (n : Int) with | (lo, hi) => pure (lo, (-1 : Int), Builtin.Slice.slicePlaces lo hi (-1))) _ _ s
  rw [adjust_rev]
  show wpAny _ _ (pure ((n : Int) - 1, (-1 : Int), Builtin.Slice.slicePlaces ((n : Int) - 1) (-1) (-1))) _ _ s
  rw [places_rev]
  exact wpAny_pure h
theorem fm_congr {α β : Type} {f g : α → Option β} : ∀ {l : List α}, (∀ m ∈ l, f m = g m) → l.filterMap f = l.filterMap g
  | [], _ => rfl
  | x :: l, h => by
    rw [List.filterMap_cons, List.filterMap_cons, h x List.mem_cons_self, fm_congr fun m hm => h m (List.mem_cons_of_mem _ hm)]
theorem pick_rev (xs : Array Value) : ((List.range xs.size).filterMap fun (m : Nat) => xs[(((xs.size : Int) - 1) + (m : Int) * (-1)).toNat]?).toArray = xs.toList.reverse.toArray := by
  have g := pick_gen xs.toList.reverse.toArray 0 xs.size
  have e : ((xs.toList.reverse.toArray.toList.drop 0).take xs.size) = xs.toList.reverse := by
    show (xs.toList.reverse.drop 0).take xs.size = xs.toList.reverse
    rw [List.drop_zero]
    exact List.take_of_length_le (by rw [List.length_reverse, Array.length_toList]; exact Nat.le_refl _)
  rw [e] at g
  rw [← g]
  congr 1
  refine fm_congr fun m hm => ?_
  have hm' := List.mem_range.mp hm
  have e1 : (((xs.size : Int) - 1) + (m : Int) * (-1)).toNat = xs.size - 1 - m := by omega
  have e2 : (((0 : Nat) : Int) + (m : Int) * 1).toNat = m := by omega
  rw [e1, e2]
  show xs[xs.size - 1 - m]? = xs.toList.reverse.toArray[m]?
  have r : xs.toList.reverse.toArray[m]? = xs.toList.reverse[m]? := by simp
  rw [r, List.getElem?_reverse (by rw [Array.length_toList]; exact hm'), Array.length_toList, Array.getElem?_toList]
theorem getItem_tuple_rev {t sl : Addr} {items : Array Value} {vs : Value} {Q : Value → Shared → Prop} (ht : IsTup s.heap t items) (hs : s.heap.IsSliceOf sl .none .none vs) (ps : IsPart vs (some (-1)))
    (h : Q (.ref s.heap.objs.size) { s with heap := s.heap.push { cls := .type "tuple", data := .seq items.toList.reverse.toArray } })
    (hsz : items.size ≤ sizeLine) : wpAny (model prog w) A (getItem (.ref t) (.ref sl)) Q E s := by
  have htake : sizeOk (.seq items.toList.reverse.toArray) := by
    show items.toList.reverse.toArray.size ≤ sizeLine
    rw [List.size_toArray, List.length_reverse, Array.length_toList]
    exact hsz
  obtain ⟨os, hos, hcs, hds⟩ := id hs
  have hTs : s.TypeIs (.ref sl) "slice" := ⟨os, hos, hcs⟩
  unfold getItem
  try with_reducible refine wpAny_holding ?_
  try refine wpAny_bind (wpAny_pure ?_)
  refine wpAny_bind (wpAny_sequenceKey ht.typeIs (by decide) (wpAny_bind (wpAny_callSpecial?_slot (name := Str.ofString "__getitem__") ht.typeIs PyProof.Rows.slot_tuple_getitem (wpAny_call_entry PyProof.Rows.slot_tuple_getitem ht.typeIs entry_tuple_getitem ?_ (args_tuple_getitem _ _)))))
  change wpAny _ _ (Builtin.Tuple.tupleItemsOf (.ref t) >>= _) _ _ s
  refine wpAny_bind (tupleItemsOf_ ht (wpAny_bind (wpAny_typeOf hTs ?_)))
  rw [if_pos (by decide)]
  refine wpAny_bind (sliceApplied_rev hs ps ?_)
  have hno : ¬ ((((items.size : Int) - 1) == 0 && (-1 : Int) == 1 && items.size == items.size) = true) := by
    intro q
    rw [Bool.and_eq_true, Bool.and_eq_true] at q
    exact absurd q.1.2 (by decide)
  show wpAny _ _ (if ((((items.size : Int) - 1) == 0 && (-1 : Int) == 1 && items.size == items.size) = true) then _ else _) _ _ s
  rw [if_neg hno, pick_rev]
  have fin : ∀ (B : Around) (R : Value → Shared → Prop), (R (.ref s.heap.objs.size) { s with heap := s.heap.push { cls := .type "tuple", data := .seq items.toList.reverse.toArray } }) → wpAny (model prog w) B (Builtin.Tuple.tupleExact items.toList.reverse.toArray) R E s := fun B R hR => wpAny_newObj_type hR htake
  first
    | exact wpAny_bind (fin _ _ (wpAny_pure ⟨_, rfl, wpAny_pure h⟩))
    | exact wpAny_bind (wpAny_bind (fin _ _ (wpAny_pure (wpAny_pure ⟨_, rfl, wpAny_pure h⟩))))
    | exact wpAny_bind (wpAny_bind (fin _ _ (wpAny_pure ⟨_, rfl, wpAny_pure h⟩)))
    | exact wpAny_bind (fin _ _ (wpAny_bind (wpAny_pure (wpAny_pure ⟨_, rfl, wpAny_pure h⟩))))
end
/-- t[::-1] -/
def tRevT (K : PySem.W.Frag) (te : TE) : TE := fun σ H Q => te σ H fun x H1 => ∃ a xs, x = .ref a ∧ SqT K H1 a xs ∧ ∀ p, H1 p = none → Q (.ref p) (upd H1 p (.tup xs.reverse))
section
variable {X : Cx}
theorem pe_revT {e : Expr} {te : TE} {k : Nat} {p1 p2 p3 pos : Pos} (he : PE X e te) : PE X (.Subscript e (.Slice none none (some (.UnaryOp .USub (.Constant (.int 1) k p1) p2)) p3) pos) (tRevT X.K te) := by
  constructor
  intro pins s σ H Q I h
  have st : PO X (some (.UnaryOp .USub (.Constant (.int 1) k p1) p2)) (tPart (tUn (rU fun i => .int (-i)) (tC (.int 1)))) := po_some (pe_un un_neg pe_int)
  refine Subscript_ (thn (he.run pins s σ H _ I h) ?_)
  rintro v s1 ⟨x, H1, I1, r1, a, xs, rfl, hx, q⟩
  cases r1
  refine wpAny_Slice (thn (po_none.run pins s1 σ H1 (fun o G => o = none ∧ G = H1) I1 ⟨rfl, rfl⟩) ?_)
  rintro vl s2 ⟨_, _, I2, pl, rfl, rfl⟩
  refine thn (po_none.run pins s2 σ _ (fun o G => o = none ∧ G = _) I2 ⟨rfl, rfl⟩) ?_
  rintro vu s3 ⟨_, _, I3, pu, rfl, rfl⟩
  refine thn (st.run pins s3 σ _ (fun o G => o = some (-1) ∧ G = _) I3 ⟨1, rfl, -1, rfl, rfl, rfl⟩) ?_
  rintro vs s4 ⟨_, G, I4, ps, rfl, rfl⟩
  cases pl
  cases pu
  have I5 : Inv X pins σ G { s4 with heap := s4.heap.push { cls := .type "slice", data := .fields #[.none, .none, vs] } } := I4.kept (t' := s4.toks) fun _ _ z => Heap.get?_push_of_some _ z
  obtain ⟨its, r, ht, hz⟩ := I5.tuple hx
  have hl : its.toArray.size = xs.length := by rw [List.size_toArray]; exact r.length.symm
  change wpAny (model X.prog X.w) X.A (subscriptTail e _ (.ref a) (.ref s4.heap.objs.size)) (EP X pins σ Q) X.xe _
  refine tail_any (ops := [.ref a, .ref s4.heap.objs.size]) ht.typeIs (PyProof.Rows.slot_tuple_getitem.lookup) (getItem_tuple_rev ht (Heap.IsSliceOf.new _ _ _ _) ps ?_ (by rw [hl]; exact hz)) (by with_unfolding_all rfl)
  refine ⟨.ref _, _, I5.laid (t' := s4.toks) (o := .tup xs.reverse) (fun _ _ z => Heap.get?_push_of_some _ z) (Nat.le_refl _) ⟨by rw [List.length_reverse]; exact hz, _, r.reverse, IsTup.new _ _⟩, rfl, q _ (I5.hok.fresh (Nat.le_refl _))⟩
end
end AskG
/-! Displays of data: what is written down is new, and taken addresses are no part of it. -/
namespace AskG
open PySem PySem.Spec PyProof.Rows L2
abbrev Taken (H : Hp) (D : Addr) : Prop := ∃ o, H D = some o
theorem Taken.keep {H H' : Hp} {D : Addr} (h : Taken H D) (s : Same H H') : Taken H' D := by
  obtain ⟨o, e⟩ := h
  exact ⟨o, s _ _ e⟩
/-- an expression whose value is the data d, made anew -/
def tNew (d : PyData) : TE := fun _ H Q => ∀ H' v, Same H H' → (∀ D, Taken H D → DH D H' v d) → Q v H'
def tNews (ds : List PyData) : TA := fun _ H Q => ∀ H' vs, Same H H' → (∀ D, Taken H D → DHs D H' vs ds) → vs.length = ds.length → Q vs H'
section
variable {X : Cx} {e : Expr} {es : List Expr} {t t' : TE} {d : PyData} {ds : List PyData}
theorem PE.less (h : PE X e t) (m : ∀ σ H Q, t' σ H Q → t σ H Q) : PE X e t' := ⟨fun pins s σ H Q I q => h.run pins s σ H Q I (m σ H Q q)⟩
theorem new_non (h : PE X e (tC .non)) : PE X e (tNew .none) := PE.less h fun _ H _ q => q H _ (Same.refl _) fun _ _ => .non
theorem new_bl {b : Bool} (h : PE X e (tC (.bl b))) : PE X e (tNew (.bool b)) := PE.less h fun _ H _ q => q H _ (Same.refl _) fun _ _ => .bl b
theorem new_int {i : Int} (h : PE X e (tC (.int i))) : PE X e (tNew (.int i)) := PE.less h fun _ H _ q => q H _ (Same.refl _) fun _ _ => .int i
theorem new_str {x : Str} (h : PE X e (tC (.str x))) : PE X e (tNew (.str x)) := PE.less h fun _ H _ q => q H _ (Same.refl _) fun _ _ => .str x
theorem news_nil : PA X [] (tNews []) := ⟨fun pos pins s σ H Q I q => (pa_nil (X := X)).run pos pins s σ H Q I (q H [] (Same.refl _) (fun _ _ => .nil) rfl)⟩
theorem news_cons (h : PE X e (tNew d)) (g : PA X es (tNews ds)) (hs : starEach (e :: es) X.env = (false, eval e X.env) :: starEach es X.env := by rfl) : PA X (e :: es) (tNews (d :: ds)) := by
  refine ⟨fun pos pins s σ H Q I q => (pa_cons h g hs).run pos pins s σ H Q I fun H1 v s1 h1 => ?_⟩
  intro H2 vs s2 h2 l2
  refine q H2 (v :: vs) (s1.trans s2) (fun D hD => ?_) (by rw [List.length_cons, List.length_cons, l2])
  exact .cons ((h1 D hD).keep (KeepD.of s2)) (h2 D (hD.keep s1))
theorem new_tup {x1} {pos : Pos} (h : PA X es (tNews ds)) (hz : ds.length ≤ 1000) : PE X (.Tuple es x1 pos) (tNew (.tuple ds)) := by
  refine PE.less (pe_tup h) fun σ H Q q => ?_
  intro H1 vs s1 h1 l1
  refine ⟨by have := sizeBig; omega, fun p hp => ?_⟩
  have s2 := same_new (o := .tup vs) hp
  exact q _ _ (s1.trans s2) fun D hD => .tup upd_same ((h1 D hD).keep (KeepD.of s2))
theorem new_lst {pos : Pos} (h : PA X es (tNews ds)) (hz : ds.length ≤ 1000) : PE X (.List es pos) (tNew (.list ds)) := by
  refine PE.less (pe_lst h) fun σ H Q q => ?_
  intro H1 vs s1 h1 l1
  refine ⟨by have := sizeBig; omega, fun p hp => ?_⟩
  have s2 := same_new (o := .lst vs) hp
  refine q _ _ (s1.trans s2) fun D hD => .lst (fun z => ?_) upd_same ((h1 D hD).keep (KeepD.of s2))
  obtain ⟨o, ho⟩ := hD.keep s1
  rw [z, ho] at hp
  cases hp
end
end AskG
/-! Whole numbers and bools together. -/
namespace AskG
open PySem PySem.Spec PyProof.Rows L2
section
variable {X : Cx}
def b1 (k : Bool) : Int := if k = true then 1 else 0
theorem op_add_bi : OpR X (binaryOp .Add) (fun x y H Q => ∃ k i, x = .bl k ∧ y = .int i ∧ Q (.int (b1 k + i)) H) := by
  rintro pins s σ H x y v u Q I rx ry ⟨k, i, rfl, rfl, q⟩
  cases rx
  obtain ⟨t, rfl⟩ := ry
  exact PySem.IntBool.add_bool_int ⟨.int (b1 k + i), H, I.tok _, ⟨_, rfl⟩, q⟩
theorem op_sub_bi : OpR X (binaryOp .Sub) (fun x y H Q => ∃ k i, x = .bl k ∧ y = .int i ∧ Q (.int (b1 k - i)) H) := by
  rintro pins s σ H x y v u Q I rx ry ⟨k, i, rfl, rfl, q⟩
  cases rx
  obtain ⟨t, rfl⟩ := ry
  exact PySem.IntBool.sub_bool_int ⟨.int (b1 k - i), H, I.tok _, ⟨_, rfl⟩, q⟩
theorem op_sub_ib : OpR X (binaryOp .Sub) (fun x y H Q => ∃ i k, x = .int i ∧ y = .bl k ∧ Q (.int (i - b1 k)) H) := by
  rintro pins s σ H x y v u Q I rx ry ⟨i, k, rfl, rfl, q⟩
  obtain ⟨t, rfl⟩ := rx
  cases ry
  exact PySem.IntBool.sub_int_bool ⟨.int (i - b1 k), H, I.tok _, ⟨_, rfl⟩, q⟩
theorem op_eq_bi : OpR X (compareOp .Eq) (fun x y H Q => ∃ k i, x = .bl k ∧ y = .int i ∧ Q (.bl (b1 k == i)) H) := by
  rintro pins s σ H x y v u Q I rx ry ⟨k, i, rfl, rfl, q⟩
  cases rx
  obtain ⟨t, rfl⟩ := ry
  exact PySem.EqBoolInt.eq_bool_int ⟨.bl (b1 k == i), H, I, rfl, q⟩
theorem call_str_bl : CallR X (.type "str") (fun xs H Q => ∃ k : Bool, xs = [.bl k] ∧ Q (.str (if k then "True" else "False")) H) := by
  rintro pins s σ H xs us Q I r ⟨k, rfl, q⟩
  obtain ⟨u, rfl, t⟩ := vals1 r
  cases t
  exact PySem.P.str_of_bool ⟨.str (if k then "True" else "False"), H, I.tok _, ⟨_, rfl⟩, q⟩
end
end AskG
/-! Values made from one value that a name holds; what the bent values of data are. -/
namespace AskG
open PySem PySem.Spec PyProof.Rows L2
/-- the name in slot i holds the data d -/
def Src (i : Nat) (D : Addr) (d : PyData) (σ : L2.St) (H : Hp) : Prop := (∃ v, σ[i]? = some (some v) ∧ DH D H v d) ∧ Taken H D
theorem Src.keep {i : Nat} {D : Addr} {d : PyData} {σ : L2.St} {H H' : Hp} (h : Src i D d σ H) (s : Same H H') : Src i D d σ H' := by
  obtain ⟨⟨v, hv, hd⟩, t⟩ := h
  exact ⟨⟨v, hv, hd.keep (KeepD.of s)⟩, t.keep s⟩
def tFrom (i : Nat) (D : Addr) (d0 d : PyData) : TE := fun σ H Q => Src i D d0 σ H ∧ ∀ H' v, Same H H' → DH D H' v d → Q v H'
def tFroms (i : Nat) (D : Addr) (d0 : PyData) (ds : List PyData) : TA := fun σ H Q => Src i D d0 σ H ∧ ∀ H' vs, Same H H' → DHs D H' vs ds → Q vs H'
section
variable {X : Cx} {e : Expr} {es : List Expr} {i : Nat} {D : Addr} {d0 d : PyData} {ds : List PyData}
theorem from_nil : PA X [] (tFroms i D d0 []) := ⟨fun pos pins s σ H Q I q => (pa_nil (X := X)).run pos pins s σ H Q I (q.2 H [] (Same.refl _) .nil)⟩
theorem from_cons (h : PE X e (tFrom i D d0 d)) (g : PA X es (tFroms i D d0 ds)) (hs : starEach (e :: es) X.env = (false, eval e X.env) :: starEach es X.env := by rfl) : PA X (e :: es) (tFroms i D d0 (d :: ds)) := by
  refine ⟨fun pos pins s σ H Q I q => (pa_cons h g hs).run pos pins s σ H Q I ⟨q.1, fun H1 v s1 h1 => ⟨q.1.keep s1, fun H2 vs s2 h2 => ?_⟩⟩⟩
  exact q.2 H2 (v :: vs) (s1.trans s2) (.cons (h1.keep (KeepD.of s2)) h2)
theorem from_new (h : PE X e (tNew d)) : PE X e (tFrom i D d0 d) := PE.less h fun σ H Q q H' v s n => q.2 H' v s (n D q.1.2)
theorem from_var (h : PE X e (tVar i)) : PE X e (tFrom i D d d) := PE.less h fun σ H Q q => by
  obtain ⟨⟨⟨v, hv, hd⟩, _⟩, q⟩ := q
  exact ⟨v, hv, q H v (Same.refl _) hd⟩
theorem from_tup {x1} {pos : Pos} (h : PA X es (tFroms i D d0 ds)) (hz : ds.length ≤ 1000) : PE X (.Tuple es x1 pos) (tFrom i D d0 (.tuple ds)) := by
  refine PE.less (pe_tup h) fun σ H Q q => ?_
  refine ⟨q.1, fun H1 vs s1 h1 => ⟨by have := sizeBig; have := h1.len; omega, fun p hp => ?_⟩⟩
  have s2 := same_new (o := .tup vs) hp
  exact q.2 _ _ (s1.trans s2) (.tup upd_same (h1.keep (KeepD.of s2)))
theorem from_lst {pos : Pos} (h : PA X es (tFroms i D d0 ds)) (hz : ds.length ≤ 1000) : PE X (.List es pos) (tFrom i D d0 (.list ds)) := by
  refine PE.less (pe_lst h) fun σ H Q q => ?_
  refine ⟨q.1, fun H1 vs s1 h1 => ⟨by have := sizeBig; have := h1.len; omega, fun p hp => ?_⟩⟩
  have s2 := same_new (o := .lst vs) hp
  refine q.2 _ _ (s1.trans s2) (.lst (fun z => ?_) upd_same (h1.keep (KeepD.of s2)))
  obtain ⟨o, ho⟩ := q.1.2.keep s1
  rw [z, ho] at hp
  cases hp
end
/-! ### tuples -/
def cutD (ds : List PyData) (lo hi : Option Int) : List PyData := (ds.drop (HT.sIx ds.length 0 lo)).take (HT.sIx ds.length ds.length hi - HT.sIx ds.length 0 lo)
theorem DHs.drop {D : Addr} {H : Hp} : ∀ {vs : List V} {ds : List PyData} (i : Nat), DHs D H vs ds → DHs D H (vs.drop i) (ds.drop i)
  | _, _, 0, h => h
  | _, _, _ + 1, .nil => .nil
  | _, _, i + 1, .cons _ t => DHs.drop i t
theorem DHs.take {D : Addr} {H : Hp} : ∀ {vs : List V} {ds : List PyData} (i : Nat), DHs D H vs ds → DHs D H (vs.take i) (ds.take i)
  | _, _, 0, _ => .nil
  | _, _, _ + 1, .nil => .nil
  | _, _, i + 1, .cons h t => .cons h (DHs.take i t)
theorem DHs.rev {D : Addr} {H : Hp} : ∀ {vs : List V} {ds : List PyData}, DHs D H vs ds → DHs D H vs.reverse ds.reverse
  | _, _, .nil => .nil
  | _, _, .cons h t => by
    rw [List.reverse_cons, List.reverse_cons]
    exact DHs.app (DHs.rev t) (.cons h .nil)
theorem DHs.cut {D : Addr} {H : Hp} {vs : List V} {ds : List PyData} (h : DHs D H vs ds) (lo hi : Option Int) : DHs D H (cutV vs lo hi) (cutD ds lo hi) := by
  unfold cutV cutD
  rw [h.len]
  exact (h.drop _).take _
section
variable {K : PySem.W.Frag} {H : Hp} {D a b : Addr} {xs ys : List V} {ds es : List PyData} {Q : VK}
theorem sl_from {lo hi : Option Int} (ha : H a = some (.tup xs)) (hd : DHs D H xs ds) (q : ∀ H' v, Same H H' → DH D H' v (.tuple (cutD ds lo hi)) → Q v H') : rSlA K (.ref a) lo hi H Q := by
  have c := hd.cut lo hi
  refine ⟨a, xs, rfl, sqT ha, fun w => q H _ (Same.refl _) ?_, fun _ p hp => ?_⟩
  · have e : cutD ds lo hi = ds := by
      unfold cutD
      rw [← hd.len, w.1, w.2, List.drop_zero]
      exact List.take_of_length_le (by rw [hd.len]; omega)
    rw [e]
    exact .tup ha hd
  · have s2 := same_new (o := .tup (cutV xs lo hi)) hp
    exact q _ _ s2 (.tup upd_same (c.keep (KeepD.of s2)))
theorem sl_fromN {σ : L2.St} {lo : Option Int} (ha : H a = some (.tup xs)) (hd : DHs D H xs ds) (q : ∀ H' v, Same H H' → DH D H' v (.tuple (cutD ds lo none)) → Q v H') : tNoPart σ H fun u H3 => rSlA K (.ref a) lo u H3 Q := sl_from ha hd q
theorem cat_from (ha : H a = some (.tup xs)) (hd : DHs D H xs ds) (hb : H b = some (.tup ys)) (he : DHs D H ys es) (l1 : ds.length ≤ 1000) (l2 : es.length ≤ 1000)
    (q : ∀ H' v, Same H H' → DH D H' v (.tuple (ds ++ es)) → Q v H') : rCatA K (.ref a) (.ref b) H Q := by
  have big := sizeBig
  have c := hd.app he
  refine ⟨a, b, xs, ys, rfl, rfl, sqT ha, sqT hb, by rw [hd.len, he.len]; omega, fun e => ?_, fun _ e => ?_, fun _ _ p hp => ?_⟩
  · subst e
    cases hd
    exact q H _ (Same.refl _) (.tup hb he)
  · subst e
    cases he
    rw [List.append_nil] at q
    exact q H _ (Same.refl _) (.tup ha hd)
  · have s2 := same_new (o := .tup (xs ++ ys)) hp
    exact q _ _ s2 (.tup upd_same (c.keep (KeepD.of s2)))
end
theorem All.cut {b t k n : Nat} {ds : List PyData} (h : All b t k n ds) (lo hi : Option Int) : All b t k n (cutD ds lo hi) := All.take _ (All.drop _ h)
theorem cutD_len (ds : List PyData) (lo hi : Option Int) : (cutD ds lo hi).length ≤ ds.length := by
  unfold cutD
  rw [List.length_take, List.length_drop]
  omega
theorem cutD_pre (ds : List PyData) (n : Nat) (h : n ≤ ds.length) : cutD ds none (some (n : Int)) = ds.take n := by
  unfold cutD
  rw [HT.sIx_nat, HT.sIx_none, List.drop_zero, Nat.sub_zero, Nat.min_eq_left h]
theorem cutD_post (ds : List PyData) (n : Nat) (h : n ≤ ds.length) : cutD ds (some (n : Int)) none = ds.drop n := by
  unfold cutD
  rw [HT.sIx_nat, HT.sIx_none, Nat.min_eq_left h]
  exact List.take_of_length_le (by rw [List.length_drop]; exact Nat.le_refl _)
/-! ### strings -/
theorem asc_cut {s : Str} (h : ascS s = true) (lo hi : Option Int) : ascS (cutS s lo hi) = true := asc_sub h fun c hc => List.mem_of_mem_drop (List.mem_of_mem_take hc)
theorem cutS_len (s : Str) (lo hi : Option Int) : (cutS s lo hi).length ≤ s.length := by
  show ((s.cps.toList.drop _).take _).toArray.size ≤ s.cps.size
  rw [List.size_toArray, List.length_take, List.length_drop, Array.length_toList]
  omega
theorem up_one : ∀ c : Nat, c < 128 → ∀ x ∈ Unicode.upperOf c, x < 128 := by
  have h : ∀ c : Fin 128, ((Unicode.upperOf c.val).all fun x => decide (x < 128)) = true := by decide +kernel
  exact fun c hc x hx => of_decide_eq_true (List.all_eq_true.mp (h ⟨c, hc⟩) x hx)
theorem asc_upper {s : Str} (h : ascS s = true) : ascS (Txt.upper s) = true := by
  refine List.all_eq_true.mpr fun x hx => decide_eq_true ?_
  have hx : x ∈ (s.cps.mapIdx fun i c => (Unicode.upperOf c).toArray).flatten := Array.mem_toList_iff.mp hx
  obtain ⟨a, ha, hxa⟩ := Array.mem_flatten.mp hx
  obtain ⟨i, hi, e⟩ := Array.mem_mapIdx.mp ha
  subst e
  refine up_one _ ?_ x (by simpa using hxa)
  exact of_decide_eq_true (List.all_eq_true.mp h _ (Array.mem_toList_iff.mpr (Array.getElem_mem hi)))
theorem asc_int (i : Int) : ascS (toString i) = true := by
  refine List.all_eq_true.mpr fun c hc => decide_eq_true ?_
  refine Decidable.byContradiction fun z => ?_
  exact int_text_free' c ⟨by omega, by omega⟩ i hc
/-! ### how the measures of a bent value go -/
theorem Of.str {b t k n : Nat} {s : Str} (h : ascS s = true) (hb : s.length ≤ b) (hn : 10 * s.length + 2 ≤ n) : Of b t k n (.str s) := ⟨h, hb, Nat.zero_le _, Nat.zero_le _, hn⟩
theorem Of.int {b t k n : Nat} {i : Int} (ht : i.natAbs ≤ t) (hn : 81 ≤ n) : Of b t k n (.int i) := ⟨rfl, Nat.zero_le _, ht, Nat.zero_le _, hn⟩
theorem Of.bl {b t k n : Nat} {v : Bool} (hn : 5 ≤ n) : Of b t k n (.bool v) := ⟨rfl, Nat.zero_le _, Nat.zero_le _, Nat.zero_le _, hn⟩
theorem Of.non {b t k n : Nat} (hn : 5 ≤ n) : Of b t k n .none := ⟨rfl, Nat.zero_le _, Nat.zero_le _, Nat.zero_le _, hn⟩
theorem Of.exact {b t k n : Nat} {d : PyData} (h : Of b t k n d) : Of b t k (wtD d) d := ⟨h.ok, h.big, h.top, h.dep, Nat.le_refl _⟩
theorem All.exact {b t k n : Nat} {ds : List PyData} (h : All b t k n ds) : All b t k (wtDs ds) ds := ⟨h.ok, h.big, h.top, h.dep, Nat.le_refl _⟩
theorem str_len {b t k n : Nat} {s : Str} (h : Of b t k n (.str s)) : ascS s = true ∧ s.length ≤ b ∧ 10 * s.length + 2 ≤ n := ⟨h.ok, h.big, h.wt⟩
/-- the weights of what stands before, at and after a place -/
theorem wt_split : ∀ {ds : List PyData} {i : Nat} {d : PyData}, ds[i]? = some d → wtDs ds = wtDs (ds.take i) + wtD d + wtDs (ds.drop (i + 1))
  | [], i, _, e => by cases i <;> cases e
  | x :: ds, 0, _, e => by
    cases e
    show wtD x + wtDs ds = 0 + wtD x + wtDs ds
    omega
  | x :: ds, i + 1, _, e => by
    have := wt_split (ds := ds) (i := i) e
    show wtD x + wtDs ds = wtD x + wtDs (ds.take i) + wtD _ + wtDs (ds.drop (i + 1))
    omega
/-! ### what a name's data says of the value -/
section
variable {i : Nat} {D : Addr} {σ : L2.St} {H : Hp}
theorem src_str {s : Str} (h : Src i D (.str s) σ H) : σ[i]? = some (some (.str s)) := by
  obtain ⟨⟨v, hv, hd⟩, _⟩ := h
  obtain rfl := hd.str_inv
  exact hv
theorem src_int {j : Int} (h : Src i D (.int j) σ H) : σ[i]? = some (some (.int j)) := by
  obtain ⟨⟨v, hv, hd⟩, _⟩ := h
  obtain rfl := hd.int_inv
  exact hv
theorem src_bl {b : Bool} (h : Src i D (.bool b) σ H) : σ[i]? = some (some (.bl b)) := by
  obtain ⟨⟨v, hv, hd⟩, _⟩ := h
  cases hd
  exact hv
theorem src_tup {ds : List PyData} (h : Src i D (.tuple ds) σ H) : ∃ a xs, σ[i]? = some (some (.ref a)) ∧ H a = some (.tup xs) ∧ DHs D H xs ds := by
  obtain ⟨⟨v, hv, hd⟩, _⟩ := h
  obtain ⟨a, xs, rfl, ha, t⟩ := hd.tup_inv
  exact ⟨a, xs, hv, ha, t⟩
theorem DH.lst_inv {v : V} {ds : List PyData} (h : DH D H v (.list ds)) : ∃ a xs, v = .ref a ∧ a ≠ D ∧ H a = some (.lst xs) ∧ DHs D H xs ds := by
  cases h with
  | lst n e t => exact ⟨_, _, rfl, n, e, t⟩
theorem Taken.ne {p : Addr} (h : Taken H D) (hp : H p = none) : p ≠ D := fun z => by
  obtain ⟨o, ho⟩ := h
  rw [z, ho] at hp
  cases hp
theorem pickD {vs : List V} {es : List PyData} (h : DHs D H vs es) {w : Int} (w0 : 0 ≤ w) (w1 : w < (es.length : Int)) : ∃ v d, atI vs w = some v ∧ d ∈ es ∧ DH D H v d := by
  obtain ⟨n, rfl⟩ : ∃ n : Nat, w = (n : Int) := ⟨w.toNat, by omega⟩
  have hl := h.len
  have hx : vs[n]? = some vs[n] := List.getElem?_eq_getElem (by omega)
  obtain ⟨d, hd, hh⟩ := h.at hx
  exact ⟨_, d, atI_nat hx, List.mem_of_getElem? hd, hh⟩
end
end AskG
/-! AskXe: defs that may raise; defs called where nothing is known of guards. -/
namespace AskG
open PySem PySem.Spec PyProof.Rows L2
section
variable (P : Program) (w : World) (K : PySem.W.Frag) (mg : Str → Option Value) (base : Heap)
/-- a def's promise, what it raises told by its last argument -/
abbrev FnX (k : Nat) (f : Addr) (fd : FuncData) (ps : List Str) (sp : Sp) : Prop := FnOk P w K mg base (L2.CX P w) k f fd ps sp
/-- the context of a body that may raise -/
abbrev cxX (N : List Str) (qual : Str) (scope : Scope) (f : Addr) (cd : Value) (A : Around) (outer : List Env) (s : Shared) (H : Hp) (E : XK) : Cx := cxOf (L2.CX P w) P w K mg base N qual scope f cd A outer s H E
end
/-- nothing raised -/
abbrev quiet (pr : Pr) : Sp := fun vs H Q _ => pr vs H Q
section
variable {P : Program} {w : World} {K : PySem.W.Frag} {mg : Str → Option Value} {base : Heap}
theorem FnX.mono {j k : Nat} {f : Addr} {fd : FuncData} {ps : List Str} {sp : Sp} (F : FnX P w K mg base j f fd ps sp) (h : j ≤ k) : FnX P w K mg base k f fd ps sp :=
  ⟨F.len, fun A outer s H args us vs Q E hr => F.run A outer s H args us vs Q E (hr.mono h)⟩
theorem okX {x qual : Str} {st : Stmt} {f : Addr} {fd : FuncData} {N ps : List Str} {k : Nat} {sp : Sp} (F : Fun K x qual st f fd) (S : FnScope N ps (defScope st))
    (many : ∀ vs H Q E, sp vs H Q E → vs.length = ps.length)
    (body_ok : ∀ (cdv : Value) (A : Around) (outer : List Env) (s : Shared) (H : Hp) (vs : List V) (Q : VK) (E : XK),
      Room k (A.deeper (envOfC qual (defScope st) s.heap.objs.size f cdv)) → Takes (cxX P w K mg base N qual (defScope st) f cdv A outer s H E) (fun cls d _ H' => E cls d H') →
      PassesOwn (model P w) (A.deeper (envOfC qual (defScope st) s.heap.objs.size f cdv)) (envOfC qual (defScope st) s.heap.objs.size f cdv) (cxX P w K mg base N qual (defScope st) f cdv A outer s H E).xe → sp vs H Q E →
      ∃ t, PSs (cxX P w K mg base N qual (defScope st) f cdv A outer s H E) (defBody st) t ∧ t { nx := fun _ H' => Q .non H', rt := Q } (start N vs) H) :
    FnX P w K mg base (k + 1) f fd ps sp := by
  obtain ⟨oc, od, kV, doc, pm, an, cdv, ct, osl, rfl, lk, hcd⟩ := F.ex
  refine ⟨many, fun A outer s H args us vs Q E hr e0 hb r h => ?_⟩
  refine LamX.run_ofS lk hcd S hr e0 hb r (many _ _ _ _ h) fun hr' => ?_
  exact body_ok cdv A outer s H vs Q E hr' (takes_of rfl rfl rfl rfl) (passes_of rfl) h
/-- a def that raises nothing, where nothing is known of guards -/
theorem okN {x qual : Str} {st : Stmt} {f : Addr} {fd : FuncData} {N ps : List Str} {k : Nat} {pr : Pr} (F : Fun K x qual st f fd) (S : FnScope N ps (defScope st))
    (many : ∀ vs H Q, pr vs H Q → vs.length = ps.length)
    (body_ok : ∀ (cdv : Value) (A : Around) (outer : List Env) (s : Shared) (H : Hp) (E : XK) (vs : List V) (Q : VK),
      Room k (A.deeper (envOfC qual (defScope st) s.heap.objs.size f cdv)) → pr vs H Q →
      ∃ t, PSs (cxX P w K mg base N qual (defScope st) f cdv A outer s H E).nox (defBody st) t ∧ t { nx := fun _ H' => Q .non H', rt := Q } (start N vs) H) :
    FnX P w K mg base (k + 1) f fd ps (quiet pr) := by
  refine okX F S (fun vs H Q _ h => many vs H Q h) fun cdv A outer s H vs Q E hr _ _ h => ?_
  obtain ⟨t, ht, hq⟩ := body_ok cdv A outer s H E vs Q hr h
  exact ⟨t, ht.nox, hq⟩
/-- where it raises nothing, it may be called as the other defs are -/
theorem FnX.toG {k : Nat} {f : Addr} {fd : FuncData} {ps : List Str} {sp : Sp} {pr : Pr} (F : FnX P w K mg base k f fd ps sp) (h : ∀ vs H Q, pr vs H Q → sp vs H Q E0) : FnG P w K mg base k f fd ps pr := by
  refine ⟨fun vs H Q z => F.len vs H Q E0 (h vs H Q z), fun A outer s H args us vs Q hr e0 hb r z => ?_⟩
  refine codeAny_mono (F.run A outer s H args us vs Q E0 hr.room e0 hb r (h _ _ _ z)) fun res s' q => ?_
  cases res with
  | ok fl => cases fl <;> exact q
  | error e =>
    obtain ⟨_, _, _, _, _, _, _, _, _, _, _, _, z⟩ := q
    exact z.elim
end
/-! ### calls -/
/-- f(..), what it raises taken by W -/
def tCallX (sp : Sp) (W : WX) (t : TA) : TE := fun σ H Q => t σ H fun vs H1 => sp vs H1 Q fun cls d H' => W cls d σ H'
def tCallXN (m : Nat) (sp : Sp) (W : WX) (gV : List V → List V → List V) (tk : TA) : TE := fun σ H Q => tk σ H fun zs H2 => zs.length = m ∧ sp (gV [] zs) H2 Q fun cls d H' => W cls d σ H'
section
variable {X : Cx} {k : Nat} {f : Addr} {fd : FuncData} {ps ks : List Str} {sp : Sp} {pr : Pr} {x : Str} {p pos : Pos} {e : Expr} {es : List Expr} {kws : List Keyword} {t tk : TA} {W : WX}
  {g : List Value → List Value → List Value} {gV : List V → List V → List V}
theorem pe_x (F : FnX X.prog X.w X.K X.mg X.base k f fd ps sp) (hr : Room k X.A) (hg : Gl X x) (hm : X.mg x = some (.ref f)) (hk : PySem.W.keepIn X.K (.ref f) = true) (hb : Binds X.K fd ps []) (tk : Takes X W) (ha : PA X (e :: es) t)
    (hdb : (x == ("__debug__" : Str)) = false := by decide) (he : starEach (e :: es) X.env = (false, eval e X.env) :: starEach es X.env := by rfl) (hpl : (backTo pos (starEach es X.env)).any (·.1) = false := by rfl) :
    PE X (.Call (.Name x p) (e :: es) [] pos) (tCallX sp W t) := pe_callS F hr hg hm hk hb (fun σ => passAt tk σ) ha hdb he hpl
/-- a def that raises nothing -/
theorem pe_n (F : FnX X.prog X.w X.K X.mg X.base k f fd ps (quiet pr)) (hr : Room k X.A) (hg : Gl X x) (hm : X.mg x = some (.ref f)) (hk : PySem.W.keepIn X.K (.ref f) = true) (hb : Binds X.K fd ps []) (ha : PA X (e :: es) t)
    (hdb : (x == ("__debug__" : Str)) = false := by decide) (he : starEach (e :: es) X.env = (false, eval e X.env) :: starEach es X.env := by rfl) (hpl : (backTo pos (starEach es X.env)).any (·.1) = false := by rfl) :
    PE X (.Call (.Name x p) (e :: es) [] pos) (tCallG pr [] t) := by
  refine PE.less (pe_x F hr hg hm hk hb LamX.takes0 ha hdb he hpl) fun σ H Q q => ?_
  have e0 : (tCallG pr [] t) = fun σ H Q => t σ H fun vs H1 => pr vs H1 Q := by
    funext σ H Q
    unfold tCallG
    simp only [List.append_nil]
  rw [e0] at q
  exact q
/-- f(k = v, ..), what it raises taken by W -/
theorem pe_xk (F : FnX X.prog X.w X.K X.mg X.base k f fd ps sp) (hr : Room k X.A) (hg : Gl X x) (hm : X.mg x = some (.ref f)) (hk : PySem.W.keepIn X.K (.ref f) = true) (hb : KBn X.K fd ps 0 ks g gV) (tx : Takes X W) (hkw : PK X kws tk)
    (hall : (backToKw pos (keywordEach kws X.env)).all (·.1.isSome) = true := by rfl)
    (hks : (backToKw pos (keywordEach kws X.env)).filterMap (·.1) = ks := by rfl)
    (hdb : (x == ("__debug__" : Str)) = false := by decide)
    (hpl : ((backTo pos (starEach [] X.env)).any (·.1) || (backToKw pos (keywordEach kws X.env)).any (·.1.isNone)) = false := by rfl) :
    PE X (.Call (.Name x p) [] kws pos) (tCallXN ks.length sp W gV tk) := by
  constructor
  intro pins s σ H Q I h
  refine wpAny_Call_Name_kw (ld_glob I hg hm ?_ hdb)
  refine PySem.W.callWith_KW0 (h₀ := X.base) I.ok.mod.kin hk hall ?_ hpl
  refine thn (hkw.run pos pins s σ H _ I h) ?_
  rintro ws s2 ⟨zs, H2, I2, rz, l2, q2⟩
  refine ⟨I2.kIn, ?_⟩
  rw [hks]
  have b := hb.to s2 [] ws I2.kIn rfl (rz.length.symm.trans l2)
  have hx := passAt tx σ
  refine wpAny_call (codeAny_mono (F.run X.A X.stack s2 H2 ⟨[], ks.zip ws⟩ _ _ Q (WE W σ) hr I2.env0 b (hb.rel .nil rz) q2) fun res s' hq => ?_)
  cases res with
  | error e => exact hx pins H2 s2 e s' I2 hq
  | ok fl =>
    cases fl with
    | ret u => exact I2.after hq
    | next => exact False.elim hq
    | brk => exact False.elim hq
    | cont => exact False.elim hq
end
end AskG
namespace P37
open PySem PySem.Spec PyProof.Rows L2 AskG
def topS (i : Nat) : Stmt := PySem.Challenge.pw_askrights_k37_costs_told.main.body.getD i (.Pass ⟨0, 0, 0, 0⟩)
abbrev sAsked : Stmt := topS 1
abbrev sOnDays : Stmt := topS 2
theorem scAsked : FnScope ["right", "day", "kind"] ["right", "day"] (defScope sAsked) := ⟨rfl, rfl, rfl, by decide +kernel, rfl, by decide +kernel, by decide +kernel⟩
theorem scOnDays : FnScope ["right", "low", "high", "account", "weight", "day"] ["right", "low", "high"] (defScope sOnDays) := ⟨rfl, rfl, rfl, by decide +kernel, rfl, by decide +kernel, by decide +kernel⟩
/-- the days j of the account at i -/
def rowPart (ws : List Cell) (lo hi : Int) (i j : Nat) : RowD := match ws[i]? with
  | some x => ((daysOf lo hi).take j).map fun d => ((x.1, d), x.2)
  | none => []
theorem part_zero (ws : List Cell) (lo hi : Int) (i : Nat) : rowPart ws lo hi i 0 = [] := by
  unfold rowPart
  cases ws[i]? <;> rfl
theorem part_len (ws : List Cell) (lo hi : Int) (i j : Nat) : (rowPart ws lo hi i j).length ≤ (hi + 1 - lo).toNat := by
  unfold rowPart
  cases ws[i]? with
  | none => exact Nat.zero_le _
  | some x =>
    show (((daysOf lo hi).take j).map _).length ≤ _
    rw [List.length_map, List.length_take, days_len]
    omega
theorem rowOn_app (a b : List Cell) (lo hi : Int) : rowOn (a ++ b) lo hi = rowOn a lo hi ++ rowOn b lo hi := List.flatMap_append
theorem part_n (ws : List Cell) (lo hi : Int) (i : Nat) : rowOn (ws.take i) lo hi ++ rowPart ws lo hi i (hi + 1 - lo).toNat = rowOn (ws.take (i + 1)) lo hi := by
  rw [List.take_add_one, rowOn_app]
  congr 1
  unfold rowPart
  cases ws[i]? with
  | none => rfl
  | some x =>
    show ((daysOf lo hi).take _).map _ = (daysOf lo hi).map _ ++ []
    rw [List.append_nil, List.take_of_length_le (by rw [days_len]; exact Nat.le_refl _)]
theorem part_succ {ws : List Cell} {lo hi : Int} {i j : Nat} {c : Cell} (h : ws[i]? = some c) (hj : j < (hi + 1 - lo).toNat) : rowPart ws lo hi i (j + 1) = rowPart ws lo hi i j ++ [((c.1, lo + (j : Int)), c.2)] := by
  unfold rowPart
  rw [h]
  show ((daysOf lo hi).take (j + 1)).map _ = ((daysOf lo hi).take j).map _ ++ _
  have : (daysOf lo hi)[j]? = some (lo + (j : Int)) := by
    unfold daysOf
    rw [List.getElem?_map, List.getElem?_range hj]
    rfl
  rw [List.take_add_one, this, List.map_append]
  rfl
section
variable {P : Program} {w : World} {K : PySem.W.Frag} {mg : Str → Option Value} {base : Heap}
def prAsked : Pr := fun vs H Q => ∃ (a : Addr) (R : Rt) (t : Int), vs = [.ref a, .int t] ∧ RightAt H a R ∧ ∀ p, H p = none → Q (.ref p) (upd H p (.tup [.int (R.kind.lo t), .int (R.kind.hi t)]))
theorem ok_asked {f : Addr} {fd : FuncData} {k : Nat} (F : Fun K "asked_days" "asked_days" sAsked f fd) (mx : mg "max" = none) (mn : mg "min" = none) : FnX P w K mg base (k + 1) f fd ["right", "day"] (quiet prAsked) := by
  refine okN F scAsked (fun vs H Q h => ?_) (fun cdv A outer s H E vs Q hr h => ?_)
  · obtain ⟨_, _, _, rfl, _⟩ := h
    rfl
  · obtain ⟨a, ⟨pn, ws, fi, la, kd⟩, t, rfl, hR, q⟩ := h
    obtain ⟨wa, ps, ka, h1, h2, h3, h4⟩ := hR
    refine ⟨_, pss_cons (ps_set (i := 2) scAsked.nd rfl (.inl rfl) (pe_ix (ix_tup : IxR _ (rIxT K)) (pv 0) pe_int (fun _ _ => rfl)))
      (pss_cons (ps_if (pt_cmpR op_eq (pe_ix (ix_tup : IxR _ (rIxT K)) (pv 2) pe_int (fun _ _ => rfl)) pe_str (nomark _)) (pss_one (ps_ret (pe_tup (pa_cons (pe_ix (ix_tup : IxR _ (rIxT K)) (pv 2) pe_int (fun _ _ => rfl)) (pa_cons (pv 1) pa_nil))))) pss_nil)
      (pss_cons (ps_if (pt_cmpR op_eq (pe_ix (ix_tup : IxR _ (rIxT K)) (pv 2) pe_int (fun _ _ => rfl)) pe_str (nomark _)) (pss_one (ps_ret (pe_tup (pa_cons (pe_callB (call_max2 rfl) (by rfl) mx (by decide +kernel) (pa_cons pe_int (pa_cons (pe_op op_add (pe_op op_sub (pv 1) (pe_ix (ix_tup : IxR _ (rIxT K)) (pv 2) pe_int (fun _ _ => rfl))) pe_int) pa_nil))) (pa_cons (pv 1) pa_nil))))) pss_nil)
      (pss_one (ps_ret (pe_tup (pa_cons (pe_ix (ix_tup : IxR _ (rIxT K)) (pv 2) pe_int (fun _ _ => rfl)) (pa_cons (pe_callB (call_min2 rfl) (by rfl) mn (by decide +kernel) (pa_cons (pe_ix (ix_tup : IxR _ (rIxT K)) (pv 2) pe_int (fun _ _ => rfl)) (pa_cons (pv 1) pa_nil))) pa_nil)))))))  , ?_⟩
    refine iSeq (iAsg ⟨.ref a, rfl, a, _, _, _, rfl, rfl, sqT h1, atI_nat (j := 4) rfl, ?_⟩)
    refine iName ?_
    dsimp only
    refine iSeq ?_
    cases kd with
    | tot s0 =>
      refine ⟨.ref ka, rfl, ka, _, _, _, rfl, rfl, sqT h4, atI_nat (j := 0) rfl, rfl, _, rfl, ?_⟩
      refine iteT (iRet ⟨.ref ka, rfl, ka, _, _, _, rfl, rfl, sqT h4, atI_nat (j := 1) rfl, .int t, rfl, by show 2 ≤ sizeLine; decide, fun p hp => q p hp⟩)
    | win l =>
      refine ⟨.ref ka, rfl, ka, _, _, _, rfl, rfl, sqT h4, atI_nat (j := 0) rfl, rfl, _, rfl, ?_⟩
      refine iteF (iNext ?_)
      dsimp only
      refine iSeq ⟨.ref ka, rfl, ka, _, _, _, rfl, rfl, sqT h4, atI_nat (j := 0) rfl, rfl, _, rfl, ?_⟩
      refine iteT (iRet ⟨.int t, rfl, .ref ka, rfl, ka, _, _, _, rfl, rfl, sqT h4, atI_nat (j := 1) rfl, t, l, rfl, rfl, t - l, 1, rfl, rfl, 0, t - l + 1, rfl, .int t, rfl, by show 2 ≤ sizeLine; decide, fun p hp => q p hp⟩)
    | per b e =>
      refine ⟨.ref ka, rfl, ka, _, _, _, rfl, rfl, sqT h4, atI_nat (j := 0) rfl, rfl, _, rfl, ?_⟩
      refine iteF (iNext ?_)
      dsimp only
      refine iSeq ⟨.ref ka, rfl, ka, _, _, _, rfl, rfl, sqT h4, atI_nat (j := 0) rfl, rfl, _, rfl, ?_⟩
      refine iteF (iNext ?_)
      dsimp only
      refine iRet ⟨.ref ka, rfl, ka, _, _, _, rfl, rfl, sqT h4, atI_nat (j := 1) rfl, .ref ka, rfl, ka, _, _, _, rfl, rfl, sqT h4, atI_nat (j := 2) rfl, .int t, rfl, e, t, rfl, by show 2 ≤ sizeLine; decide, fun p hp => q p hp⟩
def prOnDays : Pr := fun vs H Q => ∃ (a : Addr) (R : Rt) (lo hi : Int), vs = [.ref a, .int lo, .int hi] ∧ RightAt H a R ∧ R.ws.length ≤ 3 ∧ 0 ≤ lo ∧ lo ≤ 100 ∧ -1 ≤ hi ∧ hi ≤ 100 ∧
  ∀ H' p, Same H H' → RowAt H' p (rowOn R.ws lo hi) → Q (.ref p) H'
theorem g2_mono {i j : Nat} : ∀ (x : V) (σ : L2.St) (H : Hp) (Q Q' : L2.St → Hp → Prop), (∀ σ2 H2, Q σ2 H2 → Q' σ2 H2) → g2 K i j x σ H Q → g2 K i j x σ H Q' := by
  rintro x σ H Q Q' m ⟨a, xs, e, hs, hl, v, r, e1, v2, r2, e2, e3, q⟩
  exact ⟨a, xs, e, hs, hl, v, r, e1, v2, r2, e2, e3, m _ _ q⟩
theorem ok_onDays {f : Addr} {fd : FuncData} {k : Nat} (F : Fun K "row_on_days" "row_on_days" sOnDays f fd) (mt : mg "tuple" = none) (mr : mg "range" = none) : FnX P w K mg base (k + 1) f fd ["right", "low", "high"] (quiet prOnDays) := by
  refine okN F scOnDays (fun vs H Q h => ?_) (fun cdv A outer s H E vs Q hr h => ?_)
  · obtain ⟨_, _, _, _, rfl, _⟩ := h
    rfl
  · obtain ⟨a, R, lo, hi, rfl, hR, l3, lo0, lo1, hi0, hi1, q⟩ := h
    obtain ⟨wa, ps, ka, h1, h2, h3, h4⟩ := hR
    have big := sizeBig
    refine ⟨_, pss_one (ps_ret (pe_callTy call_tuple_of (by rfl) mt (by decide +kernel) (pa_cons (pe_lc2 (own := [("account", 3), ("weight", 4), ("day", 5)]) (vs1 := [5]) (g := g2 K 3 4) (g1 := gName 5) (tt := tYes) (tt1 := tYes) rfl scOnDays.nd (pi_tup (pe_ix (ix_tup : IxR _ (rIxT K)) (pv 0) pe_int (fun _ _ => rfl)))
      (blkOk_by (N := ["right", "low", "high", "account", "weight", "day"]) (sc := defScope sOnDays) (by decide +kernel)) (by decide)
      (fun _ _ _ _ _ => pg_tup rfl (pgs_cons (pg_name (i := 3) scOnDays.nd rfl (.inl rfl)) (pgs_cons (pg_name (i := 4) scOnDays.nd rfl (.inl rfl)) pgs_nil)))
      (fun _ _ _ _ _ => pts_nil)
      (fun _ _ _ _ _ => pi_range2 (by rfl) mr (pa_cons (pv 1) (pa_cons (pe_op op_add (pv 2) pe_int) pa_nil)))
      (fun _ _ _ _ _ => pg_name (i := 5) scOnDays.nd rfl (.inl rfl))
      (fun _ _ _ _ _ => pts_nil)
      (fun _ _ _ _ _ => pe_tup (pa_cons (pe_tup (pa_cons (pv 3) (pa_cons (pv 5) pa_nil))) (pa_cons (pv 4) pa_nil)))) pa_nil))), ?_⟩
    refine iRet ?_
    refine ⟨.ref a, rfl, a, _, _, _, rfl, rfl, sqT h1, atI_nat (j := 1) rfl, wa, rfl, ⟨_, sqT h2⟩, fun D hD => ?_⟩
    have hlen := Paired.length h3
    refine lc2_go (K := K) (a := wa) (xs := ps.map V.ref) (lo := lo) (n := (hi + 1 - lo).toNat)
      (fun i j H' => Same H H' ∧ ∃ qs, H' D = some (.lst (qs.map V.ref)) ∧ Paired (PairRow H') qs (rowOn (R.ws.take i) lo hi ++ rowPart R.ws lo hi i j))
      ⟨same_new hD, [], upd_same, ?_⟩ (fun i H' h => sqT (h.1 _ _ h2)) g2_mono (fun _ _ _ _ _ m z => m _ _ z) (fun σ H Q Q' m z => ?_) (fun i x H' hx h => ?_) (fun i H' h => ?_) (fun H' h => ?_)
    · rw [part_zero, List.take_zero]
      exact .nil
    · obtain ⟨v3, e3, v5, e5, s1, z⟩ := z
      exact ⟨v3, e3, v5, e5, s1, fun p hp => by
        obtain ⟨v4, e4, s2, z⟩ := z p hp
        exact ⟨v4, e4, s2, fun p2 hp2 => m _ _ (z p2 hp2)⟩⟩
    · rw [List.getElem?_map] at hx
      obtain ⟨pi, hpi, rfl⟩ := Option.map_eq_some_iff.mp hx
      obtain ⟨c, hc, hcell⟩ := paired_at' h3 hpi
      have il : i < R.ws.length := (List.getElem?_eq_some_iff.mp hc).1
      obtain ⟨sm, qs, hqs, hqq⟩ := h
      refine ⟨pi, _, rfl, sqT (sm _ _ hcell), rfl, .str c.1, _, rfl, .int c.2, _, rfl, rfl, rfl, ⟨sm, qs, hqs, hqq⟩, fun R' hR' => ⟨.int lo, rfl, .int hi, rfl, hi, 1, rfl, rfl, lo, hi + 1, rfl, ⟨by omega, by omega, by omega, by omega⟩, hR'⟩, fun j H2 hj h => ?_⟩
      obtain ⟨sm, qs, hqs, hqq⟩ := h
      have ql := Paired.length hqq
      have qb : (rowOn (R.ws.take i) lo hi ++ rowPart R.ws lo hi i j).length ≤ 1000 := by
        rw [List.length_append, rowOn_len, List.length_take]
        have h1 : min i R.ws.length * (hi + 1 - lo).toNat ≤ 3 * 101 := Nat.mul_le_mul (by omega) (by omega)
        have h2 := part_len R.ws lo hi i j
        omega
      refine ⟨rfl, .str c.1, rfl, .int (lo + j), rfl, by show 2 ≤ sizeLine; omega, fun p1 hp1 => ⟨.int c.2, rfl, by show 2 ≤ sizeLine; omega, fun p2 hp2 => ?_⟩⟩
      have s1 := same_new (o := .tup [.str c.1, .int (lo + j)]) hp1
      have s2 := same_new (o := .tup [.ref p1, .int c.2]) hp2
      have s12 := s1.trans s2
      have hDp := s12 _ _ hqs
      refine ⟨_, hDp, by rw [List.length_map]; omega, fun b o e => ?_, qs ++ [p2], by rw [upd_same, List.map_append]; rfl, ?_⟩
      · rw [upd_ne (ne_of_none e hD)]
        exact s12 _ _ (sm _ _ e)
      · have kp : KeepT _ (upd _ D (.lst (qs.map V.ref ++ [.ref p2]))) := KeepT.put hDp fun _ z => nomatch z
        rw [part_succ hc hj, ← List.append_assoc]
        exact Paired.snoc (Paired.mapP hqq fun _ _ z => (z.keep (KeepT.of s12)).keep kp) ⟨p1, kp _ _ upd_same, kp _ _ (s2 _ _ upd_same)⟩
    · obtain ⟨sm, qs, hqs, hqq⟩ := h
      refine ⟨sm, qs, hqs, ?_⟩
      rw [part_zero, List.append_nil, ← part_n]
      exact hqq
    · obtain ⟨sm, qs, hqs, hqq⟩ := h
      rw [part_zero, List.append_nil, List.length_map, hlen, List.take_length] at hqq
      refine ⟨D, _, rfl, .inl ⟨sqL hqs, fun p hp => ?_⟩⟩
      have s5 := same_new (o := .tup (qs.map V.ref)) hp
      exact q _ p (sm.trans s5) ⟨qs, upd_same, Paired.mapP hqq fun _ _ z => z.keep (KeepT.of s5)⟩
end
end P37
/-! AskNk: what a set asks of its elements, told for nested keys (texts, numbers, tuples of them). -/
namespace Ask
open PySem PySem.Spec PyProof.Rows L2

/-- v is of no class statement, told n levels down -/
def NoCls (P : Program) (w : World) (n : Nat) (s : Shared) (v : Value) : Prop :=
  ∀ (A : Around) (E : Value → Shared → Prop) (Q : Bool → Shared → Prop), Q false s → wpAny (model P w) A (ofAClassStatement n v) Q E s

theorem NoCls.flat {P : Program} {w : World} {n : Nat} {s : Shared} {v : Value} (e : ofAClassStatement n v = pure false) : NoCls P w n s v :=
  fun A E Q hq => e ▸ wpAny_pure hq

theorem NoCls.tup {P : Program} {w : World} {n : Nat} {s : Shared} {b : Addr} {o : Obj} {items : Array Value} {m : Nat}
    (ho : s.heap.get? b = some o) (hc : o.cls = .type "tuple") (hd : o.data = .seq items m) (hall : ∀ v ∈ items.toList, NoCls P w n s v) :
    NoCls P w (n + 1) s (.ref b) := by
  intro A E Q hq
  have ty : s.TypeIs (.ref b) "tuple" := ⟨o, ho, hc⟩
  unfold ofAClassStatement
  refine wpAny_bind (wpAny_typeOf ty ?_)
  dsimp only
  simp only [show (("tuple" : String) == "tuple") = true from rfl, if_true, Bool.not_true, Bool.false_eq_true, if_false]
  try refine wpAny_bind (wpAny_pure ?_)
  try simp only [Bool.not_true, Bool.false_eq_true, if_false]
  refine wpAny_bind (m := seqItems? (.ref b)) (wpAny_seqItems ho hd ?_)
  dsimp only
  refine wpAny_bind (m := forIn items _ _) ?_
  rw [← Array.forIn_toList]
  let J : List Value → (Option Bool × PUnit) → Shared → Prop := fun r acc u => acc.1 = none ∧ u = s ∧ ∀ v ∈ r, NoCls P w n s v
  refine wpAny_forIn_list _ J _ ?_ ?_ _ _ ⟨rfl, rfl, hall⟩
  · intro v r acc u hJ
    obtain ⟨_, eu, hr⟩ := hJ
    subst eu
    refine wpAny_bind (hr v (List.mem_cons.mpr (.inl rfl)) _ _ _ ?_)
    simp only [Bool.false_eq_true, if_false]
    exact wpAny_pure ⟨rfl, rfl, fun z hz => hr z (List.mem_cons.mpr (.inr hz))⟩
  · intro acc u hJ
    obtain ⟨a1, a2⟩ := acc
    obtain ⟨e1, eu, _⟩ := hJ
    cases e1
    subst eu
    exact wpAny_pure hq

mutual
theorem noCls_key {P : Program} {w : World} : ∀ (k : NestedKey) (v : Value) (n : Nat) (s : Shared), NestedIs s.heap k v → k.depth ≤ n → NoCls P w n s v
  | .none, _, n, s, x, _ => by cases x; exact .flat (by cases n <;> rfl)
  | .num _, _, n, s, x, _ => by cases x <;> exact .flat (by cases n <;> rfl)
  | .text _, _, n, s, x, _ => by cases x; exact .flat (by cases n <;> rfl)
  | .tup ks, _, 0, s, _, hn => absurd hn (by simp only [NestedKey.depth]; omega)
  | .tup ks, _, n + 1, s, x, hn => by
    cases x with
    | tup hg hc hd hk => exact .tup hg hc hd (noCls_keys ks _ n s hk (by simp only [NestedKey.depth] at hn; omega))
theorem noCls_keys {P : Program} {w : World} : ∀ (ks : List NestedKey) (vs : List Value) (n : Nat) (s : Shared), NestedAll s.heap ks vs → NestedKey.depthAll ks ≤ n → ∀ v ∈ vs, NoCls P w n s v
  | [], _, n, s, x, _, v, hv => by cases x; cases hv
  | k :: ks, _, n, s, x, hn, v, hv => by
    cases x with
    | cons x1 x2 =>
      simp only [NestedKey.depthAll] at hn
      cases hv with
      | head => exact noCls_key k _ n s x1 (by omega)
      | tail _ hv => exact noCls_keys ks _ n s x2 (by omega) v hv
end

/-- the element at b is the key k -/
abbrev IsK (P : Program) (w : World) (h : Heap) (k : NestedKey) (b : Addr) : Prop := (nestedKind P w).is h k b

section
variable {P : Program} {w : World} {A : Around} {E : Value → Shared → Prop} {s : Shared}

/-- looking among keys for a key can't be seen -/
theorem seen_key {k : NestedKey} {b : Addr} {Q : Bool → Shared → Prop} (hk : IsK P w s.heap k b) {ys : List Value} (hy : ∀ y ∈ ys, ∃ k' c, y = Value.ref c ∧ IsK P w s.heap k' c) (hq : Q false s) :
    wpAny (model P w) A (searchCouldBeSeen (.ref b) ys) Q E s := by
  unfold searchCouldBeSeen
  let J : List Value → (Option Bool × PUnit) → Shared → Prop := fun r acc u => acc.1 = none ∧ u = s ∧ ∀ y ∈ r, ∃ k' c, y = Value.ref c ∧ IsK P w s.heap k' c
  refine wpAny_bind (wpAny_forIn_list _ J _ ?_ ?_ _ _ ⟨rfl, rfl, hy⟩)
  · intro v r acc u hJ
    obtain ⟨_, eu, hr⟩ := hJ
    subst eu
    obtain ⟨k', c, ev, hc⟩ := hr v (List.mem_cons.mpr (.inl rfl))
    subst ev
    have next : ∀ y ∈ r, ∃ k' c, y = Value.ref c ∧ IsK P w u.heap k' c := fun z hz => hr z (List.mem_cons.mpr (.inr hz))
    dsimp only
    rcases Bool.eq_false_or_eq_true (b == c || (carriedByValue (.ref b) && carriedByValue (.ref c))) with hv | hv
    · exact wp_if_pos hv (wpAny_pure ⟨rfl, rfl, next⟩)
    · refine wp_if_neg (by rw [hv]; decide) ?_
      refine wpAny_bind ((nestedKind P w).quiet hk ?_)
      simp only [Bool.not_true, Bool.false_eq_true, if_false]
      refine wpAny_bind ((nestedKind P w).quiet hc ?_)
      simp only [Bool.not_true, Bool.false_eq_true, if_false]
      refine wpAny_bind (noCls_key k _ 8 u hk.1 hk.2 _ _ _ ?_)
      simp only [Bool.false_eq_true, if_false]
      refine wpAny_bind (noCls_key k' _ 8 u hc.1 hc.2 _ _ _ ?_)
      simp only [Bool.false_eq_true, if_false]
      exact wpAny_pure ⟨rfl, rfl, next⟩
  · intro acc u hJ
    obtain ⟨a1, a2⟩ := acc
    obtain ⟨e1, eu, _⟩ := hJ
    cases e1
    subst eu
    exact wpAny_pure hq
end
end Ask
/-! AskSk: sets of nested keys, fewer than 64: looking for a key. -/
namespace Ask
open PySem PySem.Spec PyProof.Rows L2

abbrev legAt (m : Nat) (h : Int) (c : Nat) : SetTable.Probe := nth m (runAt m (SetTable.bits h % (m + 1)) (SetTable.bits h)) c
theorem adv_clean {m : Nat} {p : SetTable.Probe} (e : p.dummy = none) : (adv m p).dummy = none := by
  unfold adv
  by_cases z : p.more > 0
  · rw [if_pos z]; exact e
  · rw [if_neg z]; exact e
theorem stand_clean (m : Nat) (h : Int) : ∀ c, (legAt m h c).dummy = none
  | 0 => rfl
  | c + 1 => by
    show (nth m _ (c + 1)).dummy = none
    rw [nth_succ]
    exact adv_clean (stand_clean m h c)
theorem stand_on (m : Nat) (h : Int) (c q : Nat) : nth m (legAt m h c) q = legAt m h (c + q) := (nth_add m c _ q).symm

/-- the set at a has the keys of L, each in the object beside it -/
structure SetK (P : Program) (w : World) (h : Heap) (a : Addr) (L : List (Addr × NestedKey)) (es : Array (Int × Value)) (ep : Nat) (t : SetTable) : Prop where
  obj : ∃ o, h.get? a = some o ∧ o.ExactSet ∧ o.data = .set es ep t
  ent : es.toList = L.map fun p => (p.2.hash w, Value.ref p.1)
  tab : TabOk t (L.map fun p => p.2.hash w)
  one : (L.map Prod.snd).Nodup
  keys : ∀ p ∈ L, IsK P w h p.2 p.1
  lead : w.params.followText "set-order" = true ∨ t.led = true
  air : L.length * 5 < t.mask * 3
  few : L.length < 64

section
variable {P : Program} {w : World} {A : Around} {E : Value → Shared → Prop} {s : Shared}
variable {a : Addr} {L : List (Addr × NestedKey)} {es : Array (Int × Value)} {ep : Nat} {t : SetTable}

theorem ent_len {L : List (Addr × NestedKey)} {es : Array (Int × Value)} (e : es.toList = L.map fun p => (p.2.hash w, Value.ref p.1)) : es.size = L.length := by
  rw [← Array.length_toList, e, List.length_map]
theorem fits_of {t : SetTable} {n : Nat} (h1 : t.place.size = n) (h2 : t.dummies = #[]) (h3 : n ≤ t.mask) : t.fits n = true := by
  unfold SetTable.fits SetTable.fill
  rw [h2, Bool.and_eq_true]
  exact ⟨beq_iff_eq.mpr h1, decide_eq_true (by rw [h1]; exact h3)⟩
theorem SetK.places (S : SetK P w s.heap a L es ep t) : t.place.size = L.length := by
  have z := S.tab.sz
  rw [List.length_map] at z
  exact z
theorem SetK.fit (S : SetK P w s.heap a L es ep t) : t.fits es.size = true := by
  have z1 := S.air
  have z2 := ent_len S.ent
  exact fits_of (by rw [z2]; exact S.places) S.tab.dm (by omega)
theorem SetK.at (S : SetK P w s.heap a L es ep t) {i : Nat} {p : Addr × NestedKey} (e : L[i]? = some p) : es[i]? = some (p.2.hash w, Value.ref p.1) := by
  rw [← Array.getElem?_toList, S.ent, List.getElem?_map, e]
  rfl
theorem SetK.hashes (S : SetK P w s.heap a L es ep t) {i : Nat} {p : Addr × NestedKey} (e : L[i]? = some p) : (es[i]?.map (·.1)).getD 0 = p.2.hash w := by
  rw [S.at e]
  rfl
theorem SetK.stays (S : SetK P w s.heap a L es ep t) : ¬ t.gaveWay = true := by
  unfold SetTable.gaveWay
  rw [mask_odd S.tab.mok]
  decide

/-- what lies behind a candidate p whose slot is the q-th of the way -/
theorem behind (S : SetK P w s.heap a L es ep t) {x : Addr} {k : NestedKey} (hx : IsK P w s.heap k x) (room : A.units + 8 < cLine) {Q : SetFound → Shared → Prop} {i q f : Nat} {p : Addr × NestedKey}
    (hp : L[i]? = some p) (hi : t.place.toList[i]? = some (way t.mask (k.hash w) q)) {nx : SetTable.Probe}
    (same : p.2 = k → Q (.there none) s) (other : p.2 ≠ k → wpAny (model P w) A (setSearchFrom a (.ref x) (k.hash w) true f (some nx)) Q E s) :
    wpAny (model P w) A (searchRest a (.ref x) (k.hash w) true f es t (way t.mask (k.hash w) q) i nx) Q E s := by
  obtain ⟨o, ho, _, hd⟩ := S.obj
  have live := slot_live S.tab.ris hi
  have hpk := S.keys p (List.mem_of_getElem? hp)
  unfold searchRest
  rw [S.at hp]
  dsimp only
  refine wpAny_bind (wpAny_holding ((nestedKind P w).eqBool room hpk hx (wpAny_bind (wpAny_setState_of ho hd S.fit ?_))))
  dsimp only
  rcases Classical.em (p.2 = k) with c | c
  · exact wp_if_pos (by simp [c]) (wpAny_pure (same c))
  · refine wp_if_neg (by simp [c]) ?_
    try refine wpAny_bind (wpAny_pure ?_)
    rw [sameMem]
    dsimp only
    simp only [if_true, live, S.at hp]
    refine wpAny_bind (wpAny_isSame_ref_self (wpAny_bind (wpAny_pure ?_)))
    simp only [if_true]
    exact wp_if_neg (by simp [c]) (other c)

/-- from the c-th stand on; K is the first empty slot of the way -/
theorem look (S : SetK P w s.heap a L es ep t) {x : Addr} {k : NestedKey} (hx : IsK P w s.heap k x) (room : A.units + 8 < cLine) {K : Nat} (hb : K < 10 * SetTable.turns t.mask)
    (free : way t.mask (k.hash w) K ∉ t.place.toList) (taken : ∀ c, c < K → way t.mask (k.hash w) c ∈ t.place.toList) {Q : SetFound → Shared → Prop}
    (yes : k ∈ L.map Prod.snd → Q (.there none) s) (no : k ∉ L.map Prod.snd → Q (.free (way t.mask (k.hash w) K) false) s) (f : Nat) :
    ∀ (c : Nat) (st : Option SetTable.Probe), st.getD (t.probeStart (k.hash w)) = legAt t.mask (k.hash w) c → c ≤ K → K < c + f →
      (∀ (i : Nat) (p : Addr × NestedKey), L[i]? = some p → p.2 = k → ∃ d, c ≤ d ∧ d < K ∧ t.place.toList[i]? = some (way t.mask (k.hash w) d)) →
      wpAny (model P w) A (setSearchFrom a (.ref x) (k.hash w) true f st) Q E s := by
  obtain ⟨o, ho, _, hd⟩ := S.obj
  induction f with
  | zero => intro c st _ h1 h2; exact absurd h2 (by omega)
  | succ f ih =>
    intro c st est hc hf ahead
    have onj : ∀ q, (nth t.mask (legAt t.mask (k.hash w) c) q).j = way t.mask (k.hash w) (c + q) := fun q => by rw [stand_on]
    have toK : c + (K - c) = K := by omega
    -- a place before c's way that has the key's hash and is not ahead
    have gone : ∀ (i : Nat) (p : Addr × NestedKey), L[i]? = some p → p.2 = k → (es[i]?.map (·.1)).getD 0 = k.hash w := fun i p e1 e2 => by rw [S.hashes e1, e2]
    rw [setSearchFrom_succ]
    refine wpAny_bind (wpAny_setState_of ho hd S.fit ?_)
    dsimp only
    refine wp_if_neg S.stays ?_
    try refine wpAny_bind (wpAny_pure ?_)
    have told := go_spec t S.tab.ris S.tab.dm (fun i => (es[i]?.map (·.1)).getD 0) (k.hash w) (10 * SetTable.turns t.mask) (K - c) (legAt t.mask (k.hash w) c) (stand_clean _ _ c) (by omega)
      (fun q hq => by rw [onj]; exact taken _ (by omega)) (by rw [onj, toK]; exact free)
    cases told with
    | inr z =>
      obtain ⟨none_, got⟩ := z
      have got' : t.probe (fun i => (es[i]?.map (·.1)).getD 0) (k.hash w) (st.getD (t.probeStart (k.hash w))) = some (.empty (way t.mask (k.hash w) K) none) := by
        rw [est]
        rw [onj, toK] at got
        exact got
      rw [got']
      dsimp only
      refine wpAny_pure (no fun hm => ?_)
      obtain ⟨p, pm, pk⟩ := List.mem_map.mp hm
      obtain ⟨i, hi⟩ := List.mem_iff_getElem?.mp pm
      obtain ⟨d, d1, d2, d3⟩ := ahead i p hi pk
      have ed : c + (d - c) = d := by omega
      exact none_ (d - c) i (by omega) (by rw [onj, ed]; exact d3) (gone i p hi pk)
    | inl z =>
      obtain ⟨q, i, hq, hi, _, before, got⟩ := z
      rw [onj] at hi
      have got' : t.probe (fun i => (es[i]?.map (·.1)).getD 0) (k.hash w) (st.getD (t.probeStart (k.hash w))) = some (.candidate (way t.mask (k.hash w) (c + q)) i (legAt t.mask (k.hash w) (c + (q + 1)))) := by
        rw [est]
        rw [onj, stand_on] at got
        exact got
      rw [got']
      dsimp only
      have il : i < L.length := by
        have := (List.getElem?_eq_some_iff.mp hi).1
        rw [Array.length_toList, S.places] at this
        exact this
      obtain ⟨p, hp⟩ : ∃ p, L[i]? = some p := ⟨_, List.getElem?_eq_getElem il⟩
      have rest : wpAny (model P w) A (searchRest a (.ref x) (k.hash w) true f es t (way t.mask (k.hash w) (c + q)) i (legAt t.mask (k.hash w) (c + (q + 1)))) Q E s := by
        refine behind S hx room hp hi (fun e => yes (List.mem_map.mpr ⟨p, List.mem_of_getElem? hp, e⟩)) fun ne => ?_
        refine ih (c + (q + 1)) _ rfl (by omega) (by omega) fun i' p' h' k' => ?_
        obtain ⟨d, d1, d2, d3⟩ := ahead i' p' h' k'
        refine ⟨d, ?_, d2, d3⟩
        rcases Nat.lt_trichotomy d (c + q) with y | y | y
        · have ed : c + (d - c) = d := by omega
          exact absurd (gone i' p' h' k') (before (d - c) i' (by omega) (by rw [onj, ed]; exact d3))
        · rw [y] at d3
          have e1 := (slot_live S.tab.ris d3).symm.trans (slot_live S.tab.ris hi)
          injection e1 with e1
          rw [e1, hp] at h'
          cases h'
          exact absurd k' ne
        · omega
      rcases Classical.em (t.led = true) with c1 | c1
      · refine wp_if_neg (by simp [c1]) ?_
        try refine wpAny_bind (wpAny_pure ?_)
        exact rest
      · refine wp_if_pos (by simp [c1]) (wpAny_bind (seen_key hx (fun y hy => ?_) (wp_if_neg (by decide) ?_)))
        · obtain ⟨e, he, rfl⟩ := List.mem_map.mp hy
          have m : e ∈ es.toList := by
            have z : e ∈ es ∧ e.1 = k.hash w := by simpa using he
            simpa using z.1
          rw [S.ent] at m
          obtain ⟨p2, m2, rfl⟩ := List.mem_map.mp m
          exact ⟨p2.2, p2.1, rfl, S.keys p2 m2⟩
        · try refine wpAny_bind (wpAny_pure ?_)
          exact rest

/-- looking for a key that is to be put in -/
theorem lookup (S : SetK P w s.heap a L es ep t) {x : Addr} {k : NestedKey} (hx : IsK P w s.heap k x) (room : A.units + 8 < cLine) {Q : SetFound → Shared → Prop} (yes : k ∈ L.map Prod.snd → Q (.there none) s)
    (no : ∀ K, k ∉ L.map Prod.snd → way t.mask (k.hash w) K ∉ t.place.toList → (∀ c, c < K → way t.mask (k.hash w) c ∈ t.place.toList) → Q (.free (way t.mask (k.hash w) K) false) s) :
    wpAny (model P w) A (setSearch a (.ref x) (k.hash w) true) Q E s := by
  have air := S.air
  obtain ⟨K, small, free, taken⟩ := S.tab.first (by rw [List.length_map]; omega) (k.hash w)
  have tm : SetTable.turns t.mask ≤ 142 := by
    unfold SetTable.turns
    rcases S.tab.mok with e | e | e <;> omega
  unfold setSearch
  refine look S hx room small free taken yes (fun n => no K n free taken) 100000 0 none rfl (Nat.zero_le _) (by omega) fun i p hp pk => ?_
  have il : i < t.place.toList.length := by
    rw [Array.length_toList, S.places]
    exact (List.getElem?_eq_some_iff.mp hp).1
  have hh : (L.map fun p => p.2.hash w)[i]? = some (k.hash w) := by
    rw [List.getElem?_map, hp, ← pk]
    rfl
  obtain ⟨d, d1, d2⟩ := S.tab.before free hh (List.getElem?_eq_getElem il)
  exact ⟨d, Nat.zero_le _, d1, by rw [List.getElem?_eq_getElem il, d2]⟩
end
end Ask
/-! AskAk: sets of nested keys, fewer than 64: putting a key in. -/
namespace Ask
open PySem PySem.Spec PyProof.Rows L2

/-- asked whether its hash is one by value, v answers something, n levels down -/
def ByVal (P : Program) (w : World) (n : Nat) (s : Shared) (v : Value) : Prop :=
  ∀ (A : Around) (E : Value → Shared → Prop) (Q : Bool → Shared → Prop), (∀ b, Q b s) → wpAny (model P w) A (hashByValue n v) Q E s
theorem ByVal.flat {P : Program} {w : World} {n : Nat} {s : Shared} {v : Value} {c : Bool} (e : hashByValue n v = pure c) : ByVal P w n s v :=
  fun A E Q hq => e ▸ wpAny_pure (hq c)
theorem ByVal.tup {P : Program} {w : World} {n : Nat} {s : Shared} {b : Addr} {o : Obj} {items : Array Value} {m : Nat}
    (ho : s.heap.get? b = some o) (hc : o.cls = .type "tuple") (hd : o.data = .seq items m) (hall : ∀ v ∈ items.toList, ByVal P w n s v) :
    ByVal P w (n + 1) s (.ref b) := by
  intro A E Q hq
  have ty : s.TypeIs (.ref b) "tuple" := ⟨o, ho, hc⟩
  unfold hashByValue
  refine wpAny_bind (wpAny_specialOf ty F.slot_tuple_hash.lookup ?_)
  refine wpAny_bind (m := seqItems? (.ref b)) (wpAny_seqItems ho hd ?_)
  refine wpAny_bind (m := forIn items _ _) ?_
  rw [← Array.forIn_toList]
  let J : List Value → (Option Bool × PUnit) → Shared → Prop := fun r acc u => acc.1 = none ∧ u = s ∧ ∀ v ∈ r, ByVal P w n s v
  refine wpAny_forIn_list _ J _ ?_ ?_ _ _ ⟨rfl, rfl, hall⟩
  · intro v r acc u hJ
    obtain ⟨_, eu, hr⟩ := hJ
    subst eu
    refine wpAny_bind (hr v (List.mem_cons.mpr (.inl rfl)) _ _ _ fun c => ?_)
    cases c with
    | true =>
      simp only [Bool.not_true, Bool.false_eq_true, if_false]
      exact wpAny_pure ⟨rfl, rfl, fun z hz => hr z (List.mem_cons.mpr (.inr hz))⟩
    | false =>
      simp only [Bool.not_false, if_true]
      exact wpAny_pure (wpAny_pure (hq false))
  · intro acc u hJ
    obtain ⟨a1, a2⟩ := acc
    obtain ⟨e1, eu, _⟩ := hJ
    cases e1
    subst eu
    exact wpAny_pure (hq true)
mutual
theorem byVal_key {P : Program} {w : World} : ∀ (k : NestedKey) (v : Value) (n : Nat) (s : Shared), NestedIs s.heap k v → k.depth ≤ n → ByVal P w n s v
  | .none, _, n, s, x, _ => by cases x; exact .flat (c := true) (by cases n <;> rfl)
  | .num _, _, n, s, x, _ => by cases x <;> exact .flat (c := true) (by cases n <;> rfl)
  | .text _, _, n, s, x, _ => by cases x; exact .flat (c := false) (by cases n <;> rfl)
  | .tup ks, _, 0, s, _, hn => absurd hn (by simp only [NestedKey.depth]; omega)
  | .tup ks, _, n + 1, s, x, hn => by
    cases x with
    | tup hg hc hd hk => exact .tup hg hc hd (byVal_keys ks _ n s hk (by simp only [NestedKey.depth] at hn; omega))
theorem byVal_keys {P : Program} {w : World} : ∀ (ks : List NestedKey) (vs : List Value) (n : Nat) (s : Shared), NestedAll s.heap ks vs → NestedKey.depthAll ks ≤ n → ∀ v ∈ vs, ByVal P w n s v
  | [], _, n, s, x, _, v, hv => by cases x; cases hv
  | k :: ks, _, n, s, x, hn, v, hv => by
    cases x with
    | cons x1 x2 =>
      simp only [NestedKey.depthAll] at hn
      cases hv with
      | head => exact byVal_key k _ n s x1 (by omega)
      | tail _ hv => exact byVal_keys ks _ n s x2 (by omega) v hv
end

/-- a key stays when a set changes -/
theorem isK_past {P : Program} {w : World} {h h' : Heap} {k : NestedKey} {a b : Addr} {o : Obj} {es : Array (Int × Value)} {ep : Nat} {t : SetTable}
    (hb : IsK P w h k b) (ho : h.get? a = some o) (hd : o.data = .set es ep t) (sb : Heap.SameBut a h h') : IsK P w h' k b := by
  refine ⟨NestedIs.at (fun c u vs n hc hv => ?_) k _ hb.1, hb.2⟩
  refine (sb.2 c fun e => ?_).trans hc
  rw [e, ho] at hc
  cases hc
  rw [hd] at hv
  exact nomatch hv
theorem isK_kept {P : Program} {w : World} {h h' : Heap} {k : NestedKey} {b : Addr} (hb : IsK P w h k b) (keep : ∀ c o, h.get? c = some o → h'.get? c = some o) : IsK P w h' k b :=
  ⟨NestedIs.at (fun c u _ _ hc _ => keep c u hc) k _ hb.1, hb.2⟩

section
variable {P : Program} {w : World}
abbrev entOf (w : World) (L : List (Addr × NestedKey)) : List (Int × Value) := L.map fun p => (p.2.hash w, Value.ref p.1)

/-- what a new order of the places makes of the entries -/
theorem picked {α : Type} (L : List α) : ∀ n, n ≤ L.length → (List.range n).filterMap (fun i => L[i]?) = L.take n
  | 0, _ => rfl
  | n + 1, h => by
    have z : L[n]? = some L[n] := List.getElem?_eq_getElem h
    rw [List.range_succ, List.filterMap_append, picked L n (by omega), List.take_succ, z, List.filterMap_cons_some z]
    rfl
theorem reorder {L : List (Addr × NestedKey)} {es : Array (Int × Value)} {order : Array Nat} (hr : es.toList = entOf w L) (hp : order.toList.Perm (List.range L.length)) :
    ∃ M, (order.filterMap (es[·]?)).toList = entOf w M ∧ M.Perm L ∧ (M.map fun p => p.2.hash w) = order.toList.map fun i => (es.map (·.1)).getD i 0 := by
  have one : ∀ i, i < L.length → ∃ p, L[i]? = some p ∧ es[i]? = some (p.2.hash w, Value.ref p.1) := fun i h => by
    refine ⟨L[i], List.getElem?_eq_getElem h, ?_⟩
    rw [← Array.getElem?_toList, hr, List.getElem?_map, List.getElem?_eq_getElem h]
    rfl
  have all : ∀ l : List Nat, (∀ i ∈ l, i < L.length) → l.filterMap (fun i => es[i]?) = entOf w (l.filterMap fun i => L[i]?) ∧
      (l.filterMap fun i => L[i]?).map (fun p => p.2.hash w) = l.map fun i => (es.map (·.1)).getD i 0 := by
    intro l
    induction l with
    | nil => exact fun _ => ⟨rfl, rfl⟩
    | cons i l ih =>
      intro hl
      obtain ⟨p, e1, e2⟩ := one i (hl i (List.mem_cons.mpr (.inl rfl)))
      obtain ⟨i1, i2⟩ := ih fun j hj => hl j (List.mem_cons.mpr (.inr hj))
      have e3 : (es.map (·.1)).getD i 0 = p.2.hash w := by
        have e4 : (es.map (·.1))[i]? = some (p.2.hash w) := by
          rw [Array.getElem?_map, e2]
          rfl
        simp [Array.getD_eq_getD_getElem?, e4]
      refine ⟨?_, ?_⟩
      · rw [List.filterMap_cons_some e2, List.filterMap_cons_some e1, i1]
        rfl
      · rw [List.filterMap_cons_some e1, List.map_cons, List.map_cons, i2, e3]
  obtain ⟨z1, z2⟩ := all order.toList fun i hi => List.mem_range.mp (hp.mem_iff.mp hi)
  refine ⟨_, by first | (rw [Array.toList_filterMap]; exact z1) | simpa using z1, ?_, z2⟩
  have z3 := hp.filterMap fun i => L[i]?
  rw [picked L L.length (Nat.le_refl _), List.take_length] at z3
  exact z3

variable {A : Around} {E : Value → Shared → Prop} {s : Shared} {a : Addr} {L : List (Addr × NestedKey)} {es : Array (Int × Value)} {ep : Nat} {t : SetTable}

/-- all laid anew in a larger table -/
theorem regrow {o : Obj} (ho : s.heap.get? a = some o) (hex : o.ExactSet) (hd : o.data = .set es ep t) (ent : es.toList = entOf w L) (hsz : t.place.size = es.size) (hdm : t.dummies = #[]) (hfl : es.size ≤ t.mask)
    (one : (L.map Prod.snd).Nodup) (keys : ∀ p ∈ L, IsK P w s.heap p.2 p.1) (lead : w.params.followText "set-order" = true ∨ t.led = true) (few : L.length < 64) {want M : Nat}
    (big : SetTable.sizeAbove want - 1 = M) (mok : MaskOk M) (top : SetTable.sizeAbove want ≤ 128) (air : L.length * 5 < M * 3) {Q : Unit → Shared → Prop}
    (hQ : ∀ h' L' es' ep' t', Heap.SameBut a s.heap h' → SetK P w h' a L' es' ep' t' → L'.Perm L → Q () { s with heap := h' }) : wpAny (model P w) A (setRelay a want) Q E s := by
  have n1 : es.size = L.length := ent_len ent
  obtain ⟨u, order, e, hp, tab, em, el, _, _⟩ := relaid_ok t (hs := es.map (·.1)) (wanted := want) big mok (by rw [Array.size_map, n1]; omega)
  rw [Array.size_map, n1] at hp
  obtain ⟨M', m1, m2, m3⟩ := reorder ent hp
  rw [← m3] at tab
  have n2 : (order.filterMap (es[·]?)).size = es.size := by rw [ent_len m1, m2.length_eq, n1]
  rw [setRelay_eq]
  refine wpAny_bind (wpAny_setState_of ho hd (fits_of hsz hdm hfl) ?_)
  dsimp only
  refine wp_if_neg (by rw [sizeLine_eq]; omega) ?_
  try refine wpAny_bind (wpAny_pure ?_)
  rw [e]
  dsimp only
  refine wpAny_bind (wp_if_neg (by rw [n2]; simp) ?_)
  try refine wpAny_bind (wpAny_pure ?_)
  refine wpAny_pure ?_
  dsimp only
  refine wpAny_storeSet_of ho hd ?_ (by rw [n2, n1, sizeLine_eq]; omega)
  have sb : Heap.SameBut a s.heap (s.heap.update a (Obj.putSet (order.filterMap (es[·]?)) u)) := Heap.SameBut.update ..
  refine hQ _ M' _ (ep + 1) u sb ⟨⟨_, store_at ho hd, ⟨hex.1, hex.2.1, hex.2.2⟩, rfl⟩, m1, tab, (m2.map Prod.snd).nodup_iff.mpr one, fun p hpm => isK_past (keys p (m2.mem_iff.mp hpm)) ho hd sb, el ▸ lead, ?_, ?_⟩ m2
  · rw [m2.length_eq, em]; exact air
  · rw [m2.length_eq]; exact few
end
end Ask
/-! AskBk: one key put into a set of nested keys. -/
namespace Ask
open PySem PySem.Spec PyProof.Rows L2
theorem tab_flag {t : SetTable} {hs : List Int} (T : TabOk t hs) (b : Bool) : TabOk { t with plain := b } hs :=
  ⟨T.ris, T.dm, T.sz, T.mok, T.bd, T.reach⟩
section
variable {P : Program} {w : World} {A : Around} {E : Value → Shared → Prop} {s : Shared} {a : Addr} {L : List (Addr × NestedKey)} {es : Array (Int × Value)} {ep : Nat} {t : SetTable}

/-- the end of putting in: the new entries e1 and the new table u are stored, and all is laid anew if it is too full -/
theorem putEnd (S : SetK P w s.heap a L es ep t) {x : Addr} {k : NestedKey} (hx : IsK P w s.heap k x) (nw : k ∉ L.map Prod.snd) (few : L.length + 1 < 64) {e1 : Array (Int × Value)} {u : SetTable} {L1 : List (Addr × NestedKey)}
    (pm : L1.Perm ((x, k) :: L)) (ent : e1.toList = entOf w L1) (tab : TabOk u (L1.map fun p => p.2.hash w)) (em : u.mask = t.mask) (el : u.led = t.led) (ef : u.fill = L.length + 1) {Q : Bool → Shared → Prop}
    (hQ : ∀ h' L' es' ep' t', Heap.SameBut a s.heap h' → SetK P w h' a L' es' ep' t' → L'.Perm ((x, k) :: L) → Q true { s with heap := h' }) :
    wpAny (model P w) A (do
      storeSet a e1 u
      if !false && u.tooFull then setRelay a (SetTable.grown (es.size + 1))
      return true) Q E s := by
  obtain ⟨o, ho, hex, hd⟩ := S.obj
  have n0 := ent_len S.ent
  have air := S.air
  have n1 : L1.length = L.length + 1 := pm.length_eq
  have n2 : e1.size = L.length + 1 := by rw [ent_len ent, n1]
  refine wpAny_bind (wpAny_storeSet_of ho hd ?_ (by rw [n2, sizeLine_eq]; omega))
  have sb : Heap.SameBut a s.heap (s.heap.update a (Obj.putSet e1 u)) := Heap.SameBut.update ..
  have ho1 := store_at (es' := e1) (t' := u) ho hd
  generalize s.heap.update a (Obj.putSet e1 u) = h1 at sb ho1 ⊢
  have keys : ∀ p ∈ L1, IsK P w h1 p.2 p.1 := fun p hp => by
    cases List.mem_cons.mp (pm.mem_iff.mp hp) with
    | inl e => exact e ▸ isK_past hx ho hd sb
    | inr m => exact isK_past (S.keys p m) ho hd sb
  have one : (L1.map Prod.snd).Nodup := (pm.map Prod.snd).nodup_iff.mpr (List.nodup_cons.mpr ⟨nw, S.one⟩)
  have lead : w.params.followText "set-order" = true ∨ u.led = true := el ▸ S.lead
  have full : u.tooFull = decide ((L.length + 1) * 5 ≥ u.mask * 3) := by
    unfold SetTable.tooFull
    rw [ef]
  rcases Classical.em ((L.length + 1) * 5 ≥ u.mask * 3) with c | c
  · have hf : u.tooFull = true := by rw [full]; exact decide_eq_true c
    have size : (t.mask = 7 ∧ L.length = 4) ∨ (t.mask = 31 ∧ L.length = 18) := by
      rw [em] at c
      rcases S.tab.mok with e | e | e
      · exact .inl ⟨e, by rw [e] at c air; omega⟩
      · exact .inr ⟨e, by rw [e] at c air; omega⟩
      · rw [e] at c; omega
    have hp : u.place.size = e1.size := by
      have z := tab.sz
      rw [List.length_map, n1] at z
      rw [z, n2]
    have go : ∀ M, SetTable.sizeAbove (SetTable.grown (L.length + 1)) = M + 1 → MaskOk M → M ≤ 127 → (L.length + 1) * 5 < M * 3 →
        wpAny (model P w) A (setRelay a (SetTable.grown (L.length + 1))) (fun _ s' => wpAny (model P w) A (pure true) Q E s') E { s with heap := h1 } := fun M g1 g2 g3 g4 => by
      refine regrow (s := { s with heap := h1 }) ho1 ⟨hex.1, hex.2.1, hex.2.2⟩ rfl ent hp tab.dm (by rw [n2, em]; rcases size with ⟨e, e'⟩ | ⟨e, e'⟩ <;> omega) one keys lead (by omega) (M := M) (by omega) g2 (by omega) (by omega) ?_
      intro h2 L2 es2 ep2 t2 sb2 S2 pm2
      exact wpAny_pure (hQ h2 L2 es2 ep2 t2 (sb.trans sb2) S2 (pm2.trans pm))
    rw [n0]
    first
      | (refine wpAny_bind ?_; refine wp_if_pos (by simp [hf]) ?_)
      | (refine wp_if_pos (by simp [hf]) ?_; refine wpAny_bind ?_)
    rcases size with ⟨_, e⟩ | ⟨_, e⟩
    · exact go 31 (by rw [e]; exact size_20) (.inr (.inl rfl)) (by decide) (by omega)
    · exact go 127 (by rw [e]; exact size_76) (.inr (.inr rfl)) (by decide) (by omega)
  · have hf : u.tooFull = false := by rw [full]; exact decide_eq_false c
    first
      | refine wp_if_neg (by simp [hf]) ?_
      | (refine wpAny_bind ?_; refine wp_if_neg (by simp [hf]) ?_; refine wpAny_pure ?_)
    refine wpAny_pure (hQ h1 L1 e1 (ep + 1) u sb ⟨⟨_, ho1, ⟨hex.1, hex.2.1, hex.2.2⟩, rfl⟩, ent, tab, one, keys, lead, by omega, by omega⟩ pm)

/-- a key put in -/
theorem putKey (S : SetK P w s.heap a L es ep t) {x : Addr} {k : NestedKey} (hx : IsK P w s.heap k x) (room : A.units + 8 < cLine) (few : L.length + 1 < 64) {Q : Bool → Shared → Prop}
    (hQ : ∀ b h' L' es' ep' t', Heap.SameBut a s.heap h' → SetK P w h' a L' es' ep' t' → (k ∈ L.map Prod.snd → L' = L) → (k ∉ L.map Prod.snd → L'.Perm ((x, k) :: L)) → Q b { s with heap := h' }) :
    wpAny (model P w) A (setAddHashed a (.ref x) (k.hash w)) Q E s := by
  obtain ⟨o, ho, hex, hd⟩ := S.obj
  unfold setAddHashed
  refine wpAny_holding ?_
  rw [show (100000 : Nat) = 99999 + 1 from rfl, setAddHashedIn_succ]
  refine wpAny_bind (wpAny_setState_of ho hd S.fit ?_)
  dsimp only
  refine wp_if_neg (by simp [byScan, Value.scannable]) ?_
  try refine wpAny_bind (wpAny_pure ?_)
  refine wpAny_bind (lookup S hx room (fun m => ?_) fun K m free taken => ?_)
  · exact wpAny_pure (hQ false s.heap L es ep t (Heap.SameBut.refl a s.heap) S (fun _ => rfl) fun z => absurd m z)
  · dsimp only
    refine wpAny_bind (wpAny_setState_of ho hd S.fit ?_)
    dsimp only
    obtain ⟨q1, q2, q3, q4, q5, q6, q7, q8, q9⟩ := S.tab.put free taken
    generalize hpt : t.put (way t.mask (k.hash w) K) = pt at q1 q3 q4 q5 q6 q7 q8 q9 ⊢
    obtain ⟨u, p⟩ := pt
    dsimp only at q1 q3 q4 q5 q6 q7 q8 q9 ⊢
    subst q1
    generalize hpp : SetTable.below t.place (way t.mask (k.hash w) K) = p at q2 q3 ⊢
    have pm := put_perm L p (x, k)
    have ent : (SetTable.insertAt es p (k.hash w, Value.ref x)).toList = entOf w (L.take p ++ (x, k) :: L.drop p) := by
      rw [SetTable.toList_insertAt, S.ent]
      show _ = List.map _ _
      rw [List.map_append, List.map_cons, List.map_take, List.map_drop]
    have hh : (L.take p ++ (x, k) :: L.drop p).map (fun p => p.2.hash w) = (L.map fun p => p.2.hash w).take p ++ k.hash w :: (L.map fun p => p.2.hash w).drop p := by
      rw [List.map_append, List.map_cons, List.map_take, List.map_drop]
    rw [← hh] at q3
    have q9' : u.fill = L.length + 1 := by rw [q9, List.length_map]
    have fin : ∀ b : Bool, wpAny (model P w) A (do
        let t2 := if b then u else { u with plain := false }
        storeSet a (SetTable.insertAt es p (k.hash w, Value.ref x)) t2
        if !false && t2.tooFull then setRelay a (SetTable.grown (es.size + 1))
        return true) Q E s := fun b => by
      cases b with
      | true => exact putEnd S hx m few pm ent q3 q4 q5 q9' fun h' L' es' ep' t' r1 r2 r3 => hQ true h' L' es' ep' t' r1 r2 (fun z => absurd z m) fun _ => r3
      | false => exact putEnd S hx m few pm ent (tab_flag q3 false) q4 q5 q9' fun h' L' es' ep' t' r1 r2 r3 => hQ true h' L' es' ep' t' r1 r2 (fun z => absurd z m) fun _ => r3
    rcases Bool.eq_false_or_eq_true u.plain with c | c
    · first
        | (refine wpAny_bind ?_; refine wp_if_pos c ?_; exact byVal_key k _ 8 s hx.1 hx.2 _ _ _ fin)
        | exact wp_if_pos c (wpAny_bind (byVal_key k _ 8 s hx.1 hx.2 _ _ _ fin))
    · have c' : ¬ u.plain = true := by rw [c]; decide
      first
        | (refine wpAny_bind ?_; refine wp_if_neg c' ?_; exact wpAny_pure (fin true))
        | exact wp_if_neg c' (fin true)
end
end Ask
/-! AskSo: sorted of a set of nested keys, by any order that the keys can be told by. -/
namespace Ask
open PySem PySem.Spec PyProof.Rows L2
section
variable {P : Program} {w : World} {A : Around} {E : Value → Shared → Prop} {s : Shared} {a : Addr} {L : List (Addr × NestedKey)} {es : Array (Int × Value)} {ep : Nat} {t : SetTable}
theorem sortedK (S : SetK P w s.heap a L es ep t) (calm : A.handled = none) {ltv : Value → Value → Bool} (O : SrtO.Swo ltv)
    (can : ∀ (vs : List Value), vs.Perm (L.map fun p => Value.ref p.1) → 2 ≤ vs.length → ∀ (s1 : Shared) (l : Addr), s1.heap.get? l = some (seqObj "list" vs.toArray 0) →
      (∀ b o, s.heap.get? b = some o → b ≠ l ∧ s1.heap.get? b = some o) → SrtO.SortableO P w A.in1.in1 s1 l vs ltv) {Q : Value → Shared → Prop}
    (hQ : ∀ (s' : Shared) (p : Addr) (out : List Value) (c : Nat), (∀ b o, s.heap.get? b = some o → s'.heap.get? b = some o) → s'.gens = s.gens → s'.os = s.os → s.heap.objs.size ≤ p →
      s'.heap.get? p = some (seqObj "list" out.toArray c) → out.Perm (L.map fun p => Value.ref p.1) → SrtO.Srtd ltv out → Q (.ref p) s') :
    wpAny (model P w) A (call (.builtin "sorted") [.ref a]) Q E s := by
  obtain ⟨o, ho, hex, hd⟩ := S.obj
  have n0 := ent_len S.ent
  have few := S.few
  refine Calls.call_function_entry kind_sorted plain_sorted entry_sorted (args_sorted1 _) ?_
  unfold Builtin.«sorted»
  refine wpAny_bind (m := checkCount "sorted" 1 1 _) (wpAny_pure ?_)
  refine wpAny_bind (collect_set (A := A.in1) calm ⟨o, ho, hex.1, hd⟩ S.fit (by unfold scanBound; omega) S.tab.ris S.lead ?_)
  intro s1 vs keep grow g1 o1 pm
  have vals : es.toList.map (·.2) = L.map fun p => Value.ref p.1 := by
    rw [S.ent, List.map_map]
    rfl
  rw [vals] at pm
  have short : vs.length < 64 := by
    rw [pm.length_eq, List.length_map]
    exact few
  refine wpAny_bind (wpAny_newList ?_ (by rw [sizeLine_eq]; omega))
  have at0 : (s1.heap.push (seqObj "list" vs.toArray 0)).get? s1.heap.objs.size = some (seqObj "list" vs.toArray 0) := Heap.get?_push_size _ rfl
  have past : ∀ b u, s.heap.get? b = some u → b ≠ s1.heap.objs.size ∧ (s1.heap.push (seqObj "list" vs.toArray 0)).get? b = some u := fun b u e =>
    ⟨Nat.ne_of_lt (Heap.lt_size (keep b u e)), Heap.get?_push_of_some _ (keep b u e)⟩
  refine wpAny_bind (wpAny_holding (wpAny_call_entry slot_list_sort ⟨_, at0, rfl⟩ entry_list_sort
    (SrtO.list_sort_ord (s := { s1 with heap := s1.heap.push (seqObj "list" vs.toArray 0) }) O at0 (by rw [sizeLine_eq]; omega) (fun h2 => can vs pm h2 _ _ at0 past) fun out ord stb => ⟨_, rfl, ?_⟩) (args_list_sort _)))
  obtain ⟨c, hc⟩ := sortedHeap_at (vs := vs) (out := out.toArray) at0
  refine wpAny_pure ⟨_, rfl, hQ _ s1.heap.objs.size out c (fun b u e => ?_) g1 o1 grow hc (stb.perm.trans pm) ord⟩
  obtain ⟨ne, e2⟩ := past b u e
  show (sortedHeap (s1.heap.push (seqObj "list" vs.toArray 0)) s1.heap.objs.size vs out.toArray).get? b = some u
  rw [sortedHeap_old ne (Heap.lt_size e2)]
  exact e2
end
end Ask
/-! The question of a right: account by account, and day by day and then sorted. -/
namespace AskG
open PySem PySem.Spec PyProof.Rows L2
def NamesUp (ws : List Cell) : Prop := ws.Pairwise fun a b => a.1.cps.toList < b.1.cps.toList
def flatDays (ws : List Cell) (ds : List Int) : RowD := ds.flatMap fun d => ws.map fun x => ((x.1, d), x.2)
theorem flat_split {α β : Type} (f : α → β) (g : α → List β) : ∀ ds : List α, (ds.flatMap fun d => f d :: g d).Perm (ds.map f ++ ds.flatMap g)
  | [] => .nil
  | d :: ds => by
    rw [List.flatMap_cons, List.map_cons, List.flatMap_cons, List.cons_append, List.cons_append]
    refine .cons _ ?_
    have h := flat_split f g ds
    refine (List.Perm.append_left (g d) h).trans ?_
    rw [← List.append_assoc, ← List.append_assoc]
    exact List.Perm.append_right _ List.perm_append_comm
theorem flat_perm (ds : List Int) : ∀ ws : List Cell, (flatDays ws ds).Perm (ws.flatMap fun x => ds.map fun d => ((x.1, d), x.2))
  | [] => by
    have : flatDays [] ds = [] := by
      unfold flatDays
      induction ds with
      | nil => rfl
      | cons d ds ih => exact ih
    rw [this]
    exact .nil
  | x :: ws => by
    have h1 := flat_split (fun d : Int => (((x.1, d), x.2) : Cell × Int)) (fun d => ws.map fun (y : Cell) => (((y.1, d), y.2) : Cell × Int)) ds
    exact h1.trans (List.Perm.append_left _ (flat_perm ds ws))
theorem days_up (lo hi : Int) : (daysOf lo hi).Pairwise (· < ·) := by
  unfold daysOf
  refine List.pairwise_map.mpr (List.pairwise_lt_range.imp fun h => ?_)
  omega
theorem rowOn_up (lo hi : Int) : ∀ {ws : List Cell}, NamesUp ws → (rowOn ws lo hi).Pairwise fun a b => ltX a b = true
  | [], _ => .nil
  | x :: ws, h => by
    have h := List.pairwise_cons.mp h
    show ((daysOf lo hi).map (fun d => ((x.1, d), x.2)) ++ rowOn ws lo hi).Pairwise _
    refine List.pairwise_append.mpr ⟨List.pairwise_map.mpr ((days_up lo hi).imp fun e => ?_), rowOn_up lo hi h.2, fun a ha b hb => ?_⟩
    · exact ltX_iff.mpr (.inl (ltC_iff.mpr (.inr ⟨rfl, e⟩)))
    · obtain ⟨d, _, rfl⟩ := List.mem_map.mp ha
      obtain ⟨y, hy, hb⟩ := List.mem_flatMap.mp hb
      obtain ⟨d', _, rfl⟩ := List.mem_map.mp hb
      exact ltX_iff.mpr (.inl (ltC_iff.mpr (.inl (h.1 y hy))))
theorem sortX_uniq : ∀ {a b : RowD}, a.Perm b → a.Pairwise (fun x y => ltX y x = false) → b.Pairwise (fun x y => ltX x y = true) → a = b
  | [], b, p, _, _ => (List.nil_perm.mp p).symm
  | x :: a, [], p, _, _ => absurd p.length_eq (by simp)
  | x :: a, y :: b, p, h, g => by
    have h := List.pairwise_cons.mp h
    have g := List.pairwise_cons.mp g
    have e : x = y := by
      by_cases z : x = y
      · exact z
      · have h1 : x ∈ b := by
          rcases List.mem_cons.mp (p.mem_iff.mp List.mem_cons_self) with q | q
          · exact absurd q z
          · exact q
        have h2 : y ∈ a := by
          rcases List.mem_cons.mp (p.mem_iff.mpr List.mem_cons_self) with q | q
          · exact absurd q.symm z
          · exact q
        have := h.1 y h2
        rw [g.1 x h1] at this
        cases this
    subst e
    rw [sortX_uniq p.cons_inv h.2 g.2]
theorem sorted_flat {ws : List Cell} {lo hi : Int} (h : NamesUp ws) {π : RowD} (p : π.Perm (flatDays ws (daysOf lo hi))) (s : π.Pairwise fun a b => ltX b a = false) : π = rowOn ws lo hi :=
  sortX_uniq (p.trans (flat_perm (daysOf lo hi) ws)) s (rowOn_up lo hi h)
theorem flat_snoc {ws : List Cell} {ds : List Int} {i : Nat} {d : Int} (h : ds[i]? = some d) : flatDays ws (ds.take (i + 1)) = flatDays ws (ds.take i) ++ ws.map fun x => ((x.1, d), x.2) := by
  unfold flatDays
  rw [List.take_add_one, h, List.flatMap_append]
  congr 1
  show _ ++ [] = _
  rw [List.append_nil]
theorem flat_len (ws : List Cell) : ∀ ds : List Int, (flatDays ws ds).length = ds.length * ws.length
  | [] => by
    rw [List.length_nil, Nat.zero_mul]
    rfl
  | d :: ds => by
    show (ws.map (fun x => ((x.1, d), x.2)) ++ flatDays ws ds).length = _
    rw [List.length_append, List.length_map, flat_len ws ds, List.length_cons, Nat.succ_mul]
    omega
end AskG
/-! Displays over several names; a list that is extended by displays. -/
namespace AskG
open PySem PySem.Spec PyProof.Rows L2
/-- the names in these slots hold these data -/
def SrcM (l : List (Nat × PyData)) (D : Addr) (σ : L2.St) (H : Hp) : Prop := (∀ x ∈ l, ∃ v, σ[x.1]? = some (some v) ∧ DH D H v x.2) ∧ Taken H D
theorem SrcM.keep {l : List (Nat × PyData)} {D : Addr} {σ : L2.St} {H H' : Hp} (h : SrcM l D σ H) (s : Same H H') : SrcM l D σ H' :=
  ⟨fun x hx => by
    obtain ⟨v, hv, hd⟩ := h.1 x hx
    exact ⟨v, hv, hd.keep (KeepD.of s)⟩, h.2.keep s⟩
theorem SrcM.keepD {l : List (Nat × PyData)} {D : Addr} {σ : L2.St} {H H' : Hp} (h : SrcM l D σ H) (s : KeepD D H H') (t : Taken H' D) : SrcM l D σ H' :=
  ⟨fun x hx => by
    obtain ⟨v, hv, hd⟩ := h.1 x hx
    exact ⟨v, hv, hd.keep s⟩, t⟩
def tFm {α : Type} (l : α → List (Nat × PyData)) (d : α → PyData) : TE := fun σ H Q => ∃ a D, SrcM (l a) D σ H ∧ ∀ H' v, Same H H' → DH D H' v (d a) → Q v H'
def tFms {α : Type} (l : α → List (Nat × PyData)) (ds : α → List PyData) : TA := fun σ H Q => ∃ a D, SrcM (l a) D σ H ∧ ∀ H' vs, Same H H' → DHs D H' vs (ds a) → Q vs H'
/-- a name that holds a whole number -/
theorem SrcM.int {l : List (Nat × PyData)} {D : Addr} {σ : L2.St} {H : Hp} {i : Nat} {j : Int} (h : SrcM l D σ H) (m : (i, .int j) ∈ l) : σ[i]? = some (some (.int j)) := by
  obtain ⟨v, hv, hd⟩ := h.1 _ m
  obtain rfl := DH.int_inv hd
  exact hv
theorem SrcM.tup {l : List (Nat × PyData)} {D : Addr} {σ : L2.St} {H : Hp} {i : Nat} {ds : List PyData} (h : SrcM l D σ H) (m : (i, .tuple ds) ∈ l) : ∃ a xs, σ[i]? = some (some (.ref a)) ∧ H a = some (.tup xs) ∧ DHs D H xs ds := by
  obtain ⟨v, hv, hd⟩ := h.1 _ m
  obtain ⟨a, xs, rfl, ha, t⟩ := DH.tup_inv hd
  exact ⟨a, xs, hv, ha, t⟩
section
variable {X : Cx} {e : Expr} {es : List Expr} {α : Type} {l : α → List (Nat × PyData)} {d : α → PyData} {ds : α → List PyData}
theorem fm_nil : PA X [] (tFms l fun _ => []) := ⟨fun pos pins s σ H Q I ⟨_, _, q⟩ => (pa_nil (X := X)).run pos pins s σ H Q I (q.2 H [] (Same.refl _) .nil)⟩
theorem fm_cons (h : PE X e (tFm l d)) (g : PA X es (tFms l ds)) (hs : starEach (e :: es) X.env = (false, eval e X.env) :: starEach es X.env := by rfl) : PA X (e :: es) (tFms l fun a => d a :: ds a) := by
  refine ⟨fun pos pins s σ H Q I ⟨a, D, q⟩ => (pa_cons h g hs).run pos pins s σ H Q I ⟨a, D, q.1, fun H1 v s1 h1 => ⟨a, D, q.1.keep s1, fun H2 vs s2 h2 => ?_⟩⟩⟩
  exact q.2 H2 (v :: vs) (s1.trans s2) (.cons (h1.keep (KeepD.of s2)) h2)
theorem fm_new {d : PyData} (h : PE X e (tNew d)) : PE X e (tFm l fun _ => d) := PE.less h fun σ H Q ⟨a, D, q⟩ H' v s n => q.2 H' v s (n D q.1.2)
theorem fm_var {i : Nat} (h : PE X e (tVar i)) (m : ∀ a, (i, d a) ∈ l a) : PE X e (tFm l d) := PE.less h fun σ H Q ⟨a, D, q⟩ => by
  obtain ⟨v, hv, hd⟩ := q.1.1 _ (m a)
  exact ⟨v, hv, q.2 H v (Same.refl _) hd⟩
theorem fm_tup {x1} {pos : Pos} (h : PA X es (tFms l ds)) (hz : ∀ a, (ds a).length ≤ 1000) : PE X (.Tuple es x1 pos) (tFm l fun a => .tuple (ds a)) := by
  refine PE.less (pe_tup h) fun σ H Q ⟨a, D, q⟩ => ?_
  refine ⟨a, D, q.1, fun H1 vs s1 h1 => ⟨by have := sizeBig; have := h1.len; have := hz a; omega, fun p hp => ?_⟩⟩
  have s2 := same_new (o := .tup vs) hp
  exact q.2 _ _ (s1.trans s2) (.tup upd_same (h1.keep (KeepD.of s2)))
theorem fm_lst {pos : Pos} (h : PA X es (tFms l ds)) (hz : ∀ a, (ds a).length ≤ 1000) : PE X (.List es pos) (tFm l fun a => .list (ds a)) := by
  refine PE.less (pe_lst h) fun σ H Q ⟨a, D, q⟩ => ?_
  refine ⟨a, D, q.1, fun H1 vs s1 h1 => ⟨by have := sizeBig; have := h1.len; have := hz a; omega, fun p hp => ?_⟩⟩
  have s2 := same_new (o := .lst vs) hp
  refine q.2 _ _ (s1.trans s2) (.lst ((q.1.2.keep s1).ne hp) upd_same (h1.keep (KeepD.of s2)))
theorem new_neg {i : Int} (h : PE X e (tUn (rU fun i => .int (-i)) (tC (.int i)))) : PE X e (tNew (.int (-i))) := PE.less h fun _ H _ q => ⟨i, rfl, q H _ (Same.refl _) fun _ _ => .int _⟩
/-- t * k -/
theorem fm_rep {te : TE} {k : Int} (h : PE X e (tOp (rRepT X.K) te (tC (.int k)))) (ht : ∀ σ H Q, tFm l (fun a => .tuple (ds a)) σ H Q → te σ H Q) (n0 : ∀ a, ds a ≠ []) (k2 : 2 ≤ k) (k3 : k ≤ 1000) (hl : ∀ a, (ds a).length ≤ 1000) : PE X e (tFm l fun a => .tuple (List.replicate k.toNat (ds a)).flatten) := by
  refine PE.less h fun σ H Q ⟨a, D, q⟩ => ht σ H _ ⟨a, D, q.1, fun H1 v s1 h1 => ?_⟩
  obtain ⟨b, xs, rfl, hb, t⟩ := h1.tup_inv
  have e := t.len
  have := hl a
  refine ⟨b, k, xs, rfl, rfl, sqT hb, fun z => n0 a ?_, k2, k3, by omega, fun p hp => ?_⟩
  · rw [z] at e
    exact List.eq_nil_of_length_eq_zero e.symm
  · have s2 := same_new (o := .tup (List.replicate k.toNat xs).flatten) hp
    refine q.2 _ _ (s1.trans s2) (.tup upd_same ?_)
    have t2 := t.keep (KeepD.of s2)
    clear s2
    generalize upd H1 p (.tup (List.replicate k.toNat xs).flatten) = H2 at t2 ⊢
    generalize k.toNat = n
    induction n with
    | zero => exact .nil
    | succ n ih =>
      rw [List.replicate_succ, List.replicate_succ, List.flatten_cons, List.flatten_cons]
      exact t2.app ih
end
/-- a list that is being filled, and the names that hold data -/
structure FoundAt (H0 : Hp) (l : List (Nat × PyData)) (σ : L2.St) (Lf : Addr) (ds : List PyData) (H : Hp) : Prop where
  new : H0 Lf = none
  keep : Same H0 H
  list : ∃ vs, H Lf = some (.lst vs) ∧ DHs Lf H vs ds
  src : SrcM l Lf σ H
theorem keepD_put {H : Hp} {Lf : Addr} {vs ws : List V} (h : H Lf = some (.lst vs)) : KeepD Lf H (upd H Lf (.lst ws)) :=
  ⟨fun b xs e => by rw [upd_ne (ne_of e h fun z => nomatch z)]; exact e, fun b xs n e => by rw [upd_ne n]; exact e⟩
/-- found.extend([..]) -/
theorem ext_read {K : PySem.W.Frag} {H0 H : Hp} {α : Type} {l : α → List (Nat × PyData)} {es : α → List PyData} {σ : L2.St} {s : Nat} {Lf : Addr} {ds : List PyData} {Q : VK} (a : α) (h : FoundAt H0 (l a) σ Lf ds H) (hs : σ[s]? = some (some (.ref Lf))) (len : ds.length + (es a).length ≤ 1000)
    (q : ∀ v H', FoundAt H0 (l a) σ Lf (ds ++ es a) H' → KeepD Lf H H' → Q v H') : tBM K "list" rExtend (tVar s) (tCons (tFm l fun a => .list (es a)) tNil) σ H Q := by
  obtain ⟨vs, hv, hd⟩ := h.list
  refine ⟨.ref Lf, hs, .inl ⟨rfl, _, sqL hv⟩, a, Lf, h.src, fun H1 v s1 h1 => ?_⟩
  obtain ⟨p, ys, rfl, np, hp, hys⟩ := h1.lst_inv
  have big := sizeBig
  have l1 := hd.len
  have l2 := hys.len
  refine ⟨Lf, p, vs, ys, rfl, rfl, s1 _ _ hv, hp, by omega, ?_⟩
  have kd := keepD_put (ws := vs ++ ys) (s1 _ _ hv)
  refine q _ _ ⟨h.new, fun b o e => ?_, ⟨vs ++ ys, upd_same, ((hd.keep (KeepD.of s1)).app hys).keep kd⟩, (h.src.keep s1).keepD kd ⟨_, upd_same⟩⟩ ((KeepD.of s1).trans kd)
  rw [upd_ne (ne_of_none e h.new)]
  exact s1 _ _ (h.keep _ _ e)
/-- found + [..] -/
theorem cat_read {H0 H : Hp} {α : Type} {l : α → List (Nat × PyData)} {es : α → List PyData} {σ : L2.St} {s : Nat} {Lf : Addr} {ds : List PyData} {Q : VK} (a : α) (h : FoundAt H0 (l a) σ Lf ds H) (hs : σ[s]? = some (some (.ref Lf))) (len : ds.length + (es a).length ≤ 1000)
    (q : ∀ p H' ys, Same H0 H' → Same H H' → H p = none → H' p = some (.lst ys) → DHs Lf H' ys (ds ++ es a) → Q (.ref p) H') : tOp rCat (tVar s) (tFm l fun a => .list (es a)) σ H Q := by
  obtain ⟨vs, hv, hd⟩ := h.list
  refine ⟨.ref Lf, hs, a, Lf, h.src, fun H1 v s1 h1 => ?_⟩
  obtain ⟨p, ys, rfl, np, hp, hys⟩ := h1.lst_inv
  have big := sizeBig
  have l1 := hd.len
  have l2 := hys.len
  refine ⟨Lf, p, vs, ys, rfl, rfl, s1 _ _ hv, hp, by omega, fun c hc => ?_⟩
  have s2 := same_new (o := .lst (vs ++ ys)) hc
  have s12 := s1.trans s2
  have hc0 : H c = none := by
    cases e : H c with
    | none => rfl
    | some o =>
      have := s1 _ _ e
      rw [hc] at this
      cases this
  exact q c _ _ (h.keep.trans s12) s12 hc0 upd_same (((hd.keep (KeepD.of s1)).app hys).keep (KeepD.of s2))
theorem iDrop {te : TE} {D : Ends} {σ : L2.St} {H : Hp} (h : te σ H fun _ H1 => D.nx σ H1) : tDrop te D σ H := h
end AskG
/-! repr of any value; rights and rows out of data; append. -/
namespace AskG
open PySem PySem.Spec PyProof.Rows L2
def rReprV (K : PySem.W.Frag) : List V → Hp → VK → Prop := fun xs H Q => rRepr K xs H Q ∨ (xs = [.non] ∧ Q (.str PyData.none.shown) H)
theorem call_reprV {X : Cx} {k : Nat} (hr : RG k X.A) : CallR X (.builtin "repr") (rReprV X.K) := by
  intro pins s σ H xs us Q I r q
  rcases q with q | ⟨rfl, q⟩
  · exact call_repr hr pins s σ H xs us Q I r q
  · obtain ⟨u, rfl, rx⟩ := vals1 r
    cases rx
    exact PySem.P.repr_of_none ⟨.str PyData.none.shown, H, I.tok _, ⟨_, rfl⟩, q⟩
theorem reprV_ref {K : PySem.W.Frag} {H : Hp} {a : Addr} {d : PyData} {n m : Nat} {Q : VK} (h : Dp K H (.ref a) d) (f : Fine n m d) (hn : n ≤ 60) (hm : m ≤ 16777216) (q : Q (.str d.shown) H) : rReprV K [.ref a] H Q :=
  .inl ⟨a, d, rfl, h, f.shw, f.nod, Nat.le_trans f.dep hn, by rw [sizeLine_eq]; exact Nat.le_trans f.len hm, q⟩
/-- None or a row -/
def OptAt (H : Hp) (v : V) : Option RowD → Prop
  | none => v = .non
  | some ρ => ∃ p, v = .ref p ∧ RowAt H p ρ
def optD : Option RowD → PyData
  | none => .none
  | some ρ => rowPD ρ
theorem OptAt.keep {H H' : Hp} {v : V} {o : Option RowD} (h : OptAt H v o) (k : KeepT H H') : OptAt H' v o := by
  cases o with
  | none => exact h
  | some ρ =>
    obtain ⟨p, rfl, h⟩ := h
    exact ⟨p, rfl, h.keep k⟩
theorem reprV_opt {K : PySem.W.Frag} {H : Hp} {v : V} {o : Option RowD} {Q : VK} (h : OptAt H v o) (f : ∀ ρ, o = some ρ → RowOk ρ) (q : Q (.str (optD o).shown) H) : rReprV K [v] H Q := by
  cases o with
  | none =>
    obtain rfl : v = .non := h
    exact .inr ⟨rfl, q⟩
  | some ρ =>
    obtain ⟨p, rfl, h⟩ := h
    exact reprV_ref (dp_row h) (fine_row (f ρ rfl)) (by decide) (by decide) q
/-! ### out of data -/
theorem dhs_cells {D : Addr} {H : Hp} : ∀ {ws : List Cell} {xs : List V}, DHs D H xs (ws.map cellD) → ∃ ps : List Addr, xs = ps.map V.ref ∧ Paired (CellAt H) ps ws
  | [], _, .nil => ⟨[], rfl, .nil⟩
  | c :: ws, _, .cons h t => by
    obtain ⟨ps, rfl, hp⟩ := dhs_cells t
    obtain ⟨a, p, q, rfl, ha, h1, h2⟩ := DH.pair_inv h
    obtain rfl := h1.str_inv
    obtain rfl := h2.int_inv
    exact ⟨a :: ps, rfl, .cons ha hp⟩
theorem dh_kind_inv {D : Addr} {H : Hp} {v : V} {k : KindM} (h : DH D H v k.data) : ∃ a, v = .ref a ∧ H a = some (.tup k.vals) := by
  cases k with
  | tot s =>
    obtain ⟨a, p, q, rfl, ha, h1, h2⟩ := DH.pair_inv h
    obtain rfl := h1.str_inv
    obtain rfl := h2.int_inv
    exact ⟨a, rfl, ha⟩
  | win l =>
    obtain ⟨a, p, q, rfl, ha, h1, h2⟩ := DH.pair_inv h
    obtain rfl := h1.str_inv
    obtain rfl := h2.int_inv
    exact ⟨a, rfl, ha⟩
  | per b e =>
    obtain ⟨a, xs, rfl, ha, t⟩ := DH.tup_inv h
    cases t with
    | cons h1 t => cases t with
      | cons h2 t => cases t with
        | cons h3 t =>
          cases t
          obtain rfl := h1.str_inv
          obtain rfl := h2.int_inv
          obtain rfl := h3.int_inv
          exact ⟨a, rfl, ha⟩
theorem right_inv {D : Addr} {H : Hp} {v : V} {R : Rt} (h : DH D H v (rightD R)) : ∃ a, v = .ref a ∧ RightAt H a R := by
  obtain ⟨a, xs, rfl, ha, t⟩ := DH.tup_inv h
  cases t with
  | cons h1 t => cases t with
    | cons h2 t => cases t with
      | cons h3 t => cases t with
        | cons h4 t => cases t with
          | cons h5 t =>
            cases t
            obtain rfl := h1.str_inv
            obtain ⟨wa, ys, rfl, hwa, hys⟩ := h2.tup_inv
            obtain ⟨ps, rfl, hp⟩ := dhs_cells hys
            obtain rfl := h3.int_inv
            obtain rfl := h4.int_inv
            obtain ⟨ka, rfl, hka⟩ := dh_kind_inv h5
            exact ⟨a, rfl, wa, ps, ka, ha, hwa, hp, hka⟩
theorem dhs_pairs {D : Addr} {H : Hp} : ∀ {ρ : RowD} {xs : List V}, DHs D H xs (ρ.map pairD) → ∃ ps : List Addr, xs = ps.map V.ref ∧ Paired (PairRow H) ps ρ
  | [], _, .nil => ⟨[], rfl, .nil⟩
  | x :: ρ, _, .cons h t => by
    obtain ⟨ps, rfl, hp⟩ := dhs_pairs t
    obtain ⟨a, p, q, rfl, ha, h1, h2⟩ := DH.pair_inv h
    obtain ⟨b, p', q', rfl, hb, h3, h4⟩ := DH.pair_inv h1
    obtain rfl := h2.int_inv
    obtain rfl := h3.str_inv
    obtain rfl := h4.int_inv
    exact ⟨a :: ps, rfl, .cons ⟨b, ha, hb⟩ hp⟩
theorem row_inv {D : Addr} {H : Hp} {v : V} {ρ : RowD} (h : DH D H v (rowPD ρ)) : ∃ a, v = .ref a ∧ RowAt H a ρ := by
  obtain ⟨a, xs, rfl, ha, t⟩ := DH.tup_inv h
  obtain ⟨ps, rfl, hp⟩ := dhs_pairs t
  exact ⟨a, rfl, ps, ha, hp⟩
/-! ### found.append(..) -/
theorem app_read {K : PySem.W.Frag} {H0 H : Hp} {α : Type} {l : α → List (Nat × PyData)} {d : α → PyData} {σ : L2.St} {s : Nat} {Lf : Addr} {ds : List PyData} {Q : VK} (a : α) (h : FoundAt H0 (l a) σ Lf ds H) (hs : σ[s]? = some (some (.ref Lf))) (len : ds.length < 1000)
    (q : ∀ v H', FoundAt H0 (l a) σ Lf (ds ++ [d a]) H' → KeepD Lf H H' → Q v H') : tBM K "list" rAppend (tVar s) (tCons (tFm l d) tNil) σ H Q := by
  obtain ⟨vs, hv, hd⟩ := h.list
  refine ⟨.ref Lf, hs, .inl ⟨rfl, _, sqL hv⟩, a, Lf, h.src, fun H1 v s1 h1 => ?_⟩
  have big := sizeBig
  have l1 := hd.len
  refine ⟨Lf, vs, v, rfl, rfl, s1 _ _ hv, by omega, ?_⟩
  have kd := keepD_put (ws := vs ++ [v]) (s1 _ _ hv)
  refine q _ _ ⟨h.new, fun b o e => ?_, ⟨vs ++ [v], upd_same, ((hd.keep (KeepD.of s1)).app (.cons h1 .nil)).keep kd⟩, (h.src.keep s1).keepD kd ⟨_, upd_same⟩⟩ ((KeepD.of s1).trans kd)
  rw [upd_ne (ne_of_none e h.new)]
  exact s1 _ _ (h.keep _ _ e)
/-! ### the question of a right, or None -/
def qOf (R : Rt) (t : Int) : Option RowD := if usedB R t = true then some (rowQ R t) else none
theorem qOf_ok {R : Rt} (h : RtOk R) {t : Int} (t0 : 0 ≤ t) (t9 : t ≤ 9) : ∀ ρ, qOf R t = some ρ → RowOk ρ := by
  intro ρ e
  unfold qOf at e
  by_cases u : usedB R t = true
  · rw [if_pos u] at e
    cases e
    obtain ⟨b1, b2, b3, b4⟩ := kind_bounds h.kind t0 t9
    have lit : ∀ {i : Int}, -1000 ≤ i → i ≤ 1000 → i.natAbs.log2 < 1920 := fun {i} h1 h2 => by
      by_cases z : i.natAbs = 0
      · rw [z]
        decide
      · have : i.natAbs < 2 ^ 10 := by omega
        have := (Nat.log2_lt z).mpr this
        omega
    have mem : ∀ x ∈ rowQ R t, ∃ c ∈ R.ws, ∃ d ∈ daysOf (R.kind.lo t) (R.kind.hi t), x = ((c.1, d), c.2) := fun x hx => by
      obtain ⟨c, hc, hx⟩ := List.mem_flatMap.mp hx
      obtain ⟨d, hd, rfl⟩ := List.mem_map.mp hx
      exact ⟨c, hc, d, hd, rfl⟩
    refine ⟨?_, fun x hx => ?_, fun x hx => ?_⟩
    · show (rowOn R.ws (R.kind.lo t) (R.kind.hi t)).length ≤ 100
      rw [rowOn_len]
      have : R.ws.length * (R.kind.hi t + 1 - R.kind.lo t).toNat ≤ 3 * 10 := Nat.mul_le_mul h.many (by omega)
      omega
    · obtain ⟨c, hc, d, hd, rfl⟩ := mem x hx
      have k := h.ws c hc
      obtain ⟨i, hi, rfl⟩ := List.mem_map.mp hd
      have hi := List.mem_range.mp hi
      exact ⟨k.short, k.plain, k.ok, lit (by show -1000 ≤ R.kind.lo t + (i : Int); omega) (by show R.kind.lo t + (i : Int) ≤ 1000; omega)⟩
    · obtain ⟨c, hc, d, hd, rfl⟩ := mem x hx
      exact (h.ws c hc).lit
  · rw [if_neg u] at e
    cases e
/-- how the promises of the two questions are used -/
theorem q_opt {R : Rt} {t : Int} {H' : Hp} {Q : VK} (h : ∀ v, OptAt H' v (qOf R t) → Q v H') : (usedB R t = false → Q .non H') ∧ (usedB R t = true → ∀ p, RowAt H' p (rowQ R t) → Q (.ref p) H') := by
  refine ⟨fun e => h _ ?_, fun e p hp => h _ ?_⟩
  · unfold qOf
    rw [e]
    exact rfl
  · unfold qOf
    rw [if_pos e]
    exact ⟨p, rfl, hp⟩
end AskG
/-! More displays: items of a list that a name holds, a tuple that a name holds + a tuple. -/
namespace AskG
open PySem PySem.Spec PyProof.Rows L2
theorem SrcM.lst {l : List (Nat × PyData)} {D : Addr} {σ : L2.St} {H : Hp} {i : Nat} {ds : List PyData} (h : SrcM l D σ H) (m : (i, .list ds) ∈ l) : ∃ a xs, σ[i]? = some (some (.ref a)) ∧ H a = some (.lst xs) ∧ DHs D H xs ds := by
  obtain ⟨v, hv, hd⟩ := h.1 _ m
  obtain ⟨a, xs, rfl, _, ha, t⟩ := DH.lst_inv hd
  exact ⟨a, xs, hv, ha, t⟩
theorem DHs.get {D : Addr} {H : Hp} : ∀ {xs : List V} {ds : List PyData}, DHs D H xs ds → ∀ {k : Nat} {d : PyData}, ds[k]? = some d → ∃ v, xs[k]? = some v ∧ DH D H v d
  | _, _, .nil, k, d, e => by cases k <;> cases e
  | _, _, .cons h t, 0, d, e => by
    cases e
    exact ⟨_, rfl, h⟩
  | _, _, .cons h t, k + 1, d, e => DHs.get t e
section
variable {X : Cx} {e : Expr} {α : Type} {l : α → List (Nat × PyData)}
theorem fm_ix {i k : Nat} {ds : List PyData} {d : PyData} (h : PE X e (tOp (rIxL X.K) (tVar i) (tC (.int (k : Int))))) (m : ∀ a, (i, .list ds) ∈ l a) (hd : ds[k]? = some d) : PE X e (tFm l fun _ => d) := PE.less h fun σ H Q ⟨a, D, q⟩ => by
  obtain ⟨b, xs, hv, hb, t⟩ := q.1.lst (m a)
  obtain ⟨v, hk, hh⟩ := t.get hd
  exact ⟨_, hv, b, xs, _, v, rfl, rfl, sqL hb, atI_nat hk, q.2 H v (Same.refl _) hh⟩
theorem fm_cat {i : Nat} {te : TE} {ds : List PyData} {es : α → List PyData} (h : PE X e (tOp (rCatA X.K) (tVar i) te)) (ht : ∀ σ H Q, tFm l (fun a => .tuple (es a)) σ H Q → te σ H Q) (m : ∀ a, (i, .tuple ds) ∈ l a) (l1 : ds.length ≤ 1000) (l2 : ∀ a, (es a).length ≤ 1000) : PE X e (tFm l fun a => .tuple (ds ++ es a)) := PE.less h fun σ H Q ⟨a, D, q⟩ => by
  obtain ⟨b, xs, hv, hb, t⟩ := q.1.tup (m a)
  refine ⟨_, hv, ht σ H _ ⟨a, D, q.1, fun H1 v1 s1 h1 => ?_⟩⟩
  obtain ⟨c, ys, rfl, hc, t2⟩ := h1.tup_inv
  exact cat_from (s1 _ _ hb) (t.keep (KeepD.of s1)) hc t2 l1 (l2 a) fun H2 v2 s2 h2 => q.2 _ _ (s1.trans s2) h2
end
end AskG
/-! AskTk: the set of nested keys as a thing of the hand layer; set.add. -/
namespace Ask
open PySem PySem.Spec PyProof.Rows L2

mutual
/-- the value v is the key k -/
def HKey (K : PySem.W.Frag) (H : Hp) : NestedKey → V → Prop
  | .none, v => v = .non
  | .num i, v => v = .int i
  | .text x, v => v = .str x
  | .tup ks, v => ∃ a xs, v = .ref a ∧ SqT K H a xs ∧ HKeys K H ks xs
def HKeys (K : PySem.W.Frag) (H : Hp) : List NestedKey → List V → Prop
  | [], xs => xs = []
  | k :: ks, xs => ∃ y ys, xs = y :: ys ∧ HKey K H k y ∧ HKeys K H ks ys
end
mutual
theorem hkey_is {X : Cx} {pins : List (Addr × Obj)} {σ : L2.St} {H : Hp} {s : Shared} (I : Inv X pins σ H s) : ∀ (k : NestedKey) (v : V) (u : Value), HKey X.K H k v → RelV v u → NestedIs s.heap k u
  | .none, v, u, h, r => by
    have e : v = .non := h
    subst e
    cases r
    exact .none
  | .num i, v, u, h, r => by
    have e : v = .int i := h
    subst e
    obtain ⟨t, rfl⟩ := r
    exact .int i t
  | .text x, v, u, h, r => by
    have e : v = .str x := h
    subst e
    obtain ⟨t, rfl⟩ := r
    exact .text x t
  | .tup ks, v, u, h, r => by
    obtain ⟨a, xs, e, hq, hs⟩ := h
    subst e
    cases r
    obtain ⟨its, rv, ⟨o, ho, hc, n, hd⟩, _⟩ := I.tuple hq
    exact .tup ho hc hd (by simpa using hkeys_are I ks xs its hs rv)
theorem hkeys_are {X : Cx} {pins : List (Addr × Obj)} {σ : L2.St} {H : Hp} {s : Shared} (I : Inv X pins σ H s) : ∀ (ks : List NestedKey) (xs : List V) (us : List Value), HKeys X.K H ks xs → Vals xs us → NestedAll s.heap ks us
  | [], xs, us, h, r => by
    have e : xs = [] := h
    subst e
    cases r
    exact .nil
  | k :: ks, xs, us, h, r => by
    obtain ⟨y, ys, e, h1, h2⟩ := h
    subst e
    cases r with
    | cons r1 r2 => exact .cons (hkey_is I k y _ h1 r1) (hkeys_are I ks ys _ h2 r2)
end

/-- the set at a, its keys aside -/
structure SetK0 (w : World) (h : Heap) (a : Addr) (L : List (Addr × NestedKey)) : Prop where
  has : ∃ (es : Array (Int × Value)) (ep : Nat) (t : SetTable), (∃ o, h.get? a = some o ∧ o.ExactSet ∧ o.data = .set es ep t) ∧ es.toList = entOf w L ∧ TabOk t (L.map fun p => p.2.hash w) ∧ (L.map Prod.snd).Nodup ∧
    (w.params.followText "set-order" = true ∨ t.led = true) ∧ L.length * 5 < t.mask * 3 ∧ L.length < 64
def SetKO (w : World) (a : Addr) (L : List (Addr × NestedKey)) : HO := .ext fun h => SetK0 w h a L
theorem SetK.bare {P : Program} {w : World} {h : Heap} {a : Addr} {L : List (Addr × NestedKey)} {es : Array (Int × Value)} {ep : Nat} {t : SetTable} (S : SetK P w h a L es ep t) : SetK0 w h a L :=
  ⟨es, ep, t, S.obj, S.ent, S.tab, S.one, S.lead, S.air, S.few⟩
theorem SetK0.whole {P : Program} {w : World} {h : Heap} {a : Addr} {L : List (Addr × NestedKey)} (S : SetK0 w h a L) (keys : ∀ p ∈ L, IsK P w h p.2 p.1) : ∃ es ep t, SetK P w h a L es ep t := by
  obtain ⟨es, ep, t, z1, z2, z3, z4, z5, z6, z7⟩ := S.has
  exact ⟨es, ep, t, z1, z2, z3, z4, keys, z5, z6, z7⟩
theorem setKO_ok {P : Program} {w : World} {H : Hp} {h : Heap} {a : Addr} {L : List (Addr × NestedKey)} (S : SetK0 w h a L) : ObjOk P w H h a (SetKO w a L) := by
  obtain ⟨es, ep, t, ⟨o, ho, r⟩, q⟩ := id S.has
  refine ⟨S, ⟨o, ho⟩, fun h1 h2 p k => ?_⟩
  obtain ⟨es', ep', t', ⟨o', ho', r'⟩, q'⟩ := SetK0.has p
  exact ⟨es', ep', t', ⟨o', k o' ho', r'⟩, q'⟩
theorem setK_empty {P : Program} {w : World} {h : Heap} {a : Addr} (ho : h.get? a = some { cls := .type "set", dict := none, data := .set #[] 0 (.fresh 0 0 (!w.params.followText "set-order")) }) : SetK0 w h a [] := by
  refine ⟨#[], 0, _, ⟨_, ho, ⟨rfl, rfl, rfl⟩, rfl⟩, rfl, ⟨List.Pairwise.nil, rfl, rfl, .inl rfl, fun x hx => ?_, fun i h j e => ?_⟩, List.Pairwise.nil, ?_, (show 0 * 5 < 7 * 3 by decide), (show 0 < 64 by decide)⟩
  · exact absurd hx (by simp [SetTable.fresh])
  · exact absurd e (by simp)
  · show _ ∨ (!w.params.followText "set-order") = true
    cases w.params.followText "set-order" <;> simp

section
variable {X : Cx} {pins : List (Addr × Obj)} {σ : L2.St} {H : Hp} {s : Shared} {E : Value → Shared → Prop}
/-- the keys of the list L stand where it says -/
def KeysAt (K : PySem.W.Frag) (H : Hp) (L : List (Addr × NestedKey)) : Prop := ∀ p ∈ L, HKey K H p.2 (.ref p.1) ∧ p.2.depth ≤ 8
theorem KeysAt.are {L : List (Addr × NestedKey)} (h : KeysAt X.K H L) (I : Inv X pins σ H s) : ∀ p ∈ L, IsK X.prog X.w s.heap p.2 p.1 :=
  fun p hp => ⟨hkey_is I p.2 (.ref p.1) (.ref p.1) (h p hp).1 rfl, (h p hp).2⟩
theorem KeysAt.put {L L' : List (Addr × NestedKey)} {x : Addr} {k : NestedKey} (h : KeysAt X.K H L) (hk : HKey X.K H k (.ref x)) (hd : k.depth ≤ 8) (pm : L'.Perm ((x, k) :: L)) : KeysAt X.K H L' := fun p hp => by
  cases List.mem_cons.mp (pm.mem_iff.mp hp) with
  | inl e => exact e ▸ ⟨hk, hd⟩
  | inr m => exact h p m

/-- D.add(x), x a key -/
theorem addK_ok {D x : Addr} {L : List (Addr × NestedKey)} {k : NestedKey} {Q : Value → Shared → Prop} (I : Inv X pins σ H s) (room : X.A.units + 10 < cLine) (hD : H D = some (SetKO X.w D L)) (hL : KeysAt X.K H L) (few : L.length + 1 < 64)
    (hk : HKey X.K H k (.ref x)) (hd : k.depth ≤ 8)
    (h : ∀ s' L', Inv X pins σ (upd H D (SetKO X.w D L')) s' → (k ∈ L.map Prod.snd → L' = L) → (k ∉ L.map Prod.snd → L'.Perm ((x, k) :: L)) → Q .none s') :
    wpAny (model X.prog X.w) X.A (call (.builtin "set.add") [.ref D, .ref x]) Q E s := by
  have S0 : SetK0 X.w s.heap D L := (I.hok D _ hD).1
  obtain ⟨es, ep, t, S⟩ := S0.whole (P := X.prog) (hL.are I)
  have kx : IsK X.prog X.w s.heap k x := ⟨hkey_is I k (.ref x) (.ref x) hk rfl, hd⟩
  obtain ⟨o, ho, hex, _⟩ := S.obj
  have ty : s.TypeIs (.ref D) "set" := ⟨o, ho, hex.1⟩
  refine wpAny_call_entry F.slot_set_add ty F.entry_set_add ?_ (F.args_set_add_2 _ _)
  unfold Builtin.«set.add» Builtin.Frozenset.oneOther
  simp only [List.isEmpty_nil, bind_assoc]
  unfold Builtin.Frozenset.addrOf setAdd
  refine wpAny_bind (wpAny_pure ?_)
  try dsimp only
  refine wpAny_bind (wpAny_pure ?_)
  try dsimp only
  refine wpAny_bind (wpAny_holding (wpAny_bind ((nestedKind X.prog X.w).pyHash (show X.A.in1.units + 8 < cLine by rw [Around.in1_units]; omega) kx ?_)))
  refine putKey (s := { s with toks := s.toks + k.draws }) S kx (by rw [Around.in1_units]; omega) few fun b h' L' es' ep' t' sb S' q1 q2 => ?_
  refine wpAny_pure ⟨_, rfl, h _ L' ?_ q1 q2⟩
  obtain ⟨o', ho', _⟩ := S'.obj
  exact I.write (e := D) (t' := s.toks + k.draws) (by rw [hD]; trivial) (.inl rfl) (fun b u hb hu => (sb.2 b hb).trans hu) ⟨o', ho'⟩ (setKO_ok S'.bare)
end
end Ask
/-! AskUk: the loops of a set comprehension with two for. -/
namespace Ask
open PySem PySem.Spec PyProof.Rows L2
abbrev sc2 (elt t0 i0 t1 i1 : Expr) (scope : Scope) (pos : Pos) : Expr := .SetComp elt [⟨t0, i0, [], 0⟩, ⟨t1, i1, [], 0⟩] scope pos
theorem sc2_first (elt t0 i0 t1 i1 : Expr) (scope : Scope) (pos : Pos) (it acc : Value) (env : Env) :
    compTurn (sc2 elt t0 i0 t1 i1 scope pos) 0 it acc env = (do
      standAt i0.pos
      match ← pyNext it with
      | none => pure (.done .next)
      | some v =>
        letOwnedTupleGo t0 it v
        assign t0 env v
        let mut go := true
        for c in ([] : List Expr) do
          if go then go ← isTrue c env (eval c env)
        if go then
          let x ← eval i1 env
          standAt i1.pos
          let x ← foldedSetIterable i1 env x
          let _ ← runOwn (.compStart (sc2 elt t0 i0 t1 i1 scope pos) 1 (← holding [x] (pyIter x)) acc env) env
        again (.compLoop (sc2 elt t0 i0 t1 i1 scope pos) 0 it acc env)) := by rfl
theorem sc2_second (elt t0 i0 t1 i1 : Expr) (scope : Scope) (pos : Pos) (it acc : Value) (env : Env) :
    compTurn (sc2 elt t0 i0 t1 i1 scope pos) 1 it acc env = (do
      standAt i1.pos
      match ← pyNext it with
      | none => pure (.done .next)
      | some v =>
        letOwnedTupleGo t1 it v
        assign t1 env v
        let mut go := true
        for c in ([] : List Expr) do
          if go then go ← isTrue c env (eval c env)
        if go then
          (do let v ← eval elt env; standAt elt.pos; let _ ← call (.builtin "set.add") [acc, v])
        again (.compLoop (sc2 elt t0 i0 t1 i1 scope pos) 1 it acc env)) := by rfl
section
variable {prog : Program} {w : World} {A : Around} {R : Result → Shared → Prop} {s : Shared} {elt t0 i0 t1 i1 : Expr} {scope : Scope} {pos : Pos} {it acc : Value} {env : Env}
/-- no error -/
abbrev Calm (prog : Program) (w : World) (A : Around) {α : Type} (m : Sem α) (Q : α → Shared → Prop) (s : Shared) : Prop := wpAny (model prog w) A m Q (fun _ _ => False) s
theorem Calm.any {α : Type} {m : Sem α} {Q Q' : α → Shared → Prop} {E : Value → Shared → Prop} (h : Calm prog w A m Q s) (k : ∀ v s', Q v s' → Q' v s') : wpAny (model prog w) A m Q' E s :=
  wpAny_mono h k fun _ _ z => z.elim

theorem sc2_outer (hs : ∀ x, foldedSetIterable i1 env x = pure x) (J : Nat → Shared → Prop)
    (turn : ∀ n s, J n s → Calm prog w A (pyNext it) (fun r s1 => match r with
      | none => R (.ok .next) s1
      | some v => Calm prog w A (letOwnedTupleGo t0 it v) (fun _ s2 => Calm prog w A (assign t0 env v) (fun _ s3 => Calm prog w A (eval i1 env) (fun x s4 => Calm prog w A (pyIter x) (fun it1 s5 =>
          codeAny (model prog w) A (.compStart (sc2 elt t0 i0 t1 i1 scope pos) 1 it1 acc env) (fun r s' => match r with
            | .ok _ => ∃ m, m < n ∧ J m s'
            | .error _ => False) s5) s4) s3) s2) s1) s) (n : Nat) (h : J n s) :
    codeAny (model prog w) A (.compLoop (sc2 elt t0 i0 t1 i1 scope pos) 0 it acc env) R s := by
  refine codeAny_loop rfl J (fun n s hJ => ?_) n h
  show wpAny _ A ((compTurn (sc2 elt t0 i0 t1 i1 scope pos) 0 it acc env).onRaise (fun x => do noteFrame x env; theTreesLotGoes x)) _ _ s
  refine wpAny_noted ?_
  rw [sc2_first]
  refine wpAny_bind (wpAny_standAt (wpAny_bind ((turn n s hJ).any fun r s1 h1 => ?_)))
  cases r with
  | none => exact wpAny_pure h1
  | some v =>
    refine wpAny_bind (Calm.any h1 fun _ s2 h2 => wpAny_bind (Calm.any h2 fun _ s3 h3 => ?_))
    refine wpAny_bind (wpAny_of_eq (a := true) rfl (wpAny_bind (Calm.any h3 fun x s4 h4 => ?_)))
    refine wpAny_bind (wpAny_standAt (wpAny_bind (wpAny_of_eq (hs x) (wpAny_bind (wpAny_holding (Calm.any h4 fun it1 s5 h5 => ?_))))))
    refine wpAny_bind (wpAny_runOwn ?_)
    rw [Around.mark_none]
    refine codeAny_mono h5 fun r s' hr => ?_
    cases r with
    | ok f => first
      | exact wpAny_pure ⟨rfl, hr⟩
      | exact wpAny_bind (wpAny_pure (wpAny_pure ⟨rfl, hr⟩))
    | error e => exact hr.elim
theorem sc2_inner (J : Nat → Shared → Prop)
    (turn : ∀ n s, J n s → Calm prog w A (pyNext it) (fun r s1 => match r with
      | none => R (.ok .next) s1
      | some v => Calm prog w A (letOwnedTupleGo t1 it v) (fun _ s2 => Calm prog w A (assign t1 env v) (fun _ s3 => Calm prog w A (eval elt env) (fun x s4 =>
          Calm prog w A (call (.builtin "set.add") [acc, x]) (fun _ s5 => ∃ m, m < n ∧ J m s5) s4) s3) s2) s1) s) (n : Nat) (h : J n s) :
    codeAny (model prog w) A (.compLoop (sc2 elt t0 i0 t1 i1 scope pos) 1 it acc env) R s := by
  refine codeAny_loop rfl J (fun n s hJ => ?_) n h
  show wpAny _ A ((compTurn (sc2 elt t0 i0 t1 i1 scope pos) 1 it acc env).onRaise (fun x => do noteFrame x env; theTreesLotGoes x)) _ _ s
  refine wpAny_noted ?_
  rw [sc2_second]
  refine wpAny_bind (wpAny_standAt (wpAny_bind ((turn n s hJ).any fun r s1 h1 => ?_)))
  cases r with
  | none => exact wpAny_pure h1
  | some v =>
    refine wpAny_bind (Calm.any h1 fun _ s2 h2 => wpAny_bind (Calm.any h2 fun _ s3 h3 => ?_))
    refine wpAny_bind (wpAny_of_eq (a := true) rfl (wpAny_bind (wpAny_bind (Calm.any h3 fun x s4 h4 => ?_))))
    exact wpAny_bind (wpAny_standAt (wpAny_bind (Calm.any h4 fun _ s5 h5 => wpAny_pure (wpAny_pure ⟨rfl, h5⟩))))
theorem sc2_start (h0 : codeAny (model prog w) A (.compLoop (sc2 elt t0 i0 t1 i1 scope pos) 1 it acc env) R s)
    (h : Calm prog w A (pyIter it) (fun it' s' => codeAny (model prog w) A (.compLoop (sc2 elt t0 i0 t1 i1 scope pos) 1 it' acc env) R s') s) :
    codeAny (model prog w) A (.compStart (sc2 elt t0 i0 t1 i1 scope pos) 1 it acc env) R s := by
  refine codeAny_of_tree ?_
  show wpAny _ _ ((compStart (sc2 elt t0 i0 t1 i1 scope pos) 1 it acc env).onRaise (fun x => do noteFrame x env; standAt theWindowsPlace)) _ _ s
  refine wpAny_notedAt ?_
  unfold compStart
  refine wpAny_bind (m := ask) (wpAny_askSetting (wpAny_ite ?_))
  split
  · first
      | exact wpAny_bind (wpAny_pure (wpAny_pure ⟨rfl, h0⟩))
      | exact wpAny_pure ⟨rfl, h0⟩
  · refine wpAny_bind (wpAny_rule ?_)
    refine wpAny_bind (m := standAt i1.pos) (wpAny_standAt (wpAny_bind (Calm.any h fun it' s' h' => wpAny_pure ⟨rfl, h'⟩)))
end
end Ask
/-! AskWk: {x for .. in .. for .. in ..}, x a nested key. -/
namespace Ask
open PySem PySem.Spec PyProof.Rows L2
/-- the reading: D the new set -/
def tSc2 (K : PySem.W.Frag) (w : World) (wi : TI) (g : TG) (wi1 : TI) (g1 : TG) (te : TE) (vs vs1 : List Nat) : TE := fun σ H Q => wi σ H fun J H1 => ∀ D, H1 D = none →
  ∃ W : Nat → Nat → Hp → Prop, (∃ m, W 0 m (upd H1 D (SetKO w D []))) ∧ ∀ i m H, W i m H →
    (J.stop i H ∧ Q (.ref D) H) ∨ (J.go i H ∧ ∃ Nx : Hp → Prop, (∀ H', Nx H' → ∃ m', m' < m ∧ W (i + 1) m' H') ∧
      ∀ x H', J.yld i H x H' → g x (wipe σ vs) H' fun σ2 H2 => wipe σ2 vs = wipe σ vs ∧ wi1 σ2 H2 fun J1 H4 =>
        ∃ W1 : Nat → Nat → Hp → Prop, (∃ m, W1 0 m H4) ∧ ∀ j k H, W1 j k H →
          (J1.stop j H ∧ Nx H) ∨ (J1.go j H ∧ ∃ Nx1 : Hp → Prop, (∀ H', Nx1 H' → ∃ k', k' < k ∧ W1 (j + 1) k' H') ∧
            ∀ x H', J1.yld j H x H' → g1 x (wipe σ2 vs1) H' fun σ3 H5 => wipe σ3 vs1 = wipe σ2 vs1 ∧ te σ3 H5 fun y H7 =>
              ∃ b L q, y = .ref b ∧ H7 D = some (SetKO w D L) ∧ KeysAt K H7 L ∧ L.length + 1 < 64 ∧ HKey K H7 q (.ref b) ∧ q.depth ≤ 8 ∧
                ∀ L', (q ∈ L.map Prod.snd → L' = L) → (q ∉ L.map Prod.snd → L'.Perm ((b, q) :: L)) → Nx1 (upd H7 D (SetKO w D L'))))
section
variable {X : Cx}
theorem pe_sc2 {elt tg iter tg1 iter1 : Expr} {scope : Scope} {own : List (Str × Nat)} {vs1 : List Nat} {pos : Pos} {wi wi1 : TI} {g g1 : TG} {te : TE}
    (hu : X.A.units + 10 < cLine) (hc : X.calm = true) (hN : X.N.Nodup) (hi : PI X tg iter wi) (ok : BlkOk X.N X.env.scope scope own) (hv : ∀ i ∈ vs1, i ∈ own.map (·.2))
    (hg : ∀ (s : Shared) (H : Hp) (C : Addr) (cl : List (Str × Addr)) (fp : List Addr), PG (X.blk s H scope (compEnvC scope cl C X.env) fp) tg g)
    (hi1 : ∀ (s : Shared) (H : Hp) (C : Addr) (cl : List (Str × Addr)) (fp : List Addr), PI (X.blk s H scope (compEnvC scope cl C X.env) fp) tg1 iter1 wi1)
    (hg1 : ∀ (s : Shared) (H : Hp) (C : Addr) (cl : List (Str × Addr)) (fp : List Addr), PG (X.blk s H scope (compEnvC scope cl C X.env) fp) tg1 g1)
    (he : ∀ (s : Shared) (H : Hp) (C : Addr) (cl : List (Str × Addr)) (fp : List Addr), PE (X.blk s H scope (compEnvC scope cl C X.env) fp) elt te)
    (hs : ∀ x, foldedSetIterable iter X.env x = pure x := by intro _; rfl) (hs1 : ∀ env x, foldedSetIterable iter1 env x = pure x := by intro _ _; rfl) :
    PE X (sc2 elt tg iter tg1 iter1 scope pos) (tSc2 X.K X.w wi g wi1 g1 te (own.map (·.2)) vs1) := by
  constructor
  intro pins s σ H Q I h
  rw [arm_eval_SetComp]
  have hfree : ∀ y ∈ scope.names, y.2 = .free → ∃ c, X.env.cells.lookup y.1 = some c := by
    intro y hy e
    exact (ok.free y hy e).elim (fun k => I.ok.has _ (.inl k)) fun k => I.ok.has _ (.inr k)
  refine wpAny_comprehension_free rfl hs (closure_ok hfree) ok.kind (fun y hy e => by rw [ok.uniq y hy, e])
    (thn (hi.run pins s σ H _ I h) fun xv s1 hx => thn hx ?_)
  rintro itv s2 ⟨it, fp, tn, J, H2, e, I2, T, st2, f2, q⟩
  subst e
  refine wpAny_newSet_raw fun led eled => newEnv_comp ?_
  subst eled
  generalize hD : s2.heap.objs.size = D
  have hDn : H2 D = none := I2.hok.fresh (Nat.le_of_eq hD)
  obtain ⟨W, ⟨m0, w0⟩, turn⟩ := q D hDn
  generalize hnew : ({ cls := .type "set", dict := none, data := .set #[] 0 (.fresh 0 0 (!X.w.params.followText "set-order")) } : Obj) = new
  generalize hs3 : ({ s2 with heap := s2.heap.push new } : Shared) = s3
  have I3 : Inv X pins σ (upd H2 D (SetKO X.w D [])) s3 := by
    rw [← hs3]
    refine I2.laid (t' := s2.toks) (fun b o e => Heap.get?_push_of_some _ e) (Nat.le_of_eq hD) (setKO_ok (setK_empty (P := X.prog) ?_))
    rw [← hD, ← hnew]
    exact Heap.get?_push_size _ rfl
  have h3 : s3.heap = s2.heap.push new := by rw [← hs3]
  have f3 : ∀ b ∈ fp, FpOk X pins (upd H2 D (SetKO X.w D [])) b ∧ b < s3.heap.objs.size := by
    intro b hb
    have hlt : b < s2.heap.objs.size := (T.obj _ _ st2 b hb).elim fun o e => Heap.lt_size e.1
    refine ⟨⟨?_, (f2 b hb).2⟩, by rw [h3, Heap.size_push]; exact Nat.lt_succ_of_lt hlt⟩
    rw [upd_ne (by rw [← hD]; exact Nat.ne_of_lt hlt)]
    exact (f2 b hb).1
  have st3 : tn 0 s3.heap := T.keep _ _ _ st2 fun b _ o e => h3 ▸ Heap.get?_push_of_some _ e
  have I4 := block_start I3 ok hN f3
  generalize hcl : cellsFrom (s3.heap.objs.size + 1) scope.names (cloFrom X.env.cells scope.names []) = cl at I4 ⊢
  have pg := hg s3 (upd H2 D (SetKO X.w D [])) s3.heap.objs.size cl fp
  have pe := he s3 (upd H2 D (SetKO X.w D [])) s3.heap.objs.size cl fp
  have pi1 := hi1 s3 (upd H2 D (SetKO X.w D [])) s3.heap.objs.size cl fp
  have pg1 := hg1 s3 (upd H2 D (SetKO X.w D [])) s3.heap.objs.size cl fp
  have nfp : ∀ b ∈ fp, (upd H2 D (SetKO X.w D [])) b = none := fun b hb => (f3 b hb).1.1
  show codeAny _ _ (.compStart (sc2 elt tg iter tg1 iter1 scope pos) 0 (.ref it) (.ref D) (compEnvC scope cl s3.heap.objs.size X.env)) _
    { s3 with heap := pushCells (s3.heap.push { cls := .type "dict", data := .dict #[] }) scope.names }
  generalize hce : compEnvC scope cl s3.heap.objs.size X.env = ce at I4 pg pe pi1 pg1 ⊢
  have cL : ce.locals = s3.heap.objs.size := by
    subst hce
    rfl
  generalize hH3 : upd H2 D (SetKO X.w D []) = H3 at I3 I4 pg pe pi1 pg1 w0 nfp f3
  generalize hs4 : ({ s3 with heap := pushCells (s3.heap.push { cls := .type "dict", data := .dict #[] }) scope.names } : Shared) = s4 at I4 ⊢
  have st4 : tn 0 s4.heap := T.keep _ _ _ st3 fun b _ o e => by
    rw [← hs4]
    exact pushCells_keeps _ _ _ _ (Heap.get?_push_of_some _ e)
  have stat : ∀ {σ' : L2.St} {H' : Hp} {s' : Shared}, Inv (X.blk s3 H3 scope ce fp) [] σ' H' s' → (∀ b ∈ fp, H' b = none) →
      ∀ b ∈ fp, FpOk (X.blk s3 H3 scope ce fp) [] H' b := by
    intro σ' H' s' I' hn b hb
    exact ⟨hn b hb, (I'.ok.exf b hb).1, I'.ok.exfs b hb, .inl hb, fun x c e => (I'.ok.exf b hb).2 x c e,
      fun p hp => absurd (show p ∈ ([] : List (Addr × Obj)) ++ [] from hp) (by simp)⟩
  refine codeAny_compStart_set ?loop (T.self X.A 0 _ _ _ st4 ?loop)
  refine sc2_outer (hs1 ce) (fun n s' => ∃ i H', Inv (X.blk s3 H3 scope ce fp) [] (wipe σ (own.map (·.2))) H' s' ∧ tn i s'.heap ∧
    (∀ b ∈ fp, H' b = none) ∧ W i n H') ?_ m0 ⟨0, H3, I4, st4, nfp, w0⟩
  rintro n s5 ⟨i, H5, I5, st5, n5, w5⟩
  rcases turn i n H5 w5 with ⟨stop, qq⟩ | ⟨go, Nx, hNx, step⟩
  · have td := T.done (X.blk s3 H3 scope ce fp) rfl rfl rfl hc i [] s5 _ H5 (fun _ _ => False) I5 (stat I5 n5) st5 stop
    refine thnF td ?_
    rintro r s6 ⟨hr, I6⟩
    subst hr
    have I7 : Inv X pins σ H5 s6 := I3.call' (ch := fp) I6.os I6.base I6.hok I6.bare fun b hb =>
      ⟨(f3 b hb).1.2.2.2.1, (f3 b hb).1.2.1, (f3 b hb).1.2.2.2.2.1, (f3 b hb).1.2.2.2.2.2⟩
    have nC : H5 s3.heap.objs.size = none := by
      have z : H5 ce.locals = none := I6.free
      rw [cL] at z
      exact z
    obtain ⟨m, hn, _⟩ := I6.loc
    have hn : s6.heap.Ns ce.locals m := hn
    rw [cL] at hn
    obtain ⟨f0, f1, f2, f3, f4, f5⟩ := I3.fpOk (Nat.le_refl _) nC
    refine ⟨m, hn, fun h'' sb => ?_⟩
    exact ⟨.ref D, H5, I7.turned (t' := s6.toks) (fun b o hb e => (sb.2 b hb).trans e) f0 f1 f3 f4 f5, rfl, qq⟩
  · have ti := T.item (X.blk s3 H3 scope ce fp) rfl rfl rfl hc i [] s5 _ H5 (fun _ _ => False) I5 (stat I5 n5) st5 go
    refine thnF ti ?_
    rintro r s6 ⟨u, hr, h6⟩
    subst hr
    refine thnF h6 ?_
    rintro _ s7 ⟨x, H7, I7, r7, y7, st7, n7⟩
    have I7' := I7.pinned (stat I7 n7) (T.obj _ _ st7)
    refine thnF (pg.run _ s7 _ H7 x u _ I7' r7 (step x H7 y7)) ?_
    rintro _ s8 ⟨σ8, H8, I8, hw8, q8⟩
    have hl8 : (wipe σ (own.map (·.2))).length = σ8.length := by rw [← hw8, wipe_length]
    have knows : ∀ (j : Nat) v, (wipe σ (own.map (·.2)))[j]? = some (some v) → (wipe σ8 vs1)[j]? = some (some v) := by
      intro j v e
      rw [← hw8] at e
      obtain ⟨e1, e2⟩ := wipe_some e
      rw [wipe_out fun z => e2 (hv j z)]
      exact e1
    have fin : ∀ {s' : Shared} {H' : Hp}, Inv (X.blk s3 H3 scope ce fp) ([] ++ pinsAt fp s7.heap) (wipe σ8 vs1) H' s' → Nx H' →
        ∃ m, m < n ∧ ∃ i H', Inv (X.blk s3 H3 scope ce fp) [] (wipe σ (own.map (·.2))) H' s' ∧ tn i s'.heap ∧ (∀ b ∈ fp, H' b = none) ∧ W i m H' := by
      intro s' H' I' nx
      obtain ⟨m', hm, w'⟩ := hNx H' nx
      have pin' : ∀ b ∈ fp, ∀ o, s7.heap.get? b = some o → s'.heap.get? b = some o ∧ H' b = none := by
        intro b hb o e
        have z := I'.pin (b, o) (List.mem_append_right _ (List.mem_append_right _ (mem_pinsAt hb e)))
        exact ⟨z.1, z.2.1⟩
      refine ⟨m', hm, i + 1, H', (I'.unpinned (pins := [])).weak (hl8.trans (wipe_length σ8 vs1).symm) knows,
        T.keep _ _ _ st7 fun b hb o e => (pin' b hb o e).1, fun b hb => ?_, w'⟩
      obtain ⟨o, e, _⟩ := T.obj _ _ st7 b hb
      exact (pin' b hb o e).2
    refine thnF (pi1.run _ s8 σ8 H8 _ I8 q8) fun xv s10 hx => thnF hx ?_
    rintro itv s11 ⟨it1, fp1, tn1, J1, H11, e1, I11, T1, st11, f11, W1, ⟨m1, w1⟩, turn1⟩
    subst e1
    have stat1 : ∀ {H' : Hp}, (∀ b ∈ fp1, H' b = none) → ∀ b ∈ fp1, FpOk (X.blk s3 H3 scope ce fp) ([] ++ pinsAt fp s7.heap) H' b :=
      fun hn b hb => ⟨hn b hb, (f11 b hb).2⟩
    refine sc2_start ?loop1 (T1.self X.A 0 _ _ _ st11 ?loop1)
    refine sc2_inner (fun k s' => ∃ j H', Inv (X.blk s3 H3 scope ce fp) ([] ++ pinsAt fp s7.heap) (wipe σ8 vs1) H' s' ∧ tn1 j s'.heap ∧ (∀ b ∈ fp1, H' b = none) ∧ W1 j k H') ?_ m1
      ⟨0, H11, I11.weak (wipe_length _ _) (fun j v e => (wipe_some e).1), st11, fun b hb => (f11 b hb).1, w1⟩
    rintro k s12 ⟨j, H12, I12, st12, n12, w12⟩
    rcases turn1 j k H12 w12 with ⟨stop1, nx1⟩ | ⟨go1, Nx1, hNx1, step1⟩
    · refine thnF (T1.done (X.blk s3 H3 scope ce fp) rfl rfl rfl hc j _ s12 (wipe σ8 vs1) H12 (fun _ _ => False) I12 (stat1 n12) st12 stop1) ?_
      rintro r s13 ⟨hr, I13⟩
      subst hr
      exact fin I13 nx1
    · refine thnF (T1.item (X.blk s3 H3 scope ce fp) rfl rfl rfl hc j _ s12 (wipe σ8 vs1) H12 (fun _ _ => False) I12 (stat1 n12) st12 go1) ?_
      rintro r s13 ⟨u1, hr, h13⟩
      subst hr
      refine thnF h13 ?_
      rintro _ s14 ⟨x1, H14, I14, r14, y14, st14, n14⟩
      have I14' := I14.pinned (stat1 n14) (T1.obj _ _ st14)
      refine thnF (pg1.run _ s14 (wipe σ8 vs1) H14 x1 u1 _ I14' r14 (step1 x1 H14 y14)) ?_
      rintro _ s15 ⟨σ15, H15, I15, hw15, q15⟩
      refine thnF (pe.run _ s15 σ15 H15 _ I15 q15) ?_
      rintro z s17 ⟨yv, H17, I17, r17, b, L, q, ey, hD17, hL, few, hq, hdq, nx⟩
      subst ey
      cases r17
      refine addK_ok (X := X.blk s3 H3 scope ce fp) I17 hu hD17 hL few hq hdq ?_
      intro s18 L' I18 p1 p2
      obtain ⟨m', hm, w'⟩ := hNx1 _ (nx L' p1 p2)
      have pin' : ∀ b ∈ fp1, ∀ o, s14.heap.get? b = some o → s18.heap.get? b = some o ∧ (upd H17 D (SetKO X.w D L')) b = none := by
        intro b hb o e
        have z := I18.pin (b, o) (List.mem_append_right _ (List.mem_append_right _ (mem_pinsAt hb e)))
        exact ⟨z.1, z.2.1⟩
      refine ⟨m', hm, j + 1, _, I18.unpinned.weak (by rw [← hw15, wipe_length]) (fun j v e => ?_), T1.keep _ _ _ st14 fun b hb o e => (pin' b hb o e).1, fun b hb => ?_, w'⟩
      · rw [← hw15] at e
        exact (wipe_some e).1
      · obtain ⟨o, e, _⟩ := T1.obj _ _ st14 b hb
        exact (pin' b hb o e).2
end
end Ask
/-! AskCk: sorted of a set of cells. -/
namespace Ask
open PySem PySem.Spec PyProof.Rows L2 AskG
def cellK (c : Cell) : NestedKey := .tup [.text c.1, .num c.2]
theorem cellK_inj {c d : Cell} (h : cellK c = cellK d) : c = d := by
  unfold cellK at h
  injection h with h
  injection h with h1 h2
  injection h2 with h2 _
  injection h1 with h1
  injection h2 with h2
  exact Prod.ext h1 h2
theorem cellK_deep (c : Cell) : (cellK c).depth ≤ 8 := by
  show max 0 (max 0 0) + 1 ≤ 8
  decide
theorem cell_key {K : PySem.W.Frag} {H : Hp} {b : Addr} {c : Cell} (h : CellAt H b c) : HKey K H (cellK c) (.ref b) :=
  ⟨b, _, rfl, .inl (.inl h), _, _, rfl, rfl, _, _, rfl, rfl, rfl⟩
theorem refs_vals : ∀ bs : List Addr, Vals (bs.map V.ref) (bs.map Value.ref)
  | [] => .nil
  | _ :: bs => .cons rfl (refs_vals bs)
/-- L is a list of cells, each where it says -/
def CellsAt (H : Hp) (L : List (Addr × NestedKey)) : Prop := ∀ p ∈ L, ∃ c, p.2 = cellK c ∧ CellAt H p.1 c
theorem CellsAt.keys {K : PySem.W.Frag} {H : Hp} {L : List (Addr × NestedKey)} (h : CellsAt H L) : KeysAt K H L := fun p hp => by
  obtain ⟨c, e, hc⟩ := h p hp
  rw [e]
  exact ⟨cell_key hc, cellK_deep c⟩
/-- sorted(a), a a set of cells -/
def rSortSC (w : World) : List V → Hp → VK → Prop := fun xs H Q => ∃ (a : Addr) (L : List (Addr × NestedKey)), xs = [.ref a] ∧ H a = some (SetKO w a L) ∧ CellsAt H L ∧
  ∀ (ys : List Cell) (bs : List Addr) (p : Addr), (∀ c, c ∈ ys ↔ cellK c ∈ L.map Prod.snd) → ys.length = L.length → ys.Pairwise (fun a b => ltC a b = true) →
    Paired (CellAt H) bs ys → H p = none → Q (.ref p) (upd H p (.lst (bs.map V.ref)))
section
variable {X : Cx}
theorem cr_sortSC (hc : X.calm = true) : CallR X (.builtin "sorted") (rSortSC X.w) := by
  intro pins s σ H xs us Q I r q
  obtain ⟨a, L, rfl, ha, hL, q⟩ := q
  obtain ⟨u, rfl, ru⟩ := vals1 r
  obtain rfl : u = Value.ref a := ru
  have S0 : SetK0 X.w s.heap a L := (I.hok a _ ha).1
  obtain ⟨es, ep, t, S⟩ := S0.whole (P := X.prog) ((hL.keys (K := X.K)).are I)
  have vals : ∀ v ∈ L.map (fun p => Value.ref p.1), ∃ b c, v = .ref b ∧ CellAt H b c := fun v hv => by
    obtain ⟨p, hp, rfl⟩ := List.mem_map.mp hv
    obtain ⟨c, _, h⟩ := hL p hp
    exact ⟨_, c, rfl, h⟩
  refine sortedK S (I.ok.hd hc) (ltv := fun v u => ltC (cellOf H v) (cellOf H u)) (swo_cells _) (fun vs pm h2 s1 l hl past => ?_) fun s' p out c keep g o hp at' pm srt => ?_
  · refine cells_sortable (by omega) (fun v hv => ?_) fun o' eo => ?_
    · obtain ⟨b, c, rfl, h⟩ := vals v (pm.mem_iff.mp hv)
      rw [cellOf_at h]
      exact (isCl_of I.hok h).keeps fun b o e _ => (past b o e).2
    · have e' : some o' = some (seqObj "list" vs.toArray 0) := eo.symm.trans hl
      cases e'
      intro c
      exact absurd (Value.type.inj c) (by decide)
  · have hout : ∀ v ∈ out, ∃ b c, v = .ref b ∧ CellAt H b c := fun v hv => vals v (pm.mem_iff.mp hv)
    obtain ⟨bs, rfl⟩ : ∃ bs : List Addr, out = bs.map Value.ref := by
      clear pm srt at'
      induction out with
      | nil => exact ⟨[], rfl⟩
      | cons v l ih =>
        obtain ⟨bs, e⟩ := ih fun u hu => hout u (List.mem_cons_of_mem _ hu)
        obtain ⟨b, _, e', _⟩ := hout v List.mem_cons_self
        exact ⟨b :: bs, by rw [e', e]; rfl⟩
    have at2 : ∀ b ∈ bs, CellAt H b (cellOf H (.ref b)) := fun b hb => by
      obtain ⟨b', c', e, h⟩ := hout (.ref b) (List.mem_map.mpr ⟨b, hb, rfl⟩)
      cases e
      rw [cellOf_at h]
      exact h
    have kL : L.map Prod.snd = ((L.map fun p => Value.ref p.1).map (cellOf H)).map cellK := by
      rw [List.map_map, List.map_map]
      refine List.map_congr_left fun p hp => ?_
      obtain ⟨c, e, h⟩ := hL p hp
      show p.2 = cellK (cellOf H (.ref p.1))
      rw [cellOf_at h, e]
    have pmc : ((bs.map Value.ref).map (cellOf H)).Perm ((L.map fun p => Value.ref p.1).map (cellOf H)) := pm.map _
    have ys : (bs.map Value.ref).map (cellOf H) = bs.map fun b => cellOf H (.ref b) := by rw [List.map_map]; rfl
    have nd : ((bs.map Value.ref).map (cellOf H)).Nodup := by
      refine pmc.nodup_iff.mpr ?_
      have one := S.one
      rw [kL] at one
      exact (List.pairwise_map.mp one).imp fun h e => h (congrArg cellK e)
    have st := strict_of (List.pairwise_map.mpr srt) nd
    have len : (bs.map Value.ref).length = L.length := by rw [pm.length_eq, List.length_map]
    rw [List.length_map] at len
    have few := S.few
    have hn : H p = none := I.hok.fresh hp
    have hv : Vals (bs.map V.ref) (bs.map Value.ref) := refs_vals bs
    have J : Inv X pins σ (upd H p (.lst (bs.map V.ref))) { s with heap := s'.heap, gens := s'.gens, drawn := s'.drawn, toks := s'.toks } :=
      I.call (ch := []) (Un.laid keep hp hn) (I.hok.laid keep hp ⟨by rw [List.length_map, sizeLine_eq]; omega, bs.map Value.ref, c, hv, at'⟩) (by rw [g]; exact I.bare) (fun _ z => nomatch z)
    have e : s' = { s with heap := s'.heap, gens := s'.gens, drawn := s'.drawn, toks := s'.toks } := by
      cases s'
      cases s
      cases o
      rfl
    rw [e]
    refine ⟨.ref p, _, J, rfl, q _ bs p (fun c => ?_) ?_ (ys ▸ st) (paired_of (fun b => cellOf H (.ref b)) at2) hn⟩
    · rw [← ys, pmc.mem_iff, kL]
      exact ⟨fun m => List.mem_map.mpr ⟨c, m, rfl⟩, fun m => by
        obtain ⟨d, hd, e⟩ := List.mem_map.mp m
        rw [← cellK_inj e]
        exact hd⟩
    · rw [List.length_map]
      exact len
end
end Ask
/-! AskRk: the order of rows, and rows that can be sorted. -/
namespace Ask
open PySem PySem.Spec PyProof.Rows L2 AskG
def ltR : List (Cell × Int) → List (Cell × Int) → Bool
  | [], [] => false
  | [], _ :: _ => true
  | _ :: _, [] => false
  | x :: xs, y :: ys => if x = y then ltR xs ys else ltX x y
theorem ltR_tri : ∀ x y, ltR x y = true ∨ x = y ∨ ltR y x = true
  | [], [] => .inr (.inl rfl)
  | [], _ :: _ => .inl rfl
  | _ :: _, [] => .inr (.inr rfl)
  | x :: xs, y :: ys => by
    unfold ltR
    by_cases e : x = y
    · subst e
      rw [if_pos rfl, if_pos rfl]
      rcases ltR_tri xs ys with h | h | h
      · exact .inl h
      · exact .inr (.inl (by rw [h]))
      · exact .inr (.inr h)
    · rw [if_neg e, if_neg fun z => e z.symm]
      rcases ltX_tri x y with h | h | h
      · exact .inl h
      · exact absurd h e
      · exact .inr (.inr h)
theorem ltR_irr : ∀ x, ltR x x = false
  | [] => rfl
  | x :: xs => by
    unfold ltR
    rw [if_pos rfl]
    exact ltR_irr xs
theorem ltR_trans : ∀ {x y z}, ltR x y = true → ltR y z = true → ltR x z = true
  | [], [], _, h, _ => by cases h
  | [], _ :: _, [], _, h => by cases h
  | [], _ :: _, _ :: _, _, _ => rfl
  | _ :: _, [], _, h, _ => by cases h
  | _ :: _, _ :: _, [], _, h => by cases h
  | x :: xs, y :: ys, z :: zs, h1, h2 => by
    unfold ltR at h1 h2 ⊢
    by_cases e : x = y
    · subst e
      rw [if_pos rfl] at h1
      by_cases e2 : x = z
      · rw [if_pos e2] at h2 ⊢
        exact ltR_trans h1 h2
      · rw [if_neg e2] at h2 ⊢
        exact h2
    · rw [if_neg e] at h1
      by_cases e2 : y = z
      · subst e2
        rw [if_neg e]
        exact h1
      · rw [if_neg e2] at h2
        have h3 := ltX_trans h1 h2
        have ne : ¬ x = z := fun e3 => by rw [e3, ltX_irr] at h3; cases h3
        rw [if_neg ne]
        exact h3
theorem ltR_asym {x y : List (Cell × Int)} (h : ltR x y = true) : ltR y x = false := by
  cases g : ltR y x with
  | false => rfl
  | true =>
    have := ltR_trans h g
    rw [ltR_irr] at this
    cases this
theorem swo_R {α : Type} (k : α → List (Cell × Int)) : SrtO.Swo fun v u => ltR (k v) (k u) := by
  refine ⟨fun x y h => ltR_asym h, fun x y z h1 h2 => ?_⟩
  cases g : ltR (k z) (k x) with
  | false => rfl
  | true =>
    rcases ltR_tri (k x) (k y) with a | a | a
    · have := ltR_trans g a
      rw [h2] at this
      cases this
    · rw [← a, g] at h2
      cases h2
    · rw [h1] at a
      cases a
/-- the value is a tuple of pairs of a cell and a weight -/
def IsRw (h : Heap) (v : Value) (ρ : List (Cell × Int)) : Prop := ∃ (a : Addr) (o : Obj) (items : Array Value) (n : Nat), v = .ref a ∧ h.get? a = some o ∧ o.cls = .type "tuple" ∧ o.data = .seq items n ∧ Paired (IsPr h) items.toList ρ
theorem paired_imp {α β : Type} {R S : α → β → Prop} (k : ∀ a b, R a b → S a b) : ∀ {l : List α} {m : List β}, Paired R l m → Paired S l m
  | _, _, .nil => .nil
  | _, _, .cons h t => .cons (k _ _ h) (paired_imp k t)
theorem IsRw.keeps {h h' : Heap} {v : Value} {ρ : List (Cell × Int)} (p : IsRw h v ρ) (k : ∀ b o, h.get? b = some o → o.cls = .type "tuple" → h'.get? b = some o) : IsRw h' v ρ := by
  obtain ⟨a, o, items, n, e, ho, hc, hd, hp⟩ := p
  exact ⟨a, o, items, n, e, k _ _ ho hc, hc, hd, paired_imp (fun _ _ z => z.keeps k) hp⟩
theorem isPr_key {h : Heap} {v : Value} {x : Cell × Int} (p : IsPr h v x) : NestedIs h (.tup [cellK x.1, .num x.2]) v := by
  obtain ⟨a, b, t, rfl, ⟨o, ho, hc, n, hd⟩, a', t1, t2, e, o2, ho2, hc2, n2, hd2⟩ := p
  cases e
  exact .tup ho hc hd (.cons (.tup ho2 hc2 hd2 (.cons (.text _ _) (.cons (.int _ _) .nil))) (.cons (.int _ _) .nil))
section
variable {prog : Program} {w : World} {A : Around} {E : Value → Shared → Prop} {s : Shared}
theorem pairs_eq {u v : Value} {x y : Cell × Int} (hx : IsPr s.heap u x) (hy : IsPr s.heap v y) (hu : A.units + 2 < cLine) : SeqAt.EqAt A s u v (decide (x = y)) := by
  have h := eqAt_key _ _ A s u v (isPr_key hx) (isPr_key hy) (by show A.units + min (max (max 0 (max 0 0) + 1) (max 0 0) + 1) _ < cLine; omega)
  have e : NestedKey.beq (.tup [cellK x.1, .num x.2]) (.tup [cellK y.1, .num y.2]) = decide (x = y) := by
    rw [← NestedKey.decide_eq]
    refine decide_eq_decide.mpr ⟨fun z => ?_, fun z => by rw [z]⟩
    injection z with z
    injection z with z1 z2
    injection z2 with z2 _
    injection z2 with z2
    exact Prod.ext (cellK_inj z1) z2
  rw [← e]
  exact h
end
end Ask
/-! AskQk: rows compared, and a list of rows that can be sorted. -/
namespace Ask
open PySem PySem.Spec PyProof.Rows L2 AskG
section
variable {prog : Program} {w : World} {A : Around} {E : Value → Shared → Prop} {s : Shared}
theorem pairs_lt {u v : Value} {x y : Cell × Int} (hx : IsPr s.heap u x) (hy : IsPr s.heap v y) (hu : A.units + 2 < cLine) : Ob.RcOp .Lt A s u v (ltX x y) := by
  obtain ⟨a, b, t, rfl, ta, cb⟩ := hx
  obtain ⟨a', b', t', rfl, ta', cb'⟩ := hy
  have low : A.in1.units < cLine := by rw [Around.in1_units]; omega
  have R := Ob.RcOp.tuples_lt (A := A) (s := s) (e := fun j => if j = 0 then decide (x.1 = y.1) else x.2 == y.2)
    (r := fun j => if j = 0 then ltC x.1 y.1 else decide (x.2 < y.2)) ta ta' (by omega)
    (fun j h1 h2 => by
      have h1 : j < 2 := h1
      match j, h1 with
      | 0, _ => exact cells_eq cb cb' low
      | 1, _ => exact SeqAt.EqAt.int_int x.2 t y.2 t')
    (fun j h1 h2 _ => by
      have h1 : j < 2 := h1
      match j, h1 with
      | 0, _ => exact cells_lt cb cb' low
      | 1, _ => exact Ob.RcOp.lt_int x.2 y.2 t t')
  have e : Ob.lexAt (fun j => if j = 0 then decide (x.1 = y.1) else x.2 == y.2) (fun j => if j = 0 then ltC x.1 y.1 else decide (x.2 < y.2)) (decide (2 < 2)) 0 (min 2 2) = ltX x y := by
    show (if decide (x.1 = y.1) = true then (if (x.2 == y.2) = true then decide (2 < 2) else decide (x.2 < y.2)) else ltC x.1 y.1) = ltX x y
    unfold ltX
    by_cases e1 : x.1 = y.1
    · rw [if_pos (decide_eq_true e1), if_pos e1]
      by_cases e2 : x.2 = y.2
      · rw [if_pos (beq_iff_eq.mpr e2), e2, decide_eq_false (Int.lt_irrefl _)]
        rfl
      · rw [if_neg fun z => e2 (beq_iff_eq.mp z)]
    · rw [if_neg fun z => e1 (of_decide_eq_true z), if_neg e1]
  rw [← e]
  exact R
theorem paired_len {α β : Type} {R : α → β → Prop} : ∀ {l : List α} {m : List β}, Paired R l m → l.length = m.length
  | _, _, .nil => rfl
  | _, _, .cons _ t => congrArg (· + 1) (paired_len t)
/-- two rows from their i-th pairs on -/
theorem rows_lex (hu : A.units + 2 < cLine) : ∀ (xs ys : List (Cell × Int)) (us vs : List Value) (i : Nat) (fin : Bool) (Q : Bool → Shared → Prop), Paired (IsPr s.heap) us xs → Paired (IsPr s.heap) vs ys →
    fin = decide (xs.length < ys.length) → Q (ltR xs ys) s → PySem.W.KatLex prog w A false fin Q (us.zip vs) i s
  | [], [], _, _, i, fin, Q, .nil, .nil, e, q => by
    subst e
    exact PySem.W.kat_nil q
  | [], _ :: _, _, _, i, fin, Q, .nil, .cons _ _, e, q => by
    subst e
    exact PySem.W.kat_nil (show Q (decide (0 < _ + 1)) s by rw [decide_eq_true (Nat.succ_pos _)]; exact q)
  | _ :: _, [], _, _, i, fin, Q, .cons _ _, .nil, e, q => by
    subst e
    exact PySem.W.kat_nil (show Q (decide (_ + 1 < 0)) s by rw [decide_eq_false (Nat.not_lt_zero _)]; exact q)
  | x :: xs, y :: ys, _, _, i, fin, Q, .cons hx tx, .cons hy ty, e, q => by
    unfold ltR at q
    refine PySem.W.kat_cons (pairs_eq hx hy hu prog w _ _ (PySem.W.kat_go (fun e1 => ?_) (fun e1 => ?_)))
    · rw [if_pos (of_decide_eq_true e1)] at q
      refine PySem.W.kat_yes (rows_lex hu xs ys _ _ (i + 1) fin Q tx ty ?_ q)
      rw [e, List.length_cons, List.length_cons]
      exact decide_eq_decide.mpr (by omega)
    · rw [if_neg (of_decide_eq_false e1)] at q
      exact PySem.W.kat_no (PySem.W.kat_one _ _ (pairs_lt hx hy hu prog w _ _ q))
theorem row_cmp {vs : List Value} {k : Value → List (Cell × Int)} (hu : A.units + 2 < cLine) (hp : ∀ v ∈ vs, IsRw s.heap v (k v)) :
    SrtO.Cmp prog w A s (tuples' false) (fun p => p.1 ∈ vs) (SrtO.lt2 fun v u => ltR (k v) (k u)) := by
  intro p q hm hm'
  have h1 := hp _ hm
  have h2 := hp _ hm'
  show wpAny (model prog w) A (keyLt' (tuples' false) p.1 q.1) (fun r s' => s' = s ∧ r = ltR (k p.1) (k q.1)) (fun _ _ => False) s
  generalize k p.1 = x at h1 ⊢
  generalize k q.1 = y at h2 ⊢
  obtain ⟨a, o, its, n, e, ho, hc, hd, hx⟩ := h1
  obtain ⟨a', o', its', n', e', ho', hc', hd', hy⟩ := h2
  rw [e, e']
  refine PySem.W.kat_lt ho hd ho' hd' (rows_lex hu x y _ _ 0 _ _ hx hy ?_ ⟨rfl, rfl⟩)
  rw [← paired_len hx, ← paired_len hy, Array.length_toList, Array.length_toList]
theorem row_firsts {h : Heap} : ∀ {vs : List Value}, (∀ v ∈ vs, ∃ ρ, ρ ≠ [] ∧ IsRw h v ρ) →
    ∃ fs : List Value, PySem.W.KatTups h vs fs ∧ fs.length = vs.length ∧ ∀ f ∈ fs, ∃ x, IsPr h f x
  | [], _ => ⟨[], .nil, rfl, fun f hf => absurd hf (by simp)⟩
  | v :: vs, z => by
    obtain ⟨fs, k, hl, hi⟩ := row_firsts (vs := vs) fun u hu => z u (List.mem_cons.mpr (.inr hu))
    obtain ⟨ρ, ne, a, o, its, n, rfl, ho, hc, hd, hp⟩ := z v (List.mem_cons.mpr (.inl rfl))
    cases hq : its.toList with
    | nil =>
      rw [hq] at hp
      cases hp
      exact absurd rfl ne
    | cons f l =>
      rw [hq] at hp
      cases hp with
      | cons h1 _ =>
        refine ⟨f :: fs, .cons ho hc hd ?_ k, congrArg (· + 1) hl, fun g hg => ?_⟩
        · first
            | (rw [← Array.getElem?_toList, hq]; rfl)
            | (rw [hq]; rfl)
            | simp [hq]
        · cases hg with
          | head => exact ⟨_, h1⟩
          | tail _ hg => exact hi g hg
theorem rows_sortable {a : Addr} {vs : List Value} {k : Value → List (Cell × Int)} (hu : A.units + 2 < cLine) (h0 : 0 < vs.length) (hp : ∀ v ∈ vs, IsRw s.heap v (k v)) (ne : ∀ v ∈ vs, k v ≠ [])
    (ha : ∀ o, s.heap.get? a = some o → o.cls ≠ .type "tuple") : SrtO.SortableO prog w A s a vs fun v u => ltR (k v) (k u) := by
  intro h' keep
  have hp' : ∀ v ∈ vs, IsRw h' v (k v) := fun v hm => (hp v hm).keeps fun b o e c => keep b o (fun z => by subst z; exact ha o e c) e
  obtain ⟨fs, h1, h2, h3⟩ := row_firsts fun v hm => ⟨_, ne v hm, hp' v hm⟩
  refine ⟨tuples' false, fun Q E hq => ?_, row_cmp hu hp'⟩
  refine PySem.W.kat_kind (T := .type "tuple") h1 (by omega) (fun f hm => ?_) (by rfl) ?_
  · obtain ⟨x, b, _, _, rfl, ⟨o, ho, hc, _⟩, _⟩ := h3 f hm
    exact fun A Q E s k q => wpAny_typeOf ⟨o, k _ _ ho, hc⟩ q
  · have e : (Value.type "tuple" != Value.type "tuple") = false := by first | decide +kernel | rfl | decide
    rw [e]
    exact hq
end
end Ask
/-! AskZk: sorted of a set of rows that are not (). -/
namespace Ask
open PySem PySem.Spec PyProof.Rows L2 AskG
def pairK (x : Cell × Int) : NestedKey := .tup [cellK x.1, .num x.2]
def rowK (ρ : RowD) : NestedKey := .tup (ρ.map pairK)
theorem pairK_inj {x y : Cell × Int} (h : pairK x = pairK y) : x = y := by
  unfold pairK at h
  injection h with h
  injection h with h1 h2
  injection h2 with h2 _
  injection h2 with h2
  exact Prod.ext (cellK_inj h1) h2
theorem pairs_inj : ∀ {ρ π : RowD}, ρ.map pairK = π.map pairK → ρ = π
  | [], [], _ => rfl
  | [], _ :: _, h => by cases h
  | _ :: _, [], h => by cases h
  | x :: ρ, y :: π, h => by
    rw [List.map_cons, List.map_cons] at h
    injection h with h1 h2
    rw [pairK_inj h1, pairs_inj h2]
theorem rowK_inj {ρ π : RowD} (h : rowK ρ = rowK π) : ρ = π := by
  unfold rowK at h
  injection h with h
  exact pairs_inj h
theorem pairs_deep : ∀ ρ : RowD, NestedKey.depthAll (ρ.map pairK) ≤ 2
  | [] => Nat.zero_le _
  | x :: ρ => by
    have h := pairs_deep ρ
    have e : (pairK x).depth = 2 := rfl
    rw [List.map_cons]
    simp only [NestedKey.depthAll, e]
    omega
theorem rowK_deep (ρ : RowD) : (rowK ρ).depth ≤ 8 := by
  have h := pairs_deep ρ
  show NestedKey.depthAll (ρ.map pairK) + 1 ≤ 8
  omega
theorem pair_key {K : PySem.W.Frag} {H : Hp} {p : Addr} {x : Cell × Int} (h : PairRow H p x) : HKey K H (pairK x) (.ref p) := by
  obtain ⟨b, h1, h2⟩ := h
  exact ⟨p, _, rfl, .inl (.inl h1), _, _, rfl, cell_key h2, _, _, rfl, rfl, rfl⟩
theorem pairs_key {K : PySem.W.Frag} {H : Hp} : ∀ {ps : List Addr} {ρ : RowD}, Paired (PairRow H) ps ρ → HKeys K H (ρ.map pairK) (ps.map V.ref)
  | _, _, .nil => rfl
  | _, _, .cons h t => ⟨_, _, rfl, pair_key h, pairs_key t⟩
theorem row_key {K : PySem.W.Frag} {H : Hp} {r : Addr} {ρ : RowD} (h : RowAt H r ρ) : HKey K H (rowK ρ) (.ref r) := by
  obtain ⟨ps, h1, h2⟩ := h
  exact ⟨r, _, rfl, .inl (.inl h1), pairs_key h2⟩
theorem isRw_of {P : Program} {w : World} {H : Hp} {h : Heap} {r : Addr} {ρ : RowD} (ok : HOk P w H h) (e : RowAt H r ρ) : IsRw h (.ref r) ρ := by
  obtain ⟨ps, h1, h2⟩ := e
  obtain ⟨_, its, rv, o, ho, hc, n, hd⟩ := (show ObjOk P w H h r (.tup (ps.map V.ref)) from ok r _ h1)
  refine ⟨r, o, _, n, rfl, ho, hc, hd, ?_⟩
  have z : ∀ {ps : List Addr} {ρ : RowD} {us : List Value}, Paired (PairRow H) ps ρ → Vals (ps.map V.ref) us → Paired (IsPr h) us ρ := by
    intro ps ρ us hp
    induction hp generalizing us with
    | nil =>
      intro v
      cases v
      exact .nil
    | cons h1 _ ih =>
      intro v
      cases v with
      | cons r1 r2 =>
        cases r1
        exact .cons (isPr_of ok h1) (ih r2)
  simpa using z h2 rv
/-- the row behind a value -/
noncomputable def rowOfV (H : Hp) (v : Value) : RowD := @dite _ (∃ a ρ, v = .ref a ∧ RowAt H a ρ) (Classical.propDecidable _) (fun h => h.choose_spec.choose) fun _ => []
theorem RowAt.one {H : Hp} {a : Addr} {ρ π : RowD} (h : RowAt H a ρ) (g : RowAt H a π) : ρ = π := by
  obtain ⟨ps, h1, h2⟩ := h
  obtain ⟨qs, g1, g2⟩ := g
  have e : ps = qs := by
    rw [h1] at g1
    injection g1 with g1
    injection g1 with g1
    clear h1 h2 g2
    induction ps generalizing qs with
    | nil =>
      cases qs with
      | nil => rfl
      | cons _ _ => cases g1
    | cons p ps ih =>
      cases qs with
      | nil => cases g1
      | cons q qs =>
        rw [List.map_cons, List.map_cons] at g1
        injection g1 with e1 e2
        injection e1 with e1
        rw [e1, ih qs e2]
  subst e
  clear h1 g1
  induction h2 generalizing π with
  | nil =>
    cases g2
    rfl
  | cons k _ ih =>
    cases g2 with
    | cons k' t' =>
      rw [ih t', ← pairOf_at k, ← pairOf_at k']
theorem rowOfV_at {H : Hp} {a : Addr} {ρ : RowD} (h : RowAt H a ρ) : rowOfV H (.ref a) = ρ := by
  have ex : ∃ b π, Value.ref a = .ref b ∧ RowAt H b π := ⟨a, ρ, rfl, h⟩
  unfold rowOfV
  rw [dif_pos ex]
  obtain ⟨e, g⟩ := ex.choose_spec.choose_spec
  injection e with e
  exact RowAt.one g (e ▸ h)
/-- L is a list of rows that are not (), each where it says -/
def RowsIn (H : Hp) (L : List (Addr × NestedKey)) : Prop := ∀ p ∈ L, ∃ ρ, ρ ≠ [] ∧ p.2 = rowK ρ ∧ RowAt H p.1 ρ
theorem RowsIn.keys {K : PySem.W.Frag} {H : Hp} {L : List (Addr × NestedKey)} (h : RowsIn H L) : KeysAt K H L := fun p hp => by
  obtain ⟨ρ, _, e, hr⟩ := h p hp
  rw [e]
  exact ⟨row_key hr, rowK_deep ρ⟩
theorem strictR : ∀ {ys : List RowD}, ys.Pairwise (fun a b => ltR b a = false) → ys.Nodup → ys.Pairwise (fun a b => ltR a b = true) := by
  intro ys h n
  refine (h.and n).imp ?_
  rintro a b ⟨h1, h2⟩
  rcases ltR_tri a b with g | g | g
  · exact g
  · exact absurd g h2
  · rw [h1] at g
    cases g
/-- sorted(a), a a set of rows -/
def rSortSR (w : World) : List V → Hp → VK → Prop := fun xs H Q => ∃ (a : Addr) (L : List (Addr × NestedKey)), xs = [.ref a] ∧ H a = some (SetKO w a L) ∧ RowsIn H L ∧
  ∀ (ys : List RowD) (bs : List Addr) (p : Addr), (∀ ρ, ρ ∈ ys ↔ rowK ρ ∈ L.map Prod.snd) → ys.length = L.length → ys.Pairwise (fun a b => ltR a b = true) →
    Paired (RowAt H) bs ys → H p = none → Q (.ref p) (upd H p (.lst (bs.map V.ref)))
section
variable {X : Cx}
theorem cr_sortSR (hc : X.calm = true) (hu : X.A.units + 8 < cLine) : CallR X (.builtin "sorted") (rSortSR X.w) := by
  intro pins s σ H xs us Q I r q
  obtain ⟨a, L, rfl, ha, hL, q⟩ := q
  obtain ⟨u, rfl, ru⟩ := vals1 r
  obtain rfl : u = Value.ref a := ru
  have S0 : SetK0 X.w s.heap a L := (I.hok a _ ha).1
  obtain ⟨es, ep, t, S⟩ := S0.whole (P := X.prog) ((hL.keys (K := X.K)).are I)
  have vals : ∀ v ∈ L.map (fun p => Value.ref p.1), ∃ b ρ, v = .ref b ∧ ρ ≠ [] ∧ RowAt H b ρ := fun v hv => by
    obtain ⟨p, hp, rfl⟩ := List.mem_map.mp hv
    obtain ⟨ρ, ne, _, h⟩ := hL p hp
    exact ⟨_, ρ, rfl, ne, h⟩
  refine sortedK S (I.ok.hd hc) (ltv := fun v u => ltR (rowOfV H v) (rowOfV H u)) (swo_R _) (fun vs pm h2 s1 l hl past => ?_) fun s' p out c keep g o hp at' pm srt => ?_
  · refine rows_sortable (by rw [Around.in1_units, Around.in1_units]; omega) (by omega) (fun v hv => ?_) (fun v hv => ?_) fun o' eo => ?_
    · obtain ⟨b, ρ, rfl, _, h⟩ := vals v (pm.mem_iff.mp hv)
      rw [rowOfV_at h]
      exact (isRw_of I.hok h).keeps fun b o e _ => (past b o e).2
    · obtain ⟨b, ρ, rfl, ne, h⟩ := vals v (pm.mem_iff.mp hv)
      rw [rowOfV_at h]
      exact ne
    · have e' : some o' = some (seqObj "list" vs.toArray 0) := eo.symm.trans hl
      cases e'
      intro c
      exact absurd (Value.type.inj c) (by decide)
  · have hout : ∀ v ∈ out, ∃ b ρ, v = .ref b ∧ RowAt H b ρ := fun v hv => by
      obtain ⟨b, ρ, e, _, h⟩ := vals v (pm.mem_iff.mp hv)
      exact ⟨b, ρ, e, h⟩
    obtain ⟨bs, rfl⟩ : ∃ bs : List Addr, out = bs.map Value.ref := by
      clear pm srt at'
      induction out with
      | nil => exact ⟨[], rfl⟩
      | cons v l ih =>
        obtain ⟨bs, e⟩ := ih fun u hu => hout u (List.mem_cons_of_mem _ hu)
        obtain ⟨b, _, e', _⟩ := hout v List.mem_cons_self
        exact ⟨b :: bs, by rw [e', e]; rfl⟩
    have at2 : ∀ b ∈ bs, RowAt H b (rowOfV H (.ref b)) := fun b hb => by
      obtain ⟨b', c', e, h⟩ := hout (.ref b) (List.mem_map.mpr ⟨b, hb, rfl⟩)
      cases e
      rw [rowOfV_at h]
      exact h
    have kL : L.map Prod.snd = ((L.map fun p => Value.ref p.1).map (rowOfV H)).map rowK := by
      rw [List.map_map, List.map_map]
      refine List.map_congr_left fun p hp => ?_
      obtain ⟨ρ, _, e, h⟩ := hL p hp
      show p.2 = rowK (rowOfV H (.ref p.1))
      rw [rowOfV_at h, e]
    have pmc : ((bs.map Value.ref).map (rowOfV H)).Perm ((L.map fun p => Value.ref p.1).map (rowOfV H)) := pm.map _
    have ys : (bs.map Value.ref).map (rowOfV H) = bs.map fun b => rowOfV H (.ref b) := by rw [List.map_map]; rfl
    have nd : ((bs.map Value.ref).map (rowOfV H)).Nodup := by
      refine pmc.nodup_iff.mpr ?_
      have one := S.one
      rw [kL] at one
      exact (List.pairwise_map.mp one).imp fun h e => h (congrArg rowK e)
    have st := strictR (List.pairwise_map.mpr srt) nd
    have len : (bs.map Value.ref).length = L.length := by rw [pm.length_eq, List.length_map]
    rw [List.length_map] at len
    have few := S.few
    have hn : H p = none := I.hok.fresh hp
    have J : Inv X pins σ (upd H p (.lst (bs.map V.ref))) { s with heap := s'.heap, gens := s'.gens, drawn := s'.drawn, toks := s'.toks } :=
      I.call (ch := []) (Un.laid keep hp hn) (I.hok.laid keep hp ⟨by rw [List.length_map, sizeLine_eq]; omega, bs.map Value.ref, c, refs_vals bs, at'⟩) (by rw [g]; exact I.bare) (fun _ z => nomatch z)
    have e : s' = { s with heap := s'.heap, gens := s'.gens, drawn := s'.drawn, toks := s'.toks } := by
      cases s'
      cases s
      cases o
      rfl
    rw [e]
    refine ⟨.ref p, _, J, rfl, q _ bs p (fun ρ => ?_) ?_ (ys ▸ st) (paired_of (fun b => rowOfV H (.ref b)) at2) hn⟩
    · rw [← ys, pmc.mem_iff, kL]
      exact ⟨fun m => List.mem_map.mpr ⟨ρ, m, rfl⟩, fun m => by
        obtain ⟨π, hd, e⟩ := List.mem_map.mp m
        rw [← rowK_inj e]
        exact hd⟩
    · rw [List.length_map]
      exact len
end
end Ask
/-! AskDk: a dict whose keys are nested keys and whose values are all True. -/
namespace Ask
open PySem PySem.Spec PyProof.Rows L2 AskG
abbrev KA := Addr × NestedKey
/-- the dict's entries -/
abbrev asEnt (L : List KA) : List (NestedKey × Addr × Value) := L.map fun p => (p.2, p.1, Value.bool true)
def putD (L : List KA) (b : Addr) (k : NestedKey) : List KA := if k ∈ L.map Prod.snd then L else L ++ [(b, k)]
theorem atKey_in : ∀ {L : List KA} {k : NestedKey}, (atKey (asEnt L) k).isSome = decide (k ∈ L.map Prod.snd)
  | [], _ => rfl
  | p :: L, k => by
    have ih := atKey_in (L := L) (k := k)
    show (Option.map (·.2) (List.find? (fun x => decide (x.1 = k)) ((p.2, p.1, Value.bool true) :: asEnt L))).isSome = decide (k ∈ p.2 :: L.map Prod.snd)
    by_cases e : p.2 = k
    · rw [List.find?_cons_of_pos (by exact decide_eq_true e), decide_eq_true (List.mem_cons.mpr (.inl e.symm))]
      rfl
    · rw [List.find?_cons_of_neg (by intro z; exact e (of_decide_eq_true z))]
      refine ih.trans (decide_eq_decide.mpr ⟨fun m => List.mem_cons.mpr (.inr m), fun m => ?_⟩)
      cases List.mem_cons.mp m with
      | inl z => exact absurd z.symm e
      | inr z => exact z
theorem putAt_same {L : List KA} {k : NestedKey} : (asEnt L).map (putAt k (Value.bool true)) = asEnt L := by
  induction L with
  | nil => rfl
  | cons p L ih =>
    show putAt k (Value.bool true) (p.2, p.1, Value.bool true) :: (asEnt L).map (putAt k (Value.bool true)) = _
    rw [ih]
    have e : putAt k (Value.bool true) (p.2, p.1, Value.bool true) = (p.2, p.1, Value.bool true) := by
      unfold putAt
      split <;> rfl
    rw [e]
    rfl
theorem stored_put (L : List KA) (b : Addr) (k : NestedKey) : storedH (asEnt L) k b (Value.bool true) = asEnt (putD L b k) := by
  unfold storedH putD
  rw [atKey_in]
  by_cases h : k ∈ L.map Prod.snd
  · rw [if_pos (decide_eq_true h), if_pos h, putAt_same]
  · rw [if_neg (by rw [decide_eq_false h]; decide), if_neg h]
    show _ = List.map _ (L ++ [(b, k)])
    rw [List.map_append]
    rfl
/-- the dict at a, its keys aside -/
structure DicK0 (P : Program) (w : World) (h : Heap) (a : Addr) (L : List KA) : Prop where
  sys : (a == sysModules) = false
  has : ∃ o es ep, h.get? a = some o ∧ o.ExactDict ∧ o.data = .dict es ep ∧ es.toList = (asEnt L).map (entryOfKey (nestedKind P w)) ∧ (L.map Prod.snd).Nodup
def DicKO (P : Program) (w : World) (a : Addr) (L : List KA) : HO := .ext fun h => DicK0 P w h a L
theorem dicKO_ok {P : Program} {w : World} {H : Hp} {h : Heap} {a : Addr} {L : List KA} (S : DicK0 P w h a L) : ObjOk P w H h a (DicKO P w a L) := by
  obtain ⟨o, es, ep, ho, r⟩ := id S.has
  refine ⟨S, ⟨o, ho⟩, fun h1 h2 p k => ?_⟩
  obtain ⟨sy, o', es', ep', ho', r'⟩ := (show DicK0 P w h1 a L from p)
  exact ⟨sy, o', es', ep', k o' ho', r'⟩
theorem asEnt_keys (L : List KA) : (asEnt L).map (·.1) = L.map Prod.snd := by
  rw [List.map_map]
  rfl
section
variable {X : Cx} {pins : List (Addr × Obj)} {σ : L2.St} {H : Hp} {s : Shared} {E : Value → Shared → Prop}
theorem DicK0.whole {L : List KA} {a : Addr} (S : DicK0 X.prog X.w s.heap a L) (hL : KeysAt X.K H L) (I : Inv X pins σ H s) : s.heap.DictOfH (nestedKind X.prog X.w) a (asEnt L) := by
  obtain ⟨_, o, es, ep, ho, hx, hd, he, hn⟩ := S
  refine ⟨o, es, ep, ho, hx, hd, he, fun x m => ?_, by rw [asEnt_keys]; exact hn⟩
  obtain ⟨p, hp, rfl⟩ := List.mem_map.mp m
  exact hL.are I p hp
/-- D[x] = True -/
theorem putD_ok {D x : Addr} {L : List KA} {k : NestedKey} {Q : Unit → Shared → Prop} (I : Inv X pins σ H s) (room : X.A.units + 10 < cLine) (hD : H D = some (DicKO X.prog X.w D L)) (hL : KeysAt X.K H L) (few : L.length ≤ 1000)
    (hk : HKey X.K H k (.ref x)) (hd : k.depth ≤ 8) (h : ∀ s', Inv X pins σ (upd H D (DicKO X.prog X.w D (putD L x k))) s' → Q () s') :
    wpAny (model X.prog X.w) X.A (dictSet D (.ref x) (.bool true)) Q E s := by
  have S : DicK0 X.prog X.w s.heap D L := (I.hok D _ hD).1
  refine wpAny_dictSet_heap (knd := nestedKind X.prog X.w) (show X.A.units + 8 < cLine by omega) ⟨hkey_is I k (.ref x) (.ref x) hk rfl, hd⟩ (S.whole hL I) (fun h' dd sb => h _ ?_) (by rw [List.length_map, sizeLine_eq]; omega)
  rw [stored_put] at dd
  obtain ⟨o, es, ep, ho, hx, hdd, he, _, hn⟩ := dd
  rw [asEnt_keys] at hn
  exact I.write (e := D) (t' := s.toks + k.draws) (by rw [hD]; trivial) (.inl rfl) (fun b u hb hu => (sb.2 b hb).trans hu) ⟨o, ho⟩ (dicKO_ok ⟨S.sys, o, es, ep, ho, hx, hdd, he, hn⟩)
end
end Ask
/-! AskEk: {} as a dict of nested keys, d[k] = True. -/
namespace Ask
open PySem PySem.Spec PyProof.Rows L2 AskG
def tDNewN (P : Program) (w : World) : TE := fun _ H Q => ∀ p, H p = none → Q (.ref p) (upd H p (DicKO P w p []))
/-- d[k] = True -/
def sDPutN (P : Program) (w : World) (K : PySem.W.Frag) (td ty tv : TE) : TS := fun D σ H => tv σ H fun v H1 => td σ H1 fun x H2 => ty σ H2 fun y H3 => ∃ a b L k, v = .bl true ∧ x = .ref a ∧ y = .ref b ∧
  H3 a = some (DicKO P w a L) ∧ KeysAt K H3 L ∧ L.length ≤ 1000 ∧ HKey K H3 k (.ref b) ∧ k.depth ≤ 8 ∧ D.nx σ (upd H3 a (DicKO P w a (putD L b k)))
section
variable {X : Cx} {o i value : Expr} {pos pos' : Pos} {td ty tv : TE}
theorem pe_dnewN : PE X (.Dict [] [] pos) (tDNewN X.prog X.w) := by
  constructor
  intro pins s σ H Q I h
  refine wpAny_Dict_empty ⟨.ref s.heap.objs.size, _, I.laid (a := s.heap.objs.size) (o := DicKO X.prog X.w s.heap.objs.size []) (t' := s.toks) (fun _ _ q => Heap.get?_push_of_some _ q) (Nat.le_refl _) (dicKO_ok ⟨?_, ?_⟩), rfl, h _ (I.hok.fresh (Nat.le_refl _))⟩
  · exact beq_eq_false_iff_ne.mpr (Ne.symm (Nat.ne_of_lt I.big))
  · exact ⟨_, #[], 0, Heap.get?_push_size _ rfl, ⟨rfl, rfl, rfl⟩, rfl, rfl, List.nodup_nil⟩
theorem setN {pins : List (Addr × Obj)} {σ : L2.St} {H : Hp} {s : Shared} {E : Value → Shared → Prop} {D x : Addr} {L : List KA} {k : NestedKey} {Q : Unit → Shared → Prop} (I : Inv X pins σ H s) (room : X.A.units + 10 < cLine)
    (hD : H D = some (DicKO X.prog X.w D L)) (hL : KeysAt X.K H L) (few : L.length ≤ 1000) (hk : HKey X.K H k (.ref x)) (hd : k.depth ≤ 8)
    (h : ∀ s', Inv X pins σ (upd H D (DicKO X.prog X.w D (putD L x k))) s' → Q () s') : wpAny (model X.prog X.w) X.A (setItem (.ref D) (.ref x) (.bool true)) Q E s := by
  have S : DicK0 X.prog X.w s.heap D L := (I.hok D _ hD).1
  refine wpAny_setItem_heap (knd := nestedKind X.prog X.w) (show X.A.in1.units + 8 < cLine by rw [Around.in1_units]; omega) ⟨hkey_is I k (.ref x) (.ref x) hk rfl, hd⟩ (S.whole hL I) (fun h' dd sb => h _ ?_) (by rw [List.length_map, sizeLine_eq]; omega)
  rw [stored_put] at dd
  obtain ⟨o, es, ep, ho, hx, hdd, he, _, hn⟩ := dd
  rw [asEnt_keys] at hn
  exact I.write (e := D) (t' := s.toks + k.draws) (by rw [hD]; trivial) (.inl rfl) (fun b u hb hu => (sb.2 b hb).trans hu) ⟨o, ho⟩ (dicKO_ok ⟨S.sys, o, es, ep, ho, hx, hdd, he, hn⟩)
theorem ps_dputN (hu : X.A.units + 10 < cLine) (ho : PE X o td) (hi : PE X i ty) (hv : PE X value tv) (hs : swapsWith value (some (.Subscript o i pos')) pos.line X.env = pure false) :
    PS X (.Assign [.Subscript o i pos'] value pos) (sDPutN X.prog X.w X.K td ty tv) := by
  constructor
  intro pins s σ H D I h
  refine wpAny_Assign_Subscript (thn (hv.run pins s σ H _ I h) ?_) hs
  rintro r s1 ⟨v, H1, I1, rv, q1⟩
  refine thn (ho.run pins s1 σ H1 _ I1 q1) ?_
  rintro u s2 ⟨x, H2, I2, rx, q2⟩
  refine thn (hi.run pins s2 σ H2 _ I2 q2) ?_
  rintro iv s3 ⟨y, H3, I3, ry, a, b, L, k, ev, ex, ey, hD, hL, few, hk, hd, q3⟩
  subst ev ex ey
  cases rv
  cases rx
  cases ry
  exact setN I3 hu hD hL few hk hd fun s4 I4 => ⟨σ, _, I4, q3⟩
end
end Ask
/-! AskFk: sorted of a dict whose keys are rows that are not (). -/
namespace Ask
open PySem PySem.Spec PyProof.Rows L2 AskG
/-- sorted(d), d a dict of rows -/
def rSortDR (P : Program) (w : World) : List V → Hp → VK → Prop := fun xs H Q => ∃ (a : Addr) (L : List KA), xs = [.ref a] ∧ H a = some (DicKO P w a L) ∧ RowsIn H L ∧ L.length ≤ 1000 ∧
  ∀ (ys : List RowD) (bs : List Addr) (p : Addr), (∀ ρ, ρ ∈ ys ↔ rowK ρ ∈ L.map Prod.snd) → ys.length = L.length → ys.Pairwise (fun a b => ltR a b = true) →
    Paired (RowAt H) bs ys → H p = none → Q (.ref p) (upd H p (.lst (bs.map V.ref)))
section
variable {X : Cx}
theorem cr_sortDR (hc : X.calm = true) (hu : X.A.units + 8 < cLine) : CallR X (.builtin "sorted") (rSortDR X.prog X.w) := by
  intro pins s σ H xs us Q I r q
  obtain ⟨a, L, rfl, ha, hL, few, q⟩ := q
  obtain ⟨u, rfl, ru⟩ := vals1 r
  obtain rfl : u = Value.ref a := ru
  obtain ⟨hs, o, es, ep, ho, hx, hdt, he, hn⟩ := (show DicK0 X.prog X.w s.heap a L from (I.hok a _ ha).1)
  have l1 : es.size = L.length := by rw [size_of_entries he, List.length_map]
  have vals : ∀ v ∈ L.map (fun p => Value.ref p.1), ∃ b ρ, v = .ref b ∧ ρ ≠ [] ∧ RowAt H b ρ := fun v hv => by
    obtain ⟨p, hp, rfl⟩ := List.mem_map.mp hv
    obtain ⟨ρ, ne, _, h⟩ := hL p hp
    exact ⟨_, ρ, rfl, ne, h⟩
  refine Calls.call_function_entry PyProof.Rows.kind_sorted PyProof.Rows.plain_sorted
    PyProof.Rows.entry_sorted (PyProof.Rows.args_sorted1 _) ?_
  unfold Builtin.«sorted»
  refine wpAny_bind (m := checkCount "sorted" 1 1 _) (wpAny_pure ?_)
  refine wpAny_bind (PySem.W.kdu_collect (A := X.A.in1) (kdl_raw hs hx hdt) (I.ok.hd hc) ho (by rw [l1, sizeLine_eq]; omega) ?_)
  intro h' tk acc hk it
  have ea : acc.toList = L.map fun p => Value.ref p.1 := by
    have hl : acc.toList.length = L.length := by
      rw [Array.length_toList, it.1]
      exact l1
    apply List.ext_getElem?
    intro j
    rw [List.getElem?_map]
    cases hj : acc.toList[j]? with
    | none =>
      have h1 := List.getElem?_eq_none_iff.mp hj
      rw [List.getElem?_eq_none (by omega)]
      all_goals rfl
    | some v =>
      obtain ⟨en, hen, hv⟩ := it.2 j v (by rw [← Array.getElem?_toList]; exact hj)
      have qe := entry_at he j
      rw [hen, List.getElem?_map] at qe
      cases hb : L[j]? with
      | none =>
        rw [hb] at qe
        exact nomatch (show some en = none from qe)
      | some b =>
        rw [hb] at qe
        have e2 : en = entryOfKey (nestedKind X.prog X.w) (b.2, b.1, Value.bool true) := Option.some.inj qe
        rw [hv, e2]
        all_goals rfl
  generalize acc.toList = vs at ea ⊢
  subst ea
  have hz : (L.map fun p => Value.ref p.1).length ≤ sizeLine := by
    rw [List.length_map, sizeLine_eq]
    omega
  have I1 : Inv X pins σ H { s with heap := h', toks := tk } := I.kept hk
  refine wpAny_bind (wpAny_newList ?_ hz)
  generalize hvs : (L.map fun p => Value.ref p.1) = vs at hz vals ⊢
  have hoL : (h'.push (seqObj "list" vs.toArray 0)).get? h'.objs.size = some (seqObj "list" vs.toArray 0) := Heap.get?_push_size _ rfl
  show wpAny _ _ _ _ _ { s with heap := h'.push (seqObj "list" vs.toArray 0), toks := tk }
  refine wpAny_bind (wpAny_holding (wpAny_call_entry PyProof.Rows.slot_list_sort ⟨_, hoL, rfl⟩ PyProof.Rows.entry_list_sort
    (SrtO.list_sort_ord (ltv := fun v u => ltR (rowOfV H v) (rowOfV H u)) (swo_R _) hoL hz (fun h2 => ?_) (fun out srt hb => ⟨_, rfl, ?_⟩))
    (PyProof.Rows.args_list_sort _)))
  · refine rows_sortable (by rw [Around.in1_units, Around.in1_units]; omega) (by omega) (fun v hv => ?_) (fun v hv => ?_) fun o' eo => ?_
    · obtain ⟨b, ρ, rfl, _, h⟩ := vals v hv
      rw [rowOfV_at h]
      exact (isRw_of I1.hok h).keeps fun b o e _ => Heap.get?_push_of_some _ e
    · obtain ⟨b, ρ, rfl, ne, h⟩ := vals v hv
      rw [rowOfV_at h]
      exact ne
    · have e' : some o' = some (seqObj "list" vs.toArray 0) := eo.symm.trans hoL
      cases e'
      intro c
      exact absurd (Value.type.inj c) (by decide)
  · obtain ⟨e', at'⟩ := PyProof.Rows.sortedHeap_at (vs := vs) (out := out.toArray) hoL
    have pm : out.Perm (L.map fun p => Value.ref p.1) := hvs ▸ hb.perm
    have hout : ∀ v ∈ out, ∃ b ρ, v = .ref b ∧ RowAt H b ρ := fun v hv => by
      obtain ⟨b, ρ, e, _, h⟩ := vals v (hb.perm.mem_iff.mp hv)
      exact ⟨b, ρ, e, h⟩
    clear hb
    obtain ⟨bs, rfl⟩ : ∃ bs : List Addr, out = bs.map Value.ref := by
      clear pm srt at'
      induction out with
      | nil => exact ⟨[], rfl⟩
      | cons v l ih =>
        obtain ⟨bs, e⟩ := ih fun u hu => hout u (List.mem_cons_of_mem _ hu)
        obtain ⟨b, _, e', _⟩ := hout v List.mem_cons_self
        exact ⟨b :: bs, by rw [e', e]; rfl⟩
    have at2 : ∀ b ∈ bs, RowAt H b (rowOfV H (.ref b)) := fun b hb => by
      obtain ⟨b', c', e, h⟩ := hout (.ref b) (List.mem_map.mpr ⟨b, hb, rfl⟩)
      cases e
      rw [rowOfV_at h]
      exact h
    have kL : L.map Prod.snd = ((L.map fun p => Value.ref p.1).map (rowOfV H)).map rowK := by
      rw [List.map_map, List.map_map]
      refine List.map_congr_left fun p hp => ?_
      obtain ⟨ρ, _, e, h⟩ := hL p hp
      show p.2 = rowK (rowOfV H (.ref p.1))
      rw [rowOfV_at h, e]
    have pmc : ((bs.map Value.ref).map (rowOfV H)).Perm ((L.map fun p => Value.ref p.1).map (rowOfV H)) := pm.map _
    have ys : (bs.map Value.ref).map (rowOfV H) = bs.map fun b => rowOfV H (.ref b) := by rw [List.map_map]; rfl
    have nd : ((bs.map Value.ref).map (rowOfV H)).Nodup := by
      refine pmc.nodup_iff.mpr ?_
      have one := hn
      rw [kL] at one
      exact (List.pairwise_map.mp one).imp fun h e => h (congrArg rowK e)
    have st := strictR (List.pairwise_map.mpr srt) nd
    have len : (bs.map Value.ref).length = L.length := by rw [pm.length_eq, List.length_map]
    rw [List.length_map] at len
    have hlen : (bs.map V.ref).length ≤ sizeLine := by
      rw [List.length_map, sizeLine_eq]
      omega
    refine wpAny_pure ⟨_, rfl, .ref h'.objs.size, upd H h'.objs.size (.lst (bs.map V.ref)), I1.laid (t' := tk) (fun b u e => ?_) (Nat.le_refl _)
      (show ObjOk X.prog X.w _ _ _ (.lst (bs.map V.ref)) from ⟨hlen, bs.map Value.ref, e', refs_vals _, at'⟩), rfl,
      q _ bs _ (fun ρ => ?_) ?_ (ys ▸ st) (paired_of (fun b => rowOfV H (.ref b)) at2) (I1.hok.fresh (Nat.le_refl _))⟩
    · have hb : b < h'.objs.size := Heap.lt_size e
      rw [PyProof.Rows.sortedHeap_old (Nat.ne_of_lt hb) (by rw [size_push']; exact Nat.lt_succ_of_lt hb)]
      exact Heap.get?_push_of_some _ e
    · rw [← ys, pmc.mem_iff, kL]
      exact ⟨fun m => List.mem_map.mpr ⟨ρ, m, rfl⟩, fun m => by
        obtain ⟨π, hd, e⟩ := List.mem_map.mp m
        rw [← rowK_inj e]
        exact hd⟩
    · rw [List.length_map]
      exact len
end
end Ask
/-! AskLk: sorted of a list of rows that are not (). -/
namespace Ask
open PySem PySem.Spec PyProof.Rows L2 AskG
/-- sorted(l), l a list of rows -/
def rSortLR (K : PySem.W.Frag) : List V → Hp → VK → Prop := fun xs H Q => ∃ (a : Addr) (ps : List Addr) (rs : List RowD), xs = [.ref a] ∧ SqL K H a (ps.map V.ref) ∧ Paired (RowAt H) ps rs ∧ (∀ ρ ∈ rs, ρ ≠ []) ∧
  ∀ (ys : List Addr) (ts : List RowD) (p : Addr), ts.Perm rs → ts.Pairwise (fun a b => ltR b a = false) → Paired (RowAt H) ys ts → H p = none → Q (.ref p) (upd H p (.lst (ys.map V.ref)))
theorem paired_both {α β : Type} {R : α → β → Prop} : ∀ {l : List α} {m : List β}, Paired R l m → ∀ a ∈ l, ∃ b ∈ m, R a b
  | _, _, .nil, a, h => absurd h (by simp)
  | _, _, .cons h1 t, a, h => by
    cases List.mem_cons.mp h with
    | inl e => exact ⟨_, List.mem_cons.mpr (.inl rfl), e ▸ h1⟩
    | inr m =>
      obtain ⟨b, hb, r⟩ := paired_both t a m
      exact ⟨b, List.mem_cons.mpr (.inr hb), r⟩
section
variable {X : Cx}
theorem cr_sortLR (hu : X.A.units + 8 < cLine) : CallR X (.builtin "sorted") (rSortLR X.K) := by
  intro pins s σ H vs us Q I r h
  obtain ⟨a, ps, rs, rfl, hs, hx, ne, q⟩ := h
  obtain ⟨its, rv, hl, hz⟩ := I.list hs
  obtain ⟨u, rfl, ru⟩ := vals1 r
  obtain rfl : u = Value.ref a := ru
  have ei : its = ps.map Value.ref := by
    clear hl hz q hx hs ne
    induction ps generalizing its with
    | nil =>
      cases rv
      rfl
    | cons p ps ih =>
      cases rv with
      | cons h1 t =>
        cases h1
        rw [List.map_cons, ih _ t]
  subst ei
  have hp : ∀ v ∈ ps.map Value.ref, ∃ p ρ, v = .ref p ∧ ρ ≠ [] ∧ RowAt H p ρ := fun v hv => by
    obtain ⟨p, hp, rfl⟩ := List.mem_map.mp hv
    obtain ⟨ρ, hm, hr⟩ := paired_both hx p hp
    exact ⟨p, ρ, rfl, ne ρ hm, hr⟩
  refine SrtO.sorted_ord (ltv := fun v u => ltR (rowOfV H v) (rowOfV H u)) (swo_R _) hl.isList (by rw [← rv.length]; exact hz) (fun h2 h₁ a' ha kk => ?_) fun out h1 h2 => ?_
  · refine rows_sortable (s := { s with heap := h₁ }) (by rw [Around.in1_units, Around.in1_units]; omega) (by omega) (fun v hv => ?_) (fun v hv => ?_) fun o e => ?_
    · obtain ⟨p, ρ, rfl, _, hr⟩ := hp v hv
      rw [rowOfV_at hr]
      exact (isRw_of I.hok hr).keeps fun b o e _ => (kk b o e).2
    · obtain ⟨p, ρ, rfl, hne, hr⟩ := hp v hv
      rw [rowOfV_at hr]
      exact hne
    · have e' : some o = some (seqObj "list" (ps.map Value.ref).toArray 0) := e.symm.trans ha
      cases e'
      intro c
      exact absurd (Value.type.inj c) (by decide)
  · have hout : ∀ v ∈ out, ∃ p ρ, v = .ref p ∧ RowAt H p ρ := fun v hv => by
      obtain ⟨p, ρ, e, _, hr⟩ := hp v (h2.perm.mem_iff.mp hv)
      exact ⟨p, ρ, e, hr⟩
    have hys : ∃ ys : List Addr, out = ys.map Value.ref := by
      clear h1 h2
      induction out with
      | nil => exact ⟨[], rfl⟩
      | cons v l ih =>
        obtain ⟨ys, rfl⟩ := ih fun u hu => hout u (List.mem_cons_of_mem _ hu)
        obtain ⟨p, x, rfl, _⟩ := hout v List.mem_cons_self
        exact ⟨p :: ys, rfl⟩
    obtain ⟨ys, rfl⟩ := hys
    obtain ⟨n, hn⟩ := PyProof.Rows.sortedAll_at s.heap (ps.map Value.ref) (ys.map Value.ref).toArray
    have hlen : (ys.map V.ref).length ≤ sizeLine := by
      have := h2.perm.length_eq
      rw [List.length_map, List.length_map] at this
      rw [List.length_map] at hz ⊢
      omega
    have em : (ps.map Value.ref).map (rowOfV H) = rs := by
      rw [List.map_map]
      exact paired_map (R := RowAt H) _ (fun p x h => rowOfV_at h) hx
    refine ⟨.ref (s.heap.objs.size + 1), upd H (s.heap.objs.size + 1) (.lst (ys.map V.ref)), I.laid (t' := s.toks) (fun b o e => PyProof.Rows.sortedAll_old e) (Nat.le_succ _) ⟨hlen, ys.map Value.ref, n, refs_vals _, hn⟩, rfl, q ys ((ys.map Value.ref).map (rowOfV H)) _ ?_ (List.pairwise_map.mpr h1) ?_ (I.hok.fresh (Nat.le_succ _))⟩
    · rw [← em]
      exact h2.perm.map _
    · rw [List.map_map]
      refine paired_of _ fun p hp' => ?_
      obtain ⟨p2, x, e2, hx'⟩ := hout (.ref p) (List.mem_map_of_mem hp')
      cases e2
      show RowAt H p (rowOfV H (.ref p))
      rw [rowOfV_at hx']
      exact hx'
end
end Ask
/-! The rows of days to come: what the program lists, what the law lists. -/
namespace P37
open PySem PySem.Spec PyProof.Rows L2 AskG Ask
/-- the days of a law's right -/
structure RtDay (R : Rt) : Prop where
  some : R.ws ≠ []
  l9 : R.last ≤ 9
theorem iDrop' {te : TE} {D : Ends} {σ : L2.St} {H : Hp} (h : te σ H fun _ H1 => D.nx σ H1) : tDrop te D σ H := h
theorem iIfS {c : TT} {t u : TS} {D : Ends} {σ : L2.St} {H : Hp} (h : c σ H fun b H1 => if b = true then t D σ H1 else u D σ H1) : tIfS c t u D σ H := h
theorem paired_app {α β : Type} {R : α → β → Prop} : ∀ {a c : List α} {b d : List β}, Paired R a b → Paired R c d → Paired R (a ++ c) (b ++ d)
  | _, _, _, _, .nil, h => h
  | _, _, _, _, .cons x t, h => .cons x (paired_app t h)
def mn (a b : Int) : Int := if b < a then b else a
theorem mn_l (a b : Int) : mn a b ≤ a := by
  unfold mn
  split <;> omega
theorem mn_r (a b : Int) : mn a b ≤ b := by
  unfold mn
  split <;> omega
theorem le_mn {a b c : Int} (h1 : c ≤ a) (h2 : c ≤ b) : c ≤ mn a b := by
  unfold mn
  split <;> omega
theorem mn_gt {a b : Int} (h : b < a) : mn a b = b := if_pos h
def soon (R : Rt) (T : Int) : Int := if T + 1 > R.first then T + 1 else R.first
abbrev Span := Int × Int × Int
def futS (R : Rt) (T : Int) : List Span := if soon R T > R.last then [] else [(R.kind.lo (soon R T), R.kind.lo R.last, mn (R.kind.hi (soon R T)) T)]
def useS (R : Rt) (T : Int) : List Span := if usedB R T = true then [(R.kind.lo T, R.kind.lo T, R.kind.hi T)] else []
def needS (R : Rt) (T : Int) : List Span := futS R T ++ useS R T
def spanRows (ws : List Cell) (s : Span) : List RowD := (daysOf s.1 (mn s.2.1 s.2.2)).map fun b => rowOn ws b s.2.2
def futR (R : Rt) (T : Int) : List RowD := (futS R T).flatMap (spanRows R.ws)
def needR (R : Rt) (T : Int) : List RowD := (needS R T).flatMap (spanRows R.ws)
def cutR (ρ : RowD) (T : Int) : RowD := ρ.filter fun x => decide (x.1.2 ≤ T)
def latR (R : Rt) (T : Int) : List RowD := (daysOf (soon R T) R.last).map fun t => cutR (rowQ R t) T
theorem mem_days {lo hi d : Int} : d ∈ daysOf lo hi ↔ lo ≤ d ∧ d ≤ hi := by
  unfold daysOf
  rw [List.mem_map]
  constructor
  · rintro ⟨i, hi', rfl⟩
    have := List.mem_range.mp hi'
    omega
  · rintro ⟨h1, h2⟩
    exact ⟨(d - lo).toNat, List.mem_range.mpr (by omega), by omega⟩
theorem days_nil {lo hi : Int} (h : hi < lo) : daysOf lo hi = [] := by
  unfold daysOf
  rw [show (hi + 1 - lo).toNat = 0 by omega]
  rfl
theorem days_cut (lo hi T : Int) : (daysOf lo hi).filter (fun d => decide (d ≤ T)) = daysOf lo (mn hi T) := by
  unfold daysOf mn
  have key : ∀ n : Nat, ((List.range n).map fun (i : Nat) => lo + (i : Int)).filter (fun d => decide (d ≤ T)) = (List.range (min n (T + 1 - lo).toNat)).map fun (i : Nat) => lo + (i : Int) := by
    intro n
    induction n with
    | zero => rw [Nat.zero_min]; rfl
    | succ n ih =>
      rw [List.range_succ, List.map_append, List.filter_append, ih]
      by_cases h : lo + (n : Int) ≤ T
      · have e : min (n + 1) (T + 1 - lo).toNat = min n (T + 1 - lo).toNat + 1 := by omega
        have e2 : min n (T + 1 - lo).toNat = n := by omega
        rw [e, e2, List.range_succ, List.map_append]
        congr 1
        show List.filter _ [lo + (n : Int)] = [lo + (n : Int)]
        rw [List.filter_cons_of_pos (by exact decide_eq_true h)]
        rfl
      · have e : min (n + 1) (T + 1 - lo).toNat = min n (T + 1 - lo).toNat := by omega
        rw [e]
        show _ ++ List.filter _ [lo + (n : Int)] = _
        rw [List.filter_cons_of_neg (by intro z; exact h (of_decide_eq_true z))]
        exact List.append_nil _
  rw [key]
  congr 2
  split <;> omega
theorem cut_rowOn : ∀ (ws : List Cell) (lo hi T : Int), cutR (rowOn ws lo hi) T = rowOn ws lo (mn hi T)
  | [], _, _, _ => rfl
  | x :: ws, lo, hi, T => by
    show ((daysOf lo hi).map (fun d => ((x.1, d), x.2)) ++ rowOn ws lo hi).filter _ = (daysOf lo (mn hi T)).map (fun d => ((x.1, d), x.2)) ++ rowOn ws lo (mn hi T)
    rw [List.filter_append]
    have ih := cut_rowOn ws lo hi T
    unfold cutR at ih
    rw [ih, ← days_cut, List.filter_map]
    rfl
theorem rowOn_nil {ws : List Cell} {lo hi : Int} (h : hi < lo) : rowOn ws lo hi = [] := by
  have := rowOn_len ws lo hi
  rw [show (hi + 1 - lo).toNat = 0 by omega, Nat.mul_zero] at this
  exact List.eq_nil_of_length_eq_zero this
theorem rowOn_some {ws : List Cell} (h : ws ≠ []) {lo hi : Int} (l : lo ≤ hi) : rowOn ws lo hi ≠ [] := fun z => by
  have := rowOn_len ws lo hi
  rw [z, List.length_nil] at this
  have w0 : 0 < ws.length := List.length_pos_iff.mpr h
  have : 0 < ws.length * (hi + 1 - lo).toNat := Nat.mul_pos w0 (by omega)
  omega
theorem mem_span {ws : List Cell} {s : Span} {ρ : RowD} : ρ ∈ spanRows ws s ↔ ∃ b, s.1 ≤ b ∧ b ≤ mn s.2.1 s.2.2 ∧ ρ = rowOn ws b s.2.2 := by
  unfold spanRows
  rw [List.mem_map]
  constructor
  · rintro ⟨b, hb, rfl⟩
    have := mem_days.mp hb
    exact ⟨b, this.1, this.2, rfl⟩
  · rintro ⟨b, h1, h2, rfl⟩
    exact ⟨b, mem_days.mpr ⟨h1, h2⟩, rfl⟩
theorem mem_lat {R : Rt} {T : Int} {ρ : RowD} : ρ ∈ latR R T ↔ ∃ t, soon R T ≤ t ∧ t ≤ R.last ∧ ρ = rowOn R.ws (R.kind.lo t) (mn (R.kind.hi t) T) := by
  unfold latR
  rw [List.mem_map]
  constructor
  · rintro ⟨t, ht, rfl⟩
    have := mem_days.mp ht
    exact ⟨t, this.1, this.2, cut_rowOn _ _ _ _⟩
  · rintro ⟨t, h1, h2, rfl⟩
    exact ⟨t, mem_days.mpr ⟨h1, h2⟩, cut_rowOn _ _ _ _⟩
theorem mem_fut {R : Rt} {T : Int} {ρ : RowD} : ρ ∈ futR R T ↔ soon R T ≤ R.last ∧ ∃ b, R.kind.lo (soon R T) ≤ b ∧ b ≤ mn (R.kind.lo R.last) (mn (R.kind.hi (soon R T)) T) ∧ ρ = rowOn R.ws b (mn (R.kind.hi (soon R T)) T) := by
  unfold futR futS
  by_cases h : soon R T > R.last
  · rw [if_pos h]
    constructor
    · intro z
      cases z
    · rintro ⟨z, _⟩
      omega
  · rw [if_neg h, List.flatMap_cons, List.flatMap_nil, List.append_nil, mem_span]
    exact ⟨fun z => ⟨by omega, z⟩, fun z => z.2⟩
theorem soon_gt (R : Rt) (T : Int) : T < soon R T := by
  unfold soon
  split <;> omega
theorem fut_lat {R : Rt} (ne : R.ws ≠ []) {T : Int} (ρ : RowD) : ρ ∈ futR R T ↔ ρ ∈ latR R T ∧ ρ ≠ [] := by
  have sg := soon_gt R T
  rw [mem_fut, mem_lat]
  generalize soon R T = s at sg ⊢
  constructor
  · rintro ⟨hs, b, h1, h2, rfl⟩
    refine ⟨?_, rowOn_some ne (Int.le_trans h2 (mn_r _ _))⟩
    generalize R.kind = kd at h1 h2 ⊢
    cases kd with
    | tot st =>
      have h1 : st ≤ b := h1
      have h2 : b ≤ mn st (mn s T) := h2
      refine ⟨s, Int.le_refl _, hs, ?_⟩
      show rowOn R.ws b (mn s T) = rowOn R.ws st (mn s T)
      have : b = st := Int.le_antisymm (Int.le_trans h2 (mn_l _ _)) h1
      rw [this]
    | win l =>
      have h1 : (if s - l + 1 > 0 then s - l + 1 else 0) ≤ b := h1
      have h2 : b ≤ mn (if R.last - l + 1 > 0 then R.last - l + 1 else 0) (mn s T) := h2
      have h3 : b ≤ if R.last - l + 1 > 0 then R.last - l + 1 else 0 := Int.le_trans h2 (mn_l _ _)
      by_cases c : b = if s - l + 1 > 0 then s - l + 1 else 0
      · refine ⟨s, Int.le_refl _, hs, ?_⟩
        show rowOn R.ws b (mn s T) = rowOn R.ws (if s - l + 1 > 0 then s - l + 1 else 0) (mn s T)
        rw [← c]
      · refine ⟨b + l - 1, by split at h1 <;> split at c <;> omega, by split at h1 <;> split at c <;> split at h3 <;> omega, ?_⟩
        show rowOn R.ws b (mn s T) = rowOn R.ws (if b + l - 1 - l + 1 > 0 then b + l - 1 - l + 1 else 0) (mn (b + l - 1) T)
        have e1 : (if b + l - 1 - l + 1 > 0 then b + l - 1 - l + 1 else 0) = b := by
          split at h1 <;> split <;> omega
        have e2 : mn (b + l - 1) T = mn s T := by
          rw [mn_gt (by split at h1 <;> split at c <;> omega), mn_gt sg]
        rw [e1, e2]
    | per st en =>
      have h1 : st ≤ b := h1
      have h2 : b ≤ mn st (mn (if s < en then s else en) T) := h2
      refine ⟨s, Int.le_refl _, hs, ?_⟩
      show rowOn R.ws b (mn (if s < en then s else en) T) = rowOn R.ws st (mn (if s < en then s else en) T)
      have : b = st := Int.le_antisymm (Int.le_trans h2 (mn_l _ _)) h1
      rw [this]
  · rintro ⟨⟨t, h1, h2, rfl⟩, hne⟩
    refine ⟨by omega, ?_⟩
    generalize R.kind = kd at hne ⊢
    cases kd with
    | tot st =>
      have hne : rowOn R.ws st (mn t T) ≠ [] := hne
      have e : mn t T = mn s T := by
        rw [mn_gt (by omega), mn_gt sg]
      rw [e] at hne
      have c : st ≤ mn s T := Int.not_lt.mp fun z => hne (rowOn_nil z)
      refine ⟨st, Int.le_refl _, ?_, ?_⟩
      · exact le_mn (Int.le_refl _) c
      · show rowOn R.ws st (mn t T) = rowOn R.ws st (mn s T)
        rw [e]
    | win l =>
      have hne : rowOn R.ws (if t - l + 1 > 0 then t - l + 1 else 0) (mn t T) ≠ [] := hne
      have e : mn t T = mn s T := by
        rw [mn_gt (by omega), mn_gt sg]
      rw [e] at hne
      have c : (if t - l + 1 > 0 then t - l + 1 else 0) ≤ mn s T := Int.not_lt.mp fun z => hne (rowOn_nil z)
      refine ⟨if t - l + 1 > 0 then t - l + 1 else 0, ?_, ?_, ?_⟩
      · show (if s - l + 1 > 0 then s - l + 1 else 0) ≤ _
        split <;> split <;> omega
      · show _ ≤ mn (if R.last - l + 1 > 0 then R.last - l + 1 else 0) (mn s T)
        refine le_mn ?_ c
        split <;> split <;> omega
      · show rowOn R.ws (if t - l + 1 > 0 then t - l + 1 else 0) (mn t T) = rowOn R.ws _ (mn s T)
        rw [e]
    | per st en =>
      have hne : rowOn R.ws st (mn (if t < en then t else en) T) ≠ [] := hne
      have e : mn (if t < en then t else en) T = mn (if s < en then s else en) T := by
        have h : ∀ q : Int, s ≤ q → mn (if q < en then q else en) T = mn en T := fun q hq => by
          by_cases c : q < en
          · rw [if_pos c, mn_gt (by omega), mn_gt (by omega)]
          · rw [if_neg c]
        rw [h t h1, h s (Int.le_refl _)]
      rw [e] at hne
      have c : st ≤ mn (if s < en then s else en) T := Int.not_lt.mp fun z => hne (rowOn_nil z)
      refine ⟨st, Int.le_refl _, ?_, ?_⟩
      · show st ≤ mn st (mn (if s < en then s else en) T)
        exact le_mn (Int.le_refl _) c
      · show rowOn R.ws st (mn (if t < en then t else en) T) = rowOn R.ws st (mn (if s < en then s else en) T)
        rw [e]
theorem mem_need {R : Rt} (ne : R.ws ≠ []) {T : Int} (ρ : RowD) : ρ ∈ needR R T ↔ ρ ∈ futR R T ∨ (usedB R T = true ∧ ρ = rowQ R T ∧ ρ ≠ []) := by
  unfold needR needS
  rw [List.flatMap_append, List.mem_append]
  refine or_congr Iff.rfl ?_
  unfold useS
  by_cases u : usedB R T = true
  · rw [if_pos u, List.flatMap_cons, List.flatMap_nil, List.append_nil, mem_span]
    constructor
    · rintro ⟨b, h1, h2, rfl⟩
      have h1 : R.kind.lo T ≤ b := h1
      have h2 : b ≤ mn (R.kind.lo T) (R.kind.hi T) := h2
      have e : b = R.kind.lo T := Int.le_antisymm (Int.le_trans h2 (mn_l _ _)) h1
      have c : b ≤ R.kind.hi T := Int.le_trans h2 (mn_r _ _)
      refine ⟨u, by show rowOn R.ws b (R.kind.hi T) = rowOn R.ws (R.kind.lo T) (R.kind.hi T); rw [e], rowOn_some ne c⟩
    · rintro ⟨_, rfl, hne⟩
      have c : R.kind.lo T ≤ R.kind.hi T := Int.not_lt.mp fun z => hne (rowOn_nil z)
      refine ⟨R.kind.lo T, Int.le_refl _, ?_, rfl⟩
      show R.kind.lo T ≤ mn (R.kind.lo T) (R.kind.hi T)
      exact le_mn (Int.le_refl _) c
  · rw [if_neg u]
    constructor
    · intro z
      cases z
    · intro z
      exact absurd z.1 u
/-! ### how many -/
theorem lo_step {k : KindM} {s t : Int} (h : s ≤ t) : k.lo t - k.lo s ≤ t - s := by
  cases k with
  | tot a => show a - a ≤ _; omega
  | win l =>
    show (if t - l + 1 > 0 then t - l + 1 else 0) - (if s - l + 1 > 0 then s - l + 1 else 0) ≤ t - s
    split <;> split <;> omega
  | per a b => show a - a ≤ _; omega
theorem span_len (ws : List Cell) (s : Span) : (spanRows ws s).length ≤ (s.2.1 + 1 - s.1).toNat := by
  unfold spanRows
  rw [List.length_map, days_len]
  unfold mn
  split <;> omega
theorem fut_len (R : Rt) (T : Int) : (futR R T).length ≤ (R.last - R.first + 1).toNat := by
  unfold futR futS
  by_cases h : soon R T > R.last
  · rw [if_pos h]
    exact Nat.zero_le _
  · rw [if_neg h, List.flatMap_cons, List.flatMap_nil, List.append_nil]
    refine Nat.le_trans (span_len _ _) ?_
    have l := lo_step (k := R.kind) (s := soon R T) (t := R.last) (by omega)
    have sf : R.first ≤ soon R T := by unfold soon; split <;> omega
    show (R.kind.lo R.last + 1 - R.kind.lo (soon R T)).toNat ≤ _
    omega
theorem need_len (R : Rt) (T : Int) : (needR R T).length ≤ (R.last - R.first + 1).toNat + 1 := by
  unfold needR needS
  rw [List.flatMap_append, List.length_append]
  refine Nat.add_le_add (fut_len R T) ?_
  unfold useS
  split
  · rw [List.flatMap_cons, List.flatMap_nil, List.append_nil]
    refine Nat.le_trans (span_len _ _) ?_
    show (R.kind.lo T + 1 - R.kind.lo T).toNat ≤ 1
    omega
  · exact Nat.zero_le _
/-- both lists rise and have the same rows -/
theorem rows_one : ∀ {ys zs : List RowD}, ys.Pairwise (fun a b => ltR a b = true) → zs.Pairwise (fun a b => ltR a b = true) → (∀ ρ, ρ ∈ ys ↔ ρ ∈ zs) → ys = zs
  | [], [], _, _, _ => rfl
  | [], z :: zs, _, _, h => absurd ((h z).mpr List.mem_cons_self) (by simp)
  | y :: ys, [], _, _, h => absurd ((h y).mp List.mem_cons_self) (by simp)
  | y :: ys, z :: zs, h1, h2, h => by
    obtain ⟨a1, a2⟩ := List.pairwise_cons.mp h1
    obtain ⟨b1, b2⟩ := List.pairwise_cons.mp h2
    have e : y = z := by
      rcases List.mem_cons.mp ((h y).mp List.mem_cons_self) with e | m
      · exact e
      · rcases List.mem_cons.mp ((h z).mpr List.mem_cons_self) with e | m'
        · exact e.symm
        · have := ltR_trans (b1 y m) (a1 z m')
          rw [ltR_irr] at this
          cases this
    subst e
    have ny : y ∉ ys := fun m => by
      have := a1 y m
      rw [ltR_irr] at this
      cases this
    have nz : y ∉ zs := fun m => by
      have := b1 y m
      rw [ltR_irr] at this
      cases this
    rw [rows_one a2 b2 fun ρ => ⟨fun m => ?_, fun m => ?_⟩]
    · rcases List.mem_cons.mp ((h ρ).mp (List.mem_cons_of_mem _ m)) with e | m'
      · exact absurd (e ▸ m) ny
      · exact m'
    · rcases List.mem_cons.mp ((h ρ).mpr (List.mem_cons_of_mem _ m)) with e | m'
      · exact absurd (e ▸ m) nz
      · exact m'
end P37
namespace P37
open PySem PySem.Spec PyProof.Rows L2 AskG Ask
abbrev sFS : Stmt := topS 4
abbrev sRS : Stmt := topS 5
abbrev NFS : List Str := ["right", "day", "soonest", "latest", "low", "high", "last"]
abbrev NRS : List Str := ["right", "spans", "rows", "low", "last", "high", "begin"]
theorem scFS : FnScope NFS ["right", "day"] (defScope sFS) := ⟨rfl, rfl, rfl, by decide +kernel, rfl, by decide +kernel, by decide +kernel⟩
theorem scRS : FnScope NRS ["right", "spans"] (defScope sRS) := ⟨rfl, rfl, rfl, by decide +kernel, rfl, by decide +kernel, by decide +kernel⟩
def SpanAt (H : Hp) (b : Addr) (s : Span) : Prop := H b = some (.tup [.int s.1, .int s.2.1, .int s.2.2])
theorem SpanAt.keep {H H' : Hp} {b : Addr} {s : Span} (h : SpanAt H b s) (k : KeepT H H') : SpanAt H' b s := k _ _ h
def SpansAt (H : Hp) (p : Addr) (S : List Span) : Prop := ∃ bs : List Addr, H p = some (.lst (bs.map V.ref)) ∧ Paired (SpanAt H) bs S
structure SpanOk (s : Span) : Prop where
  l0 : 0 ≤ s.1
  l1 : s.1 ≤ 30
  h0 : 0 ≤ s.2.2
  h1 : s.2.2 ≤ 9
  l2 : 0 ≤ s.2.1
section
variable {P : Program} {w : World} {K : PySem.W.Frag} {mg : Str → Option Value} {base : Heap}
variable {fU fA fR fS : Addr} {fdU fdA fdR fdS : FuncData}
def prSpans (S : Rt → Int → List Span) : Pr := fun vs H Q => ∃ (a : Addr) (R : Rt) (T : Int), vs = [.ref a, .int T] ∧ RightAt H a R ∧ ∀ H' p, Same H H' → H p = none → SpansAt H' p (S R T) → Q (.ref p) H'
theorem ok_fs {f : Addr} {fd : FuncData} {k : Nat} (F : Fun K "future_spans" "future_spans" sFS f fd)
    (FA : Fun K "asked_days" "asked_days" sAsked fA fdA) (bA : Binds K fdA ["right", "day"] []) (gA : mg "asked_days" = some (.ref fA)) (mx : mg "max" = none) (mn' : mg "min" = none) : FnX P w K mg base (k + 2) f fd ["right", "day"] (quiet (prSpans futS)) := by
  have GA : FnX P w K mg base (k + 1) fA fdA ["right", "day"] (quiet prAsked) := ok_asked FA mx mn'
  refine okN F scFS (fun vs H Q h => ?_) (fun cdv A outer s H E vs Q hr h => ?_)
  · obtain ⟨_, _, _, rfl, _⟩ := h
    rfl
  · obtain ⟨a, R, T, rfl, hR, q⟩ := h
    have big := sizeBig
    obtain ⟨wa, ps, ka, h1, h2, h3, h4⟩ := id hR
    refine ⟨_, pss_cons (ps_par (by rfl) scFS.nd (i := 2) (j := 3) rfl rfl (by decide) rfl rfl (pa_cons (pe_callB (call_max2 rfl) (by rfl) mx (by decide +kernel) (pa_cons (pe_ix (ix_tup : IxR _ (rIxT K)) (pv 0) pe_int (fun _ _ => rfl)) (pa_cons (pe_op op_add (pv 1) pe_int) pa_nil))) (pa_cons (pe_ix (ix_tup : IxR _ (rIxT K)) (pv 0) pe_int (fun _ _ => rfl)) pa_nil)) (by rfl))
      (pss_cons (ps_if (pt_cmpR op_gt (pv 2) (pv 3) (nomark _)) (pss_one (ps_ret (pe_lst pa_nil))) pss_nil)
      (pss_cons (ps_asg (pe_n GA hr (by rfl) gA FA.kp bA (pa_cons (pv 0) (pa_cons (pv 2) pa_nil))) (pg_tup (by rfl) (pgs_cons (pg_name (i := 4) scFS.nd rfl (.inl rfl)) (pgs_cons (pg_name (i := 5) scFS.nd rfl (.inl rfl)) pgs_nil))))
      (pss_cons (ps_set (i := 6) scFS.nd rfl (.inl rfl) (pe_ix (ix_tup : IxR _ (rIxT K)) (pe_n GA hr (by rfl) gA FA.kp bA (pa_cons (pv 0) (pa_cons (pv 3) pa_nil))) pe_int (fun _ _ => rfl)))
      (pss_one (ps_ret (pe_lst (pa_cons (pe_tup (pa_cons (pv 4) (pa_cons (pv 6) (pa_cons (pe_callB (call_min2 rfl) (by rfl) mn' (by decide +kernel) (pa_cons (pv 5) (pa_cons (pv 1) pa_nil))) pa_nil)))) pa_nil))))))), ?_⟩
    refine iSeq ⟨.ref a, rfl, a, _, _, _, rfl, rfl, sqT h1, atI_nat (j := 2) rfl, .int T, rfl, T, 1, rfl, rfl, R.first, T + 1, rfl, .ref a, rfl, a, _, _, _, rfl, rfl, sqT h1, atI_nat (j := 3) rfl, _, _, rfl, ?_⟩
    dsimp only
    show _
    have es : (if T + 1 > R.first then T + 1 else R.first) = soon R T := rfl
    rw [es]
    refine iSeq ⟨.int (soon R T), rfl, .int R.last, rfl, soon R T, R.last, rfl, rfl, _, rfl, ?_⟩
    have ef : futS R T = if soon R T > R.last then [] else [(R.kind.lo (soon R T), R.kind.lo R.last, mn (R.kind.hi (soon R T)) T)] := rfl
    by_cases e : R.last < soon R T
    · rw [decide_eq_true e]
      rw [if_pos e] at ef
      refine iteT (iRet ⟨Nat.zero_le _, fun p hp => q _ p (same_new hp) hp ⟨[], upd_same, ?_⟩⟩)
      rw [ef]
      exact .nil
    · rw [decide_eq_false e]
      rw [if_neg e] at ef
      refine iteF (iNext ?_)
      dsimp only
      refine iSeq (iAsg ⟨.ref a, rfl, .int (soon R T), rfl, a, R, soon R T, rfl, hR, fun p hp => ?_⟩)
      have s1 := same_new (o := .tup [.int (R.kind.lo (soon R T)), .int (R.kind.hi (soon R T))]) hp
      refine ⟨p, _, rfl, sqT upd_same, rfl, _, _, rfl, _, _, rfl, rfl, ?_⟩
      dsimp only
      refine iSeq (iAsg ⟨.ref a, rfl, .int R.last, rfl, a, R, R.last, rfl, hR.keep (KeepT.of s1), fun p2 hp2 => ?_⟩)
      have s2 := same_new (o := .tup [.int (R.kind.lo R.last), .int (R.kind.hi R.last)]) hp2
      refine ⟨p2, _, _, _, rfl, rfl, sqT upd_same, atI_nat (j := 0) rfl, ?_⟩
      refine iName ?_
      dsimp only
      refine iRet ⟨.int (R.kind.lo (soon R T)), rfl, .int (R.kind.lo R.last), rfl, .int (R.kind.hi (soon R T)), rfl, .int T, rfl, R.kind.hi (soon R T), T, rfl, by show 3 ≤ sizeLine; omega, fun b hb => ⟨by show 1 ≤ sizeLine; omega, fun l hl => ?_⟩⟩
      have s3 := same_new (o := .tup [.int (R.kind.lo (soon R T)), .int (R.kind.lo R.last), .int (if T < R.kind.hi (soon R T) then T else R.kind.hi (soon R T))]) hb
      have s4 := same_new (o := .lst [.ref b]) hl
      have all := ((s1.trans s2).trans s3).trans s4
      have hn : H l = none := by
        cases e : H l with
        | none => rfl
        | some o =>
          have := (((s1.trans s2).trans s3) _ _ e)
          rw [this] at hl
          cases hl
      refine q _ l all hn ⟨[b], upd_same, ?_⟩
      rw [ef]
      exact .cons (s4 _ _ upd_same) .nil
theorem fresh_of {H H' : Hp} {p : Addr} (s : Same H H') (h : H' p = none) : H p = none := by
  cases e : H p with
  | none => rfl
  | some o =>
    rw [s _ _ e] at h
    cases h
end
end P37
/-! AskWa: the walk over a tuple, a list, a range, told once for loops of comprehensions of any shape. -/
namespace Ask
open PySem PySem.Spec PyProof.Rows L2 AskG
/-- what a loop over J asks: it begins at H0, each turn is Body, the end is Qd -/
def Loops (J : It) (H0 : Hp) (Qd : Hp → Prop) (Body : V → Hp → (Hp → Prop) → Prop) : Prop :=
  ∃ W : Nat → Nat → Hp → Prop, (∃ m, W 0 m H0) ∧ ∀ i m H, W i m H →
    (J.stop i H ∧ Qd H) ∨ (J.go i H ∧ ∃ Nx : Hp → Prop, (∀ H', Nx H' → ∃ m', m' < m ∧ W (i + 1) m' H') ∧ ∀ x H', J.yld i H x H' → Body x H' Nx)
section
variable {K : PySem.W.Frag} {a : Addr} {xs : List V} {H0 : Hp} {Qd : Hp → Prop} {Body : V → Hp → (Hp → Prop) → Prop}
theorem loop_tup (Pv : Nat → Hp → Prop) (h0 : Pv 0 H0) (hl : ∀ i H, Pv i H → SqT K H a xs) (hs : ∀ i x H, xs[i]? = some x → Pv i H → Body x H (Pv (i + 1))) (hd : ∀ H, Pv xs.length H → Qd H) : Loops (Itt K a) H0 Qd Body := by
  refine ⟨fun i m H => m + i = xs.length ∧ Pv i H, ⟨xs.length, Nat.add_zero _, h0⟩, fun i m H h => ?_⟩
  obtain ⟨e, p⟩ := h
  have q := hl i H p
  cases m with
  | zero =>
    have e : i = xs.length := by omega
    subst e
    exact .inl ⟨⟨xs, q, Nat.le_refl _⟩, hd H p⟩
  | succ m =>
    have lt : i < xs.length := by omega
    refine .inr ⟨⟨xs, xs[i], q, List.getElem?_eq_getElem lt⟩, Pv (i + 1), fun H' p' => ⟨m, Nat.lt_succ_self _, by omega, p'⟩, fun x H' y => ?_⟩
    obtain ⟨rfl, y⟩ := y
    exact hs i x _ (y xs q) p
theorem loop_lst (Pv : Nat → Hp → Prop) (h0 : Pv 0 H0) (hl : ∀ i H, Pv i H → SqL K H a xs) (hs : ∀ i x H, xs[i]? = some x → Pv i H → Body x H (Pv (i + 1))) (hd : ∀ H, Pv xs.length H → Qd H) : Loops (Itl K a) H0 Qd Body := by
  refine ⟨fun i m H => m + i = xs.length ∧ Pv i H, ⟨xs.length, Nat.add_zero _, h0⟩, fun i m H h => ?_⟩
  obtain ⟨e, p⟩ := h
  have q := hl i H p
  cases m with
  | zero =>
    have e : i = xs.length := by omega
    subst e
    exact .inl ⟨⟨xs, q, Nat.le_refl _⟩, hd H p⟩
  | succ m =>
    have lt : i < xs.length := by omega
    refine .inr ⟨⟨xs, xs[i], q, List.getElem?_eq_getElem lt⟩, Pv (i + 1), fun H' p' => ⟨m, Nat.lt_succ_self _, by omega, p'⟩, fun x H' y => ?_⟩
    obtain ⟨rfl, y⟩ := y
    exact hs i x _ (y xs q) p
theorem loop_rg {lo : Int} {n : Nat} (Pv : Nat → Hp → Prop) (h0 : Pv 0 H0) (hs : ∀ (i : Nat) H, i < n → Pv i H → Body (.int (lo + (i : Int))) H (Pv (i + 1))) (hd : ∀ H, Pv n H → Qd H) : Loops (Itr lo n) H0 Qd Body := by
  refine ⟨fun i m H => m + i = n ∧ Pv i H, ⟨n, Nat.add_zero _, h0⟩, fun i m H h => ?_⟩
  obtain ⟨e, p⟩ := h
  cases m with
  | zero =>
    have e : i = n := by omega
    subst e
    exact .inl ⟨Nat.le_refl _, hd H p⟩
  | succ m =>
    have lt : i < n := by omega
    refine .inr ⟨lt, Pv (i + 1), fun H' p' => ⟨m, Nat.lt_succ_self _, by omega, p'⟩, fun x H' y => ?_⟩
    obtain ⟨rfl, rfl⟩ := y
    exact hs i _ lt p
end
/-! ### the keys of a dict of nested keys -/
/-- the dict at a, the object o -/
def DicFO (P : Program) (w : World) (a : Addr) (o : Obj) (L : List KA) : HO := .ext fun h => h.get? a = some o ∧ DicK0 P w h a L
def Itn (P : Program) (w : World) (d : Addr) (o : Obj) (L : List KA) : It where
  go := fun i H => H d = some (DicFO P w d o L) ∧ i < L.length
  yld := fun i H x H' => H' = H ∧ ∃ p, L[i]? = some p ∧ x = .ref p.1
  stop := fun i H => H d = some (DicFO P w d o L) ∧ L.length ≤ i
theorem dicF_at {P : Program} {w : World} {H : Hp} {h : Heap} {d : Addr} {o : Obj} {L : List KA} {es : Array DictEntry} {ep : Nat} (ok : HOk P w H h) (e : H d = some (DicFO P w d o L)) (hod : o.data = .dict es ep) :
    h.get? d = some o ∧ es.size = L.length ∧ ∀ (i : Nat) (p : KA), L[i]? = some p → ∃ en : DictEntry, es[i]? = some en ∧ en.key = .ref p.1 := by
  obtain ⟨g, sy, o', es', ep', ho, hx, hd, he, hn⟩ := (show h.get? d = some o ∧ DicK0 P w h d L from (ok d _ e).1)
  obtain rfl : o = o' := Option.some.inj (g.symm.trans ho)
  obtain ⟨rfl, rfl⟩ := dict_ep hod hd
  have sz : es'.size = L.length := by rw [size_of_entries he, List.length_map]
  refine ⟨g, sz, fun i p hp => ?_⟩
  have z := entry_at he i
  rw [List.getElem?_map, hp] at z
  exact ⟨_, z, rfl⟩
theorem turn_n {P : Program} {w : World} {K : PySem.W.Frag} {tg : Expr} {d it : Addr} {o : Obj} {L : List KA} {es : Array DictEntry} {ep : Nat} (hod : o.data = .dict es ep) :
    Turn P w K tg (Itn P w d o L) [it] it (fun i h => h.IsKeyIter it d i L.length ep) where
  mem := List.mem_singleton.mpr rfl
  obj := fun i h k b hb => by
    rw [List.mem_singleton.mp hb]
    obtain ⟨x, hx, _, hf⟩ := k
    refine ⟨x, hx, fun v z => ?_⟩
    rw [hf] at z
    cases z
  keep := fun i h h' k st => k.at fun x e => st it (List.mem_singleton.mpr rfl) x e
  item := by
    intro X eP eW eK calm i pins s σ H E I fine key g
    subst eP eW eK
    obtain ⟨gd, sz, at'⟩ := dicF_at I.hok g.1 hod
    obtain ⟨p, hp⟩ : ∃ p, L[i]? = some p := ⟨_, List.getElem?_eq_getElem g.2⟩
    obtain ⟨en, hen, hk⟩ := at' i p hp
    obtain ⟨y0, y1, y2, y3, y4, y5⟩ := fine it (List.mem_singleton.mpr rfl)
    refine next_key_item key gd hod sz hen fun hh key' same => ?_
    have J := I.turned (t' := s.toks) (fun b x nb e => (same.2 b nb).trans e) y0 y1 y3 y4 y5
    obtain ⟨x, hx, hc, hf⟩ := id key'
    refine ⟨en.key, rfl, ?_⟩
    refine go_of (s := { s with heap := hh }) hx hc hf (by decide) ?_
    exact ⟨.ref p.1, H, J, by rw [hk]; rfl, ⟨rfl, p, hp, rfl⟩, key', fun b hb => (fine b hb).1⟩
  done := by
    intro X eP eW eK calm i pins s σ H E I fine key g
    subst eP eW eK
    obtain ⟨gd, sz, _⟩ := dicF_at I.hok g.1 hod
    obtain ⟨y0, y1, y2, y3, y4, y5⟩ := fine it (List.mem_singleton.mpr rfl)
    refine next_key_end (I.ok.hd calm) key gd hod sz g.2 fun hh eb => ⟨rfl, ?_⟩
    exact I.turned (t' := s.toks) (fun b x nb e => eb b x nb e) y0 y1 y3 y4 y5
  self := fun A i s Q E key q => by
    refine wpAny_pyIter_slot key.typeIs F.slot_dict_keyiterator_iter ?_
    refine wpAny_call_entry F.slot_dict_keyiterator_iter key.typeIs F.entry_dict_keyiterator_iter ?_ (F.args_dict_keyiterator_iter_1 _)
    exact wpAny_pure ⟨_, rfl, "dict_keyiterator", _, key.typeIs, F.slot_dict_keyiterator_next.lookup, q⟩
/-- for k in d -/
def iKeysN (P : Program) (w : World) (td : TE) : TI := fun σ H R => td σ H fun x H1 => ∃ d L, x = .ref d ∧ H1 d = some (DicKO P w d L) ∧ ∀ o, R (Itn P w d o L) (upd H1 d (DicFO P w d o L))
theorem pi_keysN {X : Cx} {tg e : Expr} {td : TE} (he : PE X e td) : PI X tg e (iKeysN X.prog X.w td) := by
  constructor
  intro pins s σ H R I h
  refine thn (he.run pins s σ H _ I h) fun u s1 q1 => ?_
  obtain ⟨x, H1, I1, rx, d, L, ex, hd, q⟩ := q1
  subst ex
  obtain rfl : u = Value.ref d := rx
  have S : DicK0 X.prog X.w s1.heap d L := (I1.hok d _ hd).1
  obtain ⟨sy, o, es, ep, ho, hx, hdt, hes, hn⟩ := id S
  have I2 : Inv X pins σ (upd H1 d (DicFO X.prog X.w d o L)) s1 := by
    refine I1.write (h' := s1.heap) (e := d) (t' := s1.toks) (by rw [hd]; trivial) (.inl rfl) (fun b x _ e => e) ⟨o, ho⟩ ⟨⟨ho, S⟩, ⟨o, ho⟩, fun h1 h2 p k => ?_⟩
    obtain ⟨g1, sy', o', es', ep', ho', r'⟩ := (show h1.get? d = some o ∧ DicK0 X.prog X.w h1 d L from p)
    exact ⟨k o g1, sy', o', es', ep', k o' ho', r'⟩
  refine iter_keys sy ho hx hdt ?_
  refine pi_one (tk := s1.toks) I2 _ (turn_n hdt) ⟨_, Heap.get?_push_size _ rfl, rfl, ?_⟩ (q o)
  rw [size_of_entries hes, List.length_map] <;> rfl
section
variable {P : Program} {w : World} {d : Addr} {o : Obj} {L : List KA} {H0 : Hp} {Qd : Hp → Prop} {Body : V → Hp → (Hp → Prop) → Prop}
theorem loop_keys (Pv : Nat → Hp → Prop) (h0 : Pv 0 H0) (hl : ∀ i H, Pv i H → H d = some (DicFO P w d o L)) (hs : ∀ i p H, L[i]? = some p → Pv i H → Body (.ref p.1) H (Pv (i + 1))) (hd : ∀ H, Pv L.length H → Qd H) : Loops (Itn P w d o L) H0 Qd Body := by
  refine ⟨fun i m H => m + i = L.length ∧ Pv i H, ⟨L.length, Nat.add_zero _, h0⟩, fun i m H h => ?_⟩
  obtain ⟨e, p⟩ := h
  cases m with
  | zero =>
    have e : i = L.length := by omega
    subst e
    exact .inl ⟨⟨hl _ H p, Nat.le_refl _⟩, hd H p⟩
  | succ m =>
    have lt : i < L.length := by omega
    refine .inr ⟨⟨hl i H p, lt⟩, Pv (i + 1), fun H' p' => ⟨m, Nat.lt_succ_self _, by omega, p'⟩, fun x H' y => ?_⟩
    obtain ⟨rfl, k, hk, rfl⟩ := y
    exact hs i k _ hk p
end
end Ask
namespace P37
open PySem PySem.Spec PyProof.Rows L2 AskG Ask
theorem RowAt.keepT {H H' : Hp} {b : Addr} {ρ : RowD} (h : RowAt H b ρ) (k : KeepT H H') : RowAt H' b ρ := h.keep k
theorem span_at {ws : List Cell} {s : Span} {j : Nat} (h : j < (mn s.2.1 s.2.2 + 1 - s.1).toNat) : (spanRows ws s)[j]? = some (rowOn ws (s.1 + (j : Int)) s.2.2) := by
  unfold spanRows daysOf
  rw [List.getElem?_map, List.getElem?_map, List.getElem?_range h]
  rfl
theorem span_n (ws : List Cell) (s : Span) : (spanRows ws s).length = (mn s.2.1 s.2.2 + 1 - s.1).toNat := by
  unfold spanRows
  rw [List.length_map, days_len]
theorem SpanOk.few {s : Span} (h : SpanOk s) : (mn s.2.1 s.2.2 + 1 - s.1).toNat ≤ 10 := by
  obtain ⟨a, b, c, d, _⟩ := h
  unfold mn
  split <;> omega
section
variable {P : Program} {w : World} {K : PySem.W.Frag} {mg : Str → Option Value} {base : Heap}
variable {fR : Addr} {fdR : FuncData}
def prRS : Pr := fun vs H Q => ∃ (a l : Addr) (R : Rt) (S : List Span), vs = [.ref a, .ref l] ∧ RightAt H a R ∧ R.ws.length ≤ 3 ∧ SpansAt H l S ∧ S.length ≤ 2 ∧ (∀ s ∈ S, SpanOk s) ∧
  ∀ H' p bs, Same H H' → H' p = some (.lst (bs.map V.ref)) → Paired (RowAt H') bs (S.flatMap (spanRows R.ws)) → Q (.ref p) H'
theorem flat_snoc' {ws : List Cell} {S : List Span} {i : Nat} {s : Span} (h : S[i]? = some s) : (S.take (i + 1)).flatMap (spanRows ws) = (S.take i).flatMap (spanRows ws) ++ spanRows ws s := by
  rw [List.take_add_one, h, List.flatMap_append]
  show _ ++ (spanRows ws s ++ []) = _
  rw [List.append_nil]
theorem flat_few {ws : List Cell} {S : List Span} (h : ∀ s ∈ S, SpanOk s) : (S.flatMap (spanRows ws)).length ≤ S.length * 10 := by
  induction S with
  | nil => exact Nat.zero_le _
  | cons s S ih =>
    rw [List.flatMap_cons, List.length_append, span_n, List.length_cons, Nat.succ_mul]
    have h1 := (h s List.mem_cons_self).few
    have h2 := ih fun x hx => h x (List.mem_cons_of_mem _ hx)
    omega
theorem ok_rs {f : Addr} {fd : FuncData} {k : Nat} (F : Fun K "rows_of_spans" "rows_of_spans" sRS f fd)
    (FR : Fun K "row_on_days" "row_on_days" sOnDays fR fdR) (bR : Binds K fdR ["right", "low", "high"] []) (gR : mg "row_on_days" = some (.ref fR))
    (mt : mg "tuple" = none) (mr : mg "range" = none) (mn' : mg "min" = none) : FnX P w K mg base (k + 2) f fd ["right", "spans"] (quiet prRS) := by
  have GR : FnX P w K mg base (k + 1) fR fdR ["right", "low", "high"] (quiet prOnDays) := ok_onDays FR mt mr
  refine okN F scRS (fun vs H Q h => ?_) (fun cdv A outer s H E vs Q hr h => ?_)
  · obtain ⟨_, _, _, _, rfl, _⟩ := h
    rfl
  · obtain ⟨a, l, R, S, rfl, hR, l3, ⟨sp, hl, hsp⟩, s2, sok, q⟩ := h
    have big := sizeBig
    refine ⟨_, pss_cons (ps_set (i := 2) scRS.nd rfl (.inl rfl) (pe_lst pa_nil))
      (pss_cons (ps_for PassesOwn.never rfl (pi_list (pv 1)) (pg_tup rfl (pgs_cons (pg_name (i := 3) scRS.nd rfl (.inl rfl)) (pgs_cons (pg_name (i := 4) scRS.nd rfl (.inl rfl)) (pgs_cons (pg_name (i := 5) scRS.nd rfl (.inr rfl)) pgs_nil))))
        (pss_one (ps_expr (pe_bm PySem.F.plainAttrs_list PySem.F.slot_list_extend PySem.F.type_list_extend mt_extend (pv 2) (pa_cons
          (pe_lc (own := [("begin", 6)]) (g := gName 6) (tt := tYes) rfl scRS.nd (pi_range2 (by rfl) mr (pa_cons (pv 3) (pa_cons (pe_op op_add (pe_callB (call_min2 rfl) (by rfl) mn' (by decide +kernel) (pa_cons (pv 4) (pa_cons (pv 5) pa_nil))) pe_int) pa_nil)))
            (blkOk_by (N := NRS) (sc := defScope sRS) (by decide +kernel)) (fun _ _ _ _ _ => pg_name (i := 6) scRS.nd rfl (.inl rfl)) (fun _ _ _ _ _ => pts_nil)
            (fun _ _ _ _ _ => pe_n GR hr (by rfl) gR FR.kp bR (pa_cons (pv 0) (pa_cons (pv 6) (pa_cons (pv 5) pa_nil))))) pa_nil)))))
      (pss_one (ps_ret (pv 2)))), ?_⟩
    refine iSeq (iAsg ⟨Nat.zero_le _, fun Lr hLr => ?_⟩)
    have s1 := same_new (o := .lst []) hLr
    refine iName ?_
    dsimp only
    have nl : l ≠ Lr := ne_of_none hl hLr
    refine iSeq ?_
    refine ⟨.ref l, rfl, l, rfl, ⟨_, sqL (s1 _ _ hl)⟩, ?_⟩
    refine for_list (xs := sp.map V.ref) (fun i σ' H' => (∃ x3 x4 x5, σ' = [some (.ref a), some (.ref l), some (.ref Lr), x3, x4, x5, none]) ∧ Same H H' ∧ ∃ bs, H' Lr = some (.lst (bs.map V.ref)) ∧ Paired (RowAt H') bs ((S.take i).flatMap (spanRows R.ws)))
      ⟨⟨_, _, _, rfl⟩, s1, [], upd_same, .nil⟩ (fun i σ' H' _ h => sqL (h.2.1 _ _ hl)) (fun i x σ' H' hx h => ?_) (fun σ' H' h => ?_)
    · obtain ⟨⟨x3, x4, x5, rfl⟩, sm, bs, hbs, hbb⟩ := h
      rw [List.getElem?_map] at hx
      obtain ⟨pi, hpi, rfl⟩ := Option.map_eq_some_iff.mp hx
      obtain ⟨s0, hs0, hs⟩ := paired_at' hsp hpi
      have so := sok s0 (List.mem_of_getElem? hs0)
      have few := so.few
      obtain ⟨o1, o2, o3, o4, o5⟩ := id so
      have mn0 : 0 ≤ mn s0.2.1 s0.2.2 := le_mn o5 o3
      have mnb : mn s0.2.1 s0.2.2 ≤ 9 := by
        unfold mn
        split <;> omega
      refine ⟨pi, _, rfl, sqT (sm _ _ hs), rfl, .int s0.1, _, rfl, .int s0.2.1, _, rfl, .int s0.2.2, _, rfl, rfl, ?_⟩
      dsimp only
      refine iDrop' ⟨.ref Lr, rfl, .inl ⟨rfl, _, sqL hbs⟩, ?_⟩
      refine ⟨.int s0.1, rfl, .int s0.2.1, rfl, .int s0.2.2, rfl, s0.2.1, s0.2.2, rfl, mn s0.2.1 s0.2.2, 1, rfl, rfl, s0.1, mn s0.2.1 s0.2.2 + 1, rfl, ⟨by omega, by omega, by omega, by omega⟩, fun D hD => ?_⟩
      refine loop_rg (lo := s0.1) (n := (mn s0.2.1 s0.2.2 + 1 - s0.1).toNat) (fun j H2 => Same H' H2 ∧ ∃ cs, H2 D = some (.lst (cs.map V.ref)) ∧ Paired (RowAt H2) cs ((spanRows R.ws s0).take j)) ⟨same_new hD, [], upd_same, by rw [List.take_zero]; exact .nil⟩ (fun j H2 hj h => ?_) (fun H2 h => ?_)
      · obtain ⟨sm2, cs, hcs, hcc⟩ := h
        have cl := Paired.length hcc
        rw [List.length_take] at cl
        refine ⟨wipe1, iYes (iteT ?_)⟩
        refine ⟨.ref a, rfl, .int (s0.1 + (j : Int)), rfl, .int s0.2.2, rfl, a, R, s0.1 + (j : Int), s0.2.2, rfl, (hR.keep (KeepT.of sm)).keep (KeepT.of sm2), l3, by omega, by omega, by omega, by omega, fun H3 p s3 hp => ?_⟩
        have hDp := s3 _ _ hcs
        refine ⟨_, hDp, by rw [List.length_map]; omega, fun b o e => ?_, cs ++ [p], by rw [upd_same, List.map_append]; rfl, ?_⟩
        · rw [upd_ne (ne_of_none e hD)]
          exact s3 _ _ (sm2 _ _ e)
        · have kp : KeepT _ (upd _ D (.lst (cs.map V.ref ++ [.ref p]))) := KeepT.put hDp fun _ z => nomatch z
          rw [List.take_add_one, span_at hj]
          exact Paired.snoc (Paired.mapP hcc fun _ _ z => (z.keep (KeepT.of s3)).keep kp) (hp.keep kp)
      · obtain ⟨sm2, cs, hcs, hcc⟩ := h
        rw [← span_n R.ws, List.take_length] at hcc
        have cl := Paired.length hcc
        rw [span_n] at cl
        have bl := Paired.length hbb
        have fw := flat_few (ws := R.ws) (S := S.take i) fun x hx => sok x (List.mem_of_mem_take hx)
        rw [List.length_take] at fw
        refine ⟨Lr, D, bs.map V.ref, cs.map V.ref, rfl, rfl, sm2 _ _ hbs, hcs, by rw [List.length_map, List.length_map]; omega, ?_⟩
        have kp : KeepT _ (upd _ Lr (.lst (bs.map V.ref ++ cs.map V.ref))) := KeepT.put (sm2 _ _ hbs) fun _ z => nomatch z
        refine ⟨⟨_, _, _, rfl⟩, fun b o e => ?_, bs ++ cs, by rw [upd_same, List.map_append], ?_⟩
        · rw [upd_ne (ne_of_none e hLr)]
          exact sm2 _ _ (sm _ _ e)
        · rw [flat_snoc' hs0]
          exact paired_app (Paired.mapP hbb fun _ _ z => (z.keep (KeepT.of sm2)).keep kp) (Paired.mapP hcc fun _ _ z => z.keep kp)
    · obtain ⟨⟨x3, x4, x5, rfl⟩, sm, bs, hbs, hbb⟩ := h
      dsimp only
      rw [List.length_map, Paired.length hsp, List.take_length] at hbb
      exact iRet ⟨.ref Lr, rfl, q _ Lr bs sm hbs hbb⟩
end
end P37
namespace P37
open PySem PySem.Spec PyProof.Rows L2 AskG Ask
abbrev sFR : Stmt := topS 6
abbrev NFR : List Str := ["rights", "day", "name", "right", "row"]
theorem scFR : FnScope NFR ["rights", "day"] (defScope sFR) := ⟨rfl, rfl, rfl, by decide +kernel, rfl, by decide +kernel, by decide +kernel⟩
def NamedAt (H : Hp) (p : Addr) (x : Str × Rt) : Prop := ∃ r, H p = some (.tup [.str x.1, .ref r]) ∧ RightAt H r x.2
theorem NamedAt.keep {H H' : Hp} {p : Addr} {x : Str × Rt} (h : NamedAt H p x) (k : KeepT H H') : NamedAt H' p x := by
  obtain ⟨r, h1, h2⟩ := h
  exact ⟨r, k _ _ h1, h2.keep k⟩
def RightsAt (H : Hp) (a : Addr) (rs : List (Str × Rt)) : Prop := ∃ ps : List Addr, H a = some (.tup (ps.map V.ref)) ∧ Paired (NamedAt H) ps rs
theorem RightsAt.keep {H H' : Hp} {a : Addr} {rs : List (Str × Rt)} (h : RightsAt H a rs) (k : KeepT H H') : RightsAt H' a rs := by
  obtain ⟨ps, h1, h2⟩ := h
  exact ⟨ps, k _ _ h1, Paired.mapP h2 fun _ _ z => z.keep k⟩
def TupRows (H : Hp) (p : Addr) (ys : List RowD) : Prop := ∃ bs : List Addr, H p = some (.tup (bs.map V.ref)) ∧ Paired (RowAt H) bs ys
theorem TupRows.keep {H H' : Hp} {p : Addr} {ys : List RowD} (h : TupRows H p ys) (k : KeepT H H') : TupRows H' p ys := by
  obtain ⟨bs, h1, h2⟩ := h
  exact ⟨bs, k _ _ h1, Paired.mapP h2 fun _ _ z => z.keep k⟩
/-- rights that a law draws -/
structure RsOk (rs : List (Str × Rt)) (m : Nat) : Prop where
  all : ∀ x ∈ rs, RtOk x.2 ∧ RtDay x.2 ∧ NamesUp x.2.ws ∧ (x.2.last - x.2.first + 1).toNat + 1 ≤ m
  few : rs.length * m ≤ 30
  m1 : 1 ≤ m
def Strict (ys : List RowD) : Prop := ys.Pairwise fun a b => ltR a b = true
def prRows (S : Rt → Int → List RowD) : Pr := fun vs H Q => ∃ (a : Addr) (rs : List (Str × Rt)) (T : Int) (m : Nat), vs = [.ref a, .int T] ∧ RightsAt H a rs ∧ RsOk rs m ∧ 0 ≤ T ∧ T ≤ 9 ∧
  ∀ H' p ys, Same H H' → TupRows H' p ys → Strict ys → (∀ ρ, ρ ∈ ys ↔ ∃ x ∈ rs, ρ ∈ S x.2 T) → ys.length ≤ 30 → Q (.ref p) H'
theorem futS_ok {R : Rt} (h : RtOk R) (d : RtDay R) {T : Int} (t0 : 0 ≤ T) (t9 : T ≤ 9) : (futS R T).length ≤ 1 ∧ ∀ s ∈ futS R T, SpanOk s := by
  unfold futS
  have sg := soon_gt R T
  by_cases c : soon R T > R.last
  · rw [if_pos c]
    exact ⟨Nat.zero_le _, fun s hs => absurd hs (by simp)⟩
  · rw [if_neg c]
    refine ⟨Nat.le_refl _, fun s hs => ?_⟩
    rw [List.mem_singleton.mp hs]
    have l9 := d.l9
    obtain ⟨b1, b2, b3, b4⟩ := kind_bounds h.kind (t := soon R T) (by omega) (by omega)
    have b5 := (kind_bounds h.kind (t := R.last) h.l0 l9).1
    refine ⟨b1, b2, ?_, ?_, b5⟩
    · show 0 ≤ mn (R.kind.hi (soon R T)) T
      unfold mn
      split <;> omega
    · show mn (R.kind.hi (soon R T)) T ≤ 9
      unfold mn
      split <;> omega
theorem needS_ok {R : Rt} (h : RtOk R) (d : RtDay R) {T : Int} (t0 : 0 ≤ T) (t9 : T ≤ 9) : (needS R T).length ≤ 2 ∧ ∀ s ∈ needS R T, SpanOk s := by
  obtain ⟨f1, f2⟩ := futS_ok h d t0 t9
  unfold needS useS
  obtain ⟨b1, b2, b3, b4⟩ := kind_bounds h.kind t0 t9
  refine ⟨?_, fun s hs => ?_⟩
  · rw [List.length_append]
    have : (if usedB R T = true then [(R.kind.lo T, R.kind.lo T, R.kind.hi T)] else []).length ≤ 1 := by
      split
      · exact Nat.le_refl _
      · exact Nat.zero_le _
    omega
  · cases List.mem_append.mp hs with
    | inl m => exact f2 s m
    | inr m =>
      by_cases u : usedB R T = true
      · rw [if_pos u] at m
        rw [List.mem_singleton.mp m]
        exact ⟨b1, b2, b4, b3, b1⟩
      · rw [if_neg u] at m
        exact absurd m (by simp)
theorem flat_take {α β : Type} {S : α → List β} {rs : List α} {i : Nat} {x : α} (h : rs[i]? = some x) (ρ : β) : (∃ y ∈ rs.take (i + 1), ρ ∈ S y) ↔ (∃ y ∈ rs.take i, ρ ∈ S y) ∨ ρ ∈ S x := by
  rw [List.take_add_one, h]
  constructor
  · rintro ⟨y, hy, m⟩
    cases List.mem_append.mp hy with
    | inl hy => exact .inl ⟨y, hy, m⟩
    | inr hy =>
      rw [List.mem_singleton.mp hy] at m
      exact .inr m
  · rintro (⟨y, hy, m⟩ | m)
    · exact ⟨y, List.mem_append_left _ hy, m⟩
    · exact ⟨x, List.mem_append_right _ (List.mem_singleton.mpr rfl), m⟩
theorem rowsIn_keep {H H' : Hp} {L : List (Addr × NestedKey)} (h : RowsIn H L) (k : KeepT H H') : RowsIn H' L := fun p hp => by
  obtain ⟨ρ, h1, h2, h3⟩ := h p hp
  exact ⟨ρ, h1, h2, h3.keep k⟩
/-- the set has the rows that M says -/
structure SetHas (w : World) (H : Hp) (D : Addr) (M : RowD → Prop) (n : Nat) : Prop where
  ex : ∃ L, H D = some (SetKO w D L) ∧ RowsIn H L ∧ (∀ ρ, rowK ρ ∈ L.map Prod.snd ↔ M ρ) ∧ L.length ≤ n
section
variable {P : Program} {w : World} {K : PySem.W.Frag} {mg : Str → Option Value} {base : Heap}
variable {fS fR : Addr} {fdS fdR : FuncData}
theorem fut_ne {R : Rt} {T : Int} {ρ : RowD} (ne : R.ws ≠ []) (h : ρ ∈ futR R T) : ρ ≠ [] := ((fut_lat ne ρ).mp h).2
theorem need_ne {R : Rt} {T : Int} {ρ : RowD} (ne : R.ws ≠ []) (h : ρ ∈ needR R T) : ρ ≠ [] := by
  rcases (mem_need ne ρ).mp h with z | z
  · exact fut_ne ne z
  · exact z.2.2
theorem ok_fr {f : Addr} {fd : FuncData} {k : Nat} (F : Fun K "future_rows" "future_rows" sFR f fd)
    (FS : Fun K "future_spans" "future_spans" sFS fS fdS) (bS : Binds K fdS ["right", "day"] []) (gS : mg "future_spans" = some (.ref fS)) (GS : FnX P w K mg base (k + 3) fS fdS ["right", "day"] (quiet (prSpans futS)))
    (FR : Fun K "rows_of_spans" "rows_of_spans" sRS fR fdR) (bR : Binds K fdR ["right", "spans"] []) (gR : mg "rows_of_spans" = some (.ref fR)) (GR : FnX P w K mg base (k + 3) fR fdR ["right", "spans"] (quiet prRS))
    (mt : mg "tuple" = none) (ms : mg "sorted" = none) : FnX P w K mg base (k + 4) f fd ["rights", "day"] (quiet (prRows futR)) := by
  refine okN F scFR (fun vs H Q h => ?_) (fun cdv A outer s H E vs Q hr h => ?_)
  · obtain ⟨_, _, _, _, rfl, _⟩ := h
    rfl
  · obtain ⟨a, rs, T, m, rfl, hRs, ok, t0, t9, q⟩ := h
    have big := sizeBig
    have hun := hr.units
    have hu8 := Nat.lt_of_le_of_lt (Nat.add_le_add_left (by decide : 8 ≤ 64) _) hun
    have hu10 := Nat.lt_of_le_of_lt (Nat.add_le_add_left (by decide : 10 ≤ 64) _) hun
    obtain ⟨ps, h1, h2⟩ := id hRs
    refine ⟨_, pss_one (ps_ret (pe_callTy call_tuple_of (by rfl) mt (by decide +kernel) (pa_cons (pe_callB (cr_sortSR rfl hu8) (by rfl) ms (by decide +kernel) (pa_cons
      (pe_sc2 (own := [("name", 2), ("right", 3), ("row", 4)]) (vs1 := [4]) (g := g2 K 2 3) (g1 := gName 4) hu10 rfl scFR.nd (pi_tup (pv 0)) (blkOk_by (N := NFR) (sc := defScope sFR) (by decide +kernel)) (by decide)
        (fun _ _ _ _ _ => pg_tup rfl (pgs_cons (pg_name (i := 2) scFR.nd rfl (.inl rfl)) (pgs_cons (pg_name (i := 3) scFR.nd rfl (.inl rfl)) pgs_nil)))
        (fun _ _ _ _ _ => (pi_list (pe_n GR hr (by rfl) gR FR.kp bR (pa_cons (pv 3) (pa_cons (pe_n GS hr (by rfl) gS FS.kp bS (pa_cons (pv 3) (pa_cons (pv 1) pa_nil))) pa_nil))) : PI _ _ _ (iList K _)))
        (fun _ _ _ _ _ => pg_name (i := 4) scFR.nd rfl (.inl rfl))
        (fun _ _ _ _ _ => pv 4)) pa_nil)) pa_nil))), ?_⟩
    refine iRet ⟨.ref a, rfl, a, rfl, ⟨_, sqT h1⟩, fun D hD => ?_⟩
    have sD := same_new (o := SetKO w D []) hD
    refine loop_tup (K := K) (a := a) (xs := ps.map V.ref) (fun i H' => Same H H' ∧ SetHas w H' D (fun ρ => ∃ x ∈ rs.take i, ρ ∈ futR x.2 T) (i * m)) ⟨sD, [], upd_same, fun p hp => absurd hp (by simp), fun ρ => ⟨fun z => absurd z (by simp), fun z => by obtain ⟨x, hx, _⟩ := z; rw [List.take_zero] at hx; cases hx⟩, Nat.zero_le _⟩ (fun i H' h => sqT (h.1 _ _ h1)) (fun i x H' hx h => ?_) (fun H' h => ?_)
    · obtain ⟨sm, L, hL, rin, mem, few⟩ := h
      rw [List.getElem?_map] at hx
      obtain ⟨pi, hpi, rfl⟩ := Option.map_eq_some_iff.mp hx
      obtain ⟨⟨nm, R⟩, hc, r, hr1, hR⟩ := paired_at' h2 hpi
      have il : i < rs.length := (List.getElem?_eq_some_iff.mp hc).1
      obtain ⟨okR, okD, up, cm⟩ := ok.all _ (List.mem_of_getElem? hc)
      have fewA := ok.few
      have im : (i + 1) * m ≤ rs.length * m := Nat.mul_le_mul_right _ il
      rw [Nat.succ_mul] at im
      have rl : (futR R T).length ≤ m := Nat.le_trans (Nat.le_succ_of_le (fut_len R T)) cm
      obtain ⟨sl, sok⟩ := futS_ok okR okD t0 t9
      have hR' := hR.keep (KeepT.of sm)
      refine ⟨pi, _, rfl, sqT (sm _ _ hr1), rfl, .str nm, _, rfl, .ref r, _, rfl, rfl, rfl, ?_⟩
      refine ⟨.ref r, rfl, .ref r, rfl, .int T, rfl, r, R, T, rfl, hR', fun H1 p s1 hpn hS => ?_⟩
      refine ⟨r, p, R, futS R T, rfl, hR'.keep (KeepT.of s1), okR.many, hS, Nat.le_succ_of_le sl, sok, fun H2 p2 bs s2 hp2 hbs => ?_⟩
      have s12 := s1.trans s2
      have nD : p2 ≠ D := fun z => by
        rw [z, s12 _ _ hL] at hp2
        cases hp2
      refine ⟨p2, rfl, ⟨_, sqL hp2⟩, ?_⟩
      have hlen : bs.length = (futR R T).length := Paired.length hbs
      refine loop_lst (K := K) (a := p2) (xs := bs.map V.ref) (fun j H' => Same H H' ∧ H' p2 = some (.lst (bs.map V.ref)) ∧ Paired (RowAt H') bs (futR R T) ∧ SetHas w H' D (fun ρ => (∃ x ∈ rs.take i, ρ ∈ futR x.2 T) ∨ ρ ∈ (futR R T).take j) (i * m + j))
        ⟨sm.trans s12, hp2, hbs, L, s12 _ _ hL, rowsIn_keep rin (KeepT.of s12), fun ρ => by rw [mem, List.take_zero]; exact ⟨.inl, fun z => z.elim id fun z => absurd z (by simp)⟩, few⟩ (fun j H' h => sqL h.2.1) (fun j x H' hx h => ?_) (fun H' h => ?_)
      · obtain ⟨sm', hp', hbs', L', hL', rin', mem', few'⟩ := h
        rw [List.getElem?_map] at hx
        obtain ⟨b, hb, rfl⟩ := Option.map_eq_some_iff.mp hx
        obtain ⟨ρ, hρ, hrow⟩ := paired_at' hbs' hb
        have jl : j < (futR R T).length := (List.getElem?_eq_some_iff.mp hρ).1
        have ne : ρ ≠ [] := fut_ne okD.some (List.mem_of_getElem? hρ)
        refine ⟨wipe1, .ref b, rfl, b, L', rowK ρ, rfl, hL', rin'.keys, by omega, row_key hrow, rowK_deep ρ, fun L2 g1 g2' => ?_⟩
        have kp : KeepT H' (upd H' D (SetKO w D L2)) := KeepT.put hL' fun _ z => nomatch z
        refine ⟨fun c o e => ?_, ?_, Paired.mapP hbs' fun _ _ z => z.keep kp, L2, upd_same, ?_, fun π => ?_, ?_⟩
        · rw [upd_ne (ne_of_none e hD)]
          exact sm' _ _ e
        · rw [upd_ne nD]
          exact hp'
        all_goals by_cases c : rowK ρ ∈ L'.map Prod.snd
        · intro p hp
          rw [g1 c] at hp
          exact (rowsIn_keep rin' kp) p hp
        · intro p hp
          cases List.mem_cons.mp ((g2' c).mem_iff.mp hp) with
          | inl e =>
            rw [e]
            exact ⟨ρ, ne, rfl, hrow.keep kp⟩
          | inr z => exact (rowsIn_keep rin' kp) p z
        · rw [g1 c, mem', List.take_add_one, hρ, List.mem_append]
          refine ⟨fun z => z.elim .inl fun z => .inr (.inl z), fun z => ?_⟩
          rcases z with z | z | z
          · exact .inl z
          · exact .inr z
          · rw [List.mem_singleton.mp z]
            exact (mem' ρ).mp c
        · rw [((g2' c).map Prod.snd).mem_iff, List.map_cons, List.mem_cons, mem', List.take_add_one, hρ, List.mem_append]
          constructor
          · rintro (z | z | z)
            · rw [rowK_inj z]
              exact .inr (.inr (List.mem_singleton.mpr rfl))
            · exact .inl z
            · exact .inr (.inl z)
          · rintro (z | z | z)
            · exact .inr (.inl z)
            · exact .inr (.inr z)
            · rw [List.mem_singleton.mp z]
              exact .inl rfl
        · rw [g1 c]
          omega
        · rw [(g2' c).length_eq, List.length_cons]
          omega
      · obtain ⟨sm', hp', hbs', L', hL', rin', mem', few'⟩ := h
        rw [List.length_map, hlen] at mem' few'
        rw [List.take_length] at mem'
        refine ⟨sm', L', hL', rin', fun ρ => ?_, ?_⟩
        · rw [mem', flat_take (S := fun x => futR x.2 T) hc]
        · rw [Nat.succ_mul]
          have : (futR R T).length ≤ m := rl
          show L'.length ≤ i * m + m
          have few' : L'.length ≤ i * m + (futR R T).length := few'
          omega
    · obtain ⟨sm, L, hL, rin, mem, few⟩ := h
      rw [List.length_map, Paired.length h2] at few
      rw [List.length_map, Paired.length h2, List.take_length] at mem
      have fewA := ok.few
      refine ⟨D, L, rfl, hL, rin, fun ys bs p my ly sy py hp => ?_⟩
      have s5 := same_new (o := .lst (bs.map V.ref)) hp
      refine ⟨p, _, rfl, .inl ⟨sqL upd_same, fun p2 hp2 => ?_⟩⟩
      have s6 := same_new (o := .tup (bs.map V.ref)) hp2
      refine q _ p2 ys ((sm.trans s5).trans s6) ⟨bs, upd_same, Paired.mapP py fun _ _ z => z.keep (KeepT.of (s5.trans s6))⟩ sy (fun ρ => (my ρ).trans (mem ρ)) (by omega)
end
end P37
/-! cells_of -/
namespace P37
open PySem PySem.Spec PyProof.Rows L2 AskG Ask
abbrev sCO : Stmt := topS 8
abbrev NCO : List Str := ["rows", "row", "cell", "weight"]
theorem scCO : FnScope NCO ["rows"] (defScope sCO) := ⟨rfl, rfl, rfl, by decide +kernel, rfl, by decide +kernel, by decide +kernel⟩
theorem nodup_le {α : Type} : ∀ {l U : List α}, l.Nodup → (∀ x ∈ l, x ∈ U) → l.length ≤ U.length
  | [], _, _, _ => Nat.zero_le _
  | x :: l, U, nd, h => by
    obtain ⟨u1, u2, rfl⟩ := List.append_of_mem (h x List.mem_cons_self)
    rw [List.nodup_cons] at nd
    have ih : l.length ≤ (u1 ++ u2).length := nodup_le nd.2 fun y hy => by
      rcases List.mem_append.mp (h y (List.mem_cons_of_mem _ hy)) with m | m
      · exact List.mem_append_left _ m
      · rcases List.mem_cons.mp m with rfl | m
        · exact absurd hy nd.1
        · exact List.mem_append_right _ m
    rw [List.length_append] at ih ⊢
    rw [List.length_cons, List.length_cons]
    omega
/-- a list of cells -/
def CellL (H : Hp) (p : Addr) (cs : List Cell) : Prop := ∃ bs : List Addr, H p = some (.lst (bs.map V.ref)) ∧ Paired (AskG.CellAt H) bs cs
theorem CellL.same {H H' : Hp} {p : Addr} {cs : List Cell} (h : CellL H p cs) (s : Same H H') : CellL H' p cs := by
  obtain ⟨bs, h1, h2⟩ := h
  exact ⟨bs, s _ _ h1, Paired.mapP h2 fun _ _ z => z.keepT (KeepT.of s)⟩
/-- the set of cells at D holds those that M tells -/
structure CSet (w : World) (H : Hp) (D : Addr) (M : Cell → Prop) : Prop where
  ex : ∃ L, H D = some (SetKO w D L) ∧ CellsAt H L ∧ (L.map Prod.snd).Nodup ∧ ∀ c, cellK c ∈ L.map Prod.snd ↔ M c
theorem cells_keep {H H' : Hp} {L : List (Addr × NestedKey)} (h : CellsAt H L) (k : KeepT H H') : CellsAt H' L := fun p hp => by
  obtain ⟨c, e, hc⟩ := h p hp
  exact ⟨c, e, hc.keepT k⟩
theorem CSet.few {w : World} {H : Hp} {D : Addr} {M : Cell → Prop} {U : List Cell} {L : List (Addr × NestedKey)} (h2 : CellsAt H L) (h3 : (L.map Prod.snd).Nodup) (h4 : ∀ c, cellK c ∈ L.map Prod.snd ↔ M c) (hU : ∀ c, M c → c ∈ U) : L.length ≤ U.length := by
  have := nodup_le (l := L.map Prod.snd) (U := U.map cellK) h3 fun x hx => by
    obtain ⟨p, hp, rfl⟩ := List.mem_map.mp hx
    obtain ⟨c, e, _⟩ := h2 p hp
    rw [e] at hx ⊢
    exact List.mem_map.mpr ⟨c, hU c ((h4 c).mp hx), rfl⟩
  rw [List.length_map, List.length_map] at this
  exact this
def inRows (ys : List RowD) (c : Cell) : Prop := ∃ ρ ∈ ys, ∃ x ∈ ρ, x.1 = c
section
variable {P : Program} {w : World} {K : PySem.W.Frag} {mg : Str → Option Value} {base : Heap}
def prCO : Pr := fun vs H Q => ∃ (a : Addr) (ys : List RowD) (U : List Cell), vs = [.ref a] ∧ TupRows H a ys ∧ (∀ c, inRows ys c → c ∈ U) ∧ U.length ≤ 60 ∧
  ∀ H' p cs, Same H H' → H p = none → CellL H' p cs → (∀ c, c ∈ cs ↔ inRows ys c) → cs.Pairwise (fun a b => ltC a b = true) → cs.length ≤ U.length → Q (.ref p) H'
theorem ok_co {f : Addr} {fd : FuncData} {k : Nat} (F : Fun K "cells_of" "cells_of" sCO f fd) (ms : mg "sorted" = none) : FnX P w K mg base (k + 1) f fd ["rows"] (quiet prCO) := by
  refine okN F scCO (fun vs H Q h => ?_) (fun cdv A outer s H E vs Q hr h => ?_)
  · obtain ⟨_, _, _, rfl, _⟩ := h
    rfl
  · obtain ⟨a, ys, U, rfl, hT, hU, lU, q⟩ := h
    have big := sizeBig
    have hun := hr.units
    have hu10 := Nat.lt_of_le_of_lt (Nat.add_le_add_left (by decide : 10 ≤ 64) _) hun
    obtain ⟨ps, h1, h2⟩ := id hT
    refine ⟨_, pss_one (ps_ret (pe_callB (cr_sortSC rfl) (by rfl) ms (by decide +kernel) (pa_cons
      (pe_sc2 (own := [("row", 1), ("cell", 2), ("weight", 3)]) (vs1 := [2, 3]) (g := gName 1) (g1 := g2 K 2 3) hu10 rfl scCO.nd (pi_tup (pv 0)) (blkOk_by (N := NCO) (sc := defScope sCO) (by decide +kernel)) (by decide)
        (fun _ _ _ _ _ => pg_name (i := 1) scCO.nd rfl (.inl rfl))
        (fun _ _ _ _ _ => (pi_tup (pv 1) : PI _ _ _ (iTup K _)))
        (fun _ _ _ _ _ => pg_tup rfl (pgs_cons (pg_name (i := 2) scCO.nd rfl (.inl rfl)) (pgs_cons (pg_name (i := 3) scCO.nd rfl (.inl rfl)) pgs_nil)))
        (fun _ _ _ _ _ => pv 2)) pa_nil))), ?_⟩
    refine iRet ⟨.ref a, rfl, a, rfl, ⟨_, sqT h1⟩, fun D hD => ?_⟩
    have sD := same_new (o := SetKO w D []) hD
    refine loop_tup (K := K) (a := a) (xs := ps.map V.ref) (fun i H' => Same H H' ∧ CSet w H' D (inRows (ys.take i))) ⟨sD, [], upd_same, fun p hp => absurd hp (by simp), List.nodup_nil, fun c => ⟨fun z => absurd z (by simp), fun z => by obtain ⟨x, hx, _⟩ := z; rw [List.take_zero] at hx; cases hx⟩⟩ (fun i H' h => sqT (h.1 _ _ h1)) (fun i x H' hx h => ?_) (fun H' h => ?_)
    · obtain ⟨sm, L, hL, cin, nd, mem⟩ := h
      rw [List.getElem?_map] at hx
      obtain ⟨pi, hpi, rfl⟩ := Option.map_eq_some_iff.mp hx
      obtain ⟨ρ, hρ, hrow⟩ := paired_at' h2 hpi
      obtain ⟨bs, hbs, hbb⟩ := hrow.keep (KeepT.of sm)
      refine ⟨rfl, .ref pi, rfl, pi, rfl, ⟨_, sqT hbs⟩, ?_⟩
      refine loop_tup (K := K) (a := pi) (xs := bs.map V.ref) (fun j H' => Same H H' ∧ H' pi = some (.tup (bs.map V.ref)) ∧ Paired (PairRow H') bs ρ ∧ CSet w H' D (fun c => inRows (ys.take i) c ∨ ∃ x ∈ ρ.take j, x.1 = c))
        ⟨sm, hbs, hbb, L, hL, cin, nd, fun c => by rw [mem, List.take_zero]; exact ⟨.inl, fun z => z.elim id fun z => by obtain ⟨_, z, _⟩ := z; cases z⟩⟩ (fun j H' h => sqT h.2.1) (fun j x H' hx h => ?_) (fun H' h => ?_)
      · obtain ⟨sm', hp', hbs', L', hL', cin', nd', mem'⟩ := h
        rw [List.getElem?_map] at hx
        obtain ⟨b, hb, rfl⟩ := Option.map_eq_some_iff.mp hx
        obtain ⟨x, hx, cb, hpair, hcell⟩ := paired_at' hbs' hb
        have hmx : x ∈ ρ := List.mem_of_getElem? hx
        have inU : ∀ c, (inRows (ys.take i) c ∨ ∃ x ∈ ρ.take j, x.1 = c) → c ∈ U := fun c hc => hU c (by
          rcases hc with ⟨π, hπ, z⟩ | ⟨y, hy, e⟩
          · exact ⟨π, List.mem_of_mem_take hπ, z⟩
          · exact ⟨ρ, List.mem_of_getElem? hρ, y, List.mem_of_mem_take hy, e⟩)
        have fw := CSet.few (w := w) (D := D) cin' nd' mem' inU
        refine ⟨b, _, rfl, sqT hpair, rfl, .ref cb, _, rfl, .int x.2, _, rfl, rfl, wipe2 (by decide), .ref cb, rfl, cb, L', cellK x.1, rfl, hL', cin'.keys, by omega, cell_key hcell, cellK_deep _, fun L2 g1 g2' => ?_⟩
        have kp : KeepT H' (upd H' D (SetKO w D L2)) := KeepT.put hL' fun _ z => nomatch z
        refine ⟨fun c o e => ?_, kp _ _ hp', Paired.mapP hbs' fun _ _ z => z.keep kp, L2, upd_same, ?_, ?_, fun c => ?_⟩
        · rw [upd_ne (ne_of_none e hD)]
          exact sm' _ _ e
        all_goals by_cases m : cellK x.1 ∈ L'.map Prod.snd
        · intro p hp
          rw [g1 m] at hp
          exact (cells_keep cin' kp) p hp
        · intro p hp
          cases List.mem_cons.mp ((g2' m).mem_iff.mp hp) with
          | inl e =>
            rw [e]
            exact ⟨x.1, rfl, hcell.keepT kp⟩
          | inr z => exact (cells_keep cin' kp) p z
        · rw [g1 m]
          exact nd'
        · refine ((g2' m).map Prod.snd).nodup_iff.mpr ?_
          rw [List.map_cons, List.nodup_cons]
          exact ⟨m, nd'⟩
        · rw [g1 m, mem', List.take_add_one, hx]
          constructor
          · rintro (z | ⟨y, hy, e⟩)
            · exact .inl z
            · exact .inr ⟨y, List.mem_append_left _ hy, e⟩
          · rintro (z | ⟨y, hy, e⟩)
            · exact .inl z
            · rcases List.mem_append.mp hy with hy | hy
              · exact .inr ⟨y, hy, e⟩
              · rw [List.mem_singleton.mp hy] at e
                rw [← e]
                exact (mem' x.1).mp m
        · rw [((g2' m).map Prod.snd).mem_iff, List.map_cons, List.mem_cons, mem', List.take_add_one, hx]
          constructor
          · rintro (z | z | ⟨y, hy, e⟩)
            · rw [cellK_inj z]
              exact .inr ⟨x, List.mem_append_right _ (List.mem_singleton.mpr rfl), rfl⟩
            · exact .inl z
            · exact .inr ⟨y, List.mem_append_left _ hy, e⟩
          · rintro (z | ⟨y, hy, e⟩)
            · exact .inr (.inl z)
            · rcases List.mem_append.mp hy with hy | hy
              · exact .inr (.inr ⟨y, hy, e⟩)
              · rw [List.mem_singleton.mp hy] at e
                rw [← e]
                exact .inl rfl
      · obtain ⟨sm', hp', hbs', L', hL', cin', nd', mem'⟩ := h
        rw [List.length_map, Paired.length hbb, List.take_length] at mem'
        refine ⟨sm', L', hL', cin', nd', fun c => ?_⟩
        rw [mem', List.take_add_one, hρ]
        constructor
        · rintro (⟨π, hπ, z⟩ | z)
          · exact ⟨π, List.mem_append_left _ hπ, z⟩
          · exact ⟨ρ, List.mem_append_right _ (List.mem_singleton.mpr rfl), z⟩
        · rintro ⟨π, hπ, z⟩
          rcases List.mem_append.mp hπ with hπ | hπ
          · exact .inl ⟨π, hπ, z⟩
          · rw [List.mem_singleton.mp hπ] at z
            exact .inr z
    · obtain ⟨sm, L, hL, cin, nd, mem⟩ := h
      rw [List.length_map, Paired.length h2, List.take_length] at mem
      have fw := CSet.few (w := w) (D := D) cin nd mem hU
      refine ⟨D, L, rfl, hL, cin, fun cs bs p my ly sy py hp => ?_⟩
      have s5 := same_new (o := .lst (bs.map V.ref)) hp
      have hp0 : H p = none := by
        cases e : H p with
        | none => rfl
        | some o =>
          rw [sm _ _ e] at hp
          cases hp
      exact q _ p cs (sm.trans s5) hp0 ⟨bs, upd_same, Paired.mapP py fun _ _ z => z.keepT (KeepT.of s5)⟩ (fun c => (my c).trans (mem c)) sy (by omega)
end
end P37
/-! line_of -/
namespace P37
open PySem PySem.Spec PyProof.Rows L2 AskG Ask
abbrev sLO : Stmt := topS 9
abbrev NLO : List Str := ["row", "cells", "weights", "cell", "weight"]
theorem scLO : FnScope NLO ["row", "cells"] (defScope sLO) := ⟨rfl, rfl, rfl, by decide +kernel, rfl, by decide +kernel, by decide +kernel⟩
/-- the line of a row -/
def lineR (cs : List Cell) (ρ : RowD) : List Int := cs.map (get0 (ofRow ρ))
/-- a list of whole numbers -/
def LineAt (H : Hp) (p : Addr) (l : List Int) : Prop := H p = some (.lst (l.map V.int))
section
variable {P : Program} {w : World} {K : PySem.W.Frag} {mg : Str → Option Value} {base : Heap}
def prLO : Pr := fun vs H Q => ∃ (r l : Addr) (ρ : RowD) (cs : List Cell), vs = [.ref r, .ref l] ∧ RowAt H r ρ ∧ ρ.length ≤ 100 ∧ CellL H l cs ∧ cs.length ≤ 100 ∧
  ∀ H' p, Same H H' → H p = none → LineAt H' p (lineR cs ρ) → Q (.ref p) H'
theorem ok_lo {f : Addr} {fd : FuncData} {k : Nat} (F : Fun K "line_of" "line_of" sLO f fd) : FnX P w K mg base (k + 1) f fd ["row", "cells"] (quiet prLO) := by
  refine okN F scLO (fun vs H Q h => ?_) (fun cdv A outer s H E vs Q hr h => ?_)
  · obtain ⟨_, _, _, _, rfl, _⟩ := h
    rfl
  · obtain ⟨r, l, ρ, cs, rfl, hR, lr, hC, lc, q⟩ := h
    have big := sizeBig
    have hu := hu_of hr
    refine ⟨_, pss_cons (ps_set (i := 2) scLO.nd rfl (.inr rfl) (pe_dcT (own := [("cell", 3), ("weight", 4)]) (g := gTup K 2 (gCons (gName 3) (gCons (gName 4) gNil))) hu rfl scLO.nd (pi_tup (pv 0)) (blkOk_by (N := NLO) (sc := defScope sLO) (by decide +kernel))
        (fun _ _ _ _ _ => pg_tup rfl (pgs_cons (pg_name (i := 3) scLO.nd rfl (.inl rfl)) (pgs_cons (pg_name (i := 4) scLO.nd rfl (.inl rfl)) pgs_nil)))
        (fun _ _ _ _ _ => pv 3) (fun _ _ _ _ _ => pv 4)))
      (pss_one (ps_ret (pe_lc (own := [("cell", 3)]) (g := gName 3) (tt := tYes) rfl scLO.nd (pi_list (pv 1)) (blkOk_by (N := NLO) (sc := defScope sLO) (by decide +kernel))
          (fun _ _ _ _ _ => pg_name (i := 3) scLO.nd rfl (.inl rfl)) (fun _ _ _ _ _ => pts_nil)
          (fun _ _ _ _ _ => pe_dget2 hu (pv 2) (pv 3) pe_int ⟨rfl, rfl, rfl, rfl⟩)))), ?_⟩
    refine iSeq (iAsg ?_)
    refine dc_row (K := K) (i := 0) (a := 3) (b := 4) (σ := [some (.ref r), some (.ref l), none, none, none]) (r := r) (ρ := ρ) rfl hR (by simp) (by simp) (by decide) (by omega) fun D hD => ?_
    have s1 : Same H (upd H D (.dT (dk (ofRow ρ)))) := same_new hD
    refine iName ?_
    dsimp only
    obtain ⟨bs, hl, hbs⟩ := hC.same s1
    have bl := Paired.length hbs
    have hD1 : (upd H D (.dT (dk (ofRow ρ)))) D = some (.dT (dk (ofRow ρ))) := upd_same
    generalize upd H D (.dT (dk (ofRow ρ))) = H1 at s1 hl hbs hD1 ⊢
    refine iRet ⟨.ref l, rfl, l, rfl, ⟨_, sqL hl⟩, fun M hM => ?_⟩
    refine loop_lst (K := K) (a := l) (xs := bs.map V.ref) (fun i H' => Same H1 H' ∧ H' M = some (.lst (((lineR cs ρ).take i).map V.int))) ⟨same_new hM, by rw [List.take_zero]; exact upd_same⟩ (fun i H' h => sqL (h.1 _ _ hl)) (fun i v H' hv h => ?_) (fun H' h => ?_)
    · obtain ⟨sm, hm⟩ := h
      rw [List.getElem?_map] at hv
      obtain ⟨b, hb, rfl⟩ := Option.map_eq_some_iff.mp hv
      obtain ⟨c, hc, hcell⟩ := paired_at' hbs hb
      have hcell' := hcell.keepT (KeepT.of sm)
      have il : i < cs.length := (List.getElem?_eq_some_iff.mp hc).1
      have e0 : ((getO (ofRow ρ) c).map V.int).getD (.int 0) = .int (get0 (ofRow ρ) c) := by
        unfold get0
        cases getO (ofRow ρ) c <;> rfl
      refine ⟨wipe1, iYes (iteT ⟨.ref D, rfl, D, rfl, .inr ⟨_, .inl (sm _ _ hD1)⟩, .ref b, rfl, _, dget_of (sm _ _ hD1) hcell', ?_⟩)⟩
      rw [e0]
      refine ⟨_, hm, by rw [List.length_map, List.length_take]; unfold lineR; rw [List.length_map]; omega, fun b' o e => ?_, ?_⟩
      · rw [upd_ne (ne_of_none e hM)]
        exact sm _ _ e
      · have e1 : (lineR cs ρ)[i]? = some (get0 (ofRow ρ) c) := by
          unfold lineR
          rw [List.getElem?_map, hc]
          rfl
        rw [upd_same, List.take_add_one, e1, List.map_append]
        rfl
    · obtain ⟨sm, hm⟩ := h
      rw [List.length_map, bl, List.take_of_length_le (by unfold lineR; rw [List.length_map]; exact Nat.le_refl _)] at hm
      have hM0 : H M = none := by
        cases e : H M with
        | none => rfl
        | some o =>
          rw [s1 _ _ e] at hM
          cases hM
      exact q _ M (s1.trans sm) hM0 hm
end
end P37
/-! AskMx: loops over enumerate and zip of lists; // by a divisor of any sign. -/
namespace Ask
open PySem PySem.Spec PyProof.Rows L2 AskG
section
variable {K : PySem.W.Frag} {a b : Addr} {xs ys : List V} {H0 : Hp} {Qd : Hp → Prop} {Body : V → Hp → (Hp → Prop) → Prop}
theorem loop_zip (hl : xs.length = ys.length) (Pv : Nat → Hp → Prop) (h0 : Pv 0 H0) (hq : ∀ i H, Pv i H → SqL K H a xs ∧ SqL K H b ys)
    (hs : ∀ (i : Nat) (x y : V) (T : Addr) (H : Hp), xs[i]? = some x → ys[i]? = some y → Pv i H → H T = none → Body (.ref T) (upd H T (.tup [x, y])) (Pv (i + 1))) (hd : ∀ H, Pv xs.length H → Qd H) : Loops (Itz K a b) H0 Qd Body := by
  refine ⟨fun i m H => m + i = xs.length ∧ Pv i H, ⟨xs.length, Nat.add_zero _, h0⟩, fun i m H h => ?_⟩
  obtain ⟨e, p⟩ := h
  obtain ⟨qx, qy⟩ := hq i H p
  cases m with
  | zero =>
    have e : i = xs.length := by omega
    subst e
    exact .inl ⟨⟨xs, ys, qx, qy, .inl (Nat.le_refl _)⟩, hd H p⟩
  | succ m =>
    have lt : i < xs.length := by omega
    have lt2 : i < ys.length := by omega
    refine .inr ⟨⟨xs, ys, xs[i], ys[i], qx, qy, List.getElem?_eq_getElem lt, List.getElem?_eq_getElem lt2⟩, Pv (i + 1), fun H' p' => ⟨m, Nat.lt_succ_self _, by omega, p'⟩, fun v H' y => ?_⟩
    obtain ⟨T, x, y, rfl, nT, rfl, f1, f2⟩ := y
    exact hs i x y T _ (f1 xs qx) (f2 ys qy) p nT
theorem for_enum {g : TG} {tb : TS} {D : Ends} {σ : L2.St} {H : Hp} (Pv : Nat → L2.St → Hp → Prop) (h0 : Pv 0 σ H) (hl : ∀ i σ H, Pv i σ H → SqL K H a xs)
    (hs : ∀ (i : Nat) (x : V) (T : Addr) (σ : L2.St) (H : Hp), xs[i]? = some x → Pv i σ H → H T = none → g (.ref T) σ (upd H T (.tup [.int (i : Nat), x])) fun σ2 H2 => tb { D with nx := Pv (i + 1), ct := Pv (i + 1), bk := D.nx } σ2 H2) (hd : ∀ σ H, Pv xs.length σ H → D.nx σ H) :
    ∃ W : Nat → Nat → L2.St → Hp → Prop, (∃ m, W 0 m σ H) ∧ ∀ i m σ H, W i m σ H →
      ((Ite K a).stop i H ∧ D.nx σ H) ∨ ((Ite K a).go i H ∧ ∃ N : L2.St → Hp → Prop, (∀ σ' H', N σ' H' → ∃ m', m' < m ∧ W (i + 1) m' σ' H') ∧ ∀ v H', (Ite K a).yld i H v H' → g v σ H' fun σ2 H2 => tb { D with nx := N, ct := N, bk := D.nx } σ2 H2) := by
  refine ⟨fun i m σ H => m + i = xs.length ∧ Pv i σ H, ⟨xs.length, Nat.add_zero _, h0⟩, fun i m σ H h => ?_⟩
  obtain ⟨e, p⟩ := h
  have q := hl i σ H p
  cases m with
  | zero =>
    have e : i = xs.length := by omega
    subst e
    exact .inl ⟨⟨xs, q, Nat.le_refl _⟩, hd σ H p⟩
  | succ m =>
    have lt : i < xs.length := by omega
    refine .inr ⟨⟨xs, xs[i], q, List.getElem?_eq_getElem lt⟩, Pv (i + 1), fun σ' H' p' => ⟨m, Nat.lt_succ_self _, by omega, p'⟩, fun v H' y => ?_⟩
    obtain ⟨T, x, rfl, nT, rfl, f1⟩ := y
    exact hs i x T _ _ (f1 xs q) p nT
end
def CDivX (_ j : Int) : Prop := j ≠ 0 ∧ j.natAbs.log2 < 9000
theorem op_fdivX {X : Cx} : OpR X (binaryOp .FloorDiv) (rI CDivX fun i j => .int (i.fdiv j)) := opI fun i j _ _ _ _ _ hc q => floordiv_int hc.1 q (.inl (PyProof.noPylong_of_log2 hc.2))
end Ask
/-! LinA: dependence of integer vectors, and the rank that follows from it. -/
namespace Lin
section
variable {ι : Type}
/-- whole sums of vectors of S -/
inductive Sp (S : List (ι → Int)) : (ι → Int) → Prop
  | zero : Sp S fun _ => 0
  | add {v s : ι → Int} (a : Int) (h : Sp S v) (m : s ∈ S) : Sp S fun i => v i + a * s i
variable {S T B B' : List (ι → Int)} {v w x y s : ι → Int}
theorem Sp.cast (h : Sp S v) (e : ∀ i, v i = w i) : Sp S w := by
  have : v = w := funext e
  rw [← this]
  exact h
theorem Sp.mem (m : s ∈ S) : Sp S s := (Sp.add 1 .zero m).cast fun i => by omega
theorem Sp.plus (h : Sp S v) (g : Sp S w) : Sp S fun i => v i + w i := by
  induction g with
  | zero => exact h.cast fun i => by dsimp only; omega
  | add a _ m ih => exact (Sp.add a ih m).cast fun i => by dsimp only; omega
theorem Sp.scale (c : Int) (h : Sp S v) : Sp S fun i => c * v i := by
  induction h with
  | zero => exact Sp.zero.cast fun i => by dsimp only; omega
  | add a _ m ih => exact (Sp.add (c * a) ih m).cast fun i => by dsimp only; rw [Int.mul_add, Int.mul_assoc]
theorem Sp.trans (h : ∀ s ∈ S, Sp T s) (g : Sp S v) : Sp T v := by
  induction g with
  | zero => exact .zero
  | add a _ m ih => exact ih.plus ((h _ m).scale a)
theorem Sp.mono (h : ∀ s ∈ S, s ∈ T) (g : Sp S v) : Sp T v := g.trans fun s m => .mem (h s m)
/-- x hangs on S: some multiple of it is a whole sum -/
def Dep (S : List (ι → Int)) (x : ι → Int) : Prop := ∃ d : Int, d ≠ 0 ∧ Sp S fun i => d * x i
theorem Dep.of_sp (h : Sp S x) : Dep S x := ⟨1, by decide, h.cast fun i => by omega⟩
theorem Dep.mem (m : s ∈ S) : Dep S s := .of_sp (.mem m)
theorem Dep.mono (h : ∀ s ∈ S, s ∈ T) (g : Dep S x) : Dep T x := by
  obtain ⟨d, hd, hs⟩ := g
  exact ⟨d, hd, hs.mono h⟩
theorem Dep.zero : Dep S fun _ => 0 := .of_sp .zero
theorem dep_all (h : ∀ s ∈ S, Dep T s) (g : Sp S v) : ∃ e : Int, e ≠ 0 ∧ Sp T fun i => e * v i := by
  induction g with
  | zero => exact ⟨1, by decide, Sp.zero.cast fun i => by dsimp only; omega⟩
  | @add v s a _ m ih =>
    obtain ⟨e, he, h1⟩ := ih
    obtain ⟨d, hd, h2⟩ := h s m
    refine ⟨d * e, Int.mul_ne_zero hd he, ((h1.scale d).plus (h2.scale (e * a))).cast fun i => ?_⟩
    rw [Int.mul_add, Int.mul_assoc d e (v i), Int.mul_assoc d e (a * s i), ← Int.mul_assoc e a (s i), ← Int.mul_assoc (e * a) d (s i), Int.mul_comm (e * a) d, Int.mul_assoc d (e * a) (s i)]
theorem Dep.trans (h : ∀ s ∈ S, Dep T s) (g : Dep S x) : Dep T x := by
  obtain ⟨d, hd, hs⟩ := g
  obtain ⟨e, he, h1⟩ := dep_all h hs
  exact ⟨e * d, Int.mul_ne_zero he hd, h1.cast fun i => by rw [Int.mul_assoc]⟩
theorem sp_split (h : Sp (y :: S) v) : ∃ (a : Int) (w : ι → Int), Sp S w ∧ ∀ i, v i = w i + a * y i := by
  induction h with
  | zero => exact ⟨0, _, .zero, fun i => by dsimp only; omega⟩
  | @add v s c _ m ih =>
    obtain ⟨a, w, hw, e⟩ := ih
    rcases List.mem_cons.mp m with rfl | m
    · exact ⟨a + c, w, hw, fun i => by dsimp only; rw [e i, Int.add_mul]; omega⟩
    · exact ⟨a, _, .add c hw m, fun i => by dsimp only; rw [e i]; omega⟩
/-- exchange -/
theorem Dep.exch (h : Dep (y :: S) x) (n : ¬ Dep S x) : Dep (x :: S) y := by
  obtain ⟨d, hd, hs⟩ := h
  obtain ⟨a, w, hw, e⟩ := sp_split hs
  by_cases ha : a = 0
  · exact absurd ⟨d, hd, hw.cast fun i => by rw [e i, ha]; omega⟩ n
  · refine ⟨a, ha, (((Sp.mem (List.mem_cons_self (a := x) (l := S))).scale d).plus (((hw.mono fun s m => List.mem_cons_of_mem _ m)).scale (-1))).cast fun i => ?_⟩
    have := e i
    omega
theorem Dep.cons_iff (h : Dep B x) : Dep (x :: B) y ↔ Dep B y := by
  constructor
  · exact Dep.trans fun s m => by
      rcases List.mem_cons.mp m with rfl | m
      · exact h
      · exact .mem m
  · exact Dep.mono fun s m => List.mem_cons_of_mem _ m
open Classical in
/-- what the vectors add to B, one after the other -/
noncomputable def rk : List (ι → Int) → List (ι → Int) → Nat
  | _, [] => 0
  | B, x :: xs => (if Dep B x then 0 else 1) + rk (x :: B) xs
noncomputable def rank (S : List (ι → Int)) : Nat := rk [] S
theorem rk_le : ∀ {xs : List (ι → Int)} {B B' : List (ι → Int)}, (∀ x, Dep B x → Dep B' x) → rk B' xs ≤ rk B xs
  | [], _, _, _ => Nat.le_refl _
  | x :: xs, B, B', h => by
    have ih : rk (x :: B') xs ≤ rk (x :: B) xs := rk_le fun y hy => by
      refine hy.trans fun s m => ?_
      rcases List.mem_cons.mp m with rfl | m
      · exact .mem List.mem_cons_self
      · exact (h s (.mem m)).mono fun t mt => List.mem_cons_of_mem _ mt
    unfold rk
    by_cases h1 : Dep B x
    · rw [if_pos h1, if_pos (h x h1)]
      omega
    · rw [if_neg h1]
      split <;> omega
theorem rk_congr {xs : List (ι → Int)} (h : ∀ x, Dep B x ↔ Dep B' x) : rk B xs = rk B' xs :=
  Nat.le_antisymm (rk_le fun x => (h x).mpr) (rk_le fun x => (h x).mp)
theorem rk_same {xs : List (ι → Int)} (h : ∀ x, x ∈ B ↔ x ∈ B') : rk B xs = rk B' xs :=
  rk_congr fun _ => ⟨Dep.mono fun s m => (h s).mp m, Dep.mono fun s m => (h s).mpr m⟩
theorem rk_app : ∀ {xs ys B : List (ι → Int)}, rk B (xs ++ ys) = rk B xs + rk (xs ++ B) ys
  | [], ys, B => by
    show rk B ys = 0 + rk B ys
    omega
  | x :: xs, ys, B => by
    have ih := rk_app (xs := xs) (ys := ys) (B := x :: B)
    have e : rk (xs ++ x :: B) ys = rk (x :: xs ++ B) ys := rk_same fun z => by
      simp only [List.mem_append, List.mem_cons, List.cons_append]
      constructor <;> (intro h; rcases h with h | h | h <;> simp [h])
    show (_ + rk (x :: B) (xs ++ ys)) = (_ + rk (x :: B) xs) + _
    rw [ih, e]
    omega
theorem rk_swap {l : List (ι → Int)} : rk B (x :: y :: l) = rk B (y :: x :: l) := by
  have e : rk (y :: x :: B) l = rk (x :: y :: B) l := rk_same fun z => by
    simp only [List.mem_cons]
    constructor <;> (intro h; rcases h with h | h | h <;> simp [h])
  have wk : ∀ {z u : ι → Int}, Dep B z → Dep (u :: B) z := fun h => h.mono fun s m => List.mem_cons_of_mem _ m
  unfold rk
  unfold rk
  rw [e]
  by_cases hx : Dep B x
  · by_cases hy : Dep B y
    · rw [if_pos hx, if_pos hy, if_pos (wk hy), if_pos (wk hx)]
    · rw [if_pos hx, if_neg hy, if_neg (fun z => hy ((Dep.cons_iff hx).mp z)), if_pos (wk hx)]
      omega
  · by_cases hy : Dep B y
    · rw [if_neg hx, if_pos hy, if_neg (fun z => hx ((Dep.cons_iff hy).mp z)), if_pos (wk hy)]
      omega
    · have q : Dep (x :: B) y ↔ Dep (y :: B) x := ⟨fun h => h.exch hy, fun h => h.exch hx⟩
      rw [if_neg hx, if_neg hy]
      by_cases h : Dep (x :: B) y
      · rw [if_pos h, if_pos (q.mp h)]
      · rw [if_neg h, if_neg fun z => h (q.mpr z)]
theorem rk_perm {xs ys : List (ι → Int)} (h : xs.Perm ys) : ∀ {B : List (ι → Int)}, rk B xs = rk B ys := by
  induction h with
  | nil => exact rfl
  | cons x _ ih =>
    intro B
    show _ + _ = _ + _
    rw [ih]
  | swap x y l => exact rk_swap
  | trans _ _ ih1 ih2 => exact ih1.trans ih2
theorem rk_zero : ∀ {xs B : List (ι → Int)}, (∀ x ∈ xs, Dep B x) → rk B xs = 0
  | [], _, _ => rfl
  | x :: xs, B, h => by
    unfold rk
    rw [if_pos (h x List.mem_cons_self), rk_zero fun y hy => (h y (List.mem_cons_of_mem _ hy)).mono fun s m => List.mem_cons_of_mem _ m]
theorem rank_perm {xs ys : List (ι → Int)} (h : xs.Perm ys) : rank xs = rank ys := rk_perm h
theorem rank_app : rank (S ++ T) = rank S + rk S T := by
  unfold rank
  rw [rk_app, List.append_nil]
/-- what hangs on T has no greater rank -/
theorem rank_le (h : ∀ x ∈ S, Dep T x) : rank S ≤ rank T := by
  have h1 : rank (T ++ S) = rank T := by rw [rank_app, rk_zero h]; rfl
  have h2 : rank (T ++ S) = rank (S ++ T) := rank_perm List.perm_append_comm
  have h3 : rank (S ++ T) = rank S + rk S T := rank_app
  omega
theorem rank_eq (h : ∀ x ∈ S, Dep T x) (g : ∀ x ∈ T, Dep S x) : rank S = rank T := Nat.le_antisymm (rank_le h) (rank_le g)
theorem rank_sub (h : ∀ x ∈ S, x ∈ T) : rank S ≤ rank T := rank_le fun x m => .mem (h x m)
theorem rank_nil : rank ([] : List (ι → Int)) = 0 := rfl
theorem rank_addle : rank (S ++ T) ≤ rank S + rank T := by
  rw [rank_app]
  have : rk S T ≤ rk [] T := rk_le fun x h => h.mono fun s m => absurd m (by simp)
  have e : rank T = rk [] T := rfl
  omega
/-- the more there is, the less a lot adds -/
theorem rank_submod {O L : List (ι → Int)} : rank (S ++ O ++ L) + rank S ≤ rank (S ++ L) + rank (S ++ O) := by
  rw [rank_app (S := S ++ O), rank_app (S := S) (T := L)]
  have : rk (S ++ O) L ≤ rk S L := rk_le fun x h => h.mono fun s m => List.mem_append_left _ m
  omega
end
/-! ### vectors seen through a list of places -/
section
variable {ι κ : Type}
/-- a linear view -/
structure View (φ : (ι → Int) → κ → Int) : Prop where
  zero : ∀ k, φ (fun _ => 0) k = 0
  add : ∀ v w a k, φ (fun i => v i + a * w i) k = φ v k + a * φ w k
variable {φ : (ι → Int) → κ → Int} {S : List (ι → Int)} {x : ι → Int}
theorem View.scale (h : View φ) (a : Int) (v : ι → Int) (k : κ) : φ (fun i => a * v i) k = a * φ v k := by
  have e := h.add (fun _ => 0) v a k
  rw [h.zero] at e
  have e2 : (fun i => (fun _ => 0 : ι → Int) i + a * v i) = fun i => a * v i := funext fun i => by dsimp only; omega
  rw [e2] at e
  omega
theorem View.sp (h : View φ) {v : ι → Int} (g : Sp S v) : Sp (S.map φ) (φ v) := by
  induction g with
  | zero => exact Sp.zero.cast fun k => (h.zero k).symm
  | add a _ m ih => exact (Sp.add a ih (List.mem_map.mpr ⟨_, m, rfl⟩)).cast fun k => (h.add _ _ _ _).symm
theorem View.back (h : View φ) {u : κ → Int} (g : Sp (S.map φ) u) : ∃ v, Sp S v ∧ ∀ k, φ v k = u k := by
  induction g with
  | zero => exact ⟨_, .zero, h.zero⟩
  | add a _ m ih =>
    obtain ⟨v, hv, e⟩ := ih
    obtain ⟨s, hs, rfl⟩ := List.mem_map.mp m
    exact ⟨_, .add a hv hs, fun k => by rw [h.add, e k]⟩
theorem View.dep (h : View φ) (g : Dep S x) : Dep (S.map φ) (φ x) := by
  obtain ⟨d, hd, hs⟩ := g
  exact ⟨d, hd, (h.sp hs).cast fun k => h.scale d x k⟩
/-- where the view tells vectors of a kind apart -/
theorem View.dep_iff (h : View φ) {P : (ι → Int) → Prop} (hP0 : P fun _ => 0) (hPa : ∀ v w a, P v → P w → P fun i => v i + a * w i) (inj : ∀ v, P v → (∀ k, φ v k = 0) → ∀ i, v i = 0) (hS : ∀ s ∈ S, P s) (hx : P x) : Dep (S.map φ) (φ x) ↔ Dep S x := by
  refine ⟨fun ⟨d, hd, hs⟩ => ?_, h.dep⟩
  obtain ⟨v, hv, e⟩ := h.back hs
  have pv : P v := by
    clear e
    induction hv with
    | zero => exact hP0
    | add a _ m ih => exact hPa _ _ _ (by assumption) (hS _ m)
  have pd : P fun i => v i + (-d) * x i := hPa _ _ _ pv hx
  have z := inj _ pd fun k => by
    rw [h.add, e k, Int.neg_mul]
    omega
  refine ⟨d, hd, hv.cast fun i => ?_⟩
  have := z i
  rw [Int.neg_mul] at this
  omega
theorem View.rk_eq (h : View φ) {P : (ι → Int) → Prop} (hP0 : P fun _ => 0) (hPa : ∀ v w a, P v → P w → P fun i => v i + a * w i) (inj : ∀ v, P v → (∀ k, φ v k = 0) → ∀ i, v i = 0) : ∀ {xs B : List (ι → Int)}, (∀ s ∈ B, P s) → (∀ s ∈ xs, P s) → rk (B.map φ) (xs.map φ) = rk B xs
  | [], _, _, _ => rfl
  | x :: xs, B, hB, hx => by
    have ih := View.rk_eq h hP0 hPa inj (xs := xs) (B := x :: B) (fun s m => by
      rcases List.mem_cons.mp m with rfl | m
      · exact hx _ List.mem_cons_self
      · exact hB s m) fun s m => hx s (List.mem_cons_of_mem _ m)
    have e := h.dep_iff hP0 hPa inj hB (hx x List.mem_cons_self)
    show (_ + rk (φ x :: B.map φ) (xs.map φ)) = (_ + rk (x :: B) xs)
    rw [show φ x :: B.map φ = (x :: B).map φ from rfl, ih]
    by_cases q : Dep B x
    · rw [if_pos q, if_pos (e.mpr q)]
    · rw [if_neg q, if_neg fun z => q (e.mp z)]
end
end Lin
/-! LinB: alternating sums of products; why the division of the elimination comes out even. -/
namespace Lin
/-- contraction: r at one of the columns, the rest by D, signs alternating -/
def con (r : Nat → Int) : (List Nat → Int) → List Nat → Int
  | _, [] => 0
  | D, c :: cs => r c * D cs - con r (fun l => D (c :: l)) cs
theorem con_add (r : Nat → Int) : ∀ (cs : List Nat) (D E : List Nat → Int) (a : Int), con r (fun l => D l + a * E l) cs = con r D cs + a * con r E cs
  | [], D, E, a => by
    show (0 : Int) = 0 + a * 0
    omega
  | c :: cs, D, E, a => by
    unfold con
    rw [con_add r cs (fun l => D (c :: l)) (fun l => E (c :: l)) a, Int.mul_add, Int.mul_sub]
    have : r c * (a * E cs) = a * (r c * E cs) := by rw [← Int.mul_assoc, Int.mul_comm (r c) a, Int.mul_assoc]
    omega
theorem con_zero (r : Nat → Int) : ∀ (cs : List Nat), con r (fun _ => 0) cs = 0
  | [] => rfl
  | c :: cs => by
    unfold con
    rw [con_zero r cs]
    dsimp only
    omega
theorem con_scale (r : Nat → Int) (cs : List Nat) (D : List Nat → Int) (a : Int) : con r (fun l => a * D l) cs = a * con r D cs := by
  have e := con_add r cs (fun _ => 0) D a
  rw [con_zero] at e
  have e2 : (fun l => (fun _ => 0 : List Nat → Int) l + a * D l) = fun l => a * D l := funext fun l => by dsimp only; omega
  rw [e2] at e
  omega
theorem con_neg (r : Nat → Int) (cs : List Nat) (D : List Nat → Int) : con r (fun l => - D l) cs = - con r D cs := by
  have e := con_scale r cs D (-1)
  have e2 : (fun l => -1 * D l) = fun l => - D l := funext fun l => by omega
  rw [e2] at e
  omega
theorem con_row (r s : Nat → Int) (a : Int) : ∀ (cs : List Nat) (D : List Nat → Int), con (fun i => r i + a * s i) D cs = con r D cs + a * con s D cs
  | [], D => by
    show (0 : Int) = 0 + a * 0
    omega
  | c :: cs, D => by
    unfold con
    rw [con_row r s a cs, Int.mul_sub, Int.add_mul, Int.mul_assoc]
    omega
theorem con_rows (r : Nat → Int) (a : Int) : ∀ (cs : List Nat) (D : List Nat → Int), con (fun i => a * r i) D cs = a * con r D cs
  | [], D => by
    show (0 : Int) = a * 0
    omega
  | c :: cs, D => by
    unfold con
    rw [con_rows r a cs, Int.mul_sub, Int.mul_assoc]
theorem con_anti (r s : Nat → Int) : ∀ (cs : List Nat) (D : List Nat → Int), con r (con s D) cs = - con s (con r D) cs
  | [], D => rfl
  | c :: cs, D => by
    have h : ∀ (r s : Nat → Int), con r (con s D) (c :: cs) = r c * con s D cs - s c * con r D cs + con r (con s fun l => D (c :: l)) cs := by
      intro r s
      show r c * con s D cs - con r (fun l => con s D (c :: l)) cs = _
      have e : (fun l => con s D (c :: l)) = fun l => s c * D l + (-1) * con s (fun l' => D (c :: l')) l := by
        funext l
        show s c * D l - con s (fun l' => D (c :: l')) l = _
        omega
      rw [e, con_add r cs (fun l => s c * D l), con_scale]
      omega
    rw [h r s, h s r, con_anti r s cs fun l => D (c :: l)]
    omega
theorem con_same (r : Nat → Int) (cs : List Nat) (D : List Nat → Int) : con r (con r D) cs = 0 := by
  have := con_anti r r cs D
  omega
def one (cs : List Nat) : Int := if cs = [] then 1 else 0
/-- the determinant of the rows at the columns -/
def det : List (Nat → Int) → List Nat → Int
  | [], cs => one cs
  | r :: rs, cs => con r (det rs) cs
theorem det_in {r : Nat → Int} : ∀ {rs : List (Nat → Int)}, r ∈ rs → ∀ cs, con r (det rs) cs = 0
  | s :: rs, m, cs => by
    rcases List.mem_cons.mp m with rfl | m
    · exact con_same r cs _
    · show con r (con s (det rs)) cs = 0
      rw [con_anti]
      have e : con r (det rs) = fun _ => 0 := funext fun l => det_in m l
      rw [e, con_zero]
      rfl
/-- multiples of r taken from the other rows -/
theorem det_less {α : Type} {r : Nat → Int} {f : α → Int} {g : α → Nat → Int} : ∀ {rs : List α} (cs : List Nat), con r (det (rs.map fun s i => g s i + f s * r i)) cs = con r (det (rs.map g)) cs
  | [], _ => rfl
  | s :: rs, cs => by
    show con r (con (fun i => g s i + f s * r i) (det (rs.map fun s i => g s i + f s * r i))) cs = con r (con (g s) (det (rs.map g))) cs
    rw [con_anti, con_row]
    have e : con r (det (rs.map fun s i => g s i + f s * r i)) = con r (det (rs.map g)) := funext fun l => det_less l
    rw [e, con_same, con_anti r (g s)]
    omega
theorem det_mul {α : Type} {a : Int} {g : α → Nat → Int} : ∀ {rs : List α} (cs : List Nat), det (rs.map fun s i => a * g s i) cs = a ^ rs.length * det (rs.map g) cs
  | [], cs => by
    show one cs = a ^ 0 * one cs
    rw [Int.pow_zero]
    omega
  | s :: rs, cs => by
    show con (fun i => a * g s i) (det (rs.map fun s i => a * g s i)) cs = a ^ (rs.length + 1) * con (g s) (det (rs.map g)) cs
    have e : det (rs.map fun s i => a * g s i) = fun l => a ^ rs.length * det (rs.map g) l := funext fun l => det_mul l
    rw [con_rows, e, con_scale, ← Int.mul_assoc, Int.pow_succ, Int.mul_comm a]
/-- a column of zeros -/
theorem det_col {p : Nat} : ∀ {rs : List (Nat → Int)}, (∀ s ∈ rs, s p = 0) → ∀ cs, det rs (p :: cs) = 0
  | [], _, cs => by
    show one (p :: cs) = 0
    exact if_neg (by simp)
  | s :: rs, h, cs => by
    show s p * det rs cs - con s (fun l => det rs (p :: l)) cs = 0
    have e : (fun l => det rs (p :: l)) = fun _ => 0 := funext fun l => det_col (fun t m => h t (List.mem_cons_of_mem _ m)) l
    rw [h s List.mem_cons_self, e, con_zero]
    omega
/-- the head's multiples taken from the others -/
theorem det_head {α : Type} {r : Nat → Int} {a : Int} {f : α → Int} {g : α → Nat → Int} {rs : List α} (cs : List Nat) : det (r :: rs.map fun s i => a * g s i + f s * r i) cs = a ^ rs.length * det (r :: rs.map g) cs := by
  have e1 : det (r :: rs.map fun s i => a * g s i + f s * r i) cs = con r (det (rs.map fun s i => a * g s i)) cs := det_less (f := f) (g := fun s i => a * g s i) cs
  have e : det (rs.map fun s i => a * g s i) = fun l => a ^ rs.length * det (rs.map g) l := funext fun l => det_mul l
  rw [e1, e, con_scale]
  rfl
/-- the other rows rid of the column p -/
theorem det_chio {α : Type} {r : Nat → Int} {p : Nat} {g : α → Nat → Int} {rs : List α} (cs : List Nat) : r p ^ rs.length * det (r :: rs.map g) (p :: cs) = r p * det (rs.map fun s i => r p * g s i + (- g s p) * r i) cs := by
  rw [← det_head (f := fun s => - g s p) (p :: cs)]
  show r p * det (rs.map fun s i => r p * g s i + (- g s p) * r i) cs - con r (fun l => det (rs.map fun s i => r p * g s i + (- g s p) * r i) (p :: l)) cs = _
  have z : (fun l => det (rs.map fun s i => r p * g s i + (- g s p) * r i) (p :: l)) = fun _ => 0 := funext fun l => det_col (fun t m => by
    obtain ⟨s, _, rfl⟩ := List.mem_map.mp m
    show r p * g s p + - g s p * r p = 0
    rw [Int.mul_comm (r p), Int.neg_mul]
    omega) l
  rw [z, con_zero]
  omega
theorem con_congr : ∀ {cs : List Nat} {r r' : Nat → Int} {D D' : List Nat → Int}, (∀ c ∈ cs, r c = r' c) → (∀ l, (∀ c ∈ l, c ∈ cs) → D l = D' l) → con r D cs = con r' D' cs
  | [], _, _, _, _, _, _ => rfl
  | c :: cs, r, r', D, D', h, g => by
    show r c * D cs - con r (fun l => D (c :: l)) cs = r' c * D' cs - con r' (fun l => D' (c :: l)) cs
    have ih : con r (fun l => D (c :: l)) cs = con r' (fun l => D' (c :: l)) cs := con_congr (fun b m => h b (List.mem_cons_of_mem _ m)) fun l hl => g (c :: l) fun b m => by
      rcases List.mem_cons.mp m with rfl | m
      · exact List.mem_cons_self
      · exact List.mem_cons_of_mem _ (hl b m)
    rw [ih, h c List.mem_cons_self, g cs fun b m => List.mem_cons_of_mem _ m]
theorem det_congr {α : Type} {g g' : α → Nat → Int} : ∀ {rs : List α} {cs : List Nat}, (∀ s ∈ rs, ∀ c ∈ cs, g s c = g' s c) → det (rs.map g) cs = det (rs.map g') cs
  | [], _, _ => rfl
  | s :: rs, cs, h => con_congr (h s List.mem_cons_self) fun l hl => det_congr fun t m c hc => h t (List.mem_cons_of_mem _ m) c (hl c hc)
/-- a row brought to the front -/
theorem det_front {t : Nat → Int} {l2 : List (Nat → Int)} : ∀ {l1 : List (Nat → Int)}, ∃ e : Int, (e = 1 ∨ e = -1) ∧ ∀ cs, det (l1 ++ t :: l2) cs = e * det (t :: (l1 ++ l2)) cs
  | [] => ⟨1, .inl rfl, fun cs => by rw [Int.one_mul]; rfl⟩
  | a :: l1 => by
    obtain ⟨e, he, h⟩ := det_front (t := t) (l2 := l2) (l1 := l1)
    refine ⟨-e, by omega, fun cs => ?_⟩
    show con a (det (l1 ++ t :: l2)) cs = -e * con t (con a (det (l1 ++ l2))) cs
    have e1 : det (l1 ++ t :: l2) = fun l => e * con t (det (l1 ++ l2)) l := funext h
    rw [e1, con_scale, con_anti a t, Int.neg_mul, Int.mul_neg]
theorem det_two (r s : Nat → Int) (p c : Nat) : det [r, s] [p, c] = r p * s c - s p * r c := by
  show r p * (s c * 1 - 0) - (r c * (s p * 1 - 0) - 0) = _
  rw [Int.mul_one, Int.mul_one, Int.sub_zero, Int.sub_zero, Int.sub_zero, Int.mul_comm (s p)]
/-- all determinants of rows of A at columns that f allows are divisible as they should be, and small; k: how many pivots there are -/
def Even (β : Nat → Nat) (k : Nat) (A : List (Nat → Int)) (f : Nat → Prop) (d : Int) : Prop := ∀ (rs : List (Nat → Int)), (∀ r ∈ rs, r ∈ A) → ∀ cs : List Nat, (∀ c ∈ cs, f c) → ∃ q : Int, det rs cs = d ^ (rs.length - 1) * q ∧ q.natAbs ≤ β (rs.length + k)
theorem con_bound {r : Nat → Int} {B X : Nat} (hr : ∀ c, (r c).natAbs ≤ B) : ∀ {cs : List Nat} {D : List Nat → Int}, (∀ l, l.length + 1 = cs.length → (D l).natAbs ≤ X) → (con r D cs).natAbs ≤ cs.length * (B * X)
  | [], _, _ => Nat.zero_le _
  | c :: cs, D, h => by
    have h1 : (r c * D cs).natAbs ≤ B * X := by
      rw [Int.natAbs_mul]
      exact Nat.mul_le_mul (hr c) (h cs rfl)
    have h2 : (con r (fun l => D (c :: l)) cs).natAbs ≤ cs.length * (B * X) := con_bound hr fun l hl => h (c :: l) (by rw [List.length_cons, List.length_cons, hl])
    show (r c * D cs - con r (fun l => D (c :: l)) cs).natAbs ≤ (cs.length + 1) * (B * X)
    rw [Nat.succ_mul]
    omega
/-- n! B^n -/
def fb (B : Nat) : Nat → Nat
  | 0 => 1
  | n + 1 => (n + 1) * (B * fb B n)
theorem det_bound {B : Nat} : ∀ {rs : List (Nat → Int)}, (∀ r ∈ rs, ∀ c, (r c).natAbs ≤ B) → ∀ cs : List Nat, (cs.length = rs.length → (det rs cs).natAbs ≤ fb B rs.length) ∧ (cs.length ≠ rs.length → det rs cs = 0)
  | [], _, cs => by
    refine ⟨fun e => ?_, fun e => ?_⟩
    · rw [List.eq_nil_of_length_eq_zero e]
      exact Nat.le_refl _
    · show one cs = 0
      exact if_neg fun z => e (by rw [z]; rfl)
  | r :: rs, h, cs => by
    have ih := det_bound (rs := rs) fun s m => h s (List.mem_cons_of_mem _ m)
    refine ⟨fun e => ?_, fun e => ?_⟩
    · have := con_bound (X := fb B rs.length) (h r List.mem_cons_self) (cs := cs) (D := det rs) fun l hl => (ih l).1 (by rw [e, List.length_cons] at hl; omega)
      rw [e] at this
      exact this
    · have := con_bound (X := 0) (h r List.mem_cons_self) (cs := cs) (D := det rs) fun l hl => by
        rw [(ih l).2 (by rw [List.length_cons] at e; omega)]
        exact Nat.le_refl _
      rw [Nat.mul_zero, Nat.mul_zero] at this
      show con r (det rs) cs = 0
      omega
theorem even_one {B : Nat} {A : List (Nat → Int)} (h : ∀ r ∈ A, ∀ c, (r c).natAbs ≤ B) (f : Nat → Prop) : Even (fb B) 0 A f 1 := fun rs hrs cs _ => by
  refine ⟨det rs cs, by rw [Int.one_pow, Int.one_mul], ?_⟩
  have b := det_bound (fun r m => h r (hrs r m)) cs
  by_cases e : cs.length = rs.length
  · exact b.1 e
  · rw [b.2 e]
    exact Nat.zero_le _
theorem fb_mono {B : Nat} (hB : 1 ≤ B) : ∀ {n m : Nat}, n ≤ m → fb B n ≤ fb B m
  | n, m, h => by
    induction h with
    | refl => exact Nat.le_refl _
    | step _ ih =>
      refine Nat.le_trans ih ?_
      show _ ≤ (_ + 1) * (B * _)
      rw [← Nat.mul_assoc]
      exact Nat.le_mul_of_pos_left _ (Nat.mul_pos (Nat.succ_pos _) hB)
/-- the next division comes out even -/
theorem Even.two {β : Nat → Nat} {k : Nat} {A : List (Nat → Int)} {f : Nat → Prop} {d : Int} (h : Even β k A f d) {r s : Nat → Int} (hr : r ∈ A) (hs : s ∈ A) {p c : Nat} (hp : f p) (hc : f c) : d ∣ r p * s c - s p * r c := by
  obtain ⟨q, e, _⟩ := h [r, s] (fun t m => by
    rcases List.mem_cons.mp m with rfl | m
    · exact hr
    · rw [List.mem_singleton.mp m]
      exact hs) [p, c] (fun t m => by
    rcases List.mem_cons.mp m with rfl | m
    · exact hp
    · rw [List.mem_singleton.mp m]
      exact hc)
  rw [det_two] at e
  have e1 : d ^ ([r, s].length - 1) = d := by
    show d ^ 1 = d
    rw [Int.pow_succ, Int.pow_zero]
    omega
  rw [e1] at e
  exact ⟨q, e⟩
/-- the entries are small -/
theorem Even.small {β : Nat → Nat} {k : Nat} {A : List (Nat → Int)} {f : Nat → Prop} {d : Int} (h : Even β k A f d) {r : Nat → Int} (hr : r ∈ A) {c : Nat} (hc : f c) : (r c).natAbs ≤ β (k + 1) := by
  obtain ⟨q, e, b⟩ := h [r] (fun t m => by
    rw [List.mem_singleton.mp m]
    exact hr) [c] (fun t m => by
    rw [List.mem_singleton.mp m]
    exact hc)
  have e1 : det [r] [c] = r c := by
    show r c * 1 - 0 = r c
    omega
  have e2 : d ^ ([r].length - 1) = 1 := Int.pow_zero d
  rw [e1, e2, Int.one_mul] at e
  rw [e, Nat.add_comm k 1]
  exact b
theorem dvd_cancel {a x y : Int} (ha : a ≠ 0) (h : a * x = a * y) : x = y := Int.eq_of_mul_eq_mul_left ha h
theorem pow_ne {a : Int} (h : a ≠ 0) (n : Nat) : a ^ n ≠ 0 := by
  induction n with
  | zero => rw [Int.pow_zero]; decide
  | succ n ih =>
    rw [Int.pow_succ]
    exact Int.mul_ne_zero ih h
/-- what a row becomes: the chosen row stays, the others are rid of the column p -/
def Next (A : List (Nat → Int)) (f : Nat → Prop) (d : Int) (r : Nat → Int) (p : Nat) (t : Nat → Int) : Prop := ∃ s ∈ A, ∀ c, f c → d * t c = r p * s c - s p * r c
theorem nexts {A : List (Nat → Int)} {f : Nat → Prop} {d : Int} {r : Nat → Int} {p : Nat} : ∀ {rs : List (Nat → Int)}, (∀ t ∈ rs, Next A f d r p t) → ∃ ps : List ((Nat → Int) × (Nat → Int)), rs = ps.map (·.1) ∧ ∀ q ∈ ps, q.2 ∈ A ∧ ∀ c, f c → d * q.1 c = r p * q.2 c - q.2 p * r c
  | [], _ => ⟨[], rfl, fun q m => absurd m (by simp)⟩
  | t :: rs, h => by
    obtain ⟨ps, e, hp⟩ := nexts (rs := rs) fun t m => h t (List.mem_cons_of_mem _ m)
    obtain ⟨s, hs, hc⟩ := h t List.mem_cons_self
    refine ⟨(t, s) :: ps, by rw [e]; rfl, fun q m => ?_⟩
    rcases List.mem_cons.mp m with rfl | m
    · exact ⟨hs, hc⟩
    · exact hp q m
theorem Even.step {β : Nat → Nat} {k : Nat} {A A' : List (Nat → Int)} {f f' : Nat → Prop} {d : Int} {r : Nat → Int} {p : Nat} (mono : ∀ {n m : Nat}, n ≤ m → β n ≤ β m) (hd : d ≠ 0) (h : Even β k A f d) (hr : r ∈ A) (hp : f p) (hn : r p ≠ 0) (ff : ∀ c, f' c → f c)
    (hA : ∀ t ∈ A', t = r ∨ Next A f' d r p t) : Even β (k + 1) A' f' (r p) := by
  -- the chosen row in front
  have front : ∀ (rs : List (Nat → Int)), (∀ t ∈ rs, t ∈ A') → ∀ cs : List Nat, (∀ c ∈ cs, f' c) → ∃ q : Int, det (r :: rs) cs = r p ^ rs.length * q ∧ q.natAbs ≤ β (rs.length + 1 + k) := by
    intro rs hrs cs hcs
    by_cases hm : r ∈ rs
    · refine ⟨0, ?_, Nat.zero_le _⟩
      show con r (det rs) cs = _
      rw [det_in hm, Int.mul_zero]
    · obtain ⟨ps, rfl, hps⟩ := nexts (A := A) (f := f') (d := d) (r := r) (p := p) fun t m => (hA t (hrs t m)).resolve_left fun e => hm (e ▸ m)
      have e1 : d ^ ps.length * det (r :: ps.map (·.1)) cs = det (r :: ps.map fun q i => r p * q.2 i + (- q.2 p) * r i) cs := by
        have e0 := det_head (r := r) (a := d) (f := fun _ => 0) (g := fun q : (Nat → Int) × (Nat → Int) => q.1) (rs := ps) cs
        rw [← e0]
        refine con_congr (fun _ _ => rfl) fun l hl => det_congr fun q hq c hc => ?_
        have := (hps q hq).2 c (hcs c (hl c hc))
        rw [this, Int.neg_mul]
        omega
      rw [det_head (f := fun q : (Nat → Int) × (Nat → Int) => - q.2 p) (g := fun q => q.2)] at e1
      obtain ⟨q, hk, hb⟩ := h (r :: ps.map (·.2)) (fun t m => by
        rcases List.mem_cons.mp m with rfl | m
        · exact hr
        · obtain ⟨q, hq, rfl⟩ := List.mem_map.mp m
          exact (hps q hq).1) cs fun c hc => ff c (hcs c hc)
      have el : (r :: ps.map (·.2)).length - 1 = ps.length := by simp
      have el2 : (r :: ps.map (·.2)).length = ps.length + 1 := by simp
      rw [el] at hk
      rw [el2] at hb
      rw [hk] at e1
      refine ⟨q, ?_, ?_⟩
      · rw [List.length_map]
        refine dvd_cancel (pow_ne hd ps.length) (e1.trans ?_)
        rw [← Int.mul_assoc, ← Int.mul_assoc, Int.mul_comm (r p ^ ps.length)]
      · rw [List.length_map]
        exact hb
  intro rs hrs cs hcs
  by_cases hm : r ∈ rs
  · obtain ⟨l1, l2, rfl⟩ := List.append_of_mem hm
    obtain ⟨e, he1, he⟩ := det_front (t := r) (l2 := l2) (l1 := l1)
    obtain ⟨q, h1, h2⟩ := front (l1 ++ l2) (fun t m => hrs t (by
      rcases List.mem_append.mp m with m | m
      · exact List.mem_append_left _ m
      · exact List.mem_append_right _ (List.mem_cons_of_mem _ m))) cs hcs
    have el : (l1 ++ r :: l2).length - 1 = (l1 ++ l2).length := by simp
    have el2 : (l1 ++ r :: l2).length = (l1 ++ l2).length + 1 := by simp; omega
    refine ⟨e * q, ?_, ?_⟩
    · rw [he, el, h1, ← Int.mul_assoc, ← Int.mul_assoc, Int.mul_comm e]
    · rw [el2]
      refine Nat.le_trans ?_ (mono (show (l1 ++ l2).length + 1 + k ≤ (l1 ++ l2).length + 1 + (k + 1) by omega))
      rw [Int.natAbs_mul]
      rcases he1 with rfl | rfl <;> simpa using h2
  · obtain ⟨ps, rfl, hps⟩ := nexts (A := A) (f := f') (d := d) (r := r) (p := p) fun t m => (hA t (hrs t m)).resolve_left fun e => hm (e ▸ m)
    cases ps with
    | nil =>
      obtain ⟨q, h1, h2⟩ := h [] (fun r m => absurd m (by simp)) cs fun c hc => ff c (hcs c hc)
      refine ⟨det [] cs, ?_, ?_⟩
      · show det [] cs = r p ^ 0 * det [] cs
        rw [Int.pow_zero, Int.one_mul]
      · have e : d ^ (([] : List (Nat → Int)).length - 1) = 1 := Int.pow_zero d
        rw [e, Int.one_mul] at h1
        rw [h1]
        exact Nat.le_trans h2 (mono (Nat.add_le_add_left (Nat.le_succ k) _))
    | cons q0 ps =>
      have e1 : d ^ (q0 :: ps).length * det ((q0 :: ps).map (·.1)) cs = det ((q0 :: ps).map fun q i => r p * q.2 i + (- q.2 p) * r i) cs := by
        rw [← det_mul]
        refine det_congr fun q hq c hc => ?_
        have := (hps q hq).2 c (hcs c hc)
        rw [this, Int.neg_mul]
        omega
      have e2 := det_chio (r := r) (p := p) (g := fun q : (Nat → Int) × (Nat → Int) => q.2) (rs := q0 :: ps) cs
      rw [← e1] at e2
      obtain ⟨q, hk, hb⟩ := h (r :: (q0 :: ps).map (·.2)) (fun t m => by
        rcases List.mem_cons.mp m with rfl | m
        · exact hr
        · obtain ⟨q, hq, rfl⟩ := List.mem_map.mp m
          exact (hps q hq).1) (p :: cs) fun c hc => by
        rcases List.mem_cons.mp hc with rfl | hc
        · exact hp
        · exact ff c (hcs c hc)
      have el : (r :: (q0 :: ps).map (·.2)).length - 1 = (q0 :: ps).length := by simp
      have el3 : (r :: (q0 :: ps).map (·.2)).length + k = ((q0 :: ps).map (·.1)).length + (k + 1) := by simp; omega
      rw [el] at hk
      rw [el3] at hb
      rw [hk] at e2
      refine ⟨q, ?_, hb⟩
      have el2 : ((q0 :: ps).map (·.1)).length - 1 = ps.length := by simp
      rw [el2]
      have e3 : r p * (d ^ (q0 :: ps).length * det ((q0 :: ps).map (·.1)) cs) = r p * (d ^ (q0 :: ps).length * (r p ^ ps.length * q)) := by
        rw [← e2, List.length_cons, Int.pow_succ (r p) ps.length]
        generalize d ^ (ps.length + 1) = D
        generalize r p ^ ps.length = R
        rw [← Int.mul_assoc, ← Int.mul_assoc, ← Int.mul_assoc, Int.mul_comm R (r p), Int.mul_assoc (r p) R D, Int.mul_comm R D, ← Int.mul_assoc]
      exact dvd_cancel (pow_ne hd _) (dvd_cancel hn e3)
end Lin
/-! LinC: the elimination without fractions, told by what holds after each column. -/
namespace Lin
def vec (l : List Int) : Nat → Int := fun j => l.getD j 0
abbrev row (L : List (List Int)) (i : Nat) : List Int := L.getD i []
theorem row_mem {L : List (List Int)} {i : Nat} (h : i < L.length) : row L i ∈ L := by
  unfold row
  rw [List.getD_eq_getElem?_getD, List.getElem?_eq_getElem h]
  exact List.getElem_mem h
theorem row_out {L : List (List Int)} {i : Nat} (h : L.length ≤ i) : row L i = [] := by
  unfold row
  rw [List.getD_eq_getElem?_getD, List.getElem?_eq_none h]
  rfl
theorem vec_nil (j : Nat) : vec [] j = 0 := rfl
theorem vec_out {l : List Int} {j : Nat} (h : l.length ≤ j) : vec l j = 0 := by
  unfold vec
  rw [List.getD_eq_getElem?_getD, List.getElem?_eq_none h]
  rfl
theorem mem_row {L : List (List Int)} {l : List Int} (h : l ∈ L) : ∃ i, i < L.length ∧ row L i = l := by
  obtain ⟨i, hi, e⟩ := List.getElem_of_mem h
  refine ⟨i, hi, ?_⟩
  unfold row
  rw [List.getD_eq_getElem?_getD, List.getElem?_eq_getElem hi, e]
  rfl
/-- where the pivot of column c stands from row s on -/
def Piv (L : List (List Int)) (s c : Nat) : Option Nat → Prop
  | some f => s ≤ f ∧ f < L.length ∧ vec (row L f) c ≠ 0
  | none => ∀ i, s ≤ i → vec (row L i) c = 0
/-- a row rid of column c by the row r -/
def clr (d : Int) (r : List Int) (c : Nat) (l : List Int) : List Int := List.zipWith (fun x y => (vec r c * x - vec l c * y).fdiv d) l r
theorem vec_zip {g : Int → Int → Int} (g0 : g 0 0 = 0) : ∀ {l r : List Int}, l.length = r.length → ∀ j, vec (List.zipWith g l r) j = g (vec l j) (vec r j)
  | [], [], _, j => by
    show (0 : Int) = g 0 0
    rw [g0]
  | x :: l, y :: r, h, 0 => rfl
  | x :: l, y :: r, h, j + 1 => vec_zip g0 (l := l) (r := r) (by simpa using h) j
theorem fdiv_exact {d x q : Int} (hd : d ≠ 0) (h : x = d * q) : x.fdiv d = q := by
  rw [h]
  exact Int.mul_fdiv_cancel_left q hd
structure El (R L : List (List Int)) (n B : Nat) (ps : List Nat) (d : Int) (c : Nat) : Prop where
  len : L.length = R.length
  wid : ∀ l ∈ L, l.length = n
  d0 : d ≠ 0
  nodup : ps.Nodup
  lo : ∀ p ∈ ps, p < c
  few : ps.length ≤ L.length
  one : ∀ i, i < ps.length → ∀ j, j < ps.length → vec (row L i) (ps.getD j 0) = if i = j then d else 0
  low : ∀ i, ps.length ≤ i → ∀ j, j < c → vec (row L i) j = 0
  even : Even (fb B) ps.length (L.map vec) (fun c => c ∉ ps) d
  to : ∀ l ∈ L, Dep (R.map vec) (vec l)
  back : ∀ l ∈ R, Dep (L.map vec) (vec l)
section
variable {R L L' : List (List Int)} {n B : Nat} {ps : List Nat} {d : Int} {c k f : Nat}
theorem El.start (hw : ∀ l ∈ R, l.length = n) (hb : ∀ l ∈ R, ∀ j, (vec l j).natAbs ≤ B) : El R R n B [] 1 0 := by
  refine ⟨rfl, hw, by decide, List.nodup_nil, fun p m => absurd m (by simp), Nat.zero_le _, fun i hi => absurd hi (by simp), fun i _ j hj => absurd hj (by simp), even_one (fun r m j => ?_) _, fun l m => .mem (List.mem_map.mpr ⟨l, m, rfl⟩), fun l m => .mem (List.mem_map.mpr ⟨l, m, rfl⟩)⟩
  obtain ⟨l, hl, rfl⟩ := List.mem_map.mp m
  exact hb l hl j
/-- a column without pivot -/
theorem El.skip (h : El R L n B ps d c) (hp : Piv L ps.length c none) : El R L n B ps d (c + 1) := by
  refine ⟨h.len, h.wid, h.d0, h.nodup, fun p m => Nat.lt_succ_of_lt (h.lo p m), h.few, h.one, fun i hi j hj => ?_, h.even, h.to, h.back⟩
  by_cases e : j = c
  · rw [e]
    exact hp i hi
  · exact h.low i hi j (by omega)
theorem Even.sub {β : Nat → Nat} {k : Nat} {A A' : List (Nat → Int)} {f : Nat → Prop} {d : Int} (h : Even β k A f d) (s : ∀ r ∈ A', r ∈ A) : Even β k A' f d := fun rs hrs => h rs fun r m => s r (hrs r m)
/-- two of the lower rows exchanged -/
theorem El.swap (h : El R L n B ps d c) (hl : L'.length = L.length) (hk : k < L.length) (hf : f < L.length) (k0 : ps.length ≤ k) (f0 : ps.length ≤ f) (e1 : row L' k = row L f) (e2 : row L' f = row L k) (e3 : ∀ i, i ≠ k → i ≠ f → row L' i = row L i) : El R L' n B ps d c := by
  have sub : ∀ l ∈ L', l ∈ L := fun l m => by
    obtain ⟨i, hi, rfl⟩ := mem_row m
    rw [hl] at hi
    by_cases a : i = k
    · rw [a, e1]
      exact row_mem hf
    · by_cases b : i = f
      · rw [b, e2]
        exact row_mem hk
      · rw [e3 i a b]
        exact row_mem hi
  have sup : ∀ l ∈ L, l ∈ L' := fun l m => by
    obtain ⟨i, hi, rfl⟩ := mem_row m
    by_cases a : i = k
    · rw [a, ← e2]
      exact row_mem (by omega)
    · by_cases b : i = f
      · rw [b, ← e1]
        exact row_mem (by omega)
      · rw [← e3 i a b]
        exact row_mem (by omega)
  refine ⟨hl.trans h.len, fun l m => h.wid l (sub l m), h.d0, h.nodup, h.lo, by rw [hl]; exact h.few, fun i hi j hj => ?_, fun i hi j hj => ?_, h.even.sub fun r m => ?_, fun l m => h.to l (sub l m), fun l m => (h.back l m).mono fun s ms => ?_⟩
  · rw [e3 i (by omega) (by omega)]
    exact h.one i hi j hj
  · by_cases a : i = k
    · rw [a, e1]
      exact h.low f f0 j hj
    · by_cases b : i = f
      · rw [b, e2]
        exact h.low k k0 j hj
      · rw [e3 i a b]
        exact h.low i hi j hj
  · obtain ⟨l, hl', rfl⟩ := List.mem_map.mp m
    exact List.mem_map.mpr ⟨l, sub l hl', rfl⟩
  · obtain ⟨l, hl', rfl⟩ := List.mem_map.mp ms
    exact List.mem_map.mpr ⟨l, sup l hl', rfl⟩
/-- the division by the last pivot comes out even everywhere -/
theorem El.exact (h : El R L n B ps d c) (hk : ps.length < L.length) {i : Nat} (hi : i < L.length) : ∀ j, d * vec (clr d (row L ps.length) c (row L i)) j = vec (row L ps.length) c * vec (row L i) j - vec (row L i) c * vec (row L ps.length) j := by
  intro j
  have w1 := h.wid _ (row_mem hi)
  have w2 := h.wid _ (row_mem hk)
  have ex : ∃ q, vec (row L ps.length) c * vec (row L i) j - vec (row L i) c * vec (row L ps.length) j = d * q := by
    by_cases m : j ∈ ps
    · have z : vec (row L ps.length) j = 0 := h.low _ (Nat.le_refl _) j (h.lo j m)
      obtain ⟨t, ht, e⟩ := List.getElem_of_mem m
      have e' : ps.getD t 0 = j := by
        rw [List.getD_eq_getElem?_getD, List.getElem?_eq_getElem ht, e]
        rfl
      by_cases il : i < ps.length
      · have o := h.one i il t ht
        rw [e'] at o
        by_cases it : i = t
        · rw [if_pos it] at o
          exact ⟨vec (row L ps.length) c, by rw [z, o, Int.mul_zero, Int.mul_comm d]; omega⟩
        · rw [if_neg it] at o
          exact ⟨0, by rw [z, o, Int.mul_zero, Int.mul_zero, Int.mul_zero]; omega⟩
      · have o := h.low i (by omega) j (h.lo j m)
        exact ⟨0, by rw [z, o, Int.mul_zero, Int.mul_zero, Int.mul_zero]; omega⟩
    · have nc : c ∉ ps := fun m => Nat.lt_irrefl _ (h.lo c m)
      exact h.even.two (r := vec (row L ps.length)) (s := vec (row L i)) (List.mem_map.mpr ⟨_, row_mem hk, rfl⟩) (List.mem_map.mpr ⟨_, row_mem hi, rfl⟩) (p := c) (c := j) nc m
  obtain ⟨q, hq⟩ := ex
  unfold clr
  rw [vec_zip (g := fun x y => (vec (row L ps.length) c * x - vec (row L i) c * y).fdiv d) (by rw [Int.mul_zero, Int.mul_zero]; exact Int.zero_fdiv d) (by rw [w1, w2]) j]
  rw [fdiv_exact h.d0 hq, ← hq]
theorem clr_len (h : El R L n B ps d c) (hk : ps.length < L.length) {i : Nat} (hi : i < L.length) : (clr d (row L ps.length) c (row L i)).length = n := by
  unfold clr
  rw [List.length_zipWith, h.wid _ (row_mem hi), h.wid _ (row_mem hk), Nat.min_self]
/-- a column with its pivot in row k -/
theorem El.clear (hB : 1 ≤ B) (h : El R L n B ps d c) (hk : ps.length < L.length) (hn : vec (row L ps.length) c ≠ 0) (hl : L'.length = L.length) (e1 : row L' ps.length = row L ps.length) (e2 : ∀ i, i < L.length → i ≠ ps.length → row L' i = clr d (row L ps.length) c (row L i)) :
    El R L' n B (ps ++ [c]) (vec (row L ps.length) c) (c + 1) := by
  have nc : c ∉ ps := fun m => Nat.lt_irrefl _ (h.lo c m)
  have eql : (ps ++ [c]).length = ps.length + 1 := by rw [List.length_append]; rfl
  have ex : ∀ i, i < L.length → i ≠ ps.length → ∀ j, d * vec (row L' i) j = vec (row L ps.length) c * vec (row L i) j - vec (row L i) c * vec (row L ps.length) j := fun i hi ne j => by
    rw [e2 i hi ne]
    exact h.exact hk hi j
  have zero : ∀ {x : Int}, d * x = 0 → x = 0 := fun {x} e => by
    rcases Int.mul_eq_zero.mp e with z | z
    · exact absurd z h.d0
    · exact z
  have zlow : ∀ i, ps.length < i → ∀ j, j < c + 1 → vec (row L' i) j = 0 := fun i hi j hj => by
    by_cases il : i < L.length
    · refine zero ?_
      rw [ex i il (by omega) j]
      by_cases jc : j = c
      · rw [jc, Int.mul_comm (vec (row L i) c)]
        omega
      · rw [h.low i (by omega) j (by omega), h.low ps.length (Nat.le_refl _) j (by omega)]
        omega
    · rw [row_out (by omega)]
      rfl
  have getL : ∀ j, j < ps.length → (ps ++ [c]).getD j 0 = ps.getD j 0 := fun j hj => by
    rw [List.getD_eq_getElem?_getD, List.getElem?_append_left hj, ← List.getD_eq_getElem?_getD]
  have getR : (ps ++ [c]).getD ps.length 0 = c := by
    rw [List.getD_eq_getElem?_getD, List.getElem?_append_right (Nat.le_refl _), Nat.sub_self]
    rfl
  have getM : ∀ j, j < ps.length → ps.getD j 0 ∈ ps := fun j hj => by
    rw [List.getD_eq_getElem?_getD, List.getElem?_eq_getElem hj]
    exact List.getElem_mem hj
  refine ⟨hl.trans h.len, fun l m => ?_, hn, ?_, fun p m => ?_, by rw [eql, hl]; exact hk, fun i hi j hj => ?_, fun i hi j hj => ?_, ?_, fun l m => ?_, fun l m => ?_⟩
  · obtain ⟨i, hi, rfl⟩ := mem_row m
    rw [hl] at hi
    by_cases a : i = ps.length
    · rw [a, e1]
      exact h.wid _ (row_mem hk)
    · rw [e2 i hi a]
      exact clr_len h hk hi
  · rw [List.nodup_append]
    refine ⟨h.nodup, by simp, fun x hx y hy e => ?_⟩
    rw [List.mem_singleton.mp hy] at e
    exact nc (e ▸ hx)
  · rcases List.mem_append.mp m with m | m
    · exact Nat.lt_succ_of_lt (h.lo p m)
    · rw [List.mem_singleton.mp m]
      exact Nat.lt_succ_self c
  · rw [eql] at hi hj
    by_cases ik : i = ps.length
    · rw [ik, e1]
      by_cases jk : j = ps.length
      · rw [jk, getR, if_pos rfl]
      · rw [getL j (by omega), if_neg (fun z => jk z.symm)]
        exact h.low _ (Nat.le_refl _) _ (h.lo _ (getM j (by omega)))
    · have il : i < L.length := by omega
      refine dvd_cancel h.d0 ?_
      rw [ex i il ik]
      by_cases jk : j = ps.length
      · rw [jk, getR, if_neg ik, Int.mul_comm (vec (row L i) c), Int.mul_zero]
        omega
      · rw [getL j (by omega), h.low ps.length (Nat.le_refl _) _ (h.lo _ (getM j (by omega))), h.one i (by omega) j (by omega)]
        by_cases ij : i = j
        · rw [if_pos ij, if_pos ij, Int.mul_zero, Int.mul_comm d]
          omega
        · rw [if_neg ij, if_neg ij, Int.mul_zero, Int.mul_zero, Int.mul_zero]
          omega
  · rw [eql] at hi
    exact zlow i (by omega) j hj
  · rw [eql]
    refine Even.step (f := fun c => c ∉ ps) (A := L.map vec) (d := d) (r := vec (row L ps.length)) (p := c) (fun {_ _} => fb_mono hB) h.d0 h.even (List.mem_map.mpr ⟨_, row_mem hk, rfl⟩) nc hn (fun b hb m => hb (List.mem_append_left _ m)) fun t m => ?_
    obtain ⟨l, hl', rfl⟩ := List.mem_map.mp m
    obtain ⟨i, hi, rfl⟩ := mem_row hl'
    rw [hl] at hi
    by_cases a : i = ps.length
    · left
      rw [a, e1]
    · right
      exact ⟨vec (row L i), List.mem_map.mpr ⟨_, row_mem hi, rfl⟩, fun j _ => ex i hi a j⟩
  · obtain ⟨i, hi, rfl⟩ := mem_row m
    rw [hl] at hi
    by_cases a : i = ps.length
    · rw [a, e1]
      exact h.to _ (row_mem hk)
    · have s : Dep (L.map vec) (vec (row L' i)) := by
        refine ⟨d, h.d0, (((Sp.mem (List.mem_map.mpr ⟨_, row_mem hi, rfl⟩)).scale (vec (row L ps.length) c)).plus ((Sp.mem (List.mem_map.mpr ⟨_, row_mem hk, rfl⟩)).scale (- vec (row L i) c))).cast fun j => ?_⟩
        rw [ex i hi a j, Int.neg_mul]
        omega
      exact s.trans fun t mt => by
        obtain ⟨l, hl', rfl⟩ := List.mem_map.mp mt
        exact h.to l hl'
  · refine (h.back l m).trans fun t mt => ?_
    obtain ⟨l0, hl0, rfl⟩ := List.mem_map.mp mt
    obtain ⟨i, hi, rfl⟩ := mem_row hl0
    have mk : vec (row L ps.length) ∈ L'.map vec := by
      rw [← e1]
      exact List.mem_map.mpr ⟨_, row_mem (by omega), rfl⟩
    by_cases a : i = ps.length
    · rw [a]
      exact .mem mk
    · refine ⟨vec (row L ps.length) c, hn, (((Sp.mem (List.mem_map.mpr ⟨row L' i, row_mem (by omega), rfl⟩)).scale d).plus ((Sp.mem mk).scale (vec (row L i) c))).cast fun j => ?_⟩
      have := ex i hi a j
      omega
/-- entries and divisor are small -/
theorem El.small (h : El R L n B ps d c) (hB : 1 ≤ B) {l : List Int} (m : l ∈ L) {j : Nat} (hj : j ∉ ps) : (vec l j).natAbs ≤ fb B (ps.length + 1) := h.even.small (List.mem_map.mpr ⟨l, m, rfl⟩) hj
end
/-! ### the rank -/
section
variable {ι : Type}
theorem sp_zero {S : List (ι → Int)} {v : ι → Int} {i : ι} (h : Sp S v) (z : ∀ s ∈ S, s i = 0) : v i = 0 := by
  induction h with
  | zero => rfl
  | add a _ m ih =>
    dsimp only
    rw [ih, z _ m]
    omega
theorem rk_free : ∀ {xs B : List (ι → Int)}, (∀ i (hi : i < xs.length), ∃ j, xs[i] j ≠ 0 ∧ (∀ s ∈ B, s j = 0) ∧ ∀ t (ht : t < i), xs[t] j = 0) → rk B xs = xs.length
  | [], _, _ => rfl
  | x :: xs, B, h => by
    have n : ¬ Dep B x := fun ⟨d, hd, hs⟩ => by
      obtain ⟨j, h1, h2, _⟩ := h 0 (Nat.succ_pos _)
      have := sp_zero hs h2
      rcases Int.mul_eq_zero.mp this with z | z
      · exact hd z
      · exact h1 z
    have ih : rk (x :: B) xs = xs.length := rk_free fun i hi => by
      obtain ⟨j, h1, h2, h3⟩ := h (i + 1) (Nat.succ_lt_succ hi)
      refine ⟨j, h1, fun s m => ?_, fun t ht => h3 (t + 1) (Nat.succ_lt_succ ht)⟩
      rcases List.mem_cons.mp m with rfl | m
      · exact h3 0 (Nat.succ_pos _)
      · exact h2 s m
    unfold rk
    rw [if_neg n, ih, List.length_cons]
    omega
end
/-- as many pivots as the rank -/
theorem El.rank {R L : List (List Int)} {n B : Nat} {ps : List Nat} {d : Int} {c : Nat} (h : El R L n B ps d c) (hc : n ≤ c) : Lin.rank (R.map vec) = ps.length := by
  have e1 : Lin.rank (R.map vec) = Lin.rank (L.map vec) := rank_eq (fun x m => by
    obtain ⟨l, hl, rfl⟩ := List.mem_map.mp m
    exact h.back l hl) fun x m => by
    obtain ⟨l, hl, rfl⟩ := List.mem_map.mp m
    exact h.to l hl
  have e2 : L.map vec = (L.take ps.length).map vec ++ (L.drop ps.length).map vec := by rw [← List.map_append, List.take_append_drop]
  have gi : ∀ {i : Nat}, i < L.length → row L i = L[i]?.getD [] := fun _ => by
    unfold row
    rw [List.getD_eq_getElem?_getD]
  rw [e1, e2, rank_app, rk_zero (xs := (L.drop ps.length).map vec) (fun x m => ?_)]
  · unfold Lin.rank
    rw [rk_free (xs := (L.take ps.length).map vec) (B := []) fun i hi => ?_]
    · rw [List.length_map, List.length_take]
      have := h.few
      omega
    · rw [List.length_map, List.length_take] at hi
      have ip : i < ps.length := by omega
      have v : ∀ t, t < ps.length → ∀ (ht : t < ((L.take ps.length).map vec).length), ((L.take ps.length).map vec)[t] = vec (row L t) := fun t tp ht => by
        have fw := h.few
        rw [List.getElem_map, List.getElem_take]
        unfold row
        rw [List.getD_eq_getElem?_getD, List.getElem?_eq_getElem (by omega)]
        rfl
      refine ⟨ps.getD i 0, ?_, fun s m => absurd m (by simp), fun t ht => ?_⟩
      · rw [v i ip, h.one i ip i ip, if_pos rfl]
        exact h.d0
      · rw [v t (by omega), h.one t (by omega) i ip, if_neg (by omega)]
  · obtain ⟨l, hl, rfl⟩ := List.mem_map.mp m
    obtain ⟨i, hi, e⟩ := List.getElem_of_mem hl
    rw [List.length_drop] at hi
    have z : vec l = fun _ => 0 := by
      funext j
      have er : row L (ps.length + i) = l := by
        unfold row
        rw [List.getD_eq_getElem?_getD, List.getElem?_eq_getElem (by omega), ← e, List.getElem_drop]
        rfl
      by_cases jc : j < c
      · rw [← er]
        exact h.low _ (by omega) j jc
      · have := h.wid l (List.mem_of_mem_drop hl)
        exact vec_out (by omega)
    rw [z]
    exact .zero
end Lin
/-! pivot_index, cleared -/
namespace P37
open PySem PySem.Spec PyProof.Rows L2 AskG Ask
abbrev sPI : Stmt := topS 11
abbrev sCl : Stmt := topS 12
abbrev NPI : List Str := ["lines", "start", "column", "at"]
abbrev NCl : List Str := ["lines", "at", "column", "divisor", "chosen", "pivot", "result", "index", "line", "factor", "number", "other"]
theorem scPI : FnScope NPI ["lines", "start", "column"] (defScope sPI) := ⟨rfl, rfl, rfl, by decide +kernel, rfl, by decide +kernel, by decide +kernel⟩
theorem scCl : FnScope NCl ["lines", "at", "column", "divisor"] (defScope sCl) := ⟨rfl, rfl, rfl, by decide +kernel, rfl, by decide +kernel, by decide +kernel⟩
/-- a list of lines -/
def MatAt (H : Hp) (p : Addr) (M : List (List Int)) : Prop := ∃ ps : List Addr, H p = some (.lst (ps.map V.ref)) ∧ Paired (LineAt H) ps M
theorem LineAt.same {H H' : Hp} {p : Addr} {l : List Int} (h : LineAt H p l) (s : Same H H') : LineAt H' p l := s _ _ h
theorem MatAt.same {H H' : Hp} {p : Addr} {M : List (List Int)} (h : MatAt H p M) (s : Same H H') : MatAt H' p M := by
  obtain ⟨ps, h1, h2⟩ := h
  exact ⟨ps, s _ _ h1, Paired.mapP h2 fun _ _ z => z.same s⟩
theorem line_ix {H : Hp} {p : Addr} {l : List Int} (h : LineAt H p l) {j : Nat} (hj : j < l.length) : atI (l.map V.int) (j : Int) = some (.int (Lin.vec l j)) := by
  refine atI_nat ?_
  rw [List.getElem?_map, List.getElem?_eq_getElem hj]
  unfold Lin.vec
  rw [List.getD_eq_getElem?_getD, List.getElem?_eq_getElem hj]
  rfl
theorem mat_at {H : Hp} {ps : List Addr} {M : List (List Int)} (h : Paired (LineAt H) ps M) {i : Nat} (hi : i < M.length) : ∃ p, ps[i]? = some p ∧ LineAt H p (Lin.row M i) := by
  have l := Paired.length h
  have hp : ps[i]? = some ps[i] := List.getElem?_eq_getElem (by omega)
  obtain ⟨x, hx, hl⟩ := paired_at' h hp
  refine ⟨_, hp, ?_⟩
  unfold Lin.row
  rw [List.getD_eq_getElem?_getD, hx]
  exact hl
theorem paired_in {α β : Type} {R S : α → β → Prop} : ∀ {as : List α} {bs : List β}, (∀ a ∈ as, ∀ b, R a b → S a b) → Paired R as bs → Paired S as bs
  | _, _, _, .nil => .nil
  | _, _, h, .cons x t => .cons (h _ List.mem_cons_self _ x) (paired_in (fun a m => h a (List.mem_cons_of_mem _ m)) t)
section
variable {P : Program} {w : World} {K : PySem.W.Frag} {mg : Str → Option Value} {base : Heap}
def prPI : Pr := fun vs H Q => ∃ (L : Addr) (M : List (List Int)) (s c n : Nat), vs = [.ref L, .int (s : Int), .int (c : Int)] ∧ MatAt H L M ∧ (∀ l ∈ M, l.length = n) ∧ c < n ∧ s ≤ M.length ∧ M.length ≤ 1000 ∧
  (∀ f : Nat, Lin.Piv M s c (some f) → Q (.int (f : Int)) H) ∧ (Lin.Piv M s c none → Q .non H)
theorem ok_pi {f : Addr} {fd : FuncData} {k : Nat} (F : Fun K "pivot_index" "pivot_index" sPI f fd) (mr : mg "range" = none) (ml : mg "len" = none) : FnX P w K mg base (k + 1) f fd ["lines", "start", "column"] (quiet prPI) := by
  refine okN F scPI (fun vs H Q h => ?_) (fun cdv A outer s H E vs Q hr h => ?_)
  · obtain ⟨_, _, _, _, _, rfl, _⟩ := h
    rfl
  · obtain ⟨L, M, st, c, n, rfl, hM, wid, cn, sM, lM, q1, q2⟩ := h
    have big := sizeBig
    obtain ⟨ps, h1, h2⟩ := id hM
    have pl := Paired.length h2
    have pl2 : (ps.map V.ref).length = M.length := by rw [List.length_map]; exact pl
    refine ⟨_, pss_cons (ps_for PassesOwn.never rfl (pi_range2 (by rfl) mr (pa_cons (pv 1) (pa_cons (pe_callB call_len_seq (by rfl) ml PySem.boot_len (pa_cons (pv 0) pa_nil)) pa_nil))) (pg_name (i := 3) scPI.nd rfl (.inl rfl))
        (pss_one (ps_if (pt_cmpR op_ne (pe_ix (ix_list : IxR _ (rIxL K)) (pe_ix (ix_list : IxR _ (rIxL K)) (pv 0) (pv 3) (fun _ _ => rfl)) (pv 2) (fun _ _ => rfl)) pe_int (nomark _)) (pss_one (ps_ret (pv 3))) pss_nil)))
      (pss_one (ps_ret pe_non)), ?_⟩
    refine iSeq ⟨.int (st : Int), rfl, .ref L, rfl, L, _, rfl, .inl (sqL h1), (st : Int), ((ps.map V.ref).length : Int), rfl, ⟨by omega, by omega, by omega, by omega⟩, ?_⟩
    rw [List.length_map]
    refine for_range (lo := (st : Int)) (n := ((ps.length : Int) - (st : Int)).toNat) (fun i σ' H' => (∃ x3, σ' = [some (.ref L), some (.int (st : Int)), some (.int (c : Int)), x3]) ∧ H' = H ∧ ∀ j, j < i → Lin.vec (Lin.row M (st + j)) c = 0) ⟨⟨_, rfl⟩, rfl, fun j hj => absurd hj (by simp)⟩ (fun i σ' H' hi h => ?_) (fun σ' H' h => ?_)
    · obtain ⟨⟨x3, rfl⟩, rfl, zs⟩ := h
      refine iName ?_
      dsimp only
      have im : st + i < M.length := by omega
      obtain ⟨p, hp, hl⟩ := mat_at h2 im
      have ll := wid _ (Lin.row_mem im)
      have e1 : ((st : Int) + (i : Int)) = ((st + i : Nat) : Int) := by omega
      refine iIfS ⟨.ref L, rfl, .int ((st : Int) + (i : Int)), rfl, L, _, _, .ref p, rfl, rfl, sqL h1, by rw [e1]; exact atI_nat (by rw [List.getElem?_map, hp]; rfl), .int (c : Int), rfl, p, _, _, _, rfl, rfl, sqL hl, line_ix hl (by omega), rfl, _, rfl, ?_⟩
      by_cases z : Lin.vec (Lin.row M (st + i)) c = 0
      · rw [z, decide_eq_true rfl]
        refine iteF ⟨⟨_, rfl⟩, rfl, fun j hj => ?_⟩
        by_cases e : j = i
        · rw [e]
          exact z
        · exact zs j (by omega)
      · rw [decide_eq_false (fun e => z (V.int.inj e))]
        refine iteT (iRet ⟨_, rfl, ?_⟩)
        rw [e1]
        exact q1 (st + i) ⟨by omega, im, z⟩
    · obtain ⟨⟨x3, rfl⟩, rfl, zs⟩ := h
      dsimp only
      refine iRet (q2 fun i hi => ?_)
      by_cases im : i < M.length
      · have := zs (i - st) (by omega)
        rw [show st + (i - st) = i by omega] at this
        exact this
      · rw [Lin.row_out (by omega)]
        rfl
def clrM (d : Int) (at' c : Nat) (M : List (List Int)) : List (List Int) := (List.range M.length).map fun i => if i = at' then Lin.row M at' else Lin.clr d (Lin.row M at') c (Lin.row M i)
def prCl : Pr := fun vs H Q => ∃ (L : Addr) (ps : List Addr) (M : List (List Int)) (t c n : Nat) (d : Int), vs = [.ref L, .int (t : Int), .int (c : Int), .int d] ∧ H L = some (.lst (ps.map V.ref)) ∧ Paired (LineAt H) ps M ∧ (∀ l ∈ M, l.length = n) ∧ c < n ∧ n ≤ 1000 ∧ t < M.length ∧ M.length ≤ 1000 ∧ d ≠ 0 ∧ d.natAbs < 2 ^ 4000 ∧
  (∀ l ∈ M, ∀ j, (Lin.vec l j).natAbs < 2 ^ 4000) ∧ ∀ H' p qs, Same H H' → H p = none → H' p = some (.lst (qs.map V.ref)) → Paired (LineAt H') qs (clrM d t c M) → (∀ q ∈ qs, q ≠ p ∧ (H q = none ∨ q ∈ ps)) → Q (.ref p) H'
theorem ok_cl {f : Addr} {fd : FuncData} {k : Nat} (F : Fun K "cleared" "cleared" sCl f fd) (me : mg "enumerate" = none) (mz : mg "zip" = none) : FnX P w K mg base (k + 1) f fd ["lines", "at", "column", "divisor"] (quiet prCl) := by
  refine okN F scCl (fun vs H Q h => ?_) (fun cdv A outer s H E vs Q hr h => ?_)
  · obtain ⟨_, _, _, _, _, _, _, rfl, _⟩ := h
    rfl
  · obtain ⟨L, ps, M, t, c, n, d, rfl, h1, h2, wid, cn, n9, tM, lM, d0, dB, mB, q⟩ := h
    have big := sizeBig
    have pl := Paired.length h2
    refine ⟨_, pss_cons (ps_set (i := 4) scCl.nd rfl (.inl rfl) (pe_ix (ix_list : IxR _ (rIxL K)) (pv 0) (pv 1) (fun _ _ => rfl)))
      (pss_cons (ps_set (i := 5) scCl.nd rfl (.inr rfl) (pe_ix (ix_list : IxR _ (rIxL K)) (pv 4) (pv 2) (fun _ _ => rfl)))
      (pss_cons (ps_set (i := 6) scCl.nd rfl (.inl rfl) (pe_lst pa_nil))
      (pss_cons (ps_for PassesOwn.never rfl (pi_enum (by rfl) me (pa_cons (pv 0) pa_nil)) (pg_tup rfl (pgs_cons (pg_name (i := 7) scCl.nd rfl (.inl rfl)) (pgs_cons (pg_name (i := 8) scCl.nd rfl (.inl rfl)) pgs_nil)))
        (pss_one (ps_if (pt_cmpR op_eq (pv 7) (pv 1) (nomark _))
          (pss_one (ps_expr (pe_bm PySem.F.plainAttrs_list PySem.F.slot_list_append PySem.F.type_list_append mt_append (pv 6) (pa_cons (pv 4) pa_nil))))
          (pss_cons (ps_set (i := 9) scCl.nd rfl (.inr rfl) (pe_ix (ix_list : IxR _ (rIxL K)) (pv 8) (pv 2) (fun _ _ => rfl)))
          (pss_one (ps_expr (pe_bm PySem.F.plainAttrs_list PySem.F.slot_list_append PySem.F.type_list_append mt_append (pv 6) (pa_cons (pe_lc (own := [("number", 10), ("other", 11)]) (g := g2 K 10 11) (tt := tYes) rfl scCl.nd (pi_zip (by rfl) mz (pa_cons (pv 8) (pa_cons (pv 4) pa_nil))) (blkOk_by (N := NCl) (sc := defScope sCl) (by decide +kernel))
            (fun _ _ _ _ _ => pg_tup rfl (pgs_cons (pg_name (i := 10) scCl.nd rfl (.inl rfl)) (pgs_cons (pg_name (i := 11) scCl.nd rfl (.inl rfl)) pgs_nil))) (fun _ _ _ _ _ => pts_nil)
            (fun _ _ _ _ _ => pe_op op_fdivX (pe_op op_sub (pe_op op_mulW (pv 5) (pv 10)) (pe_op op_mulW (pv 9) (pv 11))) (pv 3))) pa_nil))))))))
      (pss_one (ps_ret (pv 6)))))), ?_⟩
    obtain ⟨pt, hpt, hlt⟩ := mat_at h2 tM
    have llt := wid _ (Lin.row_mem tM)
    refine iSeq (iAsg ⟨.ref L, rfl, .int (t : Int), rfl, L, _, _, .ref pt, rfl, rfl, sqL h1, atI_nat (by rw [List.getElem?_map, hpt]; rfl), iName ?_⟩)
    dsimp only
    refine iSeq (iAsg ⟨.ref pt, rfl, .int (c : Int), rfl, pt, _, _, _, rfl, rfl, sqL hlt, line_ix hlt (by omega), iName ?_⟩)
    dsimp only
    refine iSeq (iAsg ⟨Nat.zero_le _, fun R hR => iName ?_⟩)
    dsimp only
    have s1 := same_new (o := .lst []) hR
    have hR1 : (upd H R (.lst [])) R = some (.lst []) := upd_same
    generalize upd H R (.lst []) = H1 at s1 hR1 ⊢
    refine iSeq ⟨.ref L, rfl, L, _, rfl, sqL (s1 _ _ h1), ?_⟩
    have lc : (clrM d t c M).length = M.length := by
      unfold clrM
      rw [List.length_map, List.length_range]
    refine for_enum (K := K) (a := L) (xs := ps.map V.ref) (fun i σ' H' => (∃ x7 x8 x9, σ' = [some (.ref L), some (.int (t : Int)), some (.int (c : Int)), some (.int d), some (.ref pt), some (.int (Lin.vec (Lin.row M t) c)), some (.ref R), x7, x8, x9, none, none]) ∧ Same H H' ∧ i ≤ M.length ∧ ∃ qs, H' R = some (.lst (qs.map V.ref)) ∧ (∀ q ∈ qs, q ≠ R ∧ (H q = none ∨ q ∈ ps)) ∧ Paired (LineAt H') qs ((clrM d t c M).take i))
      ⟨⟨_, _, _, rfl⟩, s1, Nat.zero_le _, [], hR1, fun q m => absurd m (by simp), by rw [List.take_zero]; exact .nil⟩ (fun i σ' H' h => sqL (h.2.1 _ _ h1)) (fun i x T σ' H' hx h hT => ?_) (fun σ' H' h => ?_)
    · obtain ⟨⟨x7, x8, x9, rfl⟩, sm, _, qs, hqs, hne, hqq⟩ := h
      rw [List.getElem?_map] at hx
      obtain ⟨p, hp, rfl⟩ := Option.map_eq_some_iff.mp hx
      have im : i < M.length := by
        have := (List.getElem?_eq_some_iff.mp hp).1
        omega
      obtain ⟨p', hp', hl0⟩ := mat_at h2 im
      rw [hp] at hp'
      cases hp'
      have ql := Paired.length hqq
      rw [List.length_take, lc] at ql
      have sT := same_new (o := .tup [.int (i : Nat), .ref p]) hT
      refine ⟨T, _, rfl, sqT upd_same, rfl, .int (i : Nat), _, rfl, .ref p, _, rfl, rfl, ?_⟩
      dsimp only
      have sm2 := sm.trans sT
      have hq2 := sT _ _ hqs
      have hqq2 : Paired (LineAt _) qs ((clrM d t c M).take i) := Paired.mapP hqq fun _ _ z => z.same sT
      generalize upd H' T (.tup [.int (i : Nat), .ref p]) = H2 at sm2 hq2 hqq2 ⊢
      clear sT hqs hqq sm hT
      have nR : ∀ {b : Addr} {o : HO}, H b = some o → b ≠ R := fun e => ne_of_none e hR
      have row_i : (clrM d t c M)[i]? = some (if i = t then Lin.row M t else Lin.clr d (Lin.row M t) c (Lin.row M i)) := by
        unfold clrM
        rw [List.getElem?_map, List.getElem?_range im]
        rfl
      refine iIfS ⟨.int (i : Nat), rfl, .int (t : Int), rfl, rfl, _, rfl, ?_⟩
      by_cases it : i = t
      · have e0 : decide (V.int (i : Nat) = V.int (t : Int)) = true := decide_eq_true (by rw [it])
        rw [e0]
        refine iteT (iDrop' ⟨.ref R, rfl, .inl ⟨rfl, _, sqL hq2⟩, .ref pt, rfl, R, _, _, rfl, rfl, hq2, by rw [List.length_map]; omega, ⟨_, _, _, rfl⟩, fun b o e => ?_, by omega, qs ++ [pt], by rw [upd_same, List.map_append]; rfl, fun q m => ?_, ?_⟩)
        · rw [upd_ne (nR e)]
          exact sm2 _ _ e
        · rcases List.mem_append.mp m with m | m
          · exact hne q m
          · rw [List.mem_singleton.mp m]
            exact ⟨nR hlt, .inr (List.mem_of_getElem? hpt)⟩
        · rw [List.take_add_one, row_i, if_pos it]
          refine paired_app (paired_in (fun q m l h => ?_) hqq2) (.cons ?_ .nil)
          · show upd _ _ _ _ = _
            rw [upd_ne (hne q m).1]
            exact h
          · show upd _ _ _ _ = _
            rw [upd_ne (nR hlt)]
            exact sm2 _ _ hlt
      · have e0 : decide (V.int (i : Nat) = V.int (t : Int)) = false := decide_eq_false fun e => it (by have := V.int.inj e; omega)
        rw [e0]
        have hl2 : LineAt H2 p (Lin.row M i) := sm2 _ _ hl0
        have ht2 : LineAt H2 pt (Lin.row M t) := sm2 _ _ hlt
        have lli := wid _ (Lin.row_mem im)
        refine iteF (iSeq (iAsg ⟨.ref p, rfl, .int (c : Int), rfl, p, _, _, _, rfl, rfl, sqL hl2, line_ix hl2 (by omega), iName ?_⟩))
        dsimp only
        refine iDrop' ⟨.ref R, rfl, .inl ⟨rfl, _, sqL hq2⟩, ?_⟩
        refine ⟨.ref p, rfl, .ref pt, rfl, p, pt, _, _, rfl, sqL hl2, sqL ht2, fun D hD => ?_⟩
        have nD : ∀ {b : Addr} {o : HO}, H2 b = some o → b ≠ D := fun e => ne_of_none e hD
        obtain ⟨new, en⟩ : ∃ new, new = Lin.clr d (Lin.row M t) c (Lin.row M i) := ⟨_, rfl⟩
        have ln : new.length = n := by
          rw [en]
          unfold Lin.clr
          rw [List.length_zipWith, lli, llt, Nat.min_self]
        refine loop_zip (K := K) (a := p) (b := pt) (xs := (Lin.row M i).map V.int) (ys := (Lin.row M t).map V.int) (by rw [List.length_map, List.length_map, lli, llt]) (fun j H3 => Same H2 H3 ∧ H3 D = some (.lst ((new.take j).map V.int))) ⟨same_new hD, by rw [List.take_zero]; exact upd_same⟩ (fun j H3 h => ⟨sqL (h.1 _ _ hl2), sqL (h.1 _ _ ht2)⟩) (fun j x y T2 H3 hx hy h hT2 => ?_) (fun H3 h => ?_)
        · obtain ⟨sm3, hD3⟩ := h
          rw [List.getElem?_map] at hx hy
          obtain ⟨x0, hx0, rfl⟩ := Option.map_eq_some_iff.mp hx
          obtain ⟨y0, hy0, rfl⟩ := Option.map_eq_some_iff.mp hy
          have jl : j < n := by
            have := (List.getElem?_eq_some_iff.mp hx0).1
            omega
          have vx : Lin.vec (Lin.row M i) j = x0 := by
            unfold Lin.vec
            rw [List.getD_eq_getElem?_getD, hx0]
            rfl
          have vy : Lin.vec (Lin.row M t) j = y0 := by
            unfold Lin.vec
            rw [List.getD_eq_getElem?_getD, hy0]
            rfl
          have s4 := same_new (o := .tup [.int x0, .int y0]) hT2
          have b1 := mB _ (Lin.row_mem tM) c
          have b2 := mB _ (Lin.row_mem im) c
          have b3 := mB _ (Lin.row_mem im) j
          have b4 := mB _ (Lin.row_mem tM) j
          rw [vx] at b3
          rw [vy] at b4
          have nj : new[j]? = some ((Lin.vec (Lin.row M t) c * x0 - Lin.vec (Lin.row M i) c * y0).fdiv d) := by
            rw [en]
            unfold Lin.clr
            rw [List.getElem?_zipWith, hx0, hy0]
          refine ⟨T2, _, rfl, sqT upd_same, rfl, .int x0, _, rfl, .int y0, _, rfl, rfl, wipe2 (by decide), iYes (iteT ?_)⟩
          refine ⟨.int (Lin.vec (Lin.row M t) c), rfl, .int x0, rfl, _, _, rfl, rfl, wide_mul b1 b3 (by decide) (by decide) (by decide), .int (Lin.vec (Lin.row M i) c), rfl, .int y0, rfl, _, _, rfl, rfl, wide_mul b2 b4 (by decide) (by decide) (by decide), _, _, rfl, rfl, .int d, rfl, _, _, rfl, rfl, ⟨d0, ?_⟩, ?_⟩
          · by_cases z : d.natAbs = 0
            · rw [z]
              decide
            · have := (Nat.log2_lt z).mpr dB
              omega
          · refine ⟨_, s4 _ _ hD3, by rw [List.length_map, List.length_take]; omega, fun b o e => ?_, ?_⟩
            · rw [upd_ne (nD e)]
              exact s4 _ _ (sm3 _ _ e)
            · rw [upd_same, List.take_add_one, nj, List.map_append]
              rfl
        · obtain ⟨sm3, hD3⟩ := h
          rw [List.length_map, lli, List.take_of_length_le (by omega)] at hD3
          refine ⟨R, _, _, rfl, rfl, sm3 _ _ hq2, by rw [List.length_map]; omega, ⟨_, _, _, rfl⟩, fun b o e => ?_, by omega, qs ++ [D], by rw [upd_same, List.map_append]; rfl, fun q m => ?_, ?_⟩
          · rw [upd_ne (nR e)]
            exact sm3 _ _ (sm2 _ _ e)
          · rcases List.mem_append.mp m with m | m
            · exact hne q m
            · rw [List.mem_singleton.mp m]
              refine ⟨(nD hq2).symm, .inl ?_⟩
              cases e : H D with
              | none => rfl
              | some o =>
                rw [sm2 _ _ e] at hD
                cases hD
          · rw [List.take_add_one, row_i, if_neg it, ← en]
            refine paired_app (paired_in (fun q m l h => ?_) hqq2) (.cons ?_ .nil)
            · show upd _ _ _ _ = _
              rw [upd_ne (hne q m).1]
              exact sm3 _ _ h
            · show upd _ _ _ _ = _
              rw [upd_ne (nD hq2).symm]
              exact hD3
    · obtain ⟨⟨x7, x8, x9, rfl⟩, sm, _, qs, hqs, hne, hqq⟩ := h
      dsimp only
      rw [List.length_map, pl, List.take_of_length_le (by omega)] at hqq
      exact iRet ⟨.ref R, rfl, q _ R qs sm hR hqs hqq hne⟩
end
end P37
/-! LinD: bounds of the elimination, its rows exchanged, its signs turned. -/
namespace Lin
section
variable {R L : List (List Int)} {n B : Nat} {ps : List Nat} {d : Int} {c k f : Nat}
theorem nodup_few {α : Type} : ∀ {l U : List α}, l.Nodup → (∀ x ∈ l, x ∈ U) → l.length ≤ U.length
  | [], _, _, _ => Nat.zero_le _
  | x :: l, U, nd, h => by
    obtain ⟨u1, u2, rfl⟩ := List.append_of_mem (h x List.mem_cons_self)
    rw [List.nodup_cons] at nd
    have ih : l.length ≤ (u1 ++ u2).length := nodup_few nd.2 fun y hy => by
      rcases List.mem_append.mp (h y (List.mem_cons_of_mem _ hy)) with m | m
      · exact List.mem_append_left _ m
      · rcases List.mem_cons.mp m with rfl | m
        · exact absurd hy nd.1
        · exact List.mem_append_right _ m
    rw [List.length_append] at ih ⊢
    rw [List.length_cons, List.length_cons]
    omega
theorem El.many (h : El R L n B ps d c) : ps.length ≤ c := by
  have := nodup_few h.nodup (U := List.range c) fun p m => List.mem_range.mpr (h.lo p m)
  rw [List.length_range] at this
  exact this
/-- all entries are small -/
theorem El.bound (h : El R L n B ps d c) (hB : 1 ≤ B) (hd : d.natAbs ≤ fb B (ps.length + 1)) {l : List Int} (m : l ∈ L) (j : Nat) : (vec l j).natAbs ≤ fb B (ps.length + 1) := by
  by_cases hj : j ∈ ps
  · obtain ⟨i, hi, rfl⟩ := mem_row m
    obtain ⟨t, ht, e⟩ := List.getElem_of_mem hj
    have e' : ps.getD t 0 = j := by
      rw [List.getD_eq_getElem?_getD, List.getElem?_eq_getElem ht, e]
      rfl
    by_cases il : i < ps.length
    · have o := h.one i il t ht
      rw [e'] at o
      rw [o]
      split
      · exact hd
      · exact Nat.zero_le _
    · rw [h.low i (by omega) j (h.lo j hj)]
      exact Nat.zero_le _
  · exact h.small hB m hj
end
/-- rows k and f exchanged -/
def swapM (M : List (List Int)) (k f : Nat) : List (List Int) := (M.set k (row M f)).set f (row M k)
theorem row_set {M : List (List Int)} {i j : Nat} {x : List Int} (h : i < M.length) : row (M.set i x) j = if j = i then x else row M j := by
  unfold row
  rw [List.getD_eq_getElem?_getD, List.getElem?_set]
  by_cases e : i = j
  · rw [if_pos e, if_pos h, if_pos e.symm]
    rfl
  · rw [if_neg e, if_neg (fun z => e z.symm), List.getD_eq_getElem?_getD]
section
variable {M : List (List Int)} {k f : Nat}
theorem swap_len : (swapM M k f).length = M.length := by
  unfold swapM
  rw [List.length_set, List.length_set]
theorem swap_k (hk : k < M.length) (hf : f < M.length) : row (swapM M k f) k = row M f := by
  unfold swapM
  rw [row_set (by rw [List.length_set]; exact hf), row_set hk]
  by_cases e : k = f
  · rw [if_pos e, e]
  · rw [if_neg e, if_pos rfl]
theorem swap_f (hk : k < M.length) (hf : f < M.length) : row (swapM M k f) f = row M k := by
  unfold swapM
  rw [row_set (by rw [List.length_set]; exact hf), if_pos rfl]
theorem swap_o (hk : k < M.length) (hf : f < M.length) {i : Nat} (n1 : i ≠ k) (n2 : i ≠ f) : row (swapM M k f) i = row M i := by
  unfold swapM
  rw [row_set (by rw [List.length_set]; exact hf), if_neg n2, row_set hk, if_neg n1]
end
theorem El.swapped {R L : List (List Int)} {n B : Nat} {ps : List Nat} {d : Int} {c f : Nat} (h : El R L n B ps d c) (hp : Piv L ps.length c (some f)) : El R (swapM L ps.length f) n B ps d c ∧ ps.length < L.length ∧ vec (row (swapM L ps.length f) ps.length) c ≠ 0 := by
  obtain ⟨p1, p2, p3⟩ := hp
  have hk : ps.length < L.length := by omega
  refine ⟨h.swap swap_len hk p2 (Nat.le_refl _) p1 (swap_k hk p2) (swap_f hk p2) fun i n1 n2 => swap_o hk p2 n1 n2, hk, ?_⟩
  rw [swap_k hk p2]
  exact p3
/-! ### turned signs -/
def negL (l : List Int) : List Int := l.map fun x => -x
theorem vec_neg (l : List Int) (j : Nat) : vec (negL l) j = - vec l j := by
  unfold vec negL
  rw [List.getD_eq_getElem?_getD, List.getD_eq_getElem?_getD, List.getElem?_map]
  cases l[j]? <;> rfl
theorem row_neg (L : List (List Int)) (i : Nat) : row (L.map negL) i = negL (row L i) := by
  unfold row
  rw [List.getD_eq_getElem?_getD, List.getD_eq_getElem?_getD, List.getElem?_map]
  cases L[i]? <;> rfl
theorem Even.neg {β : Nat → Nat} {k : Nat} {A A' : List (Nat → Int)} {f : Nat → Prop} {d : Int} (h : Even β k A f d) (hA : ∀ t ∈ A', ∃ s ∈ A, t = fun i => -1 * s i) : Even β k A' f (-d) := by
  intro rs hrs cs hcs
  obtain ⟨ss, e, hs⟩ : ∃ ss : List (Nat → Int), rs = ss.map (fun s i => -1 * s i) ∧ ∀ s ∈ ss, s ∈ A := by
    induction rs with
    | nil => exact ⟨[], rfl, fun s m => absurd m (by simp)⟩
    | cons t rs ih =>
      obtain ⟨ss, e, hs⟩ := ih fun r m => hrs r (List.mem_cons_of_mem _ m)
      obtain ⟨s, hm, e2⟩ := hA t (hrs t List.mem_cons_self)
      refine ⟨s :: ss, by rw [e, e2]; rfl, fun x m => ?_⟩
      rcases List.mem_cons.mp m with rfl | m
      · exact hm
      · exact hs x m
  obtain ⟨q, e1, b⟩ := h ss hs cs hcs
  have em := det_mul (a := -1) (g := fun s : Nat → Int => s) (rs := ss) cs
  rw [List.map_id'] at em
  have el : rs.length = ss.length := by rw [e, List.length_map]
  rw [e, em, e1, List.length_map]
  cases hl : ss.length with
  | zero =>
    rw [hl] at b
    refine ⟨q, ?_, b⟩
    show (-1 : Int) ^ 0 * (d ^ 0 * q) = (-d) ^ 0 * q
    rw [Int.pow_zero, Int.pow_zero, Int.pow_zero, Int.one_mul, Int.one_mul]
  | succ m =>
    rw [hl] at b
    refine ⟨-q, ?_, by rw [Int.natAbs_neg]; exact b⟩
    show (-1 : Int) ^ (m + 1) * (d ^ m * q) = (-d) ^ m * -q
    have e3 : ∀ m : Nat, (-d) ^ m = (-1) ^ m * d ^ m := fun m => by
      induction m with
      | zero => rw [Int.pow_zero, Int.pow_zero, Int.pow_zero]; rfl
      | succ m ih =>
        rw [Int.pow_succ, Int.pow_succ, Int.pow_succ, ih, Int.mul_neg, Int.mul_neg, Int.mul_one, Int.neg_mul, Int.mul_assoc]
    rw [e3, Int.pow_succ, Int.mul_neg, Int.mul_neg, Int.mul_one, Int.neg_mul, Int.mul_assoc]
theorem El.neg {R L : List (List Int)} {n B : Nat} {ps : List Nat} {d : Int} {c : Nat} (h : El R L n B ps d c) : El R (L.map negL) n B ps (-d) c := by
  refine ⟨by rw [List.length_map]; exact h.len, fun l m => ?_, by have := h.d0; omega, h.nodup, h.lo, by rw [List.length_map]; exact h.few, fun i hi j hj => ?_, fun i hi j hj => ?_, h.even.neg fun t m => ?_, fun l m => ?_, fun l m => (h.back l m).trans fun s ms => ?_⟩
  · obtain ⟨l, hl, rfl⟩ := List.mem_map.mp m
    unfold negL
    rw [List.length_map]
    exact h.wid l hl
  · rw [row_neg, vec_neg, h.one i hi j hj]
    split <;> omega
  · rw [row_neg, vec_neg, h.low i hi j hj]
    rfl
  · obtain ⟨l0, hl0, rfl⟩ := List.mem_map.mp m
    obtain ⟨l, hl, rfl⟩ := List.mem_map.mp hl0
    exact ⟨vec l, List.mem_map.mpr ⟨l, hl, rfl⟩, funext fun i => by rw [vec_neg]; omega⟩
  · obtain ⟨l, hl, rfl⟩ := List.mem_map.mp m
    obtain ⟨e, he, hs⟩ := h.to l hl
    exact ⟨e, he, (hs.scale (-1)).cast fun i => by rw [vec_neg, Int.mul_neg]; omega⟩
  · obtain ⟨l, hl, rfl⟩ := List.mem_map.mp ms
    refine ⟨-1, by decide, (Sp.mem (List.mem_map.mpr ⟨negL l, List.mem_map.mpr ⟨l, hl, rfl⟩, rfl⟩)).cast fun i => ?_⟩
    rw [vec_neg]
    omega
end Lin
/-! eliminated -/
namespace P37
open PySem PySem.Spec PyProof.Rows L2 AskG Ask
abbrev sEl : Stmt := topS 13
abbrev NEl : List Str := ["matrix", "width", "lines", "pivots", "divisor", "column", "rank", "found", "line", "number"]
theorem scEl : FnScope NEl ["matrix", "width"] (defScope sEl) := ⟨rfl, rfl, rfl, by decide +kernel, rfl, by decide +kernel, by decide +kernel⟩
abbrev lineSc : Scope := { kind := .function, names := [(".0", .local), ("line", .local)], isGenerator := false, isCoroutine := false }
/-- the columns of the pivots -/
def PivL (H : Hp) (p : Addr) (ps : List Nat) : Prop := H p = some (.lst (ps.map fun (c : Nat) => V.int (c : Int)))
theorem ixN_nat {n j : Nat} (h : j < n) : ixN n (j : Int) = some j := by
  unfold ixN
  rw [if_pos (by omega), if_pos (by omega), Int.toNat_natCast]
theorem clrM_len (d : Int) (t c : Nat) (M : List (List Int)) : (clrM d t c M).length = M.length := by
  unfold clrM
  rw [List.length_map, List.length_range]
theorem clrM_row {d : Int} {t c : Nat} {M : List (List Int)} {i : Nat} (h : i < M.length) : Lin.row (clrM d t c M) i = if i = t then Lin.row M t else Lin.clr d (Lin.row M t) c (Lin.row M i) := by
  show (clrM d t c M).getD i [] = _
  unfold clrM
  rw [List.getD_eq_getElem?_getD, List.getElem?_map, List.getElem?_range h]
  rfl
theorem paired_set {α β : Type} {R : α → β → Prop} : ∀ {as : List α} {bs : List β} {a : α} {b : β} (i : Nat), Paired R as bs → R a b → Paired R (as.set i a) (bs.set i b)
  | _, _, _, _, _, .nil, _ => .nil
  | _, _, _, _, 0, .cons x t, h => .cons h t
  | _, _, _, _, i + 1, .cons x t, h => .cons x (paired_set i t h)
section
variable {P : Program} {w : World} {K : PySem.W.Frag} {mg : Str → Option Value} {base : Heap}
variable {fP fC : Addr} {fdP fdC : FuncData}
def prEl : Pr := fun vs H Q => ∃ (L : Addr) (M : List (List Int)) (wd n B : Nat), vs = [.ref L, .int (wd : Int)] ∧ MatAt H L M ∧ (∀ l ∈ M, l.length = n) ∧ wd ≤ n ∧ n ≤ 900 ∧ M.length ≤ 900 ∧ 1 ≤ B ∧ (∀ l ∈ M, ∀ j, (Lin.vec l j).natAbs ≤ B) ∧ Lin.fb B (wd + 1) < 2 ^ 4000 ∧
  ∀ H' r pp ll M' ps d, Same H H' → H' r = some (.tup [.ref pp, .int d, .ref ll]) → H pp = none → PivL H' pp ps → MatAt H' ll M' → Lin.El M M' n B ps d wd → 0 < d → Q (.ref r) H'
theorem ok_el {f : Addr} {fd : FuncData} {k : Nat} (F : Fun K "eliminated" "eliminated" sEl f fd)
    (FP : Fun K "pivot_index" "pivot_index" sPI fP fdP) (bP : Binds K fdP ["lines", "start", "column"] []) (gP : mg "pivot_index" = some (.ref fP)) (GP : FnX P w K mg base (k + 1) fP fdP ["lines", "start", "column"] (quiet prPI))
    (FC : Fun K "cleared" "cleared" sCl fC fdC) (bC : Binds K fdC ["lines", "at", "column", "divisor"] []) (gC : mg "cleared" = some (.ref fC)) (GC : FnX P w K mg base (k + 1) fC fdC ["lines", "at", "column", "divisor"] (quiet prCl))
    (mls : mg "list" = none) (mr : mg "range" = none) (ml : mg "len" = none) : FnX P w K mg base (k + 2) f fd ["matrix", "width"] (quiet prEl) := by
  refine okN F scEl (fun vs H Q h => ?_) (fun cdv A outer s H E vs Q hr h => ?_)
  · obtain ⟨_, _, _, _, _, rfl, _⟩ := h
    rfl
  · obtain ⟨L, M, wd, n, B, rfl, hM, wid, wn, n9, M9, B1, bnd, fbw, q⟩ := h
    have big := sizeBig
    obtain ⟨ps0, h1, h2⟩ := id hM
    have pl := Paired.length h2
    refine ⟨_, pss_cons (ps_set (i := 2) scEl.nd rfl (.inl rfl) (pe_callTy call_list_of (by rfl) mls (by decide +kernel) (pa_cons (pv 0) pa_nil)))
      (pss_cons (ps_set (i := 3) scEl.nd rfl (.inl rfl) (pe_lst pa_nil))
      (pss_cons (ps_set (i := 4) scEl.nd rfl (.inl rfl) pe_int)
      (pss_cons (ps_for PassesOwn.never rfl (pi_range1 rfl mr (pa_cons (pv 1) pa_nil)) (pg_name (i := 5) scEl.nd rfl (.inl rfl))
        (pss_cons (ps_set (i := 6) scEl.nd rfl (.inl rfl) (pe_callB call_len_seq (by rfl) ml PySem.boot_len (pa_cons (pv 3) pa_nil)))
        (pss_cons (ps_set (i := 7) scEl.nd rfl (.inl rfl) (pe_n GP hr (by rfl) gP FP.kp bP (pa_cons (pv 2) (pa_cons (pv 6) (pa_cons (pv 5) pa_nil)))))
        (pss_one (ps_if (pt_cmp (pc_notN (pv 7)))
          (pss_cons (ps_asg (pe_tup (pa_cons (pe_ix (ix_list : IxR _ (rIxL K)) (pv 2) (pv 7) (fun _ _ => rfl)) (pa_cons (pe_ix (ix_list : IxR _ (rIxL K)) (pv 2) (pv 6) (fun _ _ => rfl)) pa_nil))) (pg_tup (by rfl) (pgs_cons (pg_sub (pv 2) (pv 6) set_list) (pgs_cons (pg_sub (pv 2) (pv 7) set_list) pgs_nil))))
          (pss_cons (ps_set (i := 2) scEl.nd rfl (.inl rfl) (pe_n GC hr (by rfl) gC FC.kp bC (pa_cons (pv 2) (pa_cons (pv 6) (pa_cons (pv 5) (pa_cons (pv 4) pa_nil))))))
          (pss_cons (ps_set (i := 4) scEl.nd rfl (.inl rfl) (pe_ix (ix_list : IxR _ (rIxL K)) (pe_ix (ix_list : IxR _ (rIxL K)) (pv 2) (pv 6) (fun _ _ => rfl)) (pv 5) (fun _ _ => rfl)))
          (pss_one (ps_expr (pe_bm PySem.F.plainAttrs_list PySem.F.slot_list_append PySem.F.type_list_append mt_append (pv 3) (pa_cons (pv 5) pa_nil)))))))
          pss_nil)))))
      (pss_cons (ps_if (pt_cmpR op_lt (pv 4) pe_int (nomark _))
        (pss_cons (ps_set (i := 4) scEl.nd rfl (.inl rfl) (pe_un un_neg (pv 4)))
        (pss_one (ps_setLc (i := 2) (own := [("line", 8)]) (g := gName 8) (tt := tYes) rfl scEl.nd rfl rfl (sw_true rfl rfl rfl (by decide +kernel)) (pi_list (pv 2)) (blkOk_by (N := NEl) (sc := defScope sEl) (by decide +kernel))
          (fun _ _ _ _ _ => pg_name (i := 8) scEl.nd rfl (.inl rfl)) (fun _ _ _ _ _ => pts_nil)
          (fun _ _ _ _ _ => by exact pe_lc (own := [("number", 9)]) (g := gName 9) (tt := tYes) rfl scEl.nd (pi_list (pv 8) : PI _ _ _ (iList K _)) (blkOk_by (N := NEl) (sc := lineSc) (by decide +kernel)) (fun _ _ _ _ _ => pg_name (i := 9) scEl.nd rfl (.inl rfl)) (fun _ _ _ _ _ => pts_nil) (fun _ _ _ _ _ => pe_un un_neg (pv 9)))))) pss_nil)
      (pss_one (ps_ret (pe_tup (pa_cons (pv 3) (pa_cons (pv 4) (pa_cons (pv 2) pa_nil)))))))))), ?_⟩
    refine iSeq (iAsg ⟨.ref L, rfl, L, _, rfl, .inl (sqL h1), fun ll hll => iName ?_⟩)
    dsimp only
    have s1 := same_new (o := .lst (ps0.map V.ref)) hll
    have hl1 : (upd H ll (.lst (ps0.map V.ref))) ll = some (.lst (ps0.map V.ref)) := upd_same
    generalize upd H ll (.lst (ps0.map V.ref)) = H1 at s1 hl1 ⊢
    refine iSeq (iAsg ⟨Nat.zero_le _, fun pp hpp => iName ?_⟩)
    dsimp only
    have s2 := same_new (o := .lst []) hpp
    have hp2 : (upd H1 pp (.lst [])) pp = some (.lst []) := upd_same
    have hl2 := s2 _ _ hl1
    have hpp0 : H pp = none := by
      cases e : H pp with
      | none => rfl
      | some o =>
        rw [s1 _ _ e] at hpp
        cases hpp
    have nlp : ll ≠ pp := ne_of_none hl1 hpp
    have s12 := s1.trans s2
    generalize upd H1 pp (.lst []) = H2 at s2 hp2 hl2 s12 ⊢
    refine iSeq (iAsg (iName ?_))
    dsimp only
    refine iSeq ⟨.int (wd : Int), rfl, (wd : Int), rfl, by omega, by omega, ?_⟩
    have st : Lin.El M M n B [] 1 0 := Lin.El.start wid bnd
    have mem0 : ∀ q ∈ ps0, H q ≠ none := fun q m => by
      obtain ⟨j, hj⟩ := List.getElem?_of_mem m
      obtain ⟨l, _, hl⟩ := paired_at' h2 hj
      rw [show H q = _ from hl]
      simp
    clear hl1 s1 s2
    refine for_range (lo := 0) (n := ((wd : Int)).toNat) (fun i σ' H' => i ≤ wd ∧ ∃ ll M' qs ps d, (∃ x5 x6 x7, σ' = [some (.ref L), some (.int (wd : Int)), some (.ref ll), some (.ref pp), some (.int d), x5, x6, x7, none, none]) ∧ Same H H' ∧ H ll = none ∧ ll ≠ pp ∧ PivL H' pp ps ∧ H' ll = some (.lst (qs.map V.ref)) ∧ Paired (LineAt H') qs M' ∧ (∀ q ∈ qs, q ≠ ll ∧ q ≠ pp) ∧ Lin.El M M' n B ps d i ∧ d.natAbs ≤ Lin.fb B (ps.length + 1))
      ⟨Nat.zero_le _, ll, M, ps0, [], 1, ⟨_, _, _, rfl⟩, s12, hll, nlp, hp2, hl2, Paired.mapP h2 fun _ _ z => z.same s12, fun q m => ⟨fun e => mem0 q m (e ▸ hll), fun e => mem0 q m (e ▸ hpp0)⟩, st, ?_⟩ (fun i σ' H' hi h => ?_) (fun σ' H' h => ?_)
    · show 1 ≤ Lin.fb B 1
      exact Lin.fb_mono B1 (n := 0) (m := 1) (by omega)
    · clear st s12 hl2 hp2 nlp hll
      obtain ⟨iw, ll, M', qs, ps, d, ⟨x5, x6, x7, rfl⟩, sm, hll0, nlp, hpv, hlq, hqq, hne, el, db⟩ := h
      have iw' : i < wd := by omega
      refine iName ?_
      dsimp only
      have e0 : (0 : Int) + (i : Int) = ((i : Nat) : Int) := by omega
      rw [e0]
      refine iSeq (iAsg ⟨.ref pp, rfl, pp, _, rfl, .inl (sqL hpv), iName ?_⟩)
      dsimp only
      rw [List.length_map]
      have mlen := el.len
      have ql := Paired.length hqq
      have pfew := el.few
      refine iSeq ?_
      refine split_s (fun σ' H3 => ∃ o, σ' = [some (.ref L), some (.int (wd : Int)), some (.ref ll), some (.ref pp), some (.int d), some (.int ((i : Nat) : Int)), some (.int (ps.length : Int)), some (match o with | some f => .int ((f : Nat) : Int) | none => .non), none, none] ∧ H' = H3 ∧ Lin.Piv M' ps.length i o) (fun nx hnx => ?_) (fun σ' H3 hx => ?_)
      · refine iAsg ⟨.ref ll, rfl, .int (ps.length : Int), rfl, .int ((i : Nat) : Int), rfl, ll, M', ps.length, i, n, rfl, ⟨qs, hlq, hqq⟩, el.wid, by omega, by omega, by omega, fun f hf => iName (hnx _ _ ⟨some f, rfl, rfl, hf⟩), fun hf => iName (hnx _ _ ⟨none, rfl, rfl, hf⟩)⟩
      obtain ⟨o, rfl, rfl, hpiv⟩ := hx
      dsimp only
      cases o with
      | none =>
        refine iIfS ⟨_, rfl, _, rfl, ?_⟩
        refine iteF ⟨by omega, ll, M', qs, ps, d, ⟨_, _, _, rfl⟩, sm, hll0, nlp, hpv, hlq, hqq, hne, el.skip hpiv, db⟩
      | some f =>
        obtain ⟨el2, hk, hn⟩ := el.swapped hpiv
        obtain ⟨p1, p2, p3⟩ := hpiv
        refine iIfS ⟨_, rfl, _, rfl, ?_⟩
        refine iteT ?_
        obtain ⟨pk, hpk, hlk⟩ := mat_at hqq hk
        obtain ⟨pf, hpf, hlf⟩ := mat_at hqq p2
        refine iSeq (iAsg ⟨.ref ll, rfl, .int ((f : Nat) : Int), rfl, ll, _, _, .ref pf, rfl, rfl, sqL hlq, atI_nat (by rw [List.getElem?_map, hpf]; rfl), .ref ll, rfl, .int (ps.length : Int), rfl, ll, _, _, .ref pk, rfl, rfl, sqL hlq, atI_nat (by rw [List.getElem?_map, hpk]; rfl), by show 2 ≤ sizeLine; omega, fun T hT => ?_⟩)
        have sT := same_new (o := .tup [.ref pf, .ref pk]) hT
        refine ⟨T, _, rfl, sqT upd_same, rfl, .ref pf, _, rfl, .ref ll, rfl, .int (ps.length : Int), rfl, ll, _, _, ps.length, rfl, rfl, sT _ _ hlq, ixN_nat (by rw [List.length_map]; omega), .ref pk, _, rfl, .ref ll, rfl, .int ((f : Nat) : Int), rfl, ll, _, _, f, rfl, rfl, upd_same, ixN_nat (by rw [List.length_set, List.length_map]; omega), rfl, ?_⟩
        try dsimp only
        have mem2 : ∀ q ∈ (qs.set ps.length pf).set f pk, q ∈ qs := fun q m => by
          rcases List.mem_or_eq_of_mem_set m with m | rfl
          · rcases List.mem_or_eq_of_mem_set m with m | rfl
            · exact m
            · exact List.mem_of_getElem? hpf
          · exact List.mem_of_getElem? hpk
        have els : ∀ b, b ≠ ll → (upd (upd (upd H' T (.tup [.ref pf, .ref pk])) ll (.lst ((qs.map V.ref).set ps.length (.ref pf)))) ll (.lst (((qs.map V.ref).set ps.length (.ref pf)).set f (.ref pk)))) b = (upd H' T (.tup [.ref pf, .ref pk])) b := fun b ne => by rw [upd_ne ne, upd_ne ne]
        have hls : (upd (upd (upd H' T (.tup [.ref pf, .ref pk])) ll (.lst ((qs.map V.ref).set ps.length (.ref pf)))) ll (.lst (((qs.map V.ref).set ps.length (.ref pf)).set f (.ref pk)))) ll = some (.lst (((qs.set ps.length pf).set f pk).map V.ref)) := by rw [upd_same, List.map_set, List.map_set]
        generalize upd (upd (upd H' T (.tup [.ref pf, .ref pk])) ll (.lst ((qs.map V.ref).set ps.length (.ref pf)))) ll (.lst (((qs.map V.ref).set ps.length (.ref pf)).set f (.ref pk))) = Hs at els hls ⊢
        have sms : Same H Hs := fun b o e => by
          rw [els b (ne_of_none e hll0)]
          exact sT _ _ (sm _ _ e)
        have hpvs : PivL Hs pp ps := by
          show Hs pp = _
          rw [els pp nlp.symm]
          exact sT _ _ hpv
        have hqs : Paired (LineAt Hs) ((qs.set ps.length pf).set f pk) (Lin.swapM M' ps.length f) := by
          refine paired_in (R := LineAt H') (fun q m l h => ?_) (paired_set f (paired_set ps.length hqq hlf) hlk)
          show Hs q = _
          rw [els q (hne q (mem2 q m)).1]
          exact sT _ _ h
        have hnes : ∀ q ∈ (qs.set ps.length pf).set f pk, q ≠ ll ∧ q ≠ pp := fun q m => hne q (mem2 q m)
        clear hqq hlq hpv sT hT els hlk hlf hpk hpf mem2 hne sm
        generalize (qs.set ps.length pf).set f pk = qs2 at hls hqs hnes
        have len2 : (Lin.swapM M' ps.length f).length = M'.length := Lin.swap_len
        generalize Lin.swapM M' ps.length f = M2 at el2 hn hqs len2
        clear p1 p2 p3 el
        have many := el2.many
        have fbn : Lin.fb B (ps.length + 1) ≤ Lin.fb B (wd + 1) := Lin.fb_mono B1 (by omega)
        refine iSeq (iAsg ⟨.ref ll, rfl, .int (ps.length : Int), rfl, .int ((i : Nat) : Int), rfl, .int d, rfl, ll, qs2, M2, ps.length, i, n, d, rfl, hls, hqs, el2.wid, by omega, by omega, by omega, by omega, el2.d0, Nat.lt_of_le_of_lt (Nat.le_trans db fbn) fbw, fun l m j => Nat.lt_of_le_of_lt (Nat.le_trans (el2.bound B1 db m j) fbn) fbw, fun H4 p qs3 s4 hp0 hq3 hqq3 hne3 => iName ?_⟩)
        dsimp only
        have k2 : ps.length < M2.length := by omega
        have k3 : ps.length < (clrM d ps.length i M2).length := by rw [clrM_len]; exact k2
        obtain ⟨p3, hp3, hl3⟩ := mat_at hqq3 k3
        rw [clrM_row k2, if_pos rfl] at hl3
        have wk := el2.wid _ (Lin.row_mem k2)
        refine iSeq (iAsg ⟨.ref p, rfl, .int (ps.length : Int), rfl, p, _, _, .ref p3, rfl, rfl, sqL hq3, atI_nat (by rw [List.getElem?_map, hp3]; rfl), .int ((i : Nat) : Int), rfl, p3, _, _, _, rfl, rfl, sqL hl3, line_ix hl3 (by omega), iName ?_⟩)
        dsimp only
        have hpv4 : PivL H4 pp ps := s4 _ _ hpvs
        have npp : p ≠ pp := fun e => by
          rw [e, show Hs pp = _ from hpvs] at hp0
          cases hp0
        have hp00 : H p = none := by
          cases e : H p with
          | none => rfl
          | some o =>
            rw [sms _ _ e] at hp0
            cases hp0
        have nq : ∀ q ∈ qs3, q ≠ p ∧ q ≠ pp := fun q m => by
          obtain ⟨a1, a2⟩ := hne3 q m
          refine ⟨a1, fun e => ?_⟩
          rcases a2 with z | z
          · rw [e, show Hs pp = _ from hpvs] at z
            cases z
          · exact (hnes q z).2 e
        have ic : i ∉ ps := fun m => Nat.lt_irrefl _ (el2.lo i m)
        refine iDrop' ⟨.ref pp, rfl, .inl ⟨rfl, _, sqL hpv4⟩, .int ((i : Nat) : Int), rfl, pp, _, _, rfl, rfl, hpv4, by rw [List.length_map]; omega, by omega, p, clrM d ps.length i M2, qs3, ps ++ [i], Lin.vec (Lin.row M2 ps.length) i, ⟨_, _, _, rfl⟩, fun b o e => ?_, hp00, npp, ?_, ?_, ?_, nq, ?_, ?_⟩
        · rw [upd_ne (ne_of_none e hpp0)]
          exact s4 _ _ (sms _ _ e)
        · show upd _ _ _ _ = _
          rw [upd_same, List.map_append]
          rfl
        · rw [upd_ne npp]
          exact hq3
        · refine paired_in (fun q m l h => ?_) hqq3
          show upd _ _ _ _ = _
          rw [upd_ne (nq q m).2]
          exact h
        · refine el2.clear B1 k2 hn (clrM_len _ _ _ _) (by rw [clrM_row k2, if_pos rfl]) fun j hj ne => by rw [clrM_row hj, if_neg ne]
        · rw [List.length_append]
          exact Nat.le_trans (el2.small B1 (Lin.row_mem k2) ic) (Lin.fb_mono B1 (by show ps.length + 1 ≤ ps.length + 1 + 1; omega))
    · clear st s12 hl2 hp2 nlp hll
      obtain ⟨_, ll, M', qs, ps, d, ⟨x5, x6, x7, rfl⟩, sm, hll0, nlp, hpv, hlq, hqq, hne, el, db⟩ := h
      rw [show ((wd : Int)).toNat = wd from Int.toNat_natCast wd] at el
      dsimp only
      have ql := Paired.length hqq
      have mlen := el.len
      have d0 := el.d0
      refine iSeq ?_
      refine split_s (fun σ' H3 => ∃ ll M2 d', σ' = [some (.ref L), some (.int (wd : Int)), some (.ref ll), some (.ref pp), some (.int d'), x5, x6, x7, none, none] ∧ Same H H3 ∧ PivL H3 pp ps ∧ MatAt H3 ll M2 ∧ Lin.El M M2 n B ps d' wd ∧ 0 < d') (fun nx hnx => ?_) (fun σ' H3 hx => ?_)
      · refine iIfS ⟨.int d, rfl, d, 0, rfl, rfl, _, rfl, ?_⟩
        by_cases dn : d < 0
        · rw [decide_eq_true dn]
          refine iteT (iSeq (iAsg ⟨.int d, rfl, d, rfl, iName ?_⟩))
          dsimp only
          refine iAsg ⟨.ref ll, rfl, ll, rfl, ⟨_, sqL hlq⟩, fun D hD => ?_⟩
          have pD : pp ≠ D := ne_of_none hpv hD
          refine loop_lst (K := K) (a := ll) (xs := qs.map V.ref) (fun j H4 => Same H' H4 ∧ ∃ rs, H4 D = some (.lst (rs.map V.ref)) ∧ (∀ q ∈ rs, q ≠ D) ∧ Paired (LineAt H4) rs ((M'.map Lin.negL).take j)) ⟨same_new hD, [], upd_same, fun q m => absurd m (by simp), by rw [List.take_zero]; exact .nil⟩ (fun j H4 h => sqL (h.1 _ _ hlq)) (fun j v H4 hv h => ?_) (fun H4 h => ?_)
          · obtain ⟨s4, rs, hrs, hrne, hrr⟩ := h
            rw [List.getElem?_map] at hv
            obtain ⟨q0, hq0, rfl⟩ := Option.map_eq_some_iff.mp hv
            obtain ⟨l, hl, hline⟩ := paired_at' hqq hq0
            have hline4 : LineAt H4 q0 l := s4 _ _ hline
            have jl : j < M'.length := (List.getElem?_eq_some_iff.mp hl).1
            have lw := el.wid l (List.mem_of_getElem? hl)
            have rl := Paired.length hrr
            rw [List.length_take, List.length_map] at rl
            refine ⟨wipe1, iYes (iteT ⟨.ref q0, rfl, q0, rfl, ⟨_, sqL hline4⟩, fun E2 hE2 => ?_⟩)⟩
            have nE : ∀ {b : Addr} {o : HO}, H4 b = some o → b ≠ E2 := fun e => ne_of_none e hE2
            refine loop_lst (K := K) (a := q0) (xs := l.map V.int) (fun t H5 => Same H4 H5 ∧ H5 E2 = some (.lst (((Lin.negL l).take t).map V.int))) ⟨same_new hE2, by rw [List.take_zero]; exact upd_same⟩ (fun t H5 h => sqL (h.1 _ _ hline4)) (fun t v H5 hv h => ?_) (fun H5 h => ?_)
            · obtain ⟨s5, h5⟩ := h
              rw [List.getElem?_map] at hv
              obtain ⟨y, hy, rfl⟩ := Option.map_eq_some_iff.mp hv
              have tl : t < l.length := (List.getElem?_eq_some_iff.mp hy).1
              have ny : (Lin.negL l)[t]? = some (-y) := by
                unfold Lin.negL
                rw [List.getElem?_map, hy]
                rfl
              refine ⟨wipe1, iYes (iteT ⟨.int y, rfl, y, rfl, _, h5, by rw [List.length_map, List.length_take]; omega, fun b o e => ?_, ?_⟩)⟩
              · rw [upd_ne (nE e)]
                exact s5 _ _ e
              · rw [upd_same, List.take_add_one, ny, List.map_append]
                rfl
            · obtain ⟨s5, h5⟩ := h
              rw [List.length_map, List.take_of_length_le (by unfold Lin.negL; rw [List.length_map]; exact Nat.le_refl _)] at h5
              have nDE : D ≠ E2 := nE hrs
              have mj : (M'.map Lin.negL)[j]? = some (Lin.negL l) := by
                rw [List.getElem?_map, hl]
                rfl
              refine ⟨_, s5 _ _ hrs, by rw [List.length_map]; omega, fun b o e => ?_, rs ++ [E2], by rw [upd_same, List.map_append]; rfl, fun q m => ?_, ?_⟩
              · rw [upd_ne (ne_of_none e hD)]
                exact s5 _ _ (s4 _ _ e)
              · rcases List.mem_append.mp m with m | m
                · exact hrne q m
                · rw [List.mem_singleton.mp m]
                  exact nDE.symm
              · rw [List.take_add_one, mj]
                refine paired_app (paired_in (fun q m l h => ?_) hrr) (.cons ?_ .nil)
                · show upd _ _ _ _ = _
                  rw [upd_ne (hrne q m)]
                  exact s5 _ _ h
                · show upd _ _ _ _ = _
                  rw [upd_ne nDE.symm]
                  exact h5
          · obtain ⟨s4, rs, hrs, hrne, hrr⟩ := h
            rw [List.length_map, ql, List.take_of_length_le (by rw [List.length_map]; exact Nat.le_refl _)] at hrr
            exact iName (hnx _ _ ⟨D, M'.map Lin.negL, -d, rfl, fun b o e => s4 _ _ (sm _ _ e), s4 _ _ hpv, ⟨rs, hrs, hrr⟩, el.neg, by omega⟩)
        · rw [decide_eq_false dn]
          exact iteF (hnx _ _ ⟨ll, M', d, rfl, sm, hpv, ⟨qs, hlq, hqq⟩, el, by omega⟩)
      obtain ⟨ll2, M2, d2, rfl, sm3, hpv3, hM3, el3, dp⟩ := hx
      dsimp only
      refine iRet ⟨.ref pp, rfl, .int d2, rfl, .ref ll2, rfl, by show 3 ≤ sizeLine; omega, fun r hr' => ?_⟩
      have s6 := same_new (o := .tup [.ref pp, .int d2, .ref ll2]) hr'
      exact q _ r pp ll2 M2 ps d2 (sm3.trans s6) upd_same hpp0 (s6 _ _ hpv3) (hM3.same s6) el3 dp
end
end P37
/-! Reduced, reduced, rank_of -/
namespace P37
open PySem PySem.Spec PyProof.Rows L2 AskG Ask
def clsBody : Stmt → List Stmt
  | .ClassDef (body := b) .. => b
  | _ => []
abbrev sRI : Stmt := (clsBody (topS 14)).getD 0 (.Pass ⟨0, 0, 0, 0⟩)
abbrev sRd : Stmt := topS 15
abbrev sRk : Stmt := topS 17
abbrev NRI : List Str := ["self", "matrix", "cells", "width", "pivots", "divisor", "lines", "rank", "column", "line"]
theorem scRI : FnScope NRI ["self", "matrix", "cells"] (defScope sRI) := ⟨rfl, rfl, rfl, by decide +kernel, rfl, by decide +kernel, by decide +kernel⟩
theorem scRd : FnScope ["rows", "cells", "row"] ["rows", "cells"] (defScope sRd) := ⟨rfl, rfl, rfl, by decide +kernel, rfl, by decide +kernel, by decide +kernel⟩
theorem scRk : FnScope ["rows"] ["rows"] (defScope sRk) := ⟨rfl, rfl, rfl, by decide +kernel, rfl, by decide +kernel, by decide +kernel⟩
/-- what the top says of the class -/
structure RedC (K : PySem.W.Frag) (mg : Str → Option Value) (C fI : Addr) : Prop where
  made : Mk K C fI
  cl : Cls K C
  n1 : NoAttr K C "cells"
  n2 : NoAttr K C "many"
  n3 : NoAttr K C "pivots"
  n4 : NoAttr K C "free"
  n5 : NoAttr K C "divisor"
  n6 : NoAttr K C "lines"
  n7 : NoAttr K C "behind"
  n8 : NoAttr K C "ties"
  gl : mg "Reduced" = some (.ref C)
theorem putF_new {f : Str} {v : V} : ∀ {fs : List (Str × V)}, (fs.map (·.1)).all (fun g => decide (g ≠ f)) = true → putF f v fs = fs ++ [(f, v)]
  | [], _ => rfl
  | (g, x) :: fs, h => by
    rw [List.map_cons, List.all_cons, Bool.and_eq_true, decide_eq_true_eq] at h
    unfold putF
    rw [if_neg h.1, putF_new h.2]
    rfl
theorem putF_by {f : Str} {v : V} {fs : List (Str × V)} {names : List Str} (hn : fs.map (·.1) = names) (h : (names.all fun g => decide (g ≠ f)) = true) : putF f v fs = fs ++ [(f, v)] := putF_new (by rw [hn]; exact h)
/-- all but x stays -/
def KeepX (x : Addr) (H H' : Hp) : Prop := ∀ b o, b ≠ x → H b = some o → H' b = some o
theorem KeepX.of {x : Addr} {H H' : Hp} (s : Same H H') : KeepX x H H' := fun b o _ e => s b o e
theorem KeepX.trans {x : Addr} {H H1 H2 : Hp} (a : KeepX x H H1) (b : KeepX x H1 H2) : KeepX x H H2 := fun c o n e => b c o n (a c o n e)
theorem KeepX.put {x : Addr} {H : Hp} {o : HO} : KeepX x H (upd H x o) := fun b o' n e => by
  rw [upd_ne n]
  exact e
section
variable {H H' : Hp} {x C dx p : Addr} {fs : List (Str × V)}
theorem lst_ne (hx : H x = some (.ins C dx fs)) {xs : List V} (h : H p = some (.lst xs)) : p ≠ x := ne_of h hx fun z => nomatch z
theorem PivL.kx {ps : List Nat} (h : PivL H p ps) (hx : H x = some (.ins C dx fs)) (k : KeepX x H H') : PivL H' p ps := k _ _ (lst_ne hx h) h
theorem MatAt.kx {M : List (List Int)} (h : MatAt H p M) (hx : H x = some (.ins C dx fs)) (k : KeepX x H H') : MatAt H' p M := by
  obtain ⟨ps, h1, h2⟩ := h
  exact ⟨ps, k _ _ (lst_ne hx h1) h1, Paired.mapP h2 fun _ _ z => k _ _ (lst_ne hx z) z⟩
end
theorem cut_take (xs : List V) (w : Nat) : cutV xs none (some (w : Int)) = xs.take w := by
  unfold cutV
  rw [HT.sIx_none, HT.sIx_nat, Nat.sub_zero, List.drop_zero]
  by_cases h : w ≤ xs.length
  · rw [Nat.min_eq_left h]
  · rw [Nat.min_eq_right (by omega), List.take_of_length_le (Nat.le_refl _), List.take_of_length_le (by omega)]
theorem cut_drop (xs : List V) (w : Nat) : cutV xs (some (w : Int)) none = xs.drop w := by
  unfold cutV
  rw [HT.sIx_none, HT.sIx_nat]
  by_cases h : w ≤ xs.length
  · rw [Nat.min_eq_left h, List.take_of_length_le (by rw [List.length_drop]; omega)]
  · rw [Nat.min_eq_right (by omega), Nat.sub_self, List.take_zero, List.drop_of_length_le (by omega)]
def freeL (wd : Nat) (ps : List Nat) : List Nat := (List.range wd).filter fun c => decide (c ∉ ps)
theorem flat_pivs (ps : List Nat) : (ps.map fun (c : Nat) => V.int (c : Int)).all flatV = true := List.all_eq_true.mpr fun v hv => by
  obtain ⟨c, _, rfl⟩ := List.mem_map.mp hv
  rfl
theorem in_pivs (c : Nat) (ps : List Nat) : inV (.int (c : Int)) (ps.map fun (c : Nat) => V.int (c : Int)) = decide (c ∈ ps) := by
  unfold inV
  rw [List.any_map]
  by_cases h : c ∈ ps
  · rw [decide_eq_true h]
    exact List.any_eq_true.mpr ⟨c, h, by show eqV (.int (c : Int)) (.int (c : Int)) = true; unfold eqV; simp⟩
  · rw [decide_eq_false h]
    refine List.any_eq_false.mpr fun y hy => ?_
    show ¬ eqV (.int (y : Int)) (.int (c : Int)) = true
    intro e
    have : ((y : Int)) = (c : Int) := by
      unfold eqV at e
      simpa using e
    exact h ((show y = c by omega) ▸ hy)
/-- a form: its lines by what the elimination left -/
structure FormAt (H : Hp) (C x ca : Addr) (R : List (List Int)) (wd n B : Nat) (ps : List Nat) (d : Int) (M' : List (List Int)) : Prop where
  ex : ∃ dx pp fr l1 l2 l3, H x = some (.ins C dx [("cells", .ref ca), ("many", .int (R.length : Int)), ("pivots", .ref pp), ("free", .ref fr), ("divisor", .int d), ("lines", .ref l1), ("behind", .ref l2), ("ties", .ref l3)]) ∧ PivL H pp ps ∧ PivL H fr (freeL wd ps) ∧
    MatAt H l1 ((M'.take ps.length).map fun l => l.take wd) ∧ MatAt H l2 ((M'.take ps.length).map fun l => l.drop wd) ∧ MatAt H l3 ((M'.drop ps.length).map fun l => l.drop wd)
  el : Lin.El R M' n B ps d wd
  pos : 0 < d
theorem paired_take {α β : Type} {R : α → β → Prop} : ∀ {as : List α} {bs : List β} (k : Nat), Paired R as bs → Paired R (as.take k) (bs.take k)
  | _, _, 0, _ => by
    rw [List.take_zero, List.take_zero]
    exact .nil
  | _, _, _ + 1, .nil => .nil
  | _, _, k + 1, .cons x t => .cons x (paired_take k t)
theorem paired_drop {α β : Type} {R : α → β → Prop} : ∀ {as : List α} {bs : List β} (k : Nat), Paired R as bs → Paired R (as.drop k) (bs.drop k)
  | _, _, 0, h => h
  | _, _, _ + 1, .nil => .nil
  | _, _, k + 1, .cons x t => paired_drop k t
section
variable {P : Program} {w : World} {K : PySem.W.Frag} {mg : Str → Option Value} {base : Heap}
variable {C fE : Addr} {fdE : FuncData}
def prRI (C : Addr) : Pr := fun vs H Q => ∃ (x dx L ca : Addr) (M : List (List Int)) (cvs : List V) (n B : Nat), vs = [.ref x, .ref L, .ref ca] ∧ H x = some (.ins C dx []) ∧ MatAt H L M ∧ H ca = some (.lst cvs) ∧ (∀ l ∈ M, l.length = n) ∧ cvs.length ≤ n ∧ n ≤ 900 ∧ M.length ≤ 900 ∧ 1 ≤ B ∧ (∀ l ∈ M, ∀ j, (Lin.vec l j).natAbs ≤ B) ∧ Lin.fb B (cvs.length + 1) < 2 ^ 4000 ∧
  ∀ H' ps d M', KeepX x H H' → FormAt H' C x ca M cvs.length n B ps d M' → Q .non H'
theorem ok_ri {f : Addr} {fd : FuncData} {k : Nat} (U : RedC K mg C f) (F : Fun K "__init__" "Reduced.__init__" sRI f fd)
    (FE : Fun K "eliminated" "eliminated" sEl fE fdE) (bE : Binds K fdE ["matrix", "width"] []) (gE : mg "eliminated" = some (.ref fE)) (GE : FnX P w K mg base (k + 2) fE fdE ["matrix", "width"] (quiet prEl))
    (mr : mg "range" = none) (ml : mg "len" = none) : FnX P w K mg base (k + 3) f fd ["self", "matrix", "cells"] (quiet (prRI C)) := by
  refine okN F scRI (fun vs H Q h => ?_) (fun cdv A outer s H E vs Q hr h => ?_)
  · obtain ⟨_, _, _, _, _, _, _, _, rfl, _⟩ := h
    rfl
  · obtain ⟨x, dx, L, ca, M, cvs, n, B, rfl, hx, hM, hca, wid, wn, n9, M9, B1, bnd, fbw, q⟩ := h
    have big := sizeBig
    refine ⟨_, pss_cons (ps_set (i := 3) scRI.nd rfl (.inr rfl) (pe_callB call_len_seq (by rfl) ml PySem.boot_len (pa_cons (pv 2) pa_nil)))
      (pss_cons (ps_asg (pe_n GE hr (by rfl) gE FE.kp bE (pa_cons (pv 1) (pa_cons (pv 3) pa_nil))) (pg_tup (by rfl) (pgs_cons (pg_name (i := 4) scRI.nd rfl (.inr rfl)) (pgs_cons (pg_name (i := 5) scRI.nd rfl (.inl rfl)) (pgs_cons (pg_name (i := 6) scRI.nd rfl (.inl rfl)) pgs_nil)))))
      (pss_cons (ps_set (i := 7) scRI.nd rfl (.inl rfl) (pe_callB call_len_seq (by rfl) ml PySem.boot_len (pa_cons (pv 4) pa_nil)))
      (pss_cons (ps_fld (pv 0) (pv 2) rfl)
      (pss_cons (ps_fld (pv 0) (pe_callB call_len_seq (by rfl) ml PySem.boot_len (pa_cons (pv 1) pa_nil)) rfl)
      (pss_cons (ps_fld (pv 0) (pv 4) rfl)
      (pss_cons (ps_fld (pv 0) (pe_lc (own := [("column", 8)]) (g := gName 8) rfl scRI.nd (pi_range1 rfl mr (pa_cons (pv 3) pa_nil)) (blkOk_by (N := NRI) (sc := defScope sRI) (by decide +kernel)) (fun _ _ _ _ _ => pg_name (i := 8) scRI.nd rfl (.inl rfl)) (fun _ _ _ _ _ => pts_one (pt_cmpR (op_notIn_seq : OpR _ _ (rIn K true)) (pv 8) (pv 4) (by rfl))) (fun _ _ _ _ _ => pv 8)) rfl)
      (pss_cons (ps_fld (pv 0) (pv 5) rfl)
      (pss_cons (ps_fld (pv 0) (pe_lc (own := [("line", 9)]) (g := gName 9) (tt := tYes) rfl scRI.nd (pi_list (pe_slice (sl_list : SlR _ (rSlL K)) (pv 6) po_none (po_some (pv 7)))) (blkOk_by (N := NRI) (sc := defScope sRI) (by decide +kernel)) (fun _ _ _ _ _ => pg_name (i := 9) scRI.nd rfl (.inl rfl)) (fun _ _ _ _ _ => pts_nil) (fun _ _ _ _ _ => pe_slice (sl_list : SlR _ (rSlL K)) (pv 9) po_none (po_some (pv 3)))) rfl)
      (pss_cons (ps_fld (pv 0) (pe_lc (own := [("line", 9)]) (g := gName 9) (tt := tYes) rfl scRI.nd (pi_list (pe_slice (sl_list : SlR _ (rSlL K)) (pv 6) po_none (po_some (pv 7)))) (blkOk_by (N := NRI) (sc := defScope sRI) (by decide +kernel)) (fun _ _ _ _ _ => pg_name (i := 9) scRI.nd rfl (.inl rfl)) (fun _ _ _ _ _ => pts_nil) (fun _ _ _ _ _ => pe_slice (sl_list : SlR _ (rSlL K)) (pv 9) (po_some (pv 3)) po_none)) rfl)
      (pss_one (ps_fld (pv 0) (pe_lc (own := [("line", 9)]) (g := gName 9) (tt := tYes) rfl scRI.nd (pi_list (pe_slice (sl_list : SlR _ (rSlL K)) (pv 6) (po_some (pv 7)) po_none)) (blkOk_by (N := NRI) (sc := defScope sRI) (by decide +kernel)) (fun _ _ _ _ _ => pg_name (i := 9) scRI.nd rfl (.inl rfl)) (fun _ _ _ _ _ => pts_nil) (fun _ _ _ _ _ => pe_slice (sl_list : SlR _ (rSlL K)) (pv 9) (po_some (pv 3)) po_none)) rfl))))))))))), ?_⟩
    refine iSeq (iAsg ⟨.ref ca, rfl, ca, _, rfl, .inl (sqL hca), iName ?_⟩)
    dsimp only
    refine iSeq (iAsg ⟨.ref L, rfl, .int (cvs.length : Int), rfl, L, M, cvs.length, n, B, rfl, hM, wid, wn, n9, M9, B1, bnd, fbw, fun H1 r pp ll M' ps d s1 hr1 hpp0 hpv hMl el dp => ?_⟩)
    refine ⟨r, _, rfl, sqT hr1, rfl, .ref pp, _, rfl, .int d, _, rfl, .ref ll, _, rfl, rfl, ?_⟩
    dsimp only
    refine iSeq (iAsg ⟨.ref pp, rfl, pp, _, rfl, .inl (sqL hpv), iName ?_⟩)
    dsimp only
    rw [List.length_map]
    have hx1 := s1 _ _ hx
    have kx1 : KeepX x H H1 := KeepX.of s1
    have hM1 := hM.same s1
    have few := el.few
    have mlen := el.len
    clear hr1 s1 hM
    -- cells
    refine iSeq ⟨.ref ca, rfl, .ref x, rfl, x, C, dx, [], rfl, hx1, U.cl, U.n1, by show 0 < 1000; decide, ?_⟩
    have e1 : putF "cells" (.ref ca : V) ([] : List (Str × V)) = ([("cells", .ref ca)] : List (Str × V)) := putF_by (names := []) rfl (by decide +kernel)
    rw [e1]
    try dsimp only
    have hx2 : (upd H1 x (.ins C dx [("cells", .ref ca)])) x = some (.ins C dx [("cells", .ref ca)]) := upd_same
    have k12 : KeepX x H1 (upd H1 x (.ins C dx [("cells", .ref ca)])) := KeepX.put
    have hpv2 := hpv.kx hx1 k12
    have hMl2 := hMl.kx hx1 k12
    have hM2 := hM1.kx hx1 k12
    have kx2 := kx1.trans k12
    generalize upd H1 x (.ins C dx [("cells", .ref ca)]) = H2 at hx2 k12 hpv2 hMl2 hM2 kx2 ⊢
    clear hx1 kx1 hM1 hpv hMl k12
    -- many
    obtain ⟨ps0, hL2, hLL⟩ := hM2
    have ll0 := Paired.length hLL
    refine iSeq ⟨.ref L, rfl, L, _, rfl, .inl (sqL hL2), .ref x, rfl, x, C, dx, _, rfl, hx2, U.cl, U.n2, by show 1 < 1000; decide, ?_⟩
    have ell : ((ps0.map V.ref).length : Int) = (M.length : Int) := by rw [List.length_map, ll0]
    rw [ell]
    have e2 : putF "many" (.int (M.length : Int) : V) ([("cells", .ref ca)] : List (Str × V)) = ([("cells", .ref ca), ("many", .int (M.length : Int))] : List (Str × V)) := putF_by (names := ["cells"]) rfl (by decide +kernel)
    rw [e2]
    try dsimp only
    have hx3 : (upd H2 x (.ins C dx [("cells", .ref ca), ("many", .int (M.length : Int))])) x = some (.ins C dx [("cells", .ref ca), ("many", .int (M.length : Int))]) := upd_same
    have k23 : KeepX x H2 (upd H2 x (.ins C dx [("cells", .ref ca), ("many", .int (M.length : Int))])) := KeepX.put
    have hpv3 := hpv2.kx hx2 k23
    have hMl3 := hMl2.kx hx2 k23
    have kx3 := kx2.trans k23
    generalize upd H2 x (.ins C dx [("cells", .ref ca), ("many", .int (M.length : Int))]) = H3 at hx3 k23 hpv3 hMl3 kx3 ⊢
    clear hx2 kx2 hpv2 hMl2 k23 hL2 hLL
    -- pivots
    refine iSeq ⟨.ref pp, rfl, .ref x, rfl, x, C, dx, _, rfl, hx3, U.cl, U.n3, by show 2 < 1000; decide, ?_⟩
    have e3 : putF "pivots" (.ref pp : V) ([("cells", .ref ca), ("many", .int (M.length : Int))] : List (Str × V)) = ([("cells", .ref ca), ("many", .int (M.length : Int)), ("pivots", .ref pp)] : List (Str × V)) := putF_by (names := ["cells", "many"]) rfl (by decide +kernel)
    rw [e3]
    try dsimp only
    have hx4 : (upd H3 x (.ins C dx [("cells", .ref ca), ("many", .int (M.length : Int)), ("pivots", .ref pp)])) x = some (.ins C dx [("cells", .ref ca), ("many", .int (M.length : Int)), ("pivots", .ref pp)]) := upd_same
    have k34 : KeepX x H3 (upd H3 x (.ins C dx [("cells", .ref ca), ("many", .int (M.length : Int)), ("pivots", .ref pp)])) := KeepX.put
    have hpv4 := hpv3.kx hx3 k34
    have hMl4 := hMl3.kx hx3 k34
    have kx4 := kx3.trans k34
    generalize upd H3 x (.ins C dx [("cells", .ref ca), ("many", .int (M.length : Int)), ("pivots", .ref pp)]) = H4 at hx4 k34 hpv4 hMl4 kx4 ⊢
    clear hx3 kx3 hpv3 hMl3 k34
    -- free
    refine iSeq ⟨.int (cvs.length : Int), rfl, (cvs.length : Int), rfl, by omega, by omega, fun fr hfr => ?_⟩
    refine loop_rg (lo := 0) (n := ((cvs.length : Int)).toNat) (fun i H' => Same H4 H' ∧ PivL H' fr ((List.range i).filter fun c => decide (c ∉ ps))) ⟨same_new hfr, upd_same⟩ (fun i H' hi h => ?_) (fun H5 h => ?_)
    · obtain ⟨sm, hf⟩ := h
      have e0 : (0 : Int) + (i : Int) = ((i : Nat) : Int) := by omega
      have fl : ((List.range i).filter fun c => decide (c ∉ ps)).length ≤ i := by
        have := List.length_filter_le (fun c => decide (c ∉ ps)) (List.range i)
        rw [List.length_range] at this
        exact this
      refine ⟨wipe1, .int (0 + (i : Int)), rfl, .ref pp, rfl, pp, _, rfl, .inl (sqL (sm _ _ hpv4)), rfl, flat_pivs _, _, rfl, ?_⟩
      rw [e0]
      have ei : (if true = true then !inV (.int ((i : Nat) : Int)) (ps.map fun (c : Nat) => V.int (c : Int)) else inV (.int ((i : Nat) : Int)) (ps.map fun (c : Nat) => V.int (c : Int))) = decide (i ∉ ps) := by
        rw [if_pos rfl, in_pivs]
        by_cases m : i ∈ ps
        · rw [decide_eq_true m, decide_eq_false (fun z => z m)]
          rfl
        · rw [decide_eq_false m, decide_eq_true m]
          rfl
      have ef : (List.range (i + 1)).filter (fun c => decide (c ∉ ps)) = (List.range i).filter (fun c => decide (c ∉ ps)) ++ (if decide (i ∉ ps) = true then [i] else []) := by
        rw [List.range_succ, List.filter_append]
        congr 1
        rw [List.filter_cons, List.filter_nil]
      rw [ei]
      refine ite2 (fun e => ?_) (fun e => ?_)
      · refine ⟨_, rfl, _, hf, by rw [List.length_map]; omega, fun b o e' => ?_, ?_⟩
        · rw [upd_ne (ne_of_none e' hfr)]
          exact sm _ _ e'
        · show upd _ _ _ _ = _
          rw [upd_same, ef, if_pos e, List.map_append]
          rfl
      · refine ⟨sm, ?_⟩
        rw [ef, if_neg e, List.append_nil]
        exact hf
    obtain ⟨sm5, hfr5⟩ := h
    rw [show ((cvs.length : Int)).toNat = cvs.length from Int.toNat_natCast _] at hfr5
    have hx5 := sm5 _ _ hx4
    have hpv5 : PivL H5 pp ps := sm5 _ _ hpv4
    have hMl5 := hMl4.same sm5
    have kx5 := kx4.trans (KeepX.of sm5)
    clear sm5 hx4 hpv4 hMl4 kx4 hfr
    refine ⟨.ref x, rfl, x, C, dx, _, rfl, hx5, U.cl, U.n4, by show 3 < 1000; decide, ?_⟩
    have e4 : putF "free" (.ref fr : V) ([("cells", .ref ca), ("many", .int (M.length : Int)), ("pivots", .ref pp)] : List (Str × V)) = ([("cells", .ref ca), ("many", .int (M.length : Int)), ("pivots", .ref pp), ("free", .ref fr)] : List (Str × V)) := putF_by (names := ["cells", "many", "pivots"]) rfl (by decide +kernel)
    rw [e4]
    try dsimp only
    have hx6 : (upd H5 x (.ins C dx [("cells", .ref ca), ("many", .int (M.length : Int)), ("pivots", .ref pp), ("free", .ref fr)])) x = some (.ins C dx [("cells", .ref ca), ("many", .int (M.length : Int)), ("pivots", .ref pp), ("free", .ref fr)]) := upd_same
    have k56 : KeepX x H5 (upd H5 x (.ins C dx [("cells", .ref ca), ("many", .int (M.length : Int)), ("pivots", .ref pp), ("free", .ref fr)])) := KeepX.put
    have hpv6 := hpv5.kx hx5 k56
    have hfr6 : PivL _ fr (freeL cvs.length ps) := PivL.kx hfr5 hx5 k56
    have hMl6 := hMl5.kx hx5 k56
    have kx6 := kx5.trans k56
    generalize upd H5 x (.ins C dx [("cells", .ref ca), ("many", .int (M.length : Int)), ("pivots", .ref pp), ("free", .ref fr)]) = H6 at hx6 k56 hpv6 hfr6 hMl6 kx6 ⊢
    clear hx5 kx5 hpv5 hfr5 hMl5 k56
    -- divisor
    refine iSeq ⟨.int d, rfl, .ref x, rfl, x, C, dx, _, rfl, hx6, U.cl, U.n5, by show 4 < 1000; decide, ?_⟩
    have e5 : putF "divisor" (.int d : V) ([("cells", .ref ca), ("many", .int (M.length : Int)), ("pivots", .ref pp), ("free", .ref fr)] : List (Str × V)) = ([("cells", .ref ca), ("many", .int (M.length : Int)), ("pivots", .ref pp), ("free", .ref fr), ("divisor", .int d)] : List (Str × V)) := putF_by (names := ["cells", "many", "pivots", "free"]) rfl (by decide +kernel)
    rw [e5]
    try dsimp only
    have hx7 : (upd H6 x (.ins C dx [("cells", .ref ca), ("many", .int (M.length : Int)), ("pivots", .ref pp), ("free", .ref fr), ("divisor", .int d)])) x = some (.ins C dx [("cells", .ref ca), ("many", .int (M.length : Int)), ("pivots", .ref pp), ("free", .ref fr), ("divisor", .int d)]) := upd_same
    have k67 : KeepX x H6 (upd H6 x (.ins C dx [("cells", .ref ca), ("many", .int (M.length : Int)), ("pivots", .ref pp), ("free", .ref fr), ("divisor", .int d)])) := KeepX.put
    have hpv7 := hpv6.kx hx6 k67
    have hfr7 := hfr6.kx hx6 k67
    have hMl7 := hMl6.kx hx6 k67
    have kx7 := kx6.trans k67
    generalize upd H6 x (.ins C dx [("cells", .ref ca), ("many", .int (M.length : Int)), ("pivots", .ref pp), ("free", .ref fr), ("divisor", .int d)]) = H7 at hx7 k67 hpv7 hfr7 hMl7 kx7 ⊢
    clear hx6 kx6 hpv6 hfr6 hMl6 k67
    -- lines
    obtain ⟨qs7, hq7, hqq7⟩ := id hMl7
    have ql7 := Paired.length hqq7
    refine iSeq ⟨.ref ll, rfl, .int (ps.length : Int), rfl, (ps.length : Int), rfl, ll, _, rfl, sqL hq7, fun sl hsl => ?_⟩
    rw [cut_take]
    have st7 := same_new (o := .lst ((qs7.map V.ref).take ps.length)) hsl
    have hs7 : (upd H7 sl (.lst ((qs7.map V.ref).take ps.length))) sl = some (.lst ((qs7.take ps.length).map V.ref)) := by rw [upd_same, List.map_take]
    have hss7 : Paired (LineAt _) (qs7.take ps.length) (M'.take ps.length) := paired_take ps.length (Paired.mapP hqq7 fun _ _ z => z.same st7)
    generalize upd H7 sl (.lst ((qs7.map V.ref).take ps.length)) = Ha7 at st7 hs7 hss7 ⊢
    have sll7 := Paired.length hss7
    refine ⟨sl, rfl, ⟨_, sqL hs7⟩, fun l1 hD => ?_⟩
    refine loop_lst (K := K) (a := sl) (xs := (qs7.take ps.length).map V.ref) (fun j H4 => Same Ha7 H4 ∧ ∃ rs, H4 l1 = some (.lst (rs.map V.ref)) ∧ (∀ q ∈ rs, q ≠ l1) ∧ Paired (LineAt H4) rs (((M'.take ps.length).map fun l => l.take cvs.length).take j)) ⟨same_new hD, [], upd_same, fun q m => absurd m (by simp), by rw [List.take_zero]; exact .nil⟩ (fun j H4 h => sqL (h.1 _ _ hs7)) (fun j v H4 hv h => ?_) (fun H8 h => ?_)
    · obtain ⟨s4, rs, hrs, hrne, hrr⟩ := h
      rw [List.getElem?_map] at hv
      obtain ⟨q0, hq0, rfl⟩ := Option.map_eq_some_iff.mp hv
      obtain ⟨l, hl, hline⟩ := paired_at' hss7 hq0
      have hline4 : LineAt H4 q0 l := s4 _ _ hline
      have jl : j < (M'.take ps.length).length := (List.getElem?_eq_some_iff.mp hl).1
      have jm : (M'.take ps.length).length ≤ M'.length := by
        first
          | (rw [List.length_take]; omega)
          | (rw [List.length_drop]; omega)
      have rl := Paired.length hrr
      rw [List.length_take, List.length_map] at rl
      refine ⟨wipe1, iYes (iteT ⟨.ref q0, rfl, .int (cvs.length : Int), rfl, (cvs.length : Int), rfl, q0, _, rfl, sqL hline4, fun E2 hE2 => ?_⟩)⟩
      rw [cut_take]
      have s5 := same_new (o := .lst ((l.map V.int).take cvs.length)) hE2
      have nDE : l1 ≠ E2 := ne_of_none hrs hE2
      have hE : LineAt (upd H4 E2 (.lst ((l.map V.int).take cvs.length))) E2 (l.take cvs.length) := by
        show upd _ _ _ _ = _
        rw [upd_same, List.map_take]
      have mj : ((M'.take ps.length).map fun l => l.take cvs.length)[j]? = some (l.take cvs.length) := by
        rw [List.getElem?_map, hl]
        rfl
      refine ⟨_, s5 _ _ hrs, by rw [List.length_map]; omega, fun b o e => ?_, rs ++ [E2], by rw [upd_same, List.map_append]; rfl, fun q m => ?_, ?_⟩
      · rw [upd_ne (ne_of_none e hD)]
        exact s5 _ _ (s4 _ _ e)
      · rcases List.mem_append.mp m with m | m
        · exact hrne q m
        · rw [List.mem_singleton.mp m]
          exact nDE.symm
      · rw [List.take_add_one, mj]
        refine paired_app (paired_in (fun q m l h => ?_) hrr) (.cons ?_ .nil)
        · show upd _ _ _ _ = _
          rw [upd_ne (hrne q m)]
          exact s5 _ _ h
        · show upd _ _ _ _ = _
          rw [upd_ne nDE.symm]
          exact hE
    obtain ⟨sm8, rs7, hrs7, _, hrr7⟩ := h
    rw [List.length_map, sll7, List.take_of_length_le (by rw [List.length_map]; exact Nat.le_refl _)] at hrr7
    have S7 := st7.trans sm8
    have hx8 := S7 _ _ hx7
    have hpv8 : PivL H8 pp ps := S7 _ _ hpv7
    have hfr8 : PivL H8 fr (freeL cvs.length ps) := S7 _ _ hfr7
    have hMl8 := hMl7.same S7
    have m6_8 : MatAt H8 l1 ((M'.take ps.length).map fun l => l.take cvs.length) := ⟨rs7, hrs7, hrr7⟩
    have kx8 := kx7.trans (KeepX.of S7)
    refine ⟨.ref x, rfl, x, C, dx, _, rfl, hx8, U.cl, U.n6, by show 5 < 1000; decide, ?_⟩
    have e6 : putF "lines" (.ref l1 : V) ([("cells", .ref ca), ("many", .int (M.length : Int)), ("pivots", .ref pp), ("free", .ref fr), ("divisor", .int d)] : List (Str × V)) = ([("cells", .ref ca), ("many", .int (M.length : Int)), ("pivots", .ref pp), ("free", .ref fr), ("divisor", .int d), ("lines", .ref l1)] : List (Str × V)) := putF_by (names := ["cells", "many", "pivots", "free", "divisor"]) rfl (by decide +kernel)
    rw [e6]
    try dsimp only
    have hx9 : (upd H8 x (.ins C dx [("cells", .ref ca), ("many", .int (M.length : Int)), ("pivots", .ref pp), ("free", .ref fr), ("divisor", .int d), ("lines", .ref l1)])) x = some (.ins C dx [("cells", .ref ca), ("many", .int (M.length : Int)), ("pivots", .ref pp), ("free", .ref fr), ("divisor", .int d), ("lines", .ref l1)]) := upd_same
    have k8 : KeepX x H8 (upd H8 x (.ins C dx [("cells", .ref ca), ("many", .int (M.length : Int)), ("pivots", .ref pp), ("free", .ref fr), ("divisor", .int d), ("lines", .ref l1)])) := KeepX.put
    have hpv9 := hpv8.kx hx8 k8
    have hfr9 := hfr8.kx hx8 k8
    have hMl9 := hMl8.kx hx8 k8
    have kx9 := kx8.trans k8
    have m6_9 := m6_8.kx hx8 k8
    generalize upd H8 x (.ins C dx [("cells", .ref ca), ("many", .int (M.length : Int)), ("pivots", .ref pp), ("free", .ref fr), ("divisor", .int d), ("lines", .ref l1)]) = H9 at hx9 k8 hpv9 hfr9 hMl9 kx9 m6_9 ⊢
    -- behind
    obtain ⟨qs9, hq9, hqq9⟩ := id hMl9
    have ql9 := Paired.length hqq9
    refine iSeq ⟨.ref ll, rfl, .int (ps.length : Int), rfl, (ps.length : Int), rfl, ll, _, rfl, sqL hq9, fun sl hsl => ?_⟩
    rw [cut_take]
    have st9 := same_new (o := .lst ((qs9.map V.ref).take ps.length)) hsl
    have hs9 : (upd H9 sl (.lst ((qs9.map V.ref).take ps.length))) sl = some (.lst ((qs9.take ps.length).map V.ref)) := by rw [upd_same, List.map_take]
    have hss9 : Paired (LineAt _) (qs9.take ps.length) (M'.take ps.length) := paired_take ps.length (Paired.mapP hqq9 fun _ _ z => z.same st9)
    generalize upd H9 sl (.lst ((qs9.map V.ref).take ps.length)) = Ha9 at st9 hs9 hss9 ⊢
    have sll9 := Paired.length hss9
    refine ⟨sl, rfl, ⟨_, sqL hs9⟩, fun l2 hD => ?_⟩
    refine loop_lst (K := K) (a := sl) (xs := (qs9.take ps.length).map V.ref) (fun j H4 => Same Ha9 H4 ∧ ∃ rs, H4 l2 = some (.lst (rs.map V.ref)) ∧ (∀ q ∈ rs, q ≠ l2) ∧ Paired (LineAt H4) rs (((M'.take ps.length).map fun l => l.drop cvs.length).take j)) ⟨same_new hD, [], upd_same, fun q m => absurd m (by simp), by rw [List.take_zero]; exact .nil⟩ (fun j H4 h => sqL (h.1 _ _ hs9)) (fun j v H4 hv h => ?_) (fun H10 h => ?_)
    · obtain ⟨s4, rs, hrs, hrne, hrr⟩ := h
      rw [List.getElem?_map] at hv
      obtain ⟨q0, hq0, rfl⟩ := Option.map_eq_some_iff.mp hv
      obtain ⟨l, hl, hline⟩ := paired_at' hss9 hq0
      have hline4 : LineAt H4 q0 l := s4 _ _ hline
      have jl : j < (M'.take ps.length).length := (List.getElem?_eq_some_iff.mp hl).1
      have jm : (M'.take ps.length).length ≤ M'.length := by
        first
          | (rw [List.length_take]; omega)
          | (rw [List.length_drop]; omega)
      have rl := Paired.length hrr
      rw [List.length_take, List.length_map] at rl
      refine ⟨wipe1, iYes (iteT ⟨.ref q0, rfl, .int (cvs.length : Int), rfl, (cvs.length : Int), rfl, q0, _, rfl, sqL hline4, fun E2 hE2 => ?_⟩)⟩
      rw [cut_drop]
      have s5 := same_new (o := .lst ((l.map V.int).drop cvs.length)) hE2
      have nDE : l2 ≠ E2 := ne_of_none hrs hE2
      have hE : LineAt (upd H4 E2 (.lst ((l.map V.int).drop cvs.length))) E2 (l.drop cvs.length) := by
        show upd _ _ _ _ = _
        rw [upd_same, List.map_drop]
      have mj : ((M'.take ps.length).map fun l => l.drop cvs.length)[j]? = some (l.drop cvs.length) := by
        rw [List.getElem?_map, hl]
        rfl
      refine ⟨_, s5 _ _ hrs, by rw [List.length_map]; omega, fun b o e => ?_, rs ++ [E2], by rw [upd_same, List.map_append]; rfl, fun q m => ?_, ?_⟩
      · rw [upd_ne (ne_of_none e hD)]
        exact s5 _ _ (s4 _ _ e)
      · rcases List.mem_append.mp m with m | m
        · exact hrne q m
        · rw [List.mem_singleton.mp m]
          exact nDE.symm
      · rw [List.take_add_one, mj]
        refine paired_app (paired_in (fun q m l h => ?_) hrr) (.cons ?_ .nil)
        · show upd _ _ _ _ = _
          rw [upd_ne (hrne q m)]
          exact s5 _ _ h
        · show upd _ _ _ _ = _
          rw [upd_ne nDE.symm]
          exact hE
    obtain ⟨sm10, rs9, hrs9, _, hrr9⟩ := h
    rw [List.length_map, sll9, List.take_of_length_le (by rw [List.length_map]; exact Nat.le_refl _)] at hrr9
    have S9 := st9.trans sm10
    have hx10 := S9 _ _ hx9
    have hpv10 : PivL H10 pp ps := S9 _ _ hpv9
    have hfr10 : PivL H10 fr (freeL cvs.length ps) := S9 _ _ hfr9
    have hMl10 := hMl9.same S9
    have m7_10 : MatAt H10 l2 ((M'.take ps.length).map fun l => l.drop cvs.length) := ⟨rs9, hrs9, hrr9⟩
    have kx10 := kx9.trans (KeepX.of S9)
    have m6_10 := m6_9.same S9
    refine ⟨.ref x, rfl, x, C, dx, _, rfl, hx10, U.cl, U.n7, by show 6 < 1000; decide, ?_⟩
    have e7 : putF "behind" (.ref l2 : V) ([("cells", .ref ca), ("many", .int (M.length : Int)), ("pivots", .ref pp), ("free", .ref fr), ("divisor", .int d), ("lines", .ref l1)] : List (Str × V)) = ([("cells", .ref ca), ("many", .int (M.length : Int)), ("pivots", .ref pp), ("free", .ref fr), ("divisor", .int d), ("lines", .ref l1), ("behind", .ref l2)] : List (Str × V)) := putF_by (names := ["cells", "many", "pivots", "free", "divisor", "lines"]) rfl (by decide +kernel)
    rw [e7]
    try dsimp only
    have hx11 : (upd H10 x (.ins C dx [("cells", .ref ca), ("many", .int (M.length : Int)), ("pivots", .ref pp), ("free", .ref fr), ("divisor", .int d), ("lines", .ref l1), ("behind", .ref l2)])) x = some (.ins C dx [("cells", .ref ca), ("many", .int (M.length : Int)), ("pivots", .ref pp), ("free", .ref fr), ("divisor", .int d), ("lines", .ref l1), ("behind", .ref l2)]) := upd_same
    have k10 : KeepX x H10 (upd H10 x (.ins C dx [("cells", .ref ca), ("many", .int (M.length : Int)), ("pivots", .ref pp), ("free", .ref fr), ("divisor", .int d), ("lines", .ref l1), ("behind", .ref l2)])) := KeepX.put
    have hpv11 := hpv10.kx hx10 k10
    have hfr11 := hfr10.kx hx10 k10
    have hMl11 := hMl10.kx hx10 k10
    have kx11 := kx10.trans k10
    have m6_11 := m6_10.kx hx10 k10
    have m7_11 := m7_10.kx hx10 k10
    generalize upd H10 x (.ins C dx [("cells", .ref ca), ("many", .int (M.length : Int)), ("pivots", .ref pp), ("free", .ref fr), ("divisor", .int d), ("lines", .ref l1), ("behind", .ref l2)]) = H11 at hx11 k10 hpv11 hfr11 hMl11 kx11 m6_11 m7_11 ⊢
    -- ties
    obtain ⟨qs11, hq11, hqq11⟩ := id hMl11
    have ql11 := Paired.length hqq11
    refine ⟨.ref ll, rfl, .int (ps.length : Int), rfl, (ps.length : Int), rfl, ll, _, rfl, sqL hq11, fun sl hsl => ?_⟩
    rw [cut_drop]
    have st11 := same_new (o := .lst ((qs11.map V.ref).drop ps.length)) hsl
    have hs11 : (upd H11 sl (.lst ((qs11.map V.ref).drop ps.length))) sl = some (.lst ((qs11.drop ps.length).map V.ref)) := by rw [upd_same, List.map_drop]
    have hss11 : Paired (LineAt _) (qs11.drop ps.length) (M'.drop ps.length) := paired_drop ps.length (Paired.mapP hqq11 fun _ _ z => z.same st11)
    generalize upd H11 sl (.lst ((qs11.map V.ref).drop ps.length)) = Ha11 at st11 hs11 hss11 ⊢
    have sll11 := Paired.length hss11
    refine ⟨sl, rfl, ⟨_, sqL hs11⟩, fun l3 hD => ?_⟩
    refine loop_lst (K := K) (a := sl) (xs := (qs11.drop ps.length).map V.ref) (fun j H4 => Same Ha11 H4 ∧ ∃ rs, H4 l3 = some (.lst (rs.map V.ref)) ∧ (∀ q ∈ rs, q ≠ l3) ∧ Paired (LineAt H4) rs (((M'.drop ps.length).map fun l => l.drop cvs.length).take j)) ⟨same_new hD, [], upd_same, fun q m => absurd m (by simp), by rw [List.take_zero]; exact .nil⟩ (fun j H4 h => sqL (h.1 _ _ hs11)) (fun j v H4 hv h => ?_) (fun H12 h => ?_)
    · obtain ⟨s4, rs, hrs, hrne, hrr⟩ := h
      rw [List.getElem?_map] at hv
      obtain ⟨q0, hq0, rfl⟩ := Option.map_eq_some_iff.mp hv
      obtain ⟨l, hl, hline⟩ := paired_at' hss11 hq0
      have hline4 : LineAt H4 q0 l := s4 _ _ hline
      have jl : j < (M'.drop ps.length).length := (List.getElem?_eq_some_iff.mp hl).1
      have jm : (M'.drop ps.length).length ≤ M'.length := by
        first
          | (rw [List.length_take]; omega)
          | (rw [List.length_drop]; omega)
      have rl := Paired.length hrr
      rw [List.length_take, List.length_map] at rl
      refine ⟨wipe1, iYes (iteT ⟨.ref q0, rfl, .int (cvs.length : Int), rfl, (cvs.length : Int), rfl, q0, _, rfl, sqL hline4, fun E2 hE2 => ?_⟩)⟩
      rw [cut_drop]
      have s5 := same_new (o := .lst ((l.map V.int).drop cvs.length)) hE2
      have nDE : l3 ≠ E2 := ne_of_none hrs hE2
      have hE : LineAt (upd H4 E2 (.lst ((l.map V.int).drop cvs.length))) E2 (l.drop cvs.length) := by
        show upd _ _ _ _ = _
        rw [upd_same, List.map_drop]
      have mj : ((M'.drop ps.length).map fun l => l.drop cvs.length)[j]? = some (l.drop cvs.length) := by
        rw [List.getElem?_map, hl]
        rfl
      refine ⟨_, s5 _ _ hrs, by rw [List.length_map]; omega, fun b o e => ?_, rs ++ [E2], by rw [upd_same, List.map_append]; rfl, fun q m => ?_, ?_⟩
      · rw [upd_ne (ne_of_none e hD)]
        exact s5 _ _ (s4 _ _ e)
      · rcases List.mem_append.mp m with m | m
        · exact hrne q m
        · rw [List.mem_singleton.mp m]
          exact nDE.symm
      · rw [List.take_add_one, mj]
        refine paired_app (paired_in (fun q m l h => ?_) hrr) (.cons ?_ .nil)
        · show upd _ _ _ _ = _
          rw [upd_ne (hrne q m)]
          exact s5 _ _ h
        · show upd _ _ _ _ = _
          rw [upd_ne nDE.symm]
          exact hE
    obtain ⟨sm12, rs11, hrs11, _, hrr11⟩ := h
    rw [List.length_map, sll11, List.take_of_length_le (by rw [List.length_map]; exact Nat.le_refl _)] at hrr11
    have S11 := st11.trans sm12
    have hx12 := S11 _ _ hx11
    have hpv12 : PivL H12 pp ps := S11 _ _ hpv11
    have hfr12 : PivL H12 fr (freeL cvs.length ps) := S11 _ _ hfr11
    have hMl12 := hMl11.same S11
    have m8_12 : MatAt H12 l3 ((M'.drop ps.length).map fun l => l.drop cvs.length) := ⟨rs11, hrs11, hrr11⟩
    have kx12 := kx11.trans (KeepX.of S11)
    have m6_12 := m6_11.same S11
    have m7_12 := m7_11.same S11
    refine ⟨.ref x, rfl, x, C, dx, _, rfl, hx12, U.cl, U.n8, by show 7 < 1000; decide, ?_⟩
    have e8 : putF "ties" (.ref l3 : V) ([("cells", .ref ca), ("many", .int (M.length : Int)), ("pivots", .ref pp), ("free", .ref fr), ("divisor", .int d), ("lines", .ref l1), ("behind", .ref l2)] : List (Str × V)) = ([("cells", .ref ca), ("many", .int (M.length : Int)), ("pivots", .ref pp), ("free", .ref fr), ("divisor", .int d), ("lines", .ref l1), ("behind", .ref l2), ("ties", .ref l3)] : List (Str × V)) := putF_by (names := ["cells", "many", "pivots", "free", "divisor", "lines", "behind"]) rfl (by decide +kernel)
    rw [e8]
    try dsimp only
    have hx13 : (upd H12 x (.ins C dx [("cells", .ref ca), ("many", .int (M.length : Int)), ("pivots", .ref pp), ("free", .ref fr), ("divisor", .int d), ("lines", .ref l1), ("behind", .ref l2), ("ties", .ref l3)])) x = some (.ins C dx [("cells", .ref ca), ("many", .int (M.length : Int)), ("pivots", .ref pp), ("free", .ref fr), ("divisor", .int d), ("lines", .ref l1), ("behind", .ref l2), ("ties", .ref l3)]) := upd_same
    have k12 : KeepX x H12 (upd H12 x (.ins C dx [("cells", .ref ca), ("many", .int (M.length : Int)), ("pivots", .ref pp), ("free", .ref fr), ("divisor", .int d), ("lines", .ref l1), ("behind", .ref l2), ("ties", .ref l3)])) := KeepX.put
    have hpv13 := hpv12.kx hx12 k12
    have hfr13 := hfr12.kx hx12 k12
    have hMl13 := hMl12.kx hx12 k12
    have kx13 := kx12.trans k12
    have m6_13 := m6_12.kx hx12 k12
    have m7_13 := m7_12.kx hx12 k12
    have m8_13 := m8_12.kx hx12 k12
    exact q _ ps d M' kx13 ⟨⟨dx, pp, fr, l1, l2, l3, hx13, hpv13, hfr13, m6_13, m7_13, m8_13⟩, el, dp⟩
end
end P37
/-! reduced, rank_of -/
namespace P37
open PySem PySem.Spec PyProof.Rows L2 AskG Ask
/-- the weights of a row -/
def wt (ρ : RowD) : Cell → Int := get0 (ofRow ρ)
/-- the rank of rows -/
noncomputable def rkR (ys : List RowD) : Nat := Lin.rank (ys.map wt)
def look (cs : List Cell) (f : Cell → Int) : Nat → Int := fun j => (cs[j]?.map f).getD 0
theorem look_view (cs : List Cell) : Lin.View (look cs) := by
  refine ⟨fun k => ?_, fun v w a k => ?_⟩
  · unfold look
    cases cs[k]? <;> rfl
  · unfold look
    cases cs[k]? with
    | none => show (0 : Int) = 0 + a * 0; omega
    | some c => rfl
theorem line_look (cs : List Cell) (ρ : RowD) : Lin.vec (lineR cs ρ) = look cs (wt ρ) := by
  funext j
  unfold Lin.vec lineR look
  rw [List.getD_eq_getElem?_getD, List.getElem?_map]
  rfl
theorem wt_out {ρ : RowD} {c : Cell} (h : ∀ x ∈ ρ, x.1 ≠ c) : wt ρ c = 0 := by
  unfold wt
  refine get0_none fun m => ?_
  have : ∀ (r m : RowD), c ∈ keys (r.foldl (fun m x => putC m x.1 x.2) m) → c ∈ keys m ∨ ∃ x ∈ r, x.1 = c := by
    intro r
    induction r with
    | nil => exact fun m h => .inl h
    | cons x r ih =>
      intro m h
      rcases ih _ h with h | ⟨y, hy, e⟩
      · rw [keys_put] at h
        split at h
        · exact .inl h
        · rcases List.mem_append.mp h with h | h
          · exact .inl h
          · exact .inr ⟨x, List.mem_cons_self, (List.mem_singleton.mp h).symm⟩
      · exact .inr ⟨y, List.mem_cons_of_mem _ hy, e⟩
  rcases this ρ [] m with z | ⟨x, hx, e⟩
  · exact absurd z (by simp [keys])
  · exact h x hx e
theorem rank_lines {ys : List RowD} {cs : List Cell} (h : ∀ c, inRows ys c → c ∈ cs) : Lin.rank ((ys.map (lineR cs)).map Lin.vec) = rkR ys := by
  have e : (ys.map (lineR cs)).map Lin.vec = (ys.map wt).map (look cs) := by
    rw [List.map_map, List.map_map]
    refine List.map_congr_left fun ρ _ => ?_
    exact line_look cs ρ
  rw [e]
  refine (look_view cs).rk_eq (P := fun v => ∀ c, c ∉ cs → v c = 0) (fun c _ => rfl) (fun v w a hv hw c hc => by dsimp only; rw [hv c hc, hw c hc]; omega) (fun v hv z c => ?_) (xs := ys.map wt) (B := []) (fun s m => absurd m (by simp)) fun s m => ?_
  · by_cases hc : c ∈ cs
    · obtain ⟨j, hj⟩ := List.getElem?_of_mem hc
      have := z j
      unfold look at this
      rw [hj] at this
      exact this
    · exact hv c hc
  · obtain ⟨ρ, hρ, rfl⟩ := List.mem_map.mp m
    exact fun c hc => wt_out fun x hx e => hc (h c ⟨ρ, hρ, x, hx, e⟩)
section
variable {P : Program} {w : World} {K : PySem.W.Frag} {mg : Str → Option Value} {base : Heap}
variable {C fI fL fR fO : Addr} {fdI fdL fdR fdO : FuncData}
def prRd (C : Addr) : Pr := fun vs H Q => ∃ (a l : Addr) (ys : List RowD) (cs : List Cell) (B : Nat), vs = [.ref a, .ref l] ∧ TupRows H a ys ∧ CellL H l cs ∧ (∀ ρ ∈ ys, ρ.length ≤ 100) ∧ ys.length ≤ 900 ∧ cs.length ≤ 100 ∧ 1 ≤ B ∧ (∀ ρ ∈ ys, ∀ c, (wt ρ c).natAbs ≤ B) ∧ Lin.fb B (cs.length + 1) < 2 ^ 4000 ∧
  ∀ H' x ps d M', Same H H' → FormAt H' C x l (ys.map (lineR cs)) cs.length cs.length B ps d M' → Q (.ref x) H'
theorem ok_rd {f : Addr} {fd : FuncData} {k : Nat} (F : Fun K "reduced" "reduced" sRd f fd) (U : RedC K mg C fI) (bI : Binds K fdI ["self", "matrix", "cells"] []) (GI : FnX P w K mg base (k + 3) fI fdI ["self", "matrix", "cells"] (quiet (prRI C)))
    (FL : Fun K "line_of" "line_of" sLO fL fdL) (bL : Binds K fdL ["row", "cells"] []) (gL : mg "line_of" = some (.ref fL)) (GL : FnX P w K mg base (k + 4) fL fdL ["row", "cells"] (quiet prLO)) : FnX P w K mg base (k + 5) f fd ["rows", "cells"] (quiet (prRd C)) := by
  refine okN F scRd (fun vs H Q h => ?_) (fun cdv A outer s H E vs Q hr h => ?_)
  · obtain ⟨_, _, _, _, _, rfl, _⟩ := h
    rfl
  · obtain ⟨a, l, ys, cs, B, rfl, hT, hC, lr, ly, lc, B1, bnd, fbw, q⟩ := h
    have big := sizeBig
    obtain ⟨ps0, h1, h2⟩ := id hT
    have pl := Paired.length h2
    refine ⟨_, pss_one (ps_ret (pe_make U.made GI hr (by rfl) U.gl bI .nil (passes_call LamX.takes0 fun _ _ _ _ z => z) (pa_cons (pe_lc (own := [("row", 2)]) (g := gName 2) (tt := tYes) rfl scRd.nd (pi_tup (pv 0)) (blkOk_by (N := ["rows", "cells", "row"]) (sc := defScope sRd) (by decide +kernel))
      (fun _ _ _ _ _ => pg_name (i := 2) scRd.nd rfl (.inl rfl)) (fun _ _ _ _ _ => pts_nil) (fun _ _ _ _ _ => pe_n GL hr (by rfl) gL FL.kp bL (pa_cons (pv 2) (pa_cons (pv 1) pa_nil)))) (pa_cons (pv 1) pa_nil)))), ?_⟩
    refine iRet ⟨.ref a, rfl, a, rfl, ⟨_, sqT h1⟩, fun D hD => ?_⟩
    refine loop_tup (K := K) (a := a) (xs := ps0.map V.ref) (fun i H' => Same H H' ∧ ∃ rs, H' D = some (.lst (rs.map V.ref)) ∧ (∀ q ∈ rs, q ≠ D) ∧ Paired (LineAt H') rs ((ys.map (lineR cs)).take i)) ⟨same_new hD, [], upd_same, fun q m => absurd m (by simp), by rw [List.take_zero]; exact .nil⟩ (fun i H' h => sqT (h.1 _ _ h1)) (fun i v H' hv h => ?_) (fun H1 h => ?_)
    · obtain ⟨sm, rs, hrs, hrne, hrr⟩ := h
      rw [List.getElem?_map] at hv
      obtain ⟨p, hp, rfl⟩ := Option.map_eq_some_iff.mp hv
      obtain ⟨ρ, hρ, hrow⟩ := paired_at' h2 hp
      have il : i < ys.length := (List.getElem?_eq_some_iff.mp hρ).1
      have rl := Paired.length hrr
      rw [List.length_take, List.length_map] at rl
      refine ⟨wipe1, iYes (iteT ⟨.ref p, rfl, .ref l, rfl, p, l, ρ, cs, rfl, hrow.keep (KeepT.of sm), lr ρ (List.mem_of_getElem? hρ), hC.same sm, lc, fun H2 e s2 he0 he => ?_⟩)⟩
      have nDe : D ≠ e := ne_of_none hrs he0
      have mj : (ys.map (lineR cs))[i]? = some (lineR cs ρ) := by
        rw [List.getElem?_map, hρ]
        rfl
      refine ⟨_, s2 _ _ hrs, by rw [List.length_map]; omega, fun b o eb => ?_, rs ++ [e], by rw [upd_same, List.map_append]; rfl, fun q m => ?_, ?_⟩
      · rw [upd_ne (ne_of_none eb hD)]
        exact s2 _ _ (sm _ _ eb)
      · rcases List.mem_append.mp m with m | m
        · exact hrne q m
        · rw [List.mem_singleton.mp m]
          exact nDe.symm
      · rw [List.take_add_one, mj]
        refine paired_app (paired_in (fun q m l h => ?_) hrr) (.cons ?_ .nil)
        · show upd _ _ _ _ = _
          rw [upd_ne (hrne q m)]
          exact s2 _ _ h
        · show upd _ _ _ _ = _
          rw [upd_ne nDe.symm]
          exact he
    · obtain ⟨sm, rs, hrs, _, hrr⟩ := h
      rw [List.length_map, pl, List.take_of_length_le (by rw [List.length_map]; exact Nat.le_refl _)] at hrr
      refine ⟨.ref l, rfl, fun x dx hx hdx nxd => ?_⟩
      have s1 : Same H1 (upd (upd H1 dx (.own x)) x (.ins C dx [])) := (same_new hdx).trans (same_new (by rw [upd_ne nxd.symm]; exact hx))
      obtain ⟨bs, hl1, hl2⟩ := hC.same (sm.trans s1)
      have bl := Paired.length hl2
      refine ⟨x, dx, D, l, ys.map (lineR cs), _, cs.length, B, rfl, upd_same, ⟨rs, s1 _ _ hrs, Paired.mapP hrr fun _ _ z => z.same s1⟩, hl1, fun l0 m => ?_, by rw [List.length_map, bl]; exact Nat.le_refl _, by omega, by rw [List.length_map]; exact ly, B1, fun l0 m j => ?_, by rw [List.length_map, bl]; exact fbw, fun H2 ps d M' k2 fm => ?_⟩
      · obtain ⟨ρ, _, rfl⟩ := List.mem_map.mp m
        unfold lineR
        rw [List.length_map]
      · obtain ⟨ρ, hρ, rfl⟩ := List.mem_map.mp m
        rw [line_look]
        unfold look
        cases cs[j]? with
        | none => exact Nat.zero_le _
        | some c => exact bnd ρ hρ c
      · rw [List.length_map, bl] at fm
        refine ⟨rfl, q H2 x ps d M' (fun b o e => ?_) fm⟩
        have hb1 := s1 _ _ (sm _ _ e)
        refine k2 b o (fun z => ?_) hb1
        have := sm _ _ e
        rw [z, hx] at this
        cases this
def prRk : Pr := fun vs H Q => ∃ (a : Addr) (ys : List RowD) (Un : List Cell) (B : Nat), vs = [.ref a] ∧ TupRows H a ys ∧ (∀ c, inRows ys c → c ∈ Un) ∧ Un.length ≤ 60 ∧ (∀ ρ ∈ ys, ρ.length ≤ 100) ∧ ys.length ≤ 900 ∧ 1 ≤ B ∧ (∀ ρ ∈ ys, ∀ c, (wt ρ c).natAbs ≤ B) ∧ Lin.fb B (Un.length + 1) < 2 ^ 4000 ∧
  ∀ H', Same H H' → Q (.int (rkR ys : Int)) H'
theorem ok_rk {f : Addr} {fd : FuncData} {k : Nat} (F : Fun K "rank_of" "rank_of" sRk f fd) (U : RedC K mg C fI)
    (FR : Fun K "reduced" "reduced" sRd fR fdR) (bR : Binds K fdR ["rows", "cells"] []) (gR : mg "reduced" = some (.ref fR)) (GR : FnX P w K mg base (k + 5) fR fdR ["rows", "cells"] (quiet (prRd C)))
    (FO : Fun K "cells_of" "cells_of" sCO fO fdO) (bO : Binds K fdO ["rows"] []) (gO : mg "cells_of" = some (.ref fO)) (GO : FnX P w K mg base (k + 5) fO fdO ["rows"] (quiet prCO))
    (ml : mg "len" = none) : FnX P w K mg base (k + 6) f fd ["rows"] (quiet prRk) := by
  refine okN F scRk (fun vs H Q h => ?_) (fun cdv A outer s H E vs Q hr h => ?_)
  · obtain ⟨_, _, _, _, rfl, _⟩ := h
    rfl
  · obtain ⟨a, ys, Un, B, rfl, hT, hU, lU, lr, ly, B1, bnd, fbw, q⟩ := h
    refine ⟨_, pss_one (ps_ret (pe_callB call_len_seq (by rfl) ml PySem.boot_len (pa_cons (pe_fld (pe_n GR hr (by rfl) gR FR.kp bR (pa_cons (pv 0) (pa_cons (pe_n GO hr (by rfl) gO FO.kp bO (pa_cons (pv 0) pa_nil)) pa_nil))) rfl) pa_nil))), ?_⟩
    refine iRet ⟨.ref a, rfl, .ref a, rfl, a, ys, Un, rfl, hT, hU, lU, fun H1 p cs s1 hp0 hC mem srt few => ?_⟩
    refine ⟨a, p, ys, cs, B, rfl, hT.keep (KeepT.of s1), hC, lr, ly, by omega, B1, bnd, Nat.lt_of_le_of_lt (Lin.fb_mono B1 (by omega)) fbw, fun H2 x ps d M' s2 fm => ?_⟩
    obtain ⟨⟨dx, pp, fr, l1, l2, l3, hx, hpv, _⟩, el, _⟩ := fm
    refine ⟨x, C, dx, _, .ref pp, rfl, hx, U.cl, U.n3, by rfl, pp, _, rfl, .inl (sqL hpv), ?_⟩
    rw [List.length_map, ← el.rank (Nat.le_refl _), rank_lines fun c hc => (mem c).mpr hc]
    exact q _ (s1.trans s2)
end
end P37
/-! cost_of -/
namespace P37
open PySem PySem.Spec PyProof.Rows L2 AskG Ask
abbrev sCs : Stmt := topS 33
theorem scCs : FnScope ["rights", "day"] ["rights", "day"] (defScope sCs) := ⟨rfl, rfl, rfl, by decide +kernel, rfl, by decide +kernel, by decide +kernel⟩
/-- the rows to come of rights -/
def FR (rs : List (Str × Rt)) (T : Int) : List RowD := rs.flatMap fun x => futR x.2 T
/-- what rights cost on a day -/
noncomputable def cst (rs : List (Str × Rt)) (T : Int) : Nat := rkR (FR rs T)
theorem mem_FR {rs : List (Str × Rt)} {T : Int} {ρ : RowD} : ρ ∈ FR rs T ↔ ∃ x ∈ rs, ρ ∈ futR x.2 T := List.mem_flatMap
theorem rk_set {ys zs : List RowD} (h : ∀ ρ, ρ ∈ ys ↔ ρ ∈ zs) : rkR ys = rkR zs := by
  refine Lin.rank_eq (fun v m => ?_) fun v m => ?_
  · obtain ⟨ρ, hρ, rfl⟩ := List.mem_map.mp m
    exact .mem (List.mem_map.mpr ⟨ρ, (h ρ).mp hρ, rfl⟩)
  · obtain ⟨ρ, hρ, rfl⟩ := List.mem_map.mp m
    exact .mem (List.mem_map.mpr ⟨ρ, (h ρ).mpr hρ, rfl⟩)
/-- weights that the law draws -/
def WtG (R : Rt) : Prop := ∀ x ∈ R.ws, x.2.natAbs ≤ 3 ∧ (x.1 = "a" ∨ x.1 = "b")
def univ : List Cell := (List.range 10).map (fun (i : Nat) => (("a" : Str), (i : Int))) ++ (List.range 10).map (fun (i : Nat) => (("b" : Str), (i : Int)))
theorem univ_len : univ.length = 20 := rfl
theorem in_univ {n : Str} {t : Int} (h : n = "a" ∨ n = "b") (t0 : 0 ≤ t) (t9 : t ≤ 9) : (n, t) ∈ univ := by
  unfold univ
  rw [List.mem_append, List.mem_map, List.mem_map]
  have e : ((t.toNat : Nat) : Int) = t := by omega
  rcases h with rfl | rfl
  · exact .inl ⟨t.toNat, List.mem_range.mpr (by omega), by rw [e]⟩
  · exact .inr ⟨t.toNat, List.mem_range.mpr (by omega), by rw [e]⟩
/-- what stands in a row to come -/
theorem fut_row {R : Rt} (ok : RtOk R) (dy : RtDay R) (wg : WtG R) {T : Int} (t0 : 0 ≤ T) (t9 : T ≤ 9) {ρ : RowD} (h : ρ ∈ futR R T) : ρ.length ≤ 100 ∧ ∀ x ∈ ρ, x.2.natAbs ≤ 3 ∧ x.1 ∈ univ := by
  obtain ⟨sl, b, b1, b2, rfl⟩ := mem_fut.mp h
  have sg := soon_gt R T
  have l9 := dy.l9
  obtain ⟨k1, k2, k3, k4⟩ := kind_bounds ok.kind (t := soon R T) (by omega) (by omega)
  have m1 : mn (R.kind.hi (soon R T)) T ≤ 9 := Int.le_trans (mn_r _ _) t9
  refine ⟨?_, fun x hx => ?_⟩
  · rw [rowOn_len]
    have : R.ws.length * (mn (R.kind.hi (soon R T)) T + 1 - b).toNat ≤ 3 * 10 := Nat.mul_le_mul ok.many (by omega)
    omega
  · obtain ⟨c, hc, hx⟩ := List.mem_flatMap.mp hx
    obtain ⟨d, hd, rfl⟩ := List.mem_map.mp hx
    have hd := mem_days.mp hd
    obtain ⟨g1, g2⟩ := wg c hc
    exact ⟨g1, in_univ g2 (by omega) (by omega)⟩
theorem wt_bound {ρ : RowD} {B : Nat} (h : ∀ x ∈ ρ, x.2.natAbs ≤ B) (c : Cell) : (wt ρ c).natAbs ≤ B := by
  have key : ∀ (r m : RowD), (∀ x ∈ r, x.2.natAbs ≤ B) → (get0 m c).natAbs ≤ B → (get0 (r.foldl (fun m x => putC m x.1 x.2) m) c).natAbs ≤ B := by
    intro r
    induction r with
    | nil => exact fun m _ h => h
    | cons x r ih =>
      intro m hr hm
      refine ih _ (fun y hy => hr y (List.mem_cons_of_mem _ hy)) ?_
      rw [get0_put]
      split
      · exact hr x List.mem_cons_self
      · exact hm
  exact key ρ [] h (Nat.zero_le _)
theorem fb_small : Lin.fb 3 (univ.length + 1) < 2 ^ 4000 := by
  rw [univ_len]
  decide +kernel
/-- rights that cost_of is asked about -/
structure CRs (rs : List (Str × Rt)) : Prop where
  ok : ∃ m, RsOk rs m
  wg : ∀ x ∈ rs, WtG x.2
section
variable {P : Program} {w : World} {K : PySem.W.Frag} {mg : Str → Option Value} {base : Heap}
variable {fK fF : Addr} {fdK fdF : FuncData}
def prCs : Pr := fun vs H Q => ∃ (a : Addr) (rs : List (Str × Rt)) (T : Int), vs = [.ref a, .int T] ∧ RightsAt H a rs ∧ CRs rs ∧ 0 ≤ T ∧ T ≤ 9 ∧ ∀ H', Same H H' → Q (.int (cst rs T : Int)) H'
theorem rank_fut {H : Hp} {p : Addr} {ys : List RowD} {rs : List (Str × Rt)} {T : Int} {Q : VK} (cr : CRs rs) (t0 : 0 ≤ T) (t9 : T ≤ 9) (hT : TupRows H p ys) (mem : ∀ ρ, ρ ∈ ys ↔ ∃ x ∈ rs, ρ ∈ futR x.2 T) (ly : ys.length ≤ 30) (q : ∀ H', Same H H' → Q (.int (cst rs T : Int)) H') : prRk [.ref p] H Q := by
  obtain ⟨m, ok⟩ := cr.ok
  have fr : ∀ ρ ∈ ys, ρ.length ≤ 100 ∧ ∀ x ∈ ρ, x.2.natAbs ≤ 3 ∧ x.1 ∈ univ := fun ρ hρ => by
    obtain ⟨x, hx, hf⟩ := (mem ρ).mp hρ
    obtain ⟨o1, o2, _⟩ := ok.all x hx
    exact fut_row o1 o2 (cr.wg x hx) t0 t9 hf
  refine ⟨p, ys, univ, 3, rfl, hT, fun c ⟨ρ, hρ, x, hx, e⟩ => e ▸ ((fr ρ hρ).2 x hx).2, by rw [univ_len]; decide, fun ρ hρ => (fr ρ hρ).1, by omega, by decide, fun ρ hρ c => wt_bound (fun x hx => ((fr ρ hρ).2 x hx).1) c, fb_small, fun H' s => ?_⟩
  have e : rkR ys = cst rs T := rk_set fun ρ => (mem ρ).trans mem_FR.symm
  rw [e]
  exact q H' s
theorem ok_cs {f : Addr} {fd : FuncData} {k : Nat} (F : Fun K "cost_of" "cost_of" sCs f fd)
    (FK : Fun K "rank_of" "rank_of" sRk fK fdK) (bK : Binds K fdK ["rows"] []) (gK : mg "rank_of" = some (.ref fK)) (GK : FnX P w K mg base (k + 6) fK fdK ["rows"] (quiet prRk))
    (FF : Fun K "future_rows" "future_rows" sFR fF fdF) (bF : Binds K fdF ["rights", "day"] []) (gF : mg "future_rows" = some (.ref fF)) (GF : FnX P w K mg base (k + 6) fF fdF ["rights", "day"] (quiet (prRows futR))) : FnX P w K mg base (k + 7) f fd ["rights", "day"] (quiet prCs) := by
  refine okN F scCs (fun vs H Q h => ?_) (fun cdv A outer s H E vs Q hr h => ?_)
  · obtain ⟨_, _, _, rfl, _⟩ := h
    rfl
  · obtain ⟨a, rs, T, rfl, hR, cr, t0, t9, q⟩ := h
    obtain ⟨m, ok⟩ := id cr.ok
    refine ⟨_, pss_one (ps_ret (pe_n GK hr (by rfl) gK FK.kp bK (pa_cons (pe_n GF hr (by rfl) gF FF.kp bF (pa_cons (pv 0) (pa_cons (pv 1) pa_nil))) pa_nil))), ?_⟩
    refine iRet ⟨.ref a, rfl, .int T, rfl, a, rs, T, m, rfl, hR, ok, t0, t9, fun H1 p ys s1 hT _ mem ly => ?_⟩
    exact rank_fut cr t0 t9 hT mem ly fun H2 s2 => q H2 (s1.trans s2)
end
/-! ### what the costs obey -/
theorem cst_nil (T : Int) : cst [] T = 0 := Lin.rank_nil (ι := Cell)
theorem FR_app (rs ss : List (Str × Rt)) (T : Int) : FR (rs ++ ss) T = FR rs T ++ FR ss T := List.flatMap_append
theorem cst_le {rs ss : List (Str × Rt)} {T : Int} (h : ∀ x ∈ rs, ∃ y ∈ ss, y.2 = x.2) : cst rs T ≤ cst ss T := by
  refine Lin.rank_sub fun v m => ?_
  obtain ⟨ρ, hρ, rfl⟩ := List.mem_map.mp m
  obtain ⟨x, hx, hf⟩ := mem_FR.mp hρ
  obtain ⟨y, hy, e⟩ := h x hx
  exact List.mem_map.mpr ⟨ρ, mem_FR.mpr ⟨y, hy, e ▸ hf⟩, rfl⟩
theorem cst_eq {rs ss : List (Str × Rt)} {T : Int} (h : ∀ x ∈ rs, ∃ y ∈ ss, y.2 = x.2) (g : ∀ x ∈ ss, ∃ y ∈ rs, y.2 = x.2) : cst rs T = cst ss T := Nat.le_antisymm (cst_le h) (cst_le g)
theorem cst_add (rs ss : List (Str × Rt)) (T : Int) : cst (rs ++ ss) T ≤ cst rs T + cst ss T := by
  unfold cst rkR
  rw [FR_app, List.map_append]
  exact Lin.rank_addle
theorem cst_submod (rs os ls : List (Str × Rt)) (T : Int) : cst (rs ++ os ++ ls) T + cst rs T ≤ cst (rs ++ ls) T + cst (rs ++ os) T := by
  unfold cst rkR
  simp only [FR_app, List.map_append]
  exact Lin.rank_submod
/-- a right with other weights -/
def scaled (f : Int) (R : Rt) : Rt := { R with ws := R.ws.map fun x => (x.1, f * x.2) }
theorem wt_scale (f : Int) (ρ : RowD) (c : Cell) : wt (ρ.map fun x => (x.1, f * x.2)) c = f * wt ρ c := by
  have key : ∀ (r m m' : RowD), get0 m' c = f * get0 m c → get0 ((r.map fun x => (x.1, f * x.2)).foldl (fun m x => putC m x.1 x.2) m') c = f * get0 (r.foldl (fun m x => putC m x.1 x.2) m) c := by
    intro r
    induction r with
    | nil => exact fun m m' h => h
    | cons x r ih =>
      intro m m' h
      refine ih _ _ ?_
      rw [get0_put, get0_put]
      split
      · rfl
      · exact h
  exact key ρ [] [] (by rw [get0_nil]; omega)
theorem rowOn_scale (f : Int) : ∀ (ws : List Cell) (lo hi : Int), rowOn (ws.map fun x => (x.1, f * x.2)) lo hi = (rowOn ws lo hi).map fun x => (x.1, f * x.2)
  | [], _, _ => rfl
  | x :: ws, lo, hi => by
    show (daysOf lo hi).map (fun d => ((x.1, d), f * x.2)) ++ rowOn (ws.map fun x => (x.1, f * x.2)) lo hi = ((daysOf lo hi).map (fun d => ((x.1, d), x.2)) ++ rowOn ws lo hi).map fun x => (x.1, f * x.2)
    rw [rowOn_scale f ws, List.map_append, List.map_map]
    rfl
theorem fut_scale {f : Int} {R : Rt} {T : Int} {ρ : RowD} : ρ ∈ futR (scaled f R) T ↔ ∃ π ∈ futR R T, ρ = π.map fun x => (x.1, f * x.2) := by
  rw [mem_fut]
  constructor
  · rintro ⟨h, b, b1, b2, e⟩
    exact ⟨_, mem_fut.mpr ⟨h, b, b1, b2, rfl⟩, by rw [e]; exact rowOn_scale f R.ws _ _⟩
  · rintro ⟨π, hπ, e⟩
    obtain ⟨h, b, b1, b2, e2⟩ := mem_fut.mp hπ
    exact ⟨h, b, b1, b2, by rw [e, e2]; exact (rowOn_scale f R.ws _ _).symm⟩
/-- weights multiplied: the same cost -/
theorem cst_scale {rs ss : List (Str × Rt)} {T : Int} {f : Int} (hf : f ≠ 0) (h : ∀ x ∈ rs, (∃ y ∈ ss, y.2 = x.2) ∨ ∃ y ∈ ss, y.2 = scaled f x.2) (g : ∀ y ∈ ss, (∃ x ∈ rs, y.2 = x.2) ∨ ∃ x ∈ rs, y.2 = scaled f x.2) : cst rs T = cst ss T := by
  have up : ∀ π : RowD, wt (π.map fun x => (x.1, f * x.2)) = fun c => f * wt π c := fun π => funext fun c => wt_scale f π c
  refine Lin.rank_eq (fun v m => ?_) fun v m => ?_
  · obtain ⟨ρ, hρ, rfl⟩ := List.mem_map.mp m
    obtain ⟨x, hx, hfx⟩ := mem_FR.mp hρ
    rcases h x hx with ⟨y, hy, e⟩ | ⟨y, hy, e⟩
    · exact .mem (List.mem_map.mpr ⟨ρ, mem_FR.mpr ⟨y, hy, e ▸ hfx⟩, rfl⟩)
    · refine ⟨f, hf, (Lin.Sp.mem (List.mem_map.mpr ⟨ρ.map fun x => (x.1, f * x.2), mem_FR.mpr ⟨y, hy, ?_⟩, rfl⟩)).cast fun c => by rw [up]⟩
      rw [e]
      exact fut_scale.mpr ⟨ρ, hfx, rfl⟩
  · obtain ⟨ρ, hρ, rfl⟩ := List.mem_map.mp m
    obtain ⟨y, hy, hfy⟩ := mem_FR.mp hρ
    rcases g y hy with ⟨x, hx, e⟩ | ⟨x, hx, e⟩
    · exact .mem (List.mem_map.mpr ⟨ρ, mem_FR.mpr ⟨x, hx, e ▸ hfy⟩, rfl⟩)
    · rw [e] at hfy
      obtain ⟨π, hπ, rfl⟩ := fut_scale.mp hfy
      rw [up]
      exact .of_sp ((Lin.Sp.mem (List.mem_map.mpr ⟨π, mem_FR.mpr ⟨x, hx, hπ⟩, rfl⟩)).scale f)
theorem lo_mono (k : KindM) {s t : Int} (h : s ≤ t) : k.lo s ≤ k.lo t := by
  cases k with
  | tot b => exact Int.le_refl _
  | win l =>
    show (if s - l + 1 > 0 then s - l + 1 else 0) ≤ (if t - l + 1 > 0 then t - l + 1 else 0)
    split <;> split <;> omega
  | per b e => exact Int.le_refl _
/-- a right that lasts longer -/
theorem fut_longer {R : Rt} {l : Int} (h : R.last ≤ l) {T : Int} {ρ : RowD} (m : ρ ∈ futR R T) : ρ ∈ futR { R with last := l } T := by
  obtain ⟨sl, b, b1, b2, e⟩ := mem_fut.mp m
  refine mem_fut.mpr ⟨Int.le_trans sl h, b, b1, ?_, e⟩
  refine Int.le_trans b2 (le_mn (Int.le_trans (mn_l _ _) (lo_mono R.kind h)) (mn_r _ _))
theorem cst_longer {rs ss : List (Str × Rt)} {T : Int} (h : ∀ x ∈ rs, ∃ y ∈ ss, ∃ l, x.2.last ≤ l ∧ y.2 = { x.2 with last := l }) : cst rs T ≤ cst ss T := by
  refine Lin.rank_sub fun v m => ?_
  obtain ⟨ρ, hρ, rfl⟩ := List.mem_map.mp m
  obtain ⟨x, hx, hf⟩ := mem_FR.mp hρ
  obtain ⟨y, hy, l, hl, e⟩ := h x hx
  exact List.mem_map.mpr ⟨ρ, mem_FR.mpr ⟨y, hy, e ▸ fut_longer hl hf⟩, rfl⟩
/-- days behind the last one cost nothing -/
theorem cst_late {rs : List (Str × Rt)} {T : Int} (h : ∀ x ∈ rs, x.2.last ≤ T) : cst rs T = 0 := by
  have e : FR rs T = [] := List.eq_nil_iff_forall_not_mem.mpr fun ρ m => by
    obtain ⟨x, hx, hf⟩ := mem_FR.mp m
    have := (mem_fut.mp hf).1
    have := soon_gt x.2 T
    have := h x hx
    omega
  unfold cst
  rw [e]
  exact Lin.rank_nil (ι := Cell)
end P37
/-! AskDf: max(xs, default=d) of whole numbers. -/
namespace Ask
open PySem PySem.Spec PyProof.Rows L2 AskG
theorem ints_hold {h : Heap} : ∀ {ns : List Int} {us : List Value}, Vals (ns.map V.int) us → PySem.W.HoldAll h us ns
  | [], _, .nil => ⟨_, .nil⟩
  | n :: ns, _, .cons r t => by
    obtain ⟨as, ha⟩ := ints_hold (h := h) t
    obtain ⟨tk, rfl⟩ := r
    exact ⟨_, .cons (.int n tk) ha⟩
theorem maxOf_ge : ∀ (xs : List Int) (x : Int), (PySem.W.maxOf x xs ∈ x :: xs) ∧ ∀ y ∈ x :: xs, y ≤ PySem.W.maxOf x xs
  | [], x => ⟨List.mem_cons_self, fun y hy => by rw [List.mem_singleton.mp hy]; exact Int.le_refl _⟩
  | z :: xs, x => by
    have hs : PySem.W.maxOf x (z :: xs) = PySem.W.maxOf (if PySem.W.DatumOrd.lt x z = true then z else x) xs := rfl
    have hlt : PySem.W.DatumOrd.lt x z = decide (x < z) := rfl
    rw [hs, hlt]
    by_cases c : x < z
    · rw [decide_eq_true c, if_pos rfl]
      obtain ⟨h1, h2⟩ := maxOf_ge xs z
      refine ⟨List.mem_cons_of_mem _ h1, fun y hy => ?_⟩
      rcases List.mem_cons.mp hy with rfl | hy
      · exact Int.le_trans (Int.le_of_lt c) (h2 z List.mem_cons_self)
      · exact h2 y hy
    · rw [decide_eq_false c, if_neg (by decide)]
      obtain ⟨h1, h2⟩ := maxOf_ge xs x
      refine ⟨?_, fun y hy => ?_⟩
      · rcases List.mem_cons.mp h1 with e | m
        · rw [e]
          exact List.mem_cons_self
        · exact List.mem_cons_of_mem _ (List.mem_cons_of_mem _ m)
      · rcases List.mem_cons.mp hy with rfl | hy
        · exact h2 y List.mem_cons_self
        · rcases List.mem_cons.mp hy with rfl | hy
          · exact Int.le_trans (by omega) (h2 x List.mem_cons_self)
          · exact h2 y (List.mem_cons_of_mem _ hy)
def rMaxD (K : PySem.W.Frag) : List V → List V → Hp → VK → Prop := fun xs zs H Q => ∃ (a : Addr) (ns : List Int) (d : Int), xs = [.ref a] ∧ zs = [.int d] ∧ SqL K H a (ns.map V.int) ∧ (ns = [] → Q (.int d) H) ∧ ∀ m ∈ ns, (∀ y ∈ ns, y ≤ m) → Q (.int m) H
theorem cr_maxD {X : Cx} (hc : X.calm = true) (hu : X.A.units + 64 < cLine) : CallRK X (.builtin "max") ["default"] (rMaxD X.K) := by
  intro pins s σ H xs zs us ws Q I r1 r2 h
  obtain ⟨a, ns, d, rfl, rfl, hs, q0, q1⟩ := h
  obtain ⟨its, rv, hl, _⟩ := I.list hs
  rw [Vals.ref1 r1]
  obtain ⟨u, rfl, ru⟩ := r2.one
  obtain ⟨tk, rfl⟩ := ru
  refine PySem.W.max_list_datum_default (α := Int) (xs := ns) (I.ok.hd hc) hl.isList (by rw [List.toList_toArray]; exact ints_hold rv) (by show X.A.units + 1 + 0 < cLine; omega) (fun e h' tk' hk => ⟨.int d, H, I.kept hk, ⟨_, rfl⟩, q0 e⟩) fun y ys i v h' tk' e hi hv hk => ?_
  obtain ⟨m1, m2⟩ := maxOf_ge ys y
  obtain ⟨as, hr⟩ := hv
  obtain ⟨t, rfl⟩ : ∃ t, v = .int (PySem.W.maxOf y ys) t := by
    cases hr
    exact ⟨_, rfl⟩
  exact ⟨.int (PySem.W.maxOf y ys), H, I.kept hk, ⟨_, rfl⟩, q1 _ (by rw [e]; exact m1) (by rw [e]; exact m2)⟩
end Ask
/-! last_costly_day, cost_over -/
namespace P37
open PySem PySem.Spec PyProof.Rows L2 AskG Ask
abbrev sLC : Stmt := topS 34
abbrev sCV : Stmt := topS 35
theorem scLC : FnScope ["rights", "name", "right"] ["rights"] (defScope sLC) := ⟨rfl, rfl, rfl, by decide +kernel, rfl, by decide +kernel, by decide +kernel⟩
theorem scCV : FnScope ["rights", "first", "last", "day"] ["rights", "first", "last"] (defScope sCV) := ⟨rfl, rfl, rfl, by decide +kernel, rfl, by decide +kernel, by decide +kernel⟩
section
variable {P : Program} {w : World} {K : PySem.W.Frag} {mg : Str → Option Value} {base : Heap}
variable {fC fL : Addr} {fdC fdL : FuncData}
def prLC : Pr := fun vs H Q => ∃ (a : Addr) (rs : List (Str × Rt)), vs = [.ref a] ∧ RightsAt H a rs ∧ rs.length ≤ 100 ∧ ∀ H' m, Same H H' → (rs = [] → m = -1) → (∀ x ∈ rs, x.2.last - 1 ≤ m) → (rs ≠ [] → ∃ x ∈ rs, m = x.2.last - 1) → Q (.int m) H'
theorem ok_lc {f : Addr} {fd : FuncData} {k : Nat} (F : Fun K "last_costly_day" "last_costly_day" sLC f fd) (mx : mg "max" = none) : FnX P w K mg base (k + 1) f fd ["rights"] (quiet prLC) := by
  refine okN F scLC (fun vs H Q h => ?_) (fun cdv A outer s H E vs Q hr h => ?_)
  · obtain ⟨_, _, rfl, _⟩ := h
    rfl
  · obtain ⟨a, rs, rfl, hR, lr, q⟩ := h
    have big := sizeBig
    have hun := hr.units
    obtain ⟨ps, h1, h2⟩ := id hR
    have pl := Paired.length h2
    refine ⟨_, pss_one (ps_ret (pe_callBK (cr_maxD rfl hun) (by rfl) mx (by decide +kernel) (pa_cons (pe_lc (own := [("name", 1), ("right", 2)]) (g := g2 K 1 2) (tt := tYes) rfl scLC.nd (pi_tup (pv 0)) (blkOk_by (N := ["rights", "name", "right"]) (sc := defScope sLC) (by decide +kernel))
      (fun _ _ _ _ _ => pg_tup rfl (pgs_cons (pg_name (i := 1) scLC.nd rfl (.inl rfl)) (pgs_cons (pg_name (i := 2) scLC.nd rfl (.inl rfl)) pgs_nil))) (fun _ _ _ _ _ => pts_nil) (fun _ _ _ _ _ => pe_op op_sub (pe_ix (ix_tup : IxR _ (rIxT K)) (pv 2) pe_int (fun _ _ => rfl)) pe_int)) pa_nil) (pk_cons (pe_un un_neg pe_int) pk_nil))), ?_⟩
    refine iRet ⟨.ref a, rfl, a, rfl, ⟨_, sqT h1⟩, fun D hD => ?_⟩
    refine loop_tup (K := K) (a := a) (xs := ps.map V.ref) (fun i H' => Same H H' ∧ H' D = some (.lst (((rs.map fun x => x.2.last - 1).take i).map V.int))) ⟨same_new hD, by rw [List.take_zero]; exact upd_same⟩ (fun i H' h => sqT (h.1 _ _ h1)) (fun i v H' hv h => ?_) (fun H1 h => ?_)
    · obtain ⟨sm, hm⟩ := h
      rw [List.getElem?_map] at hv
      obtain ⟨p, hp, rfl⟩ := Option.map_eq_some_iff.mp hv
      obtain ⟨x, hx, r, hpr, hrt⟩ := paired_at' h2 hp
      obtain ⟨wa, qs, ka, g1, g2', g3, g4⟩ := hrt.keep (KeepT.of sm)
      have il : i < rs.length := (List.getElem?_eq_some_iff.mp hx).1
      have e1 : (rs.map fun x => x.2.last - 1)[i]? = some (x.2.last - 1) := by
        rw [List.getElem?_map, hx]
        rfl
      refine ⟨p, _, rfl, sqT (sm _ _ hpr), rfl, .str x.1, _, rfl, .ref r, _, rfl, rfl, wipe2 (by decide), iYes (iteT ⟨.ref r, rfl, r, _, _, _, rfl, rfl, sqT g1, atI_nat (j := 3) rfl, _, _, rfl, rfl, _, hm, by rw [List.length_map, List.length_take, List.length_map]; omega, fun b o e => ?_, ?_⟩)⟩
      · rw [upd_ne (ne_of_none e hD)]
        exact sm _ _ e
      · rw [upd_same, List.take_add_one, e1, List.map_append]
        rfl
    · obtain ⟨sm, hm⟩ := h
      rw [List.length_map, pl, List.take_of_length_le (by rw [List.length_map]; exact Nat.le_refl _)] at hm
      refine ⟨1, rfl, D, rs.map fun x => x.2.last - 1, -1, rfl, rfl, sqL hm, fun e => ?_, fun m mm hmax => ?_⟩
      · have e := List.map_eq_nil_iff.mp e
        exact q H1 (-1) sm (fun _ => rfl) (fun x hx => by rw [e] at hx; cases hx) fun ne => absurd e ne
      · obtain ⟨x, hx, rfl⟩ := List.mem_map.mp mm
        exact q H1 _ sm (fun e => by rw [e] at hx; cases hx) (fun y hy => hmax _ (List.mem_map.mpr ⟨y, hy, rfl⟩)) fun _ => ⟨x, hx, rfl⟩
/-- costs of the days from t on -/
noncomputable def sumC (rs : List (Str × Rt)) (t : Int) : Nat → Int
  | 0 => 0
  | n + 1 => sumC rs t n + (cst rs (t + (n : Int)) : Int)
theorem sumC_late {rs : List (Str × Rt)} {t : Int} : ∀ {n m : Nat}, n ≤ m → (∀ j, n ≤ j → j < m → cst rs (t + (j : Int)) = 0) → sumC rs t m = sumC rs t n
  | n, m, h, z => by
    induction h with
    | refl => rfl
    | @step m hm ih =>
      show sumC rs t m + (cst rs (t + (m : Int)) : Int) = _
      rw [z m hm (Nat.lt_succ_self m), ih fun j h1 h2 => z j h1 (Nat.lt_succ_of_lt h2)]
      show _ + (0 : Int) = _
      omega
def prCV : Pr := fun vs H Q => ∃ (a : Addr) (rs : List (Str × Rt)) (t l : Int), vs = [.ref a, .int t, .int l] ∧ RightsAt H a rs ∧ CRs rs ∧ 0 ≤ t ∧ t ≤ 20 ∧ -1 ≤ l ∧ l ≤ 9 ∧ rs.length ≤ 100 ∧ ∀ H', Same H H' → Q (.int (sumC rs t (l - t + 1).toNat)) H'
theorem ok_cv {f : Addr} {fd : FuncData} {k : Nat} (F : Fun K "cost_over" "cost_over" sCV f fd)
    (FC : Fun K "cost_of" "cost_of" sCs fC fdC) (bC : Binds K fdC ["rights", "day"] []) (gC : mg "cost_of" = some (.ref fC)) (GC : FnX P w K mg base (k + 7) fC fdC ["rights", "day"] (quiet prCs))
    (FL : Fun K "last_costly_day" "last_costly_day" sLC fL fdL) (bL : Binds K fdL ["rights"] []) (gL : mg "last_costly_day" = some (.ref fL)) (GL : FnX P w K mg base (k + 7) fL fdL ["rights"] (quiet prLC))
    (ms : mg "sum" = none) (mr : mg "range" = none) (mn' : mg "min" = none) : FnX P w K mg base (k + 8) f fd ["rights", "first", "last"] (quiet prCV) := by
  refine okN F scCV (fun vs H Q h => ?_) (fun cdv A outer s H E vs Q hr h => ?_)
  · obtain ⟨_, _, _, _, rfl, _⟩ := h
    rfl
  · obtain ⟨a, rs, t, l, rfl, hR, cr, t0, t20, lm, l9, lr, q⟩ := h
    have big := sizeBig
    obtain ⟨mm, ok⟩ := id cr.ok
    refine ⟨_, pss_one (ps_ret (pe_callB (cr_sum rfl) (by rfl) ms (by decide +kernel) (pa_cons (pe_lc (own := [("day", 3)]) (g := gName 3) (tt := tYes) rfl scCV.nd (pi_range2 (by rfl) mr (pa_cons (pv 1) (pa_cons (pe_op op_add (pe_callB (call_min2 rfl) (by rfl) mn' (by decide +kernel) (pa_cons (pv 2) (pa_cons (pe_n GL hr (by rfl) gL FL.kp bL (pa_cons (pv 0) pa_nil)) pa_nil))) pe_int) pa_nil))) (blkOk_by (N := ["rights", "first", "last", "day"]) (sc := defScope sCV) (by decide +kernel))
      (fun _ _ _ _ _ => pg_name (i := 3) scCV.nd rfl (.inl rfl)) (fun _ _ _ _ _ => pts_nil) (fun _ _ _ _ _ => pe_n GC hr (by rfl) gC FC.kp bC (pa_cons (pv 0) (pa_cons (pv 3) pa_nil)))) pa_nil))), ?_⟩
    refine iRet ⟨.int t, rfl, .int l, rfl, .ref a, rfl, a, rs, rfl, hR, lr, fun H1 m s1 m0 m1 m2 => ?_⟩
    have m8 : -1 ≤ m ∧ m ≤ 8 := by
      cases rs with
      | nil =>
        have := m0 rfl
        omega
      | cons x rs =>
        obtain ⟨y, hy, e⟩ := m2 (by simp)
        obtain ⟨o1, o2, _⟩ := ok.all y hy
        have := o1.l0
        have := o2.l9
        omega
    obtain ⟨e, he⟩ : ∃ e : Int, e = if m < l then m else l := ⟨_, rfl⟩
    have eb : -1 ≤ e ∧ e ≤ 8 ∧ e ≤ l ∧ e ≤ m ∧ (e = m ∨ e = l) ∨ (e = l ∧ l ≤ m ∧ e ≤ 8) := by
      by_cases c : m < l
      · rw [if_pos c] at he
        left
        omega
      · rw [if_neg c] at he
        right
        omega
    refine ⟨l, m, rfl, e, 1, by rw [he], rfl, t, e + 1, rfl, ⟨by omega, by omega, by omega, by omega⟩, fun D hD => ?_⟩
    have s2 := same_new (o := .lst []) hD
    have hR1 := hR.keep (KeepT.of s1)
    refine loop_rg (lo := t) (n := (e + 1 - t).toNat) (fun i H' => Same H1 H' ∧ ∃ ns : List Int, H' D = some (.lst (ns.map V.int)) ∧ ns.length = i ∧ ns.sum = sumC rs t i) ⟨s2, [], upd_same, rfl, rfl⟩ (fun i H' hi h => ?_) (fun H2 h => ?_)
    · obtain ⟨sm, ns, hns, nl, nsum⟩ := h
      refine ⟨wipe1, iYes (iteT ⟨.ref a, rfl, .int (t + (i : Int)), rfl, a, rs, t + (i : Int), rfl, hR1.keep (KeepT.of sm), cr, by omega, by omega, fun H3 s3 => ?_⟩)⟩
      refine ⟨_, s3 _ _ hns, by rw [List.length_map]; omega, fun b o eb' => ?_, ns ++ [(cst rs (t + (i : Int)) : Int)], by rw [upd_same, List.map_append]; rfl, by rw [List.length_append, nl]; rfl, ?_⟩
      · rw [upd_ne (ne_of_none eb' hD)]
        exact s3 _ _ (sm _ _ eb')
      · rw [List.sum_append, nsum]
        show _ + (_ + 0) = sumC rs t i + _
        omega
    · obtain ⟨sm, ns, hns, nl, nsum⟩ := h
      refine ⟨D, ns, rfl, sqL hns, ?_⟩
      have e1 : sumC rs t (l - t + 1).toNat = sumC rs t (e + 1 - t).toNat := sumC_late (by omega) fun j h1 h2 => cst_late fun x hx => by
        have := m1 x hx
        omega
      rw [nsum, ← e1]
      exact q _ (s1.trans sm)
end
end P37
/-! AskSf: set(xs), xs a list or a tuple, told by what each put does. -/
namespace Ask
open PySem PySem.Spec PyProof.Rows L2
def newSet (w : World) : Obj := { cls := .type "set", dict := none, data := .set #[] 0 (.fresh 0 0 (!w.params.followText "set-order")) }
/-- what a set that is being filled has after i puts -/
structure Fills (P : Program) (w : World) (h0 : Heap) (S : Addr) (its : Array Value) (n : Nat) (G : Nat → Heap → Prop) : Prop where
  start : ∀ h, h.get? S = some (newSet w) → (∀ b o, h0.get? b = some o → h.get? b = some o) → G 0 h
  keep : ∀ i h h', G i h → (∀ o, h.get? S = some o → h'.get? S = some o) → (∀ b o, h0.get? b = some o → h'.get? b = some o) → G i h'
  put : ∀ (B : Around) (i : Nat) (v : Value) (u : Shared) (E : Value → Shared → Prop) (Q : Bool → Shared → Prop), B.units ≤ n → its[i]? = some v → G i u.heap → (∀ b o, h0.get? b = some o → u.heap.get? b = some o) →
    (∀ b h' tk, Heap.SameBut S u.heap h' → G (i + 1) h' → u.toks ≤ tk → Q b { u with heap := h', toks := tk }) → wpAny (model P w) B (setAdd S v) Q E u
section
variable {P : Program} {w : World} {A : Around} {E : Value → Shared → Prop}
/-- the loop behind set(xs) -/
theorem fill_loop {I : Addr} {fp wr : List Addr} {Gn : Array GenState → Array GenState → Prop} {its : Array Value} {St : Nat → Shared → Prop} {R : Result → Shared → Prop} {G : Nat → Heap → Prop} {n : Nat}
    (W : WalksS P w A.in1 I fp wr Gn its.size (fun i v => its[i]? = some v) St) {S : Addr} (ns : S ∉ fp) {h0 : Heap} (fl : Fills P w h0 S its n G) (hn : A.in1.units ≤ n) (free : ∀ b ∈ wr, h0.get? b = none) (none0 : h0.get? S = none) :
    ∀ (m i : Nat) (u : Shared), its.size - i = m → i ≤ its.size → St i u → (∀ b o, h0.get? b = some o → u.heap.get? b = some o) → G i u.heap →
      (∀ u', Moved (S :: wr) Gn u u' → G its.size u'.heap → (∀ b o, h0.get? b = some o → u'.heap.get? b = some o) → R (.ok (.ret .none)) u') →
      codeAny (model P w) A (.builtin "set.update.loop" ⟨[.ref S, .ref I], []⟩) R u := by
  have nw : S ∉ wr := fun z => ns (W.sub _ z)
  have more : ∀ b ∈ wr, b ∈ S :: wr := fun b z => .tail _ z
  have past : ∀ {u u' : Shared}, Moved wr Gn u u' → (∀ b o, h0.get? b = some o → u.heap.get? b = some o) → ∀ b o, h0.get? b = some o → u'.heap.get? b = some o := fun mv kp b o e =>
    mv.heap b o (fun z => by rw [free b z] at e; cases e) (kp b o e)
  intro m
  induction m with
  | zero =>
    intro i u hm hi st kp g hR
    obtain rfl : i = its.size := by omega
    refine codeAny_builtin F.entry_set_update_loop ?_
    rw [Around.under_plainId F.plain_set_update_loop _]
    show wpAny _ A.in1 (pyNext (.ref I) >>= _) _ _ u
    refine wpAny_bind (W.done u _ _ st fun u' mv => ?_)
    show wpAny _ A.in1 (ret Value.none) _ _ u'
    exact wpAny_pure (hR u' (mv.mono more) (fl.keep _ _ _ g (fun o e => mv.heap S o nw e) (past mv kp)) (past mv kp))
  | succ m ih =>
    intro i u hm hi st kp g hR
    have lt : i < its.size := by omega
    refine codeAny_builtin F.entry_set_update_loop ?_
    rw [Around.under_plainId F.plain_set_update_loop _]
    show wpAny _ A.in1 (pyNext (.ref I) >>= _) _ _ u
    refine wpAny_bind (W.item i u _ _ lt st fun v u' hv st' mv => ?_)
    have g' := fl.keep _ _ _ g (fun o e => mv.heap S o nw e) (past mv kp)
    show wpAny _ A.in1 (holding [v] (setAdd S v) >>= _) _ _ u'
    refine wpAny_bind (wpAny_holding ?_)
    refine fl.put A.in1 i v u' _ _ hn hv g' (past mv kp) fun b h' tk sb g2 tl => ?_
    have kp2 : ∀ b o, h0.get? b = some o → h'.get? b = some o := fun b o e => (sb.2 b (fun z => by rw [z, none0] at e; cases e)).trans (past mv kp b o e)
    refine wpAny_pure ⟨plainId_quiet F.plain_set_update_loop _, ih (i + 1) { u' with heap := h', toks := tk } (by omega) lt (W.frame _ u' _ _ st' tl fun b hb o e => ?_) kp2 g2 fun u2 mv2 g3 kp3 => ?_⟩
    · rw [sb.2 b (fun z : b = S => ns (z ▸ hb))]
      exact e
    · refine hR u2 (Moved.trans W.gtrans ((mv.mono more).then_heap tl fun b o hb e => ?_) mv2) g3 kp3
      rw [sb.2 b (fun z : b = S => hb (z ▸ .head _))]
      exact e
set_option maxHeartbeats 3200000 in
/-- set(xs), xs a list -/
theorem set_of_list {s : Shared} {l : Addr} {its : Array Value} {G : Nat → Heap → Prop} {Q : Value → Shared → Prop} (calm : A.handled = none) (hq : s.heap.IsList l its) (fl : Fills P w s.heap s.heap.objs.size its (A.units + 3) G)
    (h : ∀ (h' : Heap) (tk : Nat), G its.size h' → (∀ b o, s.heap.get? b = some o → h'.get? b = some o) → Q (.ref s.heap.objs.size) { s with heap := h', toks := tk }) :
    wpAny (model P w) A (call (.type "set") [.ref l]) Q E s := by
  obtain ⟨c0, tl0, mro0⟩ := F.called_set.mro
  have made0 := F.called_set.made
  have sub0 := F.called_set.sub
  refine wpAny_call (codeAny_of_tree ?_)
  show wpAny _ _ (callAny (.type "set") _) _ _ _
  refine wpAny_pure ⟨Code.quiet_builtin _ (by decide +kernel), codeAny_builtin F.entry_type_call ?_⟩
  rw [Around.under_plain (weight_type_call_type "set" [.ref l] []) rfl]
  have y1 := F.called_set.notType
  have y2 := F.called_set.canCreate
  have y3 := F.typeCall_set_1 (.ref l)
  repeat (any_goals (first | assumption | wp_step))
  refine codeAny_mono (code_set_led1 (.ref l) (E := E) (Q₁ := fun x u => x = .ref s.heap.objs.size ∧ u = { s with heap := s.heap.push (newSet w) }) ⟨rfl, rfl⟩) fun r u hr => ?_
  cases r with
  | error e => exact hr
  | ok fl1 =>
    cases fl1 with
    | ret x =>
      obtain ⟨rfl, rfl⟩ := hr
      have at0 : (s.heap.push (newSet w)).get? s.heap.objs.size = some (newSet w) := Heap.get?_push_size _ rfl
      have ty0 : Shared.TypeIs { s with heap := s.heap.push (newSet w) } (.ref s.heap.objs.size) "set" := ⟨_, at0, rfl⟩
      have in1 := F.called_set.init.lookup
      have in2 := F.called_set.init.bind (.ref s.heap.objs.size)
      repeat (any_goals (first | assumption | wp_step))
      refine codeAny_mono (codeAny_call_builtin (R := wants (fun r u => r = .none ∧ ∃ h' tk, u = { s with heap := h', toks := tk } ∧ G its.size h' ∧ (∀ b o, s.heap.get? b = some o → h'.get? b = some o)) E)
        F.called_set.init.plain F.entry_set_init (check_set_init_1 ty0 ?_)) fun r2 u2 hr2 => ?_
      · obtain ⟨ol, hol, hcl, nl, hdl⟩ := hq
        obtain ⟨oc, od, odt, osl⟩ := ol
        simp only at hcl hdl
        subst hcl; subst hdl
        have hol1 : (s.heap.push (newSet w)).get? l = some { cls := .type "list", dict := od, data := .seq its nl, slots := osl } := Heap.get?_push_of_some _ hol
        have z1 := F.sub_list_set
        have z2 := F.sub_list_frozenset
        have z3 : (Value.type "list" == Value.type "dict") = false := by decide
        have hq1 : (s.heap.push (newSet w)).IsList l its := ⟨_, hol1, rfl, nl, rfl⟩
        unfold Builtin.«set.__init__» noKeywords Builtin.Frozenset.updateFrom
        generalize ePI : pyIter = PI
        wp_walk
        subst ePI
        refine wpAny_pyIter_list hq1 ?_
        refine wpAny_bind (wpAny_runValue ?_)
        have lS : l < s.heap.objs.size := Heap.lt_size hol
        have calm3 : A.in1.in1.in1.handled = none := by simp [calm]
        have sz1 : (s.heap.push (newSet w)).objs.size = s.heap.objs.size + 1 := Heap.size_push ..
        have neI : l ≠ (s.heap.push (newSet w)).objs.size := by
          rw [sz1]
          exact Nat.ne_of_lt (Nat.lt_succ_of_lt lS)
        have nS : s.heap.objs.size ∉ [(s.heap.push (newSet w)).objs.size, l] := by
          rw [sz1]
          simp only [List.mem_cons, List.mem_singleton, List.not_mem_nil, or_false, not_or]
          exact ⟨Nat.ne_of_lt (Nat.lt_succ_self _), Nat.ne_of_gt lS⟩
        have gone : ∀ b, s.heap.objs.size ≤ b → s.heap.get? b = none := fun b hb => by
          cases q : s.heap.get? b with
          | none => rfl
          | some o => exact absurd (Nat.lt_of_lt_of_le (Heap.lt_size q) hb) (Nat.lt_irrefl _)
        refine fill_loop ((Walks.list calm3 _ l neI its).toS) nS fl (by simp only [Around.in1_units]; omega) (fun b hb => gone b (by
          rw [List.mem_singleton.mp hb, sz1]
          exact Nat.le_succ _)) (gone _ (Nat.le_refl _)) (its.size - 0) 0 _ rfl (Nat.zero_le _) ⟨⟨_, Heap.get?_push_size _ rfl, rfl, rfl⟩, (hq1.push _)⟩ (fun b o e => Heap.get?_push_of_some _ (Heap.get?_push_of_some _ e)) ?g0 ?gR
        case g0 => exact fl.start _ (Heap.get?_push_of_some _ at0) fun b o e => Heap.get?_push_of_some _ (Heap.get?_push_of_some _ e)
        case gR =>
          intro u3 mv g3 kp3
          obtain ⟨hh, gg, dd, tt, oo⟩ := u3
          obtain rfl : gg = s.gens := mv.gens
          obtain rfl : dd = s.drawn := mv.drawn
          obtain rfl : oo = s.os := mv.os
          show wpAny _ _ _ _ _ _
          refine wpAny_pure ?_
          show wpAny _ _ (ret Value.none) _ _ _
          exact wpAny_pure ⟨rfl, hh, tt, rfl, g3, kp3⟩
      · cases r2 with
        | error e => exact hr2
        | ok fl2 =>
          cases fl2 with
          | ret r =>
            obtain ⟨rfl, hh, tt, rfl, g3, kp3⟩ := hr2
            repeat (any_goals (first | assumption | wp_step))
            exact h _ _ g3 kp3
          | _ => exact hr2.elim
    | _ => exact hr.elim
set_option maxHeartbeats 3200000 in
/-- set(xs), xs a tuple -/
theorem set_of_tuple {s : Shared} {l : Addr} {its : Array Value} {G : Nat → Heap → Prop} {Q : Value → Shared → Prop} (calm : A.handled = none) (hq : s.heap.IsTuple l its) (fl : Fills P w s.heap s.heap.objs.size its (A.units + 3) G)
    (h : ∀ (h' : Heap) (tk : Nat), G its.size h' → (∀ b o, s.heap.get? b = some o → h'.get? b = some o) → Q (.ref s.heap.objs.size) { s with heap := h', toks := tk }) :
    wpAny (model P w) A (call (.type "set") [.ref l]) Q E s := by
  obtain ⟨c0, tl0, mro0⟩ := F.called_set.mro
  have made0 := F.called_set.made
  have sub0 := F.called_set.sub
  refine wpAny_call (codeAny_of_tree ?_)
  show wpAny _ _ (callAny (.type "set") _) _ _ _
  refine wpAny_pure ⟨Code.quiet_builtin _ (by decide +kernel), codeAny_builtin F.entry_type_call ?_⟩
  rw [Around.under_plain (weight_type_call_type "set" [.ref l] []) rfl]
  have y1 := F.called_set.notType
  have y2 := F.called_set.canCreate
  have y3 := F.typeCall_set_1 (.ref l)
  repeat (any_goals (first | assumption | wp_step))
  refine codeAny_mono (code_set_led1 (.ref l) (E := E) (Q₁ := fun x u => x = .ref s.heap.objs.size ∧ u = { s with heap := s.heap.push (newSet w) }) ⟨rfl, rfl⟩) fun r u hr => ?_
  cases r with
  | error e => exact hr
  | ok fl1 =>
    cases fl1 with
    | ret x =>
      obtain ⟨rfl, rfl⟩ := hr
      have at0 : (s.heap.push (newSet w)).get? s.heap.objs.size = some (newSet w) := Heap.get?_push_size _ rfl
      have ty0 : Shared.TypeIs { s with heap := s.heap.push (newSet w) } (.ref s.heap.objs.size) "set" := ⟨_, at0, rfl⟩
      have in1 := F.called_set.init.lookup
      have in2 := F.called_set.init.bind (.ref s.heap.objs.size)
      repeat (any_goals (first | assumption | wp_step))
      refine codeAny_mono (codeAny_call_builtin (R := wants (fun r u => r = .none ∧ ∃ h' tk, u = { s with heap := h', toks := tk } ∧ G its.size h' ∧ (∀ b o, s.heap.get? b = some o → h'.get? b = some o)) E)
        F.called_set.init.plain F.entry_set_init (check_set_init_1 ty0 ?_)) fun r2 u2 hr2 => ?_
      · obtain ⟨ol, hol, hcl, nl, hdl⟩ := hq
        obtain ⟨oc, od, odt, osl⟩ := ol
        simp only at hcl hdl
        subst hcl; subst hdl
        have hol1 : (s.heap.push (newSet w)).get? l = some { cls := .type "tuple", dict := od, data := .seq its nl, slots := osl } := Heap.get?_push_of_some _ hol
        have z1 := F.sub_tuple_set
        have z2 := F.sub_tuple_frozenset
        have z3 : (Value.type "tuple" == Value.type "dict") = false := by decide
        have hq1 : (s.heap.push (newSet w)).IsTuple l its := ⟨_, hol1, rfl, nl, rfl⟩
        unfold Builtin.«set.__init__» noKeywords Builtin.Frozenset.updateFrom
        generalize ePI : pyIter = PI
        wp_walk
        subst ePI
        refine wpAny_pyIter_tuple hq1 ?_
        refine wpAny_bind (wpAny_runValue ?_)
        have lS : l < s.heap.objs.size := Heap.lt_size hol
        have calm3 : A.in1.in1.in1.handled = none := by simp [calm]
        have sz1 : (s.heap.push (newSet w)).objs.size = s.heap.objs.size + 1 := Heap.size_push ..
        have neI : l ≠ (s.heap.push (newSet w)).objs.size := by
          rw [sz1]
          exact Nat.ne_of_lt (Nat.lt_succ_of_lt lS)
        have nS : s.heap.objs.size ∉ [(s.heap.push (newSet w)).objs.size, l] := by
          rw [sz1]
          simp only [List.mem_cons, List.mem_singleton, List.not_mem_nil, or_false, not_or]
          exact ⟨Nat.ne_of_lt (Nat.lt_succ_self _), Nat.ne_of_gt lS⟩
        have gone : ∀ b, s.heap.objs.size ≤ b → s.heap.get? b = none := fun b hb => by
          cases q : s.heap.get? b with
          | none => rfl
          | some o => exact absurd (Nat.lt_of_lt_of_le (Heap.lt_size q) hb) (Nat.lt_irrefl _)
        refine fill_loop ((Walks.tuple calm3 _ l neI its).toS) nS fl (by simp only [Around.in1_units]; omega) (fun b hb => gone b (by
          rw [List.mem_singleton.mp hb, sz1]
          exact Nat.le_succ _)) (gone _ (Nat.le_refl _)) (its.size - 0) 0 _ rfl (Nat.zero_le _) ⟨⟨_, Heap.get?_push_size _ rfl, rfl, rfl⟩, (hq1.push _)⟩ (fun b o e => Heap.get?_push_of_some _ (Heap.get?_push_of_some _ e)) ?g0 ?gR
        case g0 => exact fl.start _ (Heap.get?_push_of_some _ at0) fun b o e => Heap.get?_push_of_some _ (Heap.get?_push_of_some _ e)
        case gR =>
          intro u3 mv g3 kp3
          obtain ⟨hh, gg, dd, tt, oo⟩ := u3
          obtain rfl : gg = s.gens := mv.gens
          obtain rfl : dd = s.drawn := mv.drawn
          obtain rfl : oo = s.os := mv.os
          show wpAny _ _ _ _ _ _
          refine wpAny_pure ?_
          show wpAny _ _ (ret Value.none) _ _ _
          exact wpAny_pure ⟨rfl, hh, tt, rfl, g3, kp3⟩
      · cases r2 with
        | error e => exact hr2
        | ok fl2 =>
          cases fl2 with
          | ret r =>
            obtain ⟨rfl, hh, tt, rfl, g3, kp3⟩ := hr2
            repeat (any_goals (first | assumption | wp_step))
            exact h _ _ g3 kp3
          | _ => exact hr2.elim
    | _ => exact hr.elim
end
end Ask
/-! AskSs: sets of texts, fewer than 64: made of a tuple, sorted. -/
namespace Ask
open PySem PySem.Spec PyProof.Rows L2 PySem.Froz
abbrev ST := Str × Tok
def sE (w : World) (p : ST) : Int × Value := (hashStr w p.1, Value.str p.1 p.2)
/-- the payload D holds the texts of L -/
structure DatS (P : Program) (w : World) (D : SD) (L : List ST) : Prop where
  ok : TxOk P w D (L.map Prod.fst)
  ent : D.1.toList = L.map (sE w)
  tab : TabOk D.2.2 (L.map fun p => hashStr w p.1)
  lead : w.params.followText "set-order" = true ∨ D.2.2.led = true
  air : L.length * 5 < D.2.2.mask * 3
  few : L.length < 64
  one : (L.map Prod.fst).Nodup
theorem tx_perm {P : Program} {w : World} {D : SD} {l m : List Str} (h : TxOk P w D l) (p : m.Perm l) : TxOk P w D m :=
  ⟨h.el, fun k => p.mem_iff.trans (h.mem k), h.sz.trans p.length_eq.symm, h.fit⟩
section
variable {P : Program} {w : World} {A : Around} {E : Value → Shared → Prop} {s : Shared}
/-- where a new text goes -/
theorem lay_is {es : Array (Int × Value)} {t : SetTable} {hs : List Int} (T : TabOk t hs) (n : es.size = hs.length) (air : hs.length * 5 < t.mask * 3) (h : Int) (v : Value) :
    ∃ K, way t.mask h K ∉ t.place.toList ∧ (∀ c, c < K → way t.mask h c ∈ t.place.toList) ∧ layNew t es h v = (SetTable.insertAt es (SetTable.below t.place (way t.mask h K)) (h, v), (t.put (way t.mask h K)).1, false, false) := by
  obtain ⟨K, small, free, taken⟩ := T.first (by omega) h
  refine ⟨K, free, taken, ?_⟩
  have told := go_spec t T.ris T.dm (fun _ => h + 1) h (10 * SetTable.turns t.mask) K (legAt t.mask h 0) (stand_clean _ _ 0) small (fun q hq => by rw [stand_on, Nat.zero_add]; exact taken q hq) (by rw [stand_on, Nat.zero_add]; exact free)
  have got : t.probe (fun _ => h + 1) h (t.probeStart h) = some (.empty (way t.mask h K) none) := by
    cases told with
    | inl z =>
      obtain ⟨_, _, _, _, e, _⟩ := z
      omega
    | inr z =>
      have g := z.2
      rw [stand_on, Nat.zero_add] at g
      exact g
  have fs : t.freeSlot h = some (way t.mask h K, false) := by
    unfold SetTable.freeSlot
    rw [got]
    rfl
  obtain ⟨q1, q2, q3, q4, q5, q6, q7, q8, q9⟩ := T.put free taken
  generalize hpt : t.put (way t.mask h K) = pt at q1 q3 q4 q5 q6 q7 q8 q9 ⊢
  obtain ⟨u, p⟩ := pt
  dsimp only at q1 q3 q4 q5 q6 q7 q8 q9 ⊢
  have sz : (SetTable.insertAt es p (h, v)).size = hs.length + 1 := by
    rw [← Array.length_toList, SetTable.toList_insertAt, List.length_append, List.length_cons, List.length_take, List.length_drop, Array.length_toList]
    omega
  have fit : u.fits (SetTable.insertAt es p (h, v)).size = true := by
    refine fits_of ?_ q3.dm ?_
    · rw [q3.sz, sz, List.length_append, List.length_cons, List.length_take, List.length_drop]
      omega
    · rw [sz, q4]
      omega
  unfold layNew
  rw [fs]
  dsimp only
  rw [hpt]
  dsimp only
  unfold SetTable.orStandIn
  rw [if_pos fit, fit, q1]
  rfl
theorem reorderS {L : List ST} {es : Array (Int × Value)} {order : Array Nat} (hr : es.toList = L.map (sE w)) (hp : order.toList.Perm (List.range L.length)) :
    ∃ M : List ST, (order.filterMap (es[·]?)).toList = M.map (sE w) ∧ M.Perm L ∧ (M.map fun p => hashStr w p.1) = order.toList.map fun i => (es.map (·.1)).getD i 0 := by
  have one : ∀ i, i < L.length → ∃ p, L[i]? = some p ∧ es[i]? = some (sE w p) := fun i h => by
    refine ⟨L[i], List.getElem?_eq_getElem h, ?_⟩
    rw [← Array.getElem?_toList, hr, List.getElem?_map, List.getElem?_eq_getElem h]
    rfl
  have all : ∀ l : List Nat, (∀ i ∈ l, i < L.length) → l.filterMap (fun i => es[i]?) = (l.filterMap fun i => L[i]?).map (sE w) ∧
      (l.filterMap fun i => L[i]?).map (fun p => hashStr w p.1) = l.map fun i => (es.map (·.1)).getD i 0 := by
    intro l
    induction l with
    | nil => exact fun _ => ⟨rfl, rfl⟩
    | cons i l ih =>
      intro hl
      obtain ⟨p, e1, e2⟩ := one i (hl i (List.mem_cons.mpr (.inl rfl)))
      obtain ⟨i1, i2⟩ := ih fun j hj => hl j (List.mem_cons.mpr (.inr hj))
      have e3 : (es.map (·.1)).getD i 0 = hashStr w p.1 := by
        have e4 : (es.map (·.1))[i]? = some (hashStr w p.1) := by
          rw [Array.getElem?_map, e2]
          rfl
        simp [Array.getD_eq_getD_getElem?, e4]
      refine ⟨?_, ?_⟩
      · rw [List.filterMap_cons_some e2, List.filterMap_cons_some e1, i1]
        rfl
      · rw [List.filterMap_cons_some e1, List.map_cons, List.map_cons, i2, e3]
  obtain ⟨z1, z2⟩ := all order.toList fun i hi => List.mem_range.mp (hp.mem_iff.mp hi)
  refine ⟨_, by first | (rw [Array.toList_filterMap]; exact z1) | simpa using z1, ?_, z2⟩
  have z3 := hp.filterMap fun i => L[i]?
  rw [picked L L.length (Nat.le_refl _), List.take_length] at z3
  exact z3
/-- a new text put in, told of the payload -/
theorem datS_put {D : SD} {L : List ST} (S : DatS P w D L) {k : Str} (u : Tok) (nw : k ∉ L.map Prod.fst) (few : L.length + 1 < 64) :
    ∃ L', DatS P w (addTx (hashStr w k) (.str k u) D) L' ∧ L'.Perm ((k, u) :: L) := by
  have ok := add_ok (k := k) u S.ok
  obtain ⟨es, ep, t⟩ := D
  have tab : TabOk t (L.map fun p => hashStr w p.1) := S.tab
  have ent : es.toList = L.map (sE w) := S.ent
  have air : L.length * 5 < t.mask * 3 := S.air
  have lead : w.params.followText "set-order" = true ∨ t.led = true := S.lead
  have n0 : es.size = L.length := by rw [← Array.length_toList, ent, List.length_map]
  obtain ⟨K, free, taken, lay⟩ := lay_is (es := es) tab (by rw [n0, List.length_map]) (by rw [List.length_map]; exact air) (hashStr w k) (.str k u)
  obtain ⟨q1, q2, q3, q4, q5, q6, q7, q8, q9⟩ := tab.put free taken
  generalize hp : SetTable.below t.place (way t.mask (hashStr w k) K) = p at q2 q3 lay
  generalize (t.put (way t.mask (hashStr w k) K)).1 = t1 at q3 q4 q5 q9 lay
  clear q1 q6 q7 q8
  have pm := put_perm L p (k, u)
  have ent1 : (SetTable.insertAt es p (hashStr w k, Value.str k u)).toList = (L.take p ++ (k, u) :: L.drop p).map (sE w) := by
    rw [SetTable.toList_insertAt, ent, List.map_append, List.map_cons, List.map_take, List.map_drop]
    rfl
  have tab1 : TabOk t1 ((L.take p ++ (k, u) :: L.drop p).map fun p => hashStr w p.1) := by
    have e : ((L.take p ++ (k, u) :: L.drop p).map fun p => hashStr w p.1) = (L.map fun p => hashStr w p.1).take p ++ hashStr w k :: (L.map fun p => hashStr w p.1).drop p := by
      rw [List.map_append, List.map_cons, List.map_take, List.map_drop]
    rw [e]
    exact q3
  have fill1 : t1.fill = L.length + 1 := by rw [q9, List.length_map]
  generalize hL1 : L.take p ++ (k, u) :: L.drop p = L1 at pm ent1 tab1
  generalize he1 : SetTable.insertAt es p (hashStr w k, Value.str k u) = e1 at ent1 lay
  have n1 : L1.length = L.length + 1 := pm.length_eq
  have n2 : e1.size = L.length + 1 := by rw [← Array.length_toList, ent1, List.length_map, n1]
  have addIs : addTx (hashStr w k) (.str k u) (es, ep, t) = tailTx ep e1 (if t1.plain = true then { t1 with plain := false } else t1) false := by
    unfold addTx
    dsimp only
    rw [lay]
  rw [addIs] at ok ⊢
  obtain ⟨t2, et2⟩ : ∃ t2, (if t1.plain = true then { t1 with plain := false } else t1) = t2 := ⟨_, rfl⟩
  have t2p : TabOk t2 (L1.map fun p => hashStr w p.1) ∧ t2.mask = t.mask ∧ t2.led = t.led ∧ t2.fill = L.length + 1 := by
    rw [← et2]
    by_cases c : t1.plain = true
    · rw [if_pos c]
      exact ⟨tab_flag tab1 false, q4, q5, fill1⟩
    · rw [if_neg c]
      exact ⟨tab1, q4, q5, fill1⟩
  rw [et2] at ok ⊢
  obtain ⟨tb2, m2, l2, f2⟩ := t2p
  have oneL : ∀ {M : List ST}, M.Perm L1 → (M.map Prod.fst).Nodup := fun {M} h => ((h.trans pm).map Prod.fst).nodup_iff.mpr (List.nodup_cons.mpr ⟨nw, S.one⟩)
  have okL : ∀ {M : List ST}, M.Perm L1 → (M.map Prod.fst).Perm (k :: L.map Prod.fst) := fun {M} h => (h.trans pm).map Prod.fst
  have full : t2.tooFull = decide ((L.length + 1) * 5 ≥ t2.mask * 3) := by
    unfold SetTable.tooFull
    rw [f2]
  by_cases c : (L.length + 1) * 5 ≥ t2.mask * 3
  · have size : (t.mask = 7 ∧ L.length = 4) ∨ (t.mask = 31 ∧ L.length = 18) := by
      rw [m2] at c
      rcases tab.mok with e | e | e
      · exact .inl ⟨e, by rw [e] at c air; omega⟩
      · exact .inr ⟨e, by rw [e] at c air; omega⟩
      · rw [e] at c; omega
    have tail : tailTx ep e1 t2 false = ((relayAll t2 e1 (SetTable.grown e1.size)).1, ep + 2, (relayAll t2 e1 (SetTable.grown e1.size)).2.1) := by
      unfold tailTx
      rw [full, decide_eq_true c]
      rfl
    have go : ∀ M, SetTable.sizeAbove (SetTable.grown (L.length + 1)) = M + 1 → MaskOk M → (L.length + 1) * 5 < M * 3 → ∃ L', DatS P w (tailTx ep e1 t2 false) L' ∧ L'.Perm ((k, u) :: L) := fun M g1 g2 g4 => by
      obtain ⟨u3, order, e, hpm, tab3, em, el, _, dm⟩ := relaid_ok t2 (hs := e1.map (·.1)) (wanted := SetTable.grown e1.size) (M := M) (by rw [n2]; omega) g2 (by rw [Array.size_map, n2]; omega)
      rw [Array.size_map, n2, ← n1] at hpm
      obtain ⟨M', m1, mp, m3⟩ := reorderS ent1 hpm
      rw [← m3] at tab3
      have n3 : (order.filterMap (e1[·]?)).size = L.length + 1 := by rw [← Array.length_toList, m1, List.length_map, mp.length_eq, n1]
      have cov : coversAll order e1.size = true := by
        unfold coversAll
        rw [n2, ← n1]
        exact List.isPerm_iff.mpr hpm
      have fit : u3.fits (order.filterMap (e1[·]?)).size = true := by
        refine fits_of ?_ tab3.dm ?_
        · rw [tab3.sz, List.length_map, n3, mp.length_eq, n1]
        · rw [n3, em]
          omega
      have rel : relayAll t2 e1 (SetTable.grown e1.size) = (order.filterMap (e1[·]?), u3, false) := by
        unfold relayAll
        rw [e]
        dsimp only
        rw [cov, fit]
        rfl
      rw [tail, rel] at ok ⊢
      refine ⟨M', ⟨tx_perm ok (okL mp), m1, tab3, ?_, ?_, ?_, oneL mp⟩, mp.trans pm⟩
      · show _ ∨ u3.led = true
        rw [el, l2]
        exact lead
      · show M'.length * 5 < u3.mask * 3
        rw [mp.length_eq, n1, em]
        exact g4
      · rw [mp.length_eq, n1]
        exact few
    rcases size with ⟨_, e⟩ | ⟨_, e⟩
    · exact go 31 (by rw [e]; exact size_20) (.inr (.inl rfl)) (by omega)
    · exact go 127 (by rw [e]; exact size_76) (.inr (.inr rfl)) (by omega)
  · have tail : tailTx ep e1 t2 false = (e1, ep + 1, t2) := by
      unfold tailTx
      rw [full, decide_eq_false c]
      rfl
    rw [tail] at ok ⊢
    refine ⟨L1, ⟨tx_perm ok (okL (List.Perm.refl _)), ent1, tb2, ?_, ?_, by omega, oneL (List.Perm.refl _)⟩, pm⟩
    · show _ ∨ t2.led = true
      rw [l2]
      exact lead
    · show L1.length * 5 < t2.mask * 3
      omega
/-- a text that is there already -/
theorem same_x {a : Addr} {D : SD} {l : List Str} {k : Str} {u : Tok} {Q : Bool → Shared → Prop} (ho : s.heap.get? a = some (sObj "set" D)) (F : TxOk P w D l) (hk : k ∈ l) (hb : l.length < scanBound)
    (h : Q false s) : wpAny (model P w) A (setAddHashed a (.str k u) (hashStr w k)) Q E s := by
  obtain ⟨es, ep, t⟩ := D
  have hd : (sObj "set" (es, ep, t)).data = .set es ep t := rfl
  have hf : t.fits es.size = true := F.fit
  have hel : ElemsOf (strKind P w) es.toList := F.el
  have hsz : es.size = l.length := F.sz
  have key : (strKind P w).is k (.str k u) = true := is_str k u
  unfold setAddHashed setAddHashedIn
  refine wpAny_holding (wpAny_bind (wpAny_setState_of ho hd hf ?_))
  dsimp only
  rw [byScan_of rfl (by omega) hel]
  simp only [↓reduceIte]
  unfold setAddByScan
  refine wpAny_bind ?_
  refine wpAny_bind (wpAny_rule ?_)
  refine wpAny_bind (wpAny_setScan_of (knd := strKind P w) (k := k) key ho hd hf hel ?_)
  cases hr : List.findIdx? (fun e => (strKind P w).is k e.2) es.toList with
  | none =>
    obtain ⟨e, he, z⟩ := (F.mem k).mp hk
    have := List.findIdx?_eq_none_iff.mp hr e he
    rw [z] at this
    cases this
  | some j =>
    dsimp only
    exact wpAny_pure (wpAny_pure h)
end
end Ask
/-! AskSt: set(xs) of texts and of nested keys, sorted(set of texts), as rules of the hand layer. -/
namespace Ask
open PySem PySem.Spec PyProof.Rows L2 PySem.Froz AskG
def SetS0 (P : Program) (w : World) (h : Heap) (a : Addr) (ns : List Str) : Prop := ∃ D L, h.get? a = some (sObj "set" D) ∧ DatS P w D L ∧ (L.map Prod.fst).Perm ns
def SetSO (P : Program) (w : World) (a : Addr) (ns : List Str) : HO := .ext fun h => SetS0 P w h a ns
theorem setSO_ok {P : Program} {w : World} {H : Hp} {h : Heap} {a : Addr} {ns : List Str} (S : SetS0 P w h a ns) : ObjOk P w H h a (SetSO P w a ns) := by
  obtain ⟨D, L, ho, r⟩ := id S
  refine ⟨S, ⟨_, ho⟩, fun h1 h2 p k => ?_⟩
  obtain ⟨D', L', ho', r'⟩ := (show SetS0 P w h1 a ns from p)
  exact ⟨D', L', k _ ho', r'⟩
theorem datS_nil {P : Program} {w : World} : DatS P w (#[], 0, .fresh 0 0 (!w.params.followText "set-order")) [] where
  ok := TxOk.nil (by
    refine fits_of rfl rfl ?_
    exact Nat.zero_le _)
  ent := rfl
  tab := ⟨List.Pairwise.nil, rfl, rfl, .inl rfl, fun x hx => absurd hx (by simp [SetTable.fresh]), fun i h j e => absurd e (by simp)⟩
  lead := by
    show _ ∨ (!w.params.followText "set-order") = true
    cases w.params.followText "set-order" <;> simp
  air := show 0 * 5 < 7 * 3 by decide
  few := show 0 < 64 by decide
  one := List.nodup_nil
section
variable {P : Program} {w : World} {A : Around} {E : Value → Shared → Prop} {s : Shared}
/-- set(xs), xs texts -/
theorem fills_txt {h0 : Heap} {S : Addr} {its : Array Value} {zs : List Str} {n : Nat} (hz : ∀ (i : Nat) (v : Value), its[i]? = some v → ∃ z t, zs[i]? = some z ∧ v = Value.str z t) (few : zs.length < 64) :
    Fills P w h0 S its n fun i h => ∃ D L, h.get? S = some (sObj "set" D) ∧ DatS P w D L ∧ (∀ z, z ∈ L.map Prod.fst ↔ z ∈ zs.take i) ∧ L.length ≤ i where
  start := fun h e _ => ⟨(#[], 0, .fresh 0 0 (!w.params.followText "set-order")), [], e, datS_nil, fun z => by rw [List.take_zero]; exact Iff.rfl, Nat.le_refl _⟩
  keep := fun i h h' g k _ => by
    obtain ⟨D, L, ho, r⟩ := g
    exact ⟨D, L, k _ ho, r⟩
  put := fun B i v u E Q hB hv g kp hQ => by
    obtain ⟨D, L, ho, S', mem, len⟩ := g
    obtain ⟨z, tk, hzi, rfl⟩ := hz i v hv
    have il : i < zs.length := (List.getElem?_eq_some_iff.mp hzi).1
    have step : ∀ x, x ∈ zs.take (i + 1) ↔ x ∈ zs.take i ∨ x = z := fun x => by
      rw [List.take_add_one, hzi, List.mem_append]
      exact or_congr Iff.rfl List.mem_singleton
    unfold setAdd
    refine wpAny_holding (wpAny_bind ((strKind P w).pyHash (k := z) (is_str z tk) ?_))
    by_cases c : z ∈ L.map Prod.fst
    · refine same_x (s := { u with toks := u.toks + 1 }) ho S'.ok c (by rw [List.length_map]; unfold scanBound; omega) ?_
      refine hQ false u.heap (u.toks + 1) (Heap.SameBut.refl S u.heap) ⟨D, L, ho, S', fun x => ?_, by omega⟩ (Nat.le_succ _)
      rw [mem, step]
      exact ⟨.inl, fun y => y.elim id fun y => y ▸ (mem z).mp c⟩
    · obtain ⟨L', S2, pm⟩ := datS_put S' tk c (by omega)
      refine add_x (s := { u with toks := u.toks + 1 }) ho S'.ok c (by rw [List.length_map]; unfold scanBound; omega) ?_
      refine hQ true _ (u.toks + 1) (Heap.SameBut.update ..) ⟨_, L', get_upd _ ho rfl, S2, fun x => ?_, by rw [pm.length_eq, List.length_cons]; omega⟩ (Nat.le_succ _)
      rw [(pm.map Prod.fst).mem_iff, List.map_cons, List.mem_cons, mem, step]
      exact or_comm
/-- set(xs), xs nested keys -/
theorem fills_key {h0 : Heap} {S : Addr} {its : Array Value} {ks : List (Addr × NestedKey)} {n : Nat} (hz : ∀ (i : Nat) (v : Value), its[i]? = some v → ∃ p : Addr × NestedKey, ks[i]? = some p ∧ v = Value.ref p.1) (few : ks.length < 64) (hk : ∀ p ∈ ks, IsK P w h0 p.2 p.1) (room : n + 8 < cLine) :
    Fills P w h0 S its n fun i h => ∃ L es ep t, SetK P w h S L es ep t ∧ (∀ k, k ∈ L.map Prod.snd ↔ k ∈ (ks.take i).map Prod.snd) ∧ (∀ p ∈ L, p ∈ ks) ∧ L.length ≤ i where
  start := fun h e _ => by
    obtain ⟨es, ep, t, S'⟩ := (setK_empty (P := P) (w := w) e).whole (P := P) (fun p hp => absurd hp (by simp))
    exact ⟨[], es, ep, t, S', fun k => by rw [List.take_zero], fun p hp => absurd hp (by simp), Nat.le_refl _⟩
  keep := fun i h h' g k kp => by
    obtain ⟨L, es, ep, t, S', mem, sub, len⟩ := g
    obtain ⟨o, ho, r⟩ := S'.obj
    exact ⟨L, es, ep, t, ⟨⟨o, k o ho, r⟩, S'.ent, S'.tab, S'.one, fun p hp => isK_kept (hk p (sub p hp)) kp, S'.lead, S'.air, S'.few⟩, mem, sub, len⟩
  put := fun B i v u E Q hB hv g kp hQ => by
    obtain ⟨L, es, ep, t, S', mem, sub, len⟩ := g
    obtain ⟨p, hp, rfl⟩ := hz i v hv
    have il : i < ks.length := (List.getElem?_eq_some_iff.mp hp).1
    have kx : IsK P w u.heap p.2 p.1 := isK_kept (hk p (List.mem_of_getElem? hp)) kp
    have step : ∀ x, x ∈ (ks.take (i + 1)).map Prod.snd ↔ x ∈ (ks.take i).map Prod.snd ∨ x = p.2 := fun x => by
      rw [List.take_add_one, hp, List.map_append, List.mem_append]
      exact or_congr Iff.rfl List.mem_singleton
    unfold setAdd
    refine wpAny_holding (wpAny_bind ((nestedKind P w).pyHash (show B.units + 8 < cLine by omega) kx ?_))
    refine putKey (s := { u with toks := u.toks + p.2.draws }) S' kx (by omega) (by omega) fun b h' L' es' ep' t' sb S2 q1 q2 => ?_
    refine hQ b h' (u.toks + p.2.draws) sb ⟨L', es', ep', t', S2, ?_⟩ (Nat.le_add_right _ _)
    by_cases c : p.2 ∈ L.map Prod.snd
    · rw [q1 c]
      refine ⟨fun x => ?_, sub, by omega⟩
      rw [mem, step]
      exact ⟨.inl, fun y => y.elim id fun y => y ▸ (mem _).mp c⟩
    · have pm := q2 c
      refine ⟨fun x => ?_, fun y hy => ?_, by rw [pm.length_eq, List.length_cons]; omega⟩
      · rw [(pm.map Prod.snd).mem_iff, List.map_cons, List.mem_cons, mem, step]
        exact or_comm
      · cases List.mem_cons.mp (pm.mem_iff.mp hy) with
        | inl e =>
          rw [e]
          exact List.mem_of_getElem? hp
        | inr m => exact sub y m
/-! ### sorted -/
def sv : Value → List Nat
  | .str x _ => x.cps.toList
  | _ => []
def ltSv (v u : Value) : Bool := decide (sv v < sv u)
theorem swo_sv : SrtO.Swo ltSv := by
  refine ⟨fun x y h => ?_, fun x y z h1 h2 => ?_⟩
  · have a := of_decide_eq_true (p := sv x < sv y) h
    exact decide_eq_false (p := sv y < sv x) fun b => List.lt_irrefl _ (List.lt_trans a b)
  · have a := of_decide_eq_false (p := sv y < sv x) h1
    have b := of_decide_eq_false (p := sv z < sv y) h2
    refine decide_eq_false (p := sv z < sv x) fun c => ?_
    rcases codes_tri (sv x) (sv y) with d | d | d
    · exact b (List.lt_trans c d)
    · rw [d] at c
      exact b c
    · exact a d
theorem strs_of : ∀ {vs : List Value}, (∀ v ∈ vs, ∃ x t, v = Value.str x t) → ∃ xs, StrsAre vs xs
  | [], _ => ⟨[], .nil⟩
  | v :: vs, h => by
    obtain ⟨xs, r⟩ := strs_of fun u hu => h u (List.mem_cons_of_mem _ hu)
    obtain ⟨x, t, rfl⟩ := h v List.mem_cons_self
    exact ⟨x :: xs, .cons x t r⟩
theorem strs_sortable {a : Addr} {vs : List Value} (hs : ∀ v ∈ vs, ∃ x t, v = Value.str x t) (h2 : 2 ≤ vs.length) : SrtO.SortableO P w A s a vs ltSv := by
  intro h' _
  obtain ⟨xs, r⟩ := strs_of hs
  refine ⟨oneType', fun Q E hq => ?_, fun p q hm hm' => ?_⟩
  · match vs, r, h2 with
    | v1 :: v2 :: rest, r, _ =>
      rw [keyKind_strs r]
      exact wpAny_pure hq
    | [], _, h => exact absurd h (by decide)
    | [v], _, h => exact absurd h (by simp)
  · obtain ⟨x, t, e⟩ := hs _ hm
    obtain ⟨y, u, e'⟩ := hs _ hm'
    show wpAny (model P w) A (keyLt' oneType' p.1 q.1) (fun r s' => s' = { s with heap := h' } ∧ r = ltSv p.1 q.1) (fun _ _ => False) { s with heap := h' }
    rw [e, e', keyLt'_oneType]
    exact oneLt_str ⟨rfl, rfl⟩
theorem sorted_txt {a : Addr} {D : SD} {L : List ST} (ho : s.heap.get? a = some (sObj "set" D)) (S : DatS P w D L) (calm : A.handled = none) {Q : Value → Shared → Prop}
    (hQ : ∀ (s' : Shared) (p : Addr) (out : List Value) (c : Nat), (∀ b o, s.heap.get? b = some o → s'.heap.get? b = some o) → s'.gens = s.gens → s'.os = s.os → s.heap.objs.size ≤ p →
      s'.heap.get? p = some (seqObj "list" out.toArray c) → out.Perm (L.map fun p => Value.str p.1 p.2) → SrtO.Srtd ltSv out → Q (.ref p) s') :
    wpAny (model P w) A (call (.builtin "sorted") [.ref a]) Q E s := by
  have n0 : D.1.size = L.length := by rw [← Array.length_toList, S.ent, List.length_map]
  have few := S.few
  refine Calls.call_function_entry kind_sorted plain_sorted entry_sorted (args_sorted1 _) ?_
  unfold Builtin.«sorted»
  refine wpAny_bind (m := checkCount "sorted" 1 1 _) (wpAny_pure ?_)
  refine wpAny_bind (collect_set (A := A.in1) calm ⟨_, ho, rfl, rfl⟩ S.ok.fit (by unfold scanBound; omega) S.tab.ris S.lead ?_)
  intro s1 vs keep grow g1 o1 pm
  have vals : D.1.toList.map (·.2) = L.map fun p => Value.str p.1 p.2 := by
    rw [S.ent, List.map_map]
    rfl
  rw [vals] at pm
  have short : vs.length < 64 := by
    rw [pm.length_eq, List.length_map]
    exact few
  have all : ∀ v ∈ vs, ∃ x t, v = Value.str x t := fun v hv => by
    obtain ⟨p, _, rfl⟩ := List.mem_map.mp (pm.mem_iff.mp hv)
    exact ⟨_, _, rfl⟩
  refine wpAny_bind (wpAny_newList ?_ (by rw [sizeLine_eq]; omega))
  have at0 : (s1.heap.push (seqObj "list" vs.toArray 0)).get? s1.heap.objs.size = some (seqObj "list" vs.toArray 0) := Heap.get?_push_size _ rfl
  refine wpAny_bind (wpAny_holding (wpAny_call_entry slot_list_sort ⟨_, at0, rfl⟩ entry_list_sort
    (SrtO.list_sort_ord (s := { s1 with heap := s1.heap.push (seqObj "list" vs.toArray 0) }) swo_sv at0 (by rw [sizeLine_eq]; omega) (fun h2 => strs_sortable all h2) fun out ord stb => ⟨_, rfl, ?_⟩) (args_list_sort _)))
  obtain ⟨c, hc⟩ := sortedHeap_at (vs := vs) (out := out.toArray) at0
  refine wpAny_pure ⟨_, rfl, hQ _ s1.heap.objs.size out c (fun b u e => ?_) g1 o1 grow hc (stb.perm.trans pm) ord⟩
  have e1 := keep b u e
  have lt := Heap.lt_size e1
  show (sortedHeap (s1.heap.push (seqObj "list" vs.toArray 0)) s1.heap.objs.size vs out.toArray).get? b = some u
  rw [sortedHeap_old (Nat.ne_of_lt lt) (Heap.lt_size (Heap.get?_push_of_some _ e1))]
  exact Heap.get?_push_of_some _ e1
end
/-! ### the rules -/
section
variable {X : Cx}
theorem strs_at {zs : List Str} {us : List Value} (r : Vals (zs.map V.str) us) : ∀ (i : Nat) (v : Value), us.toArray[i]? = some v → ∃ z t, zs[i]? = some z ∧ v = Value.str z t := by
  intro i v e
  rw [List.getElem?_toArray] at e
  induction zs generalizing us i with
  | nil =>
    cases r
    cases i <;> cases e
  | cons z zs ih =>
    cases r with
    | cons h t =>
      cases i with
      | zero =>
        cases e
        obtain ⟨tk, rfl⟩ := h
        exact ⟨z, tk, rfl, rfl⟩
      | succ i => exact ih t i (by simpa using e)
/-- set(xs), xs a tuple of texts -/
def rSetTS (K : PySem.W.Frag) (P : Program) (w : World) : List V → Hp → VK → Prop := fun xs H Q => ∃ (l : Addr) (zs : List Str), xs = [.ref l] ∧ SqT K H l (zs.map V.str) ∧ zs.length < 64 ∧
  ∀ a ns, H a = none → (∀ z, z ∈ ns ↔ z ∈ zs) → ns.Nodup → Q (.ref a) (upd H a (SetSO P w a ns))
theorem cr_setTS (hc : X.calm = true) : CallR X (.type "set") (rSetTS X.K X.prog X.w) := by
  intro pins s σ H xs us Q I r h
  obtain ⟨l, zs, rfl, hl, few, q⟩ := h
  obtain ⟨u, rfl, ru⟩ := vals1 r
  obtain rfl : u = Value.ref l := ru
  obtain ⟨its, rv, ⟨o, ho, hcl, n, hd⟩, hz⟩ := I.tuple hl
  have len : its.length = zs.length := by rw [← rv.length, List.length_map]
  refine set_of_tuple (I.ok.hd hc) (its := its.toArray) ⟨o, ho, hcl, n, hd⟩ (fills_txt (strs_at rv) few) fun h' tk g kp => ?_
  obtain ⟨D, L, hD, S, mem, ln⟩ := g
  refine ⟨.ref s.heap.objs.size, _, I.laid (t' := tk) kp (Nat.le_refl _) (setSO_ok (ns := L.map Prod.fst) ⟨D, L, hD, S, List.Perm.refl _⟩), rfl, q _ _ (I.hok.fresh (Nat.le_refl _)) (fun z => ?_) S.one⟩
  rw [mem, List.take_of_length_le (by rw [List.size_toArray]; omega)]
/-- set(xs), xs a list of nested keys -/
def rSetLK (K : PySem.W.Frag) (w : World) : List V → Hp → VK → Prop := fun xs H Q => ∃ (l : Addr) (ks : List (Addr × NestedKey)), xs = [.ref l] ∧ SqL K H l (ks.map fun p => V.ref p.1) ∧ KeysAt K H ks ∧ ks.length < 64 ∧
  ∀ a L, H a = none → (∀ k, k ∈ L.map Prod.snd ↔ k ∈ ks.map Prod.snd) → (∀ p ∈ L, p ∈ ks) → Q (.ref a) (upd H a (SetKO w a L))
theorem refs_ats {ks : List (Addr × NestedKey)} {us : List Value} (r : Vals (ks.map fun p => V.ref p.1) us) : ∀ (i : Nat) (v : Value), us.toArray[i]? = some v → ∃ p : Addr × NestedKey, ks[i]? = some p ∧ v = Value.ref p.1 := by
  intro i v e
  rw [List.getElem?_toArray] at e
  induction ks generalizing us i with
  | nil =>
    cases r
    cases i <;> cases e
  | cons z zs ih =>
    cases r with
    | cons h t =>
      cases i with
      | zero =>
        cases e
        cases h
        exact ⟨z, rfl, rfl⟩
      | succ i => exact ih t i (by simpa using e)
theorem cr_setLK (hc : X.calm = true) (hu : X.A.units + 12 < cLine) : CallR X (.type "set") (rSetLK X.K X.w) := by
  intro pins s σ H xs us Q I r h
  obtain ⟨l, ks, rfl, hl, hk, few, q⟩ := h
  obtain ⟨u, rfl, ru⟩ := vals1 r
  obtain rfl : u = Value.ref l := ru
  obtain ⟨its, rv, pl, hz⟩ := I.list hl
  have len : its.length = ks.length := by rw [← rv.length, List.length_map]
  refine set_of_list (I.ok.hd hc) (its := its.toArray) pl.isList (fills_key (refs_ats rv) few (hk.are I) (by omega)) fun h' tk g kp => ?_
  obtain ⟨L, es, ep, t, S, mem, sub, ln⟩ := g
  refine ⟨.ref s.heap.objs.size, _, I.laid (t' := tk) kp (Nat.le_refl _) (setKO_ok S.bare), rfl, q _ _ (I.hok.fresh (Nat.le_refl _)) (fun z => ?_) sub⟩
  rw [mem, List.take_of_length_le (by rw [List.size_toArray]; omega)]
/-- sorted(a), a a set of texts -/
def rSortSS (P : Program) (w : World) : List V → Hp → VK → Prop := fun xs H Q => ∃ (a : Addr) (ns : List Str), xs = [.ref a] ∧ H a = some (SetSO P w a ns) ∧
  ∀ (ys : List Str) (p : Addr), (∀ z, z ∈ ys ↔ z ∈ ns) → ys.Pairwise (fun a b => a.cps.toList < b.cps.toList) → H p = none → Q (.ref p) (upd H p (.lst (ys.map V.str)))
theorem vals_strs : ∀ {vs : List Value}, (∀ v ∈ vs, ∃ x t, v = Value.str x t) → ∃ xs : List Str, Vals (xs.map V.str) vs ∧ vs.map sv = xs.map fun x => x.cps.toList
  | [], _ => ⟨[], .nil, rfl⟩
  | v :: vs, h => by
    obtain ⟨xs, r, e⟩ := vals_strs fun u hu => h u (List.mem_cons_of_mem _ hu)
    obtain ⟨x, t, rfl⟩ := h v List.mem_cons_self
    exact ⟨x :: xs, .cons ⟨t, rfl⟩ r, by rw [List.map_cons, List.map_cons, e]; rfl⟩
theorem cr_sortSS (hc : X.calm = true) : CallR X (.builtin "sorted") (rSortSS X.prog X.w) := by
  intro pins s σ H xs us Q I r h
  obtain ⟨a, ns, rfl, ha, q⟩ := h
  obtain ⟨u, rfl, ru⟩ := vals1 r
  obtain rfl : u = Value.ref a := ru
  obtain ⟨D, L, hD, S, pn⟩ := (show SetS0 X.prog X.w s.heap a ns from (I.hok a _ ha).1)
  refine sorted_txt hD S (I.ok.hd hc) fun s' p out c keep g o hp at' pm srt => ?_
  have all : ∀ v ∈ out, ∃ x t, v = Value.str x t := fun v hv => by
    obtain ⟨p, _, rfl⟩ := List.mem_map.mp (pm.mem_iff.mp hv)
    exact ⟨_, _, rfl⟩
  obtain ⟨ys, rv, es⟩ := vals_strs all
  have few := S.few
  have ml : (ys.map fun x => x.cps.toList).Perm ((L.map Prod.fst).map fun x => x.cps.toList) := by
    rw [← es]
    have z := pm.map sv
    rw [List.map_map] at z
    rw [List.map_map]
    exact z
  have mem : ∀ z, z ∈ ys ↔ z ∈ ns := fun z => by
    rw [← pn.mem_iff]
    have inj : ∀ (l : List Str), z ∈ l ↔ z.cps.toList ∈ l.map fun x => x.cps.toList := fun l => by
      constructor
      · exact fun m => List.mem_map_of_mem m
      · intro m
        obtain ⟨y, hy, e⟩ := List.mem_map.mp m
        rw [← str_ext e]
        exact hy
    rw [inj ys, inj, ml.mem_iff]
  have nd : (ys.map fun x => x.cps.toList).Nodup := ml.nodup_iff.mpr (List.pairwise_map.mpr (S.one.imp fun h e => h (str_ext e)))
  have st : (ys.map fun x => x.cps.toList).Pairwise (fun a b => ¬ b < a) := by
    rw [← es]
    exact List.pairwise_map.mpr (srt.imp fun {x y} h => of_decide_eq_false (p := sv y < sv x) h)
  have up : ys.Pairwise (fun a b => a.cps.toList < b.cps.toList) := by
    have z := (st.and nd).imp (S := fun a b => a < b) fun {x y} h => by
      rcases codes_tri x y with d | d | d
      · exact d
      · exact absurd d h.2
      · exact absurd d h.1
    exact List.pairwise_map.mp z
  have len : (ys.map V.str).length ≤ sizeLine := by
    have := ml.length_eq
    rw [List.length_map, List.length_map, List.length_map] at this
    rw [List.length_map, sizeLine_eq]
    omega
  have hn : H p = none := I.hok.fresh hp
  have J : Inv X pins σ (upd H p (.lst (ys.map V.str))) { s with heap := s'.heap, gens := s'.gens, drawn := s'.drawn, toks := s'.toks } :=
    I.call (ch := []) (Un.laid keep hp hn) (I.hok.laid keep hp ⟨len, out, c, rv, at'⟩) (by rw [g]; exact I.bare) (fun _ z => nomatch z)
  have e : s' = { s with heap := s'.heap, gens := s'.gens, drawn := s'.drawn, toks := s'.toks } := by
    cases s'
    cases s
    cases o
    rfl
  rw [e]
  exact ⟨.ref p, _, J, rfl, q ys p mem up hn⟩
end
end Ask
/-! AskTp: sorted of a tuple of texts. -/
namespace Ask
open PySem PySem.Spec PyProof.Rows L2 AskG
def stV : Value → Str
  | .str x _ => x
  | _ => ""
theorem st_vals : ∀ {xs : List Str} {us : List Value}, Vals (xs.map V.str) us → us.map stV = xs
  | [], _, .nil => rfl
  | x :: xs, _, .cons r t => by
    obtain ⟨tk, rfl⟩ := r
    rw [List.map_cons, st_vals t]
    rfl
theorem strs_in : ∀ {xs : List Str} {us : List Value}, Vals (xs.map V.str) us → ∀ v ∈ us, ∃ x t, v = Value.str x t
  | [], _, .nil, v, m => absurd m (by simp)
  | x :: xs, _, .cons r t, v, m => by
    obtain ⟨tk, rfl⟩ := r
    rcases List.mem_cons.mp m with rfl | m
    · exact ⟨_, _, rfl⟩
    · exact strs_in t v m
section
variable {prog : Program} {w : World} {A : Around} {E : Value → Shared → Prop} {s : Shared}
/-- the items of a tuple, the heap grown -/
theorem collect_tup {Q : List Value → Shared → Prop} {t : Addr} {ob : Obj} {vals : Array Value} {ep : Nat} (at_t : s.heap.get? t = some ob) (c_t : ob.cls = .type "tuple") (d_t : ob.data = .seq vals ep) (short : vals.size ≤ sizeLine)
    (past : ∀ h2, (∀ b u, s.heap.get? b = some u → h2.get? b = some u) → s.heap.objs.size ≤ h2.objs.size → Q vals.toList { s with heap := h2 }) : wpAny (model prog w) A (collect (.ref t)) Q E s := by
  obtain ⟨h0, e0⟩ : ∃ h0 : Heap, h0 = s.heap.push { cls := .type "list", data := .seq ([] : List Value).toArray } := ⟨_, rfl⟩
  obtain ⟨h2, e2⟩ : ∃ h2 : Heap, h2 = h0.update s.heap.objs.size (Obj.mapSeq (· ++ vals)) := ⟨_, rfl⟩
  have new0 : h0.get? s.heap.objs.size = some { cls := .type "list", data := .seq #[] 0 } := by rw [e0]; exact Heap.get?_push_size _ rfl
  have new2 := Heap.get?_update_self (Obj.mapSeq (· ++ vals)) new0 rfl
  rw [← e2] at new2
  have keep0 : ∀ b u, s.heap.get? b = some u → h0.get? b = some u := fun b u e => by rw [e0]; exact Heap.get?_push_of_some _ e
  have keep2 : ∀ b u, s.heap.get? b = some u → h2.get? b = some u := fun b u e => by
    rw [e2]
    exact (Heap.get?_update_other _ _ (Nat.ne_of_gt (Heap.lt_size e))).trans (keep0 b u e)
  have grown : s.heap.objs.size ≤ h2.objs.size := by
    rw [e2, Heap.size_update, e0, size_push']
    exact Nat.le_succ _
  unfold collect
  refine wpAny_bind (wpAny_runValue (codeAny_builtin F.entry_proto_collect ?_))
  rw [Around.under_plainId F.plain_proto_collect _]
  show wpAny _ A.in1 (newList [] >>= fun x => again (.builtin "list.__iadd__" ⟨[x, .ref t], []⟩)) _ _ s
  refine wpAny_bind (wpAny_newObj_type ?_)
  rw [← e0]
  refine wpAny_pure ⟨plainId_quiet F.plain_list_iadd _, codeAny_builtin F.entry_list_iadd ?_⟩
  rw [Around.under_plainId F.plain_list_iadd _]
  have last : wpAny (model prog w) A (match Value.ref s.heap.objs.size with
      | Value.ref a => do
        match (← load a).data with
          | Data.seq xs _ => pure xs.toList
          | _ => unsupported "internal:collect"
      | _ => unsupported "internal:collect") Q E { s with heap := h2 } := by
    show wpAny _ A (load s.heap.objs.size >>= _) _ _ _
    refine wpAny_bind (wpAny_load new2 (wpAny_pure ?_))
    show Q ((#[] : Array Value) ++ vals).toList _
    rw [show ((#[] : Array Value) ++ vals).toList = vals.toList by simp]
    exact past h2 keep2 grown
  refine wpAny_mono (wpAny_extend_seq (hsz := short) (A := A) (R := fun r s' => r = .ok (.ret (.ref s.heap.objs.size)) ∧ s' = { s with heap := h2 }) (s := { s with heap := h0 }) _ t _ 0 (.inr rfl) new0 (keep0 _ _ at_t) c_t d_t ⟨rfl, by rw [e2]⟩) (fun fin s' h => ?_) (fun e s' h => ?_)
  · cases fin with
    | done f =>
      obtain ⟨e, rfl⟩ := h
      cases e
      exact last
    | again c' => exact ⟨h.1, codeAny_mono h.2 fun r s'' hr => by obtain ⟨rfl, rfl⟩ := hr; exact last⟩
  · exact absurd h.1 (by simp)
end
def rSortTS (K : PySem.W.Frag) : List V → Hp → VK → Prop := fun xs H Q => ∃ (a : Addr) (ns : List Str), xs = [.ref a] ∧ SqT K H a (ns.map V.str) ∧ ns.length < 64 ∧
  ∀ (ys : List Str) (p : Addr), ys.Perm ns → ys.Pairwise (fun a b => ¬ b.cps.toList < a.cps.toList) → H p = none → Q (.ref p) (upd H p (.lst (ys.map V.str)))
theorem cr_sortTS {X : Cx} (hc : X.calm = true) : CallR X (.builtin "sorted") (rSortTS X.K) := by
  intro pins s σ H xs us Q I r h
  obtain ⟨a, ns, rfl, ha, few, q⟩ := h
  obtain ⟨u, rfl, ru⟩ := vals1 r
  obtain rfl : u = Value.ref a := ru
  obtain ⟨its, rv, ⟨o, ho, hcl, n, hd⟩, _⟩ := I.tuple ha
  have len : its.length = ns.length := by rw [← rv.length, List.length_map]
  refine Calls.call_function_entry kind_sorted plain_sorted entry_sorted (args_sorted1 _) ?_
  unfold Builtin.«sorted»
  refine wpAny_bind (m := checkCount "sorted" 1 1 _) (wpAny_pure ?_)
  refine wpAny_bind (collect_tup ho hcl hd (by rw [List.size_toArray, sizeLine_eq]; omega) fun h1 k1 le => ?_)
  rw [List.toList_toArray]
  refine wpAny_bind (wpAny_newList ?_ (by rw [sizeLine_eq]; omega))
  have at0 : (h1.push (seqObj "list" its.toArray 0)).get? h1.objs.size = some (seqObj "list" its.toArray 0) := Heap.get?_push_size _ rfl
  refine wpAny_bind (wpAny_holding (wpAny_call_entry slot_list_sort ⟨_, at0, rfl⟩ entry_list_sort
    (SrtO.list_sort_ord (s := { s with heap := h1.push (seqObj "list" its.toArray 0) }) swo_sv at0 (by rw [sizeLine_eq]; omega) (fun h2 => strs_sortable (strs_in rv) h2) fun out ord stb => ⟨_, rfl, ?_⟩) (args_list_sort _)))
  obtain ⟨c, hc'⟩ := sortedHeap_at (vs := its) (out := out.toArray) at0
  have all : ∀ v ∈ out, ∃ x t, v = Value.str x t := fun v hv => strs_in rv v (stb.perm.mem_iff.mp hv)
  obtain ⟨ys, rv2, es⟩ := vals_strs all
  have pm : ys.Perm ns := by
    have z := stb.perm.map stV
    rw [st_vals rv2, st_vals rv] at z
    exact z
  have st : ys.Pairwise (fun a b => ¬ b.cps.toList < a.cps.toList) := by
    have z : (ys.map fun x => x.cps.toList).Pairwise (fun a b => ¬ b < a) := by
      rw [← es]
      exact List.pairwise_map.mpr (ord.imp fun {x y} h => of_decide_eq_false (p := sv y < sv x) h)
    exact List.pairwise_map.mp z
  have keep : ∀ b u, s.heap.get? b = some u → (sortedHeap (h1.push (seqObj "list" its.toArray 0)) h1.objs.size its out.toArray).get? b = some u := fun b u e => by
    have e1 := k1 b u e
    rw [sortedHeap_old (Nat.ne_of_lt (Heap.lt_size e1)) (Heap.lt_size (Heap.get?_push_of_some _ e1))]
    exact Heap.get?_push_of_some _ e1
  have lz : (ys.map V.str).length ≤ sizeLine := by
    rw [List.length_map, pm.length_eq, sizeLine_eq]
    omega
  refine wpAny_pure ⟨_, rfl, .ref h1.objs.size, _, I.laid (t' := s.toks) (o := .lst (ys.map V.str)) keep le ⟨lz, out, _, rv2, hc'⟩, rfl, q ys _ pm st (I.hok.fresh le)⟩
end Ask
/-! check_names, CostTable.__init__, CostTable.cost -/
namespace P37
open PySem PySem.Spec PyProof.Rows L2 AskG Ask
abbrev sKN : Stmt := topS 36
abbrev sTI : Stmt := (clsBody (topS 19)).getD 0 (.Pass ⟨0, 0, 0, 0⟩)
abbrev sTC : Stmt := (clsBody (topS 19)).getD 1 (.Pass ⟨0, 0, 0, 0⟩)
abbrev sTN : Stmt := (clsBody (topS 19)).getD 2 (.Pass ⟨0, 0, 0, 0⟩)
abbrev NKN : List Str := ["rights", "names", "known", "name", "right"]
abbrev NTC : List Str := ["self", "names", "key", "some", "name", "right"]
theorem scKN : FnScope NKN ["rights", "names"] (defScope sKN) := ⟨rfl, rfl, rfl, by decide +kernel, rfl, by decide +kernel, by decide +kernel⟩
theorem scTI : FnScope ["self", "rights", "day"] ["self", "rights", "day"] (defScope sTI) := ⟨rfl, rfl, rfl, by decide +kernel, rfl, by decide +kernel, by decide +kernel⟩
theorem scTC : FnScope NTC ["self", "names"] (defScope sTC) := ⟨rfl, rfl, rfl, by decide +kernel, rfl, by decide +kernel, by decide +kernel⟩
def TxtAt (H : Hp) (p : Addr) (zs : List Str) : Prop := H p = some (.tup (zs.map V.str))
def inS (z : Str) (zs : List Str) : Bool := zs.any fun y => y == z
theorem inV_str (z : Str) : ∀ zs : List Str, inV (.str z) (zs.map V.str) = inS z zs
  | [] => rfl
  | y :: zs => by
    show (eqV (.str y) (.str z) || inV (.str z) (zs.map V.str)) = ((y == z) || inS z zs)
    rw [inV_str z zs]
    rfl
theorem flat_strs (zs : List Str) : (zs.map V.str).all flatV = true := List.all_eq_true.mpr fun v hv => by
  obtain ⟨z, _, rfl⟩ := List.mem_map.mp hv
  rfl
theorem inS_iff {z : Str} {zs : List Str} : inS z zs = true ↔ z ∈ zs := by
  unfold inS
  rw [List.any_eq_true]
  constructor
  · rintro ⟨y, hy, e⟩
    exact (beq_iff_eq.mp e) ▸ hy
  · exact fun h => ⟨z, h, beq_iff_eq.mpr rfl⟩
theorem inS_dec (z : Str) (zs : List Str) : inS z zs = decide (z ∈ zs) := by
  by_cases h : z ∈ zs
  · rw [decide_eq_true h, inS_iff.mpr h]
  · rw [decide_eq_false h]
    exact Bool.eq_false_iff.mpr fun e => h (inS_iff.mp e)
/-- the rights of some names -/
def within (rs : List (Str × Rt)) (zs : List Str) : List (Str × Rt) := rs.filter fun x => inS x.1 zs
theorem within_perm {rs : List (Str × Rt)} {ys zs : List Str} (h : ys.Perm zs) : within rs ys = within rs zs := by
  unfold within
  congr 1
  funext x
  rw [inS_dec, inS_dec]
  exact decide_eq_decide.mpr h.mem_iff
/-- what the top says of the class -/
structure CtC (K : PySem.W.Frag) (mg : Str → Option Value) (C fI fC fN : Addr) : Prop where
  made : Mk K C fI
  cl : Cls K C
  n1 : NoAttr K C "rights"
  n2 : NoAttr K C "day"
  n3 : NoAttr K C "found"
  mC : Meth K C "cost" fC
  mN : Meth K C "increments" fN
  gl : mg "CostTable" = some (.ref C)
def keyT (zs : List Str) : List Key := zs.map Sum.inr
theorem keyT_v (zs : List Str) : (keyT zs).map kV = zs.map V.str := by
  unfold keyT
  rw [List.map_map]
  rfl
theorem keyT_inj {xs ys : List Str} (h : keyT xs = keyT ys) : xs = ys := (List.map_inj_right (fun a b e => Sum.inr.inj e)).mp h
/-- a table of costs -/
def CtAt (H : Hp) (C x a D : Addr) (rs : List (Str × Rt)) (T : Int) (m : Nat) : Prop := ∃ dx kvs, H x = some (.ins C dx [("rights", .ref a), ("day", .int T), ("found", .ref D)]) ∧ H D = some (.dT kvs) ∧ kvs.length ≤ m ∧
  ∀ zs v, valV kvs (keyT zs) = some v → v = .int (cst (within rs zs) T : Int)
theorem CtAt.same {H H' : Hp} {C x a D : Addr} {rs : List (Str × Rt)} {T : Int} {m : Nat} (h : CtAt H C x a D rs T m) (s : Same H H') : CtAt H' C x a D rs T m := by
  obtain ⟨dx, kvs, h1, h2, h3⟩ := h
  exact ⟨dx, kvs, s _ _ h1, s _ _ h2, h3⟩
theorem KeepX.tup {D : Addr} {H H' : Hp} {kvs : List (List Key × V)} (h : KeepX D H H') (hD : H D = some (.dT kvs)) : KeepT H H' := fun b xs e => h b _ (ne_of e hD fun z => nomatch z) e
section
variable {P : Program} {w : World} {K : PySem.W.Frag} {mg : Str → Option Value} {base : Heap}
variable {C fI fC fN fK fF : Addr} {fdI fdC fdN fdK fdF : FuncData}
def prKN : Pr := fun vs H Q => ∃ (a n : Addr) (rs : List (Str × Rt)) (zs : List Str), vs = [.ref a, .ref n] ∧ RightsAt H a rs ∧ rs.length ≤ 100 ∧ TxtAt H n zs ∧ (∀ z ∈ zs, z ∈ rs.map (·.1)) ∧ ∀ H', Same H H' → Q .non H'
theorem ok_kn {f : Addr} {fd : FuncData} {k : Nat} (F : Fun K "check_names" "check_names" sKN f fd) : FnX P w K mg base (k + 3) f fd ["rights", "names"] (quiet prKN) := by
  refine okN F scKN (fun vs H Q h => ?_) (fun cdv A outer s H E vs Q hr h => ?_)
  · obtain ⟨_, _, _, _, rfl, _⟩ := h
    rfl
  · obtain ⟨a, n, rs, zs, rfl, hR, lr, hN, known, q⟩ := h
    have big := sizeBig
    obtain ⟨ps, h1, h2⟩ := id hR
    have pl := Paired.length h2
    refine ⟨_, pss_cons (ps_setLc (i := 2) (own := [("name", 3), ("right", 4)]) (g := g2 K 3 4) (tt := tYes) rfl scKN.nd rfl rfl (sw_true rfl rfl rfl (by decide +kernel)) (pi_tup (pv 0)) (blkOk_by (N := NKN) (sc := defScope sKN) (by decide +kernel))
        (fun _ _ _ _ _ => pg_tup rfl (pgs_cons (pg_name (i := 3) scKN.nd rfl (.inl rfl)) (pgs_cons (pg_name (i := 4) scKN.nd rfl (.inl rfl)) pgs_nil))) (fun _ _ _ _ _ => pts_nil) (fun _ _ _ _ _ => pv 3))
      (pss_one (ps_for PassesOwn.never rfl (pi_tup (pv 1)) (pg_name (i := 3) scKN.nd rfl (.inl rfl))
        (pss_one (ps_if (pt_cmpR (op_notIn_seq : OpR _ _ (rIn K true)) (pv 3) (pv 2) (by rfl)) pss_never pss_nil)))), ?_⟩
    refine iSeq (iAsg ⟨.ref a, rfl, a, rfl, ⟨_, sqT h1⟩, fun D hD => ?_⟩)
    refine loop_tup (K := K) (a := a) (xs := ps.map V.ref) (fun i H' => Same H H' ∧ H' D = some (.lst ((((rs.map (·.1)).take i)).map V.str))) ⟨same_new hD, by rw [List.take_zero]; exact upd_same⟩ (fun i H' h => sqT (h.1 _ _ h1)) (fun i v H' hv h => ?_) (fun H1 h => ?_)
    · obtain ⟨sm, hcs⟩ := h
      rw [List.getElem?_map] at hv
      obtain ⟨pi, hpi, rfl⟩ := Option.map_eq_some_iff.mp hv
      obtain ⟨m, hm, r, hnm, hr'⟩ := paired_at' h2 hpi
      have il : i < rs.length := (List.getElem?_eq_some_iff.mp hm).1
      refine ⟨pi, _, rfl, sqT (sm _ _ hnm), rfl, .str m.1, _, rfl, .ref r, _, rfl, rfl, wipe2 (by decide), iYes (iteT ?_)⟩
      refine ⟨.str m.1, rfl, _, hcs, by rw [List.length_map, List.length_take]; omega, fun b o e => ?_, ?_⟩
      · rw [upd_ne (ne_of_none e hD)]
        exact sm _ _ e
      · have e1 : (rs.map (·.1))[i]? = some m.1 := by
          rw [List.getElem?_map, hm]
          rfl
        rw [upd_same, List.take_add_one, e1, List.map_append]
        rfl
    · obtain ⟨sm, hcs⟩ := h
      rw [List.length_map, pl, List.take_of_length_le (by rw [List.length_map]; exact Nat.le_refl _)] at hcs
      refine iName ?_
      dsimp only
      refine ⟨.ref n, rfl, n, rfl, ⟨_, sqT (sm _ _ hN)⟩, ?_⟩
      refine for_tup (xs := zs.map V.str) (fun i σ' H' => (∃ x3, σ' = [some (.ref a), some (.ref n), some (.ref D), x3, none]) ∧ H' = H1) ⟨⟨_, rfl⟩, rfl⟩ (fun i σ' H' _ h => by rw [h.2]; exact sqT (sm _ _ hN)) (fun i x σ' H' hx h => ?_) (fun σ' H' h => ?_)
      · obtain ⟨⟨x3, rfl⟩, rfl⟩ := h
        rw [List.getElem?_map] at hx
        obtain ⟨z, hz, rfl⟩ := Option.map_eq_some_iff.mp hx
        refine iName ?_
        dsimp only
        refine iIfS ⟨.str z, rfl, .ref D, rfl, D, (rs.map (·.1)).map V.str, rfl, .inl (sqL hcs), rfl, flat_strs _, _, rfl, ?_⟩
        refine ite2 (fun e => ?_) (fun e => ?_)
        · have e : (!inV (.str z) ((rs.map (·.1)).map V.str)) = true := e
          rw [inV_str, inS_iff.mpr (known z (List.mem_of_getElem? hz))] at e
          cases e
        · exact ⟨⟨_, rfl⟩, rfl⟩
      · obtain ⟨⟨x3, rfl⟩, rfl⟩ := h
        exact q _ sm
def prTI (C : Addr) : Pr := fun vs H Q => ∃ (x dx a : Addr) (T : Int), vs = [.ref x, .ref a, .int T] ∧ H x = some (.ins C dx []) ∧ ∀ D, H D = none → D ≠ x → Q .non (upd (upd H D (.dT [])) x (.ins C dx [("rights", .ref a), ("day", .int T), ("found", .ref D)]))
theorem upd_upd {H : Hp} {x : Addr} {o o' : HO} : upd (upd H x o) x o' = upd H x o' := by
  funext b
  by_cases e : b = x
  · subst e
    rw [upd_same, upd_same]
  · rw [upd_ne e, upd_ne e, upd_ne e]
theorem upd_swap {H : Hp} {x y : Addr} {o o' : HO} (n : x ≠ y) : upd (upd H x o) y o' = upd (upd H y o') x o := by
  funext b
  by_cases e : b = x
  · subst e
    rw [upd_ne n, upd_same, upd_same]
  · by_cases e2 : b = y
    · subst e2
      rw [upd_same, upd_ne e, upd_same]
    · rw [upd_ne e2, upd_ne e, upd_ne e, upd_ne e2]
theorem ok_ti {f : Addr} {fd : FuncData} {k : Nat} (U : CtC K mg C f fC fN) (F : Fun K "__init__" "CostTable.__init__" sTI f fd) : FnX P w K mg base (k + 1) f fd ["self", "rights", "day"] (quiet (prTI C)) := by
  refine okN F scTI (fun vs H Q h => ?_) (fun cdv A outer s H E vs Q hr h => ?_)
  · obtain ⟨_, _, _, _, rfl, _⟩ := h
    rfl
  · obtain ⟨x, dx, a, T, rfl, hx, q⟩ := h
    refine ⟨_, pss_cons (ps_fld (pv 0) (pv 1) rfl) (pss_cons (ps_fld (pv 0) (pv 2) rfl) (pss_one (ps_fld (pv 0) pe_dnewT rfl))), ?_⟩
    refine iSeq ⟨.ref a, rfl, .ref x, rfl, x, C, dx, [], rfl, hx, U.cl, U.n1, by decide, ?_⟩
    try dsimp only
    refine iSeq ⟨.int T, rfl, .ref x, rfl, x, C, dx, _, rfl, upd_same, U.cl, U.n2, by show 1 < 1000; decide, ?_⟩
    try dsimp only
    intro D hD
    rw [upd_upd] at hD ⊢
    have nD : D ≠ x := fun e => by rw [e, upd_same] at hD; cases hD
    rw [upd_ne nD] at hD
    refine ⟨.ref x, rfl, x, C, dx, _, rfl, by rw [upd_ne (Ne.symm nD)]; exact upd_same, U.cl, U.n3, by show 2 < 1000; decide, ?_⟩
    rw [upd_swap (Ne.symm nD), upd_upd]
    exact q D hD nD
end
end P37
/-! CostTable.cost -/
namespace P37
open PySem PySem.Spec PyProof.Rows L2 AskG Ask
theorem CRs.within {rs : List (Str × Rt)} (h : CRs rs) (zs : List Str) : CRs (within rs zs) := by
  obtain ⟨⟨m, ok⟩, wg⟩ := h
  refine ⟨⟨m, fun x hx => ok.all x (List.mem_filter.mp hx).1, ?_, ok.m1⟩, fun x hx => wg x (List.mem_filter.mp hx).1⟩
  exact Nat.le_trans (Nat.mul_le_mul_right m (List.length_filter_le _ _)) ok.few
section
variable {P : Program} {w : World} {K : PySem.W.Frag} {mg : Str → Option Value} {base : Heap}
variable {C fI fC fN fK fF : Addr} {fdI fdC fdN fdK fdF : FuncData}
def prTC (C : Addr) : Pr := fun vs H Q => ∃ (x n a D : Addr) (rs : List (Str × Rt)) (T : Int) (m : Nat) (zs : List Str), vs = [.ref x, .ref n] ∧ CtAt H C x a D rs T m ∧ RightsAt H a rs ∧ CRs rs ∧ rs.length ≤ 100 ∧ 0 ≤ T ∧ T ≤ 9 ∧ m ≤ 100 ∧ TxtAt H n zs ∧ zs.length < 64 ∧
  ∀ H', KeepX D H H' → CtAt H' C x a D rs T (m + 1) → Q (.int (cst (within rs zs) T : Int)) H'
theorem ok_tc {f : Addr} {fd : FuncData} {k : Nat} (U : CtC K mg C fI f fN) (F : Fun K "cost" "CostTable.cost" sTC f fd)
    (FK : Fun K "rank_of" "rank_of" sRk fK fdK) (bK : Binds K fdK ["rows"] []) (gK : mg "rank_of" = some (.ref fK)) (GK : FnX P w K mg base (k + 6) fK fdK ["rows"] (quiet prRk))
    (FF : Fun K "future_rows" "future_rows" sFR fF fdF) (bF : Binds K fdF ["rights", "day"] []) (gF : mg "future_rows" = some (.ref fF)) (GF : FnX P w K mg base (k + 6) fF fdF ["rights", "day"] (quiet (prRows futR)))
    (ms : mg "sorted" = none) (mt : mg "tuple" = none) : FnX P w K mg base (k + 7) f fd ["self", "names"] (quiet (prTC C)) := by
  refine okN F scTC (fun vs H Q h => ?_) (fun cdv A outer s H E vs Q hr h => ?_)
  · obtain ⟨_, _, _, _, _, _, _, _, rfl, _⟩ := h
    rfl
  · obtain ⟨x, n, a, D, rs, T, m, zs, rfl, hCt, hR, cr, lr, t0, t9, m9, hN, lz, q⟩ := h
    have big := sizeBig
    have hun := hr.units
    have hu1 := Nat.lt_of_le_of_lt (Nat.add_le_add_left (by decide : 1 ≤ 64) _) hun
    obtain ⟨ps, h1, h2⟩ := id hR
    have pl := Paired.length h2
    refine ⟨_, pss_cons (ps_set (i := 2) scTC.nd rfl (.inr rfl) (pe_callTy call_tuple_of (by rfl) mt (by decide +kernel) (pa_cons (pe_callB (cr_sortTS rfl) (by rfl) ms (by decide +kernel) (pa_cons (pv 1) pa_nil)) pa_nil)))
      (pss_cons (ps_if (pt_cmp (pc_dnotin hu1 (pv 2) (pe_fld (pv 0) rfl)) (by rfl))
        (pss_cons (ps_set (i := 3) scTC.nd rfl (.inl rfl) (pe_callTy call_tuple_of (by rfl) mt (by decide +kernel) (pa_cons (pe_lc (own := [("name", 4), ("right", 5)]) (g := g2 K 4 5) rfl scTC.nd (pi_tup (pe_fld (pv 0) rfl)) (blkOk_by (N := NTC) (sc := defScope sTC) (by decide +kernel))
          (fun _ _ _ _ _ => pg_tup rfl (pgs_cons (pg_name (i := 4) scTC.nd rfl (.inl rfl)) (pgs_cons (pg_name (i := 5) scTC.nd rfl (.inl rfl)) pgs_nil)))
          (fun _ _ _ _ _ => pts_one (pt_cmpR (op_in_seq : OpR _ _ (rIn K false)) (pv 4) (pv 2) (by rfl)))
          (fun _ _ _ _ _ => pe_tup (pa_cons (pv 4) (pa_cons (pv 5) pa_nil)))) pa_nil)))
        (pss_one (ps_dput hu1 (pe_fld (pv 0) rfl) (pv 2) (pe_n GK hr (by rfl) gK FK.kp bK (pa_cons (pe_n GF hr (by rfl) gF FF.kp bF (pa_cons (pv 3) (pa_cons (pe_fld (pv 0) rfl) pa_nil))) pa_nil)) rfl))) pss_nil)
      (pss_one (ps_ret (pe_dget hu1 (pe_fld (pv 0) rfl) (pv 2) (fun _ _ => rfl))))), ?_⟩
    obtain ⟨dx, kvs, hx, hD, lk, val⟩ := id hCt
    refine iSeq (iAsg ⟨.ref n, rfl, n, zs, rfl, sqT hN, lz, fun ys p pm srt hp => ?_⟩)
    have s1 := same_new (o := .lst (ys.map V.str)) hp
    refine ⟨p, ys.map V.str, rfl, .inl ⟨sqL upd_same, fun kt hkt => ?_⟩⟩
    have s2 := s1.trans (same_new (o := .tup (ys.map V.str)) hkt)
    generalize hH2 : upd (upd H p (.lst (ys.map V.str))) kt (.tup (ys.map V.str)) = H2 at s2
    have hkt2 : H2 kt = some (.tup (ys.map V.str)) := by
      rw [← hH2]
      exact upd_same
    have wp : within rs ys = within rs zs := within_perm pm
    have kk : H2 kt = some (.tup ((keyT ys).map kV)) := by
      rw [keyT_v]
      exact hkt2
    refine iName ?_
    dsimp only
    refine iSeq (iIfS ⟨.ref kt, rfl, .ref x, rfl, x, C, dx, _, .ref D, rfl, s2 _ _ hx, U.cl, U.n3, rfl, D, _, rfl, DGet.t (s2 _ _ hD) kk, ?_⟩)
    refine ⟨_, rfl, ?_⟩
    have stay : ∀ v, valV kvs (keyT ys) = some v → v = .int (cst (within rs zs) T : Int) := fun v hv => by
      rw [val ys v hv, wp]
    cases hv : valV kvs (keyT ys) with
    | some v =>
      obtain rfl := stay v hv
      refine iteF (iNext ?_)
      dsimp only
      refine iRet ⟨.ref x, rfl, x, C, dx, _, .ref D, rfl, s2 _ _ hx, U.cl, U.n3, rfl, .ref kt, rfl, D, _, rfl, by rw [← hv]; exact DGet.t (s2 _ _ hD) kk, ?_⟩
      exact q H2 (KeepX.of s2) ⟨dx, kvs, s2 _ _ hx, s2 _ _ hD, by omega, val⟩
    | none =>
      refine iteT ?_
      refine iSeq (iAsg ⟨.ref x, rfl, x, C, dx, _, .ref a, rfl, s2 _ _ hx, U.cl, U.n1, rfl, a, rfl, ⟨_, sqT (s2 _ _ h1)⟩, fun L hL => ?_⟩)
      refine loop_tup (K := K) (a := a) (xs := ps.map V.ref) (fun i H' => Same H2 H' ∧ ∃ cs, H' L = some (.lst (cs.map V.ref)) ∧ Paired (NamedAt H') cs (within (rs.take i) ys)) ⟨same_new hL, [], upd_same, by rw [List.take_zero]; exact .nil⟩ (fun i H' h => sqT (h.1 _ _ (s2 _ _ h1))) (fun i v H' hv' h => ?_) (fun H3 h => ?_)
      · obtain ⟨sm, cs, hcs, hcc⟩ := h
        rw [List.getElem?_map] at hv'
        obtain ⟨pi, hpi, rfl⟩ := Option.map_eq_some_iff.mp hv'
        obtain ⟨y, hy, r, hnm, hr'⟩ := paired_at' h2 hpi
        have il : i < rs.length := (List.getElem?_eq_some_iff.mp hy).1
        have cl := Paired.length hcc
        have fl : (within (rs.take i) ys).length ≤ (rs.take i).length := List.length_filter_le _ _
        rw [List.length_take] at fl
        have s3 := s2.trans sm
        refine ⟨pi, _, rfl, sqT (s3 _ _ hnm), rfl, .str y.1, _, rfl, .ref r, _, rfl, rfl, wipe2 (by decide), ?_⟩
        refine ⟨.str y.1, rfl, .ref kt, rfl, kt, ys.map V.str, rfl, .inr (sqT (sm _ _ hkt2)), rfl, flat_strs ys, _, rfl, ?_⟩
        have tk : within (rs.take (i + 1)) ys = within (rs.take i) ys ++ (if inS y.1 ys = true then [y] else []) := by
          unfold within
          rw [List.take_add_one, hy, List.filter_append]
          congr 1
          show List.filter (fun x => inS x.1 ys) [y] = _
          rw [List.filter_cons]
          rfl
        refine ite2 (fun e => ?_) (fun e => ?_)
        · have e' : inS y.1 ys = true := by
            have e : inV (.str y.1) (ys.map V.str) = true := e
            rw [inV_str] at e
            exact e
          refine ⟨.str y.1, rfl, .ref r, rfl, by show 2 ≤ sizeLine; omega, fun p' hp' => ?_⟩
          have s4 := same_new (o := .tup [.str y.1, .ref r]) hp'
          have hDp := s4 _ _ hcs
          refine ⟨_, hDp, by rw [List.length_map]; omega, fun b o e => ?_, cs ++ [p'], by rw [upd_same, List.map_append]; rfl, ?_⟩
          · rw [upd_ne (ne_of_none e hL)]
            exact s4 _ _ (sm _ _ e)
          · have kp : KeepT _ (upd _ L (.lst (cs.map V.ref ++ [.ref p']))) := KeepT.put hDp fun _ z => nomatch z
            rw [tk, if_pos e']
            exact Paired.snoc (Paired.mapP hcc fun _ _ z => (z.keep (KeepT.of s4)).keep kp) ⟨r, kp _ _ upd_same, ((hr'.keep (KeepT.of s3)).keep (KeepT.of s4)).keep kp⟩
        · have e' : ¬ inS y.1 ys = true := fun z => e (by
            show inV (.str y.1) (ys.map V.str) = true
            rw [inV_str]
            exact z)
          refine ⟨sm, cs, hcs, ?_⟩
          rw [tk, if_neg e', List.append_nil]
          exact hcc
      · obtain ⟨sm, cs, hcs, hcc⟩ := h
        rw [List.length_map, pl, List.take_length] at hcc
        refine ⟨L, _, rfl, .inl ⟨sqL hcs, fun tp htp => ?_⟩⟩
        have s4 := same_new (o := .tup (cs.map V.ref)) htp
        have s5 := (s2.trans sm).trans s4
        have hR5 : RightsAt (upd H3 tp (.tup (cs.map V.ref))) tp (within rs ys) := ⟨cs, upd_same, Paired.mapP hcc fun _ _ z => z.keep (KeepT.of s4)⟩
        generalize upd H3 tp (.tup (cs.map V.ref)) = H5 at s5 hR5 s4
        have kk5 := s4 _ _ (sm _ _ kk)
        refine iName ?_
        dsimp only
        have crw := cr.within ys
        obtain ⟨mm, ok⟩ := id crw.ok
        refine ⟨.ref tp, rfl, .ref x, rfl, x, C, dx, _, .int T, rfl, s5 _ _ hx, U.cl, U.n2, rfl, tp, _, T, mm, rfl, hR5, ok, t0, t9, fun H6 p6 zs6 s6 hT6 _ mem ly => ?_⟩
        have key : ∀ Q : VK, (∀ H', Same H6 H' → Q (.int (cst (within rs ys) T : Int)) H') → prRk ([.ref p6] ++ []) H6 Q := fun Q h => rank_fut crw t0 t9 hT6 mem ly h
        dsimp only [tNil]
        refine key _ fun H7 s7 => ?_
        have s8 := (s5.trans s6).trans s7
        refine ⟨.ref x, rfl, x, C, dx, _, .ref D, rfl, s8 _ _ hx, U.cl, U.n3, rfl, .ref kt, rfl, D, _, rfl, DPut.t (s8 _ _ hD) (s7 _ _ (s6 _ _ kk5)) (by omega), ?_⟩
        try dsimp only
        have xD : x ≠ D := ne_of hx hD fun z => nomatch z
        have kD : kt ≠ D := ne_of (s7 _ _ (s6 _ _ kk5)) (s8 _ _ hD) fun z => nomatch z
        have hx9 : upd H7 D (.dT (putK kvs (keyT ys) (.int (cst (within rs ys) T : Int)))) x = some (.ins C dx [("rights", .ref a), ("day", .int T), ("found", .ref D)]) := by
          rw [upd_ne xD]
          exact s8 _ _ hx
        have kt9 : upd H7 D (.dT (putK kvs (keyT ys) (.int (cst (within rs ys) T : Int)))) kt = some (.tup ((keyT ys).map kV)) := by
          rw [upd_ne kD]
          exact s7 _ _ (s6 _ _ kk5)
        refine iRet ⟨.ref x, rfl, x, C, dx, _, .ref D, rfl, hx9, U.cl, U.n3, rfl, .ref kt, rfl, D, .int (cst (within rs ys) T : Int), rfl, ?_, ?_⟩
        · have g := DGet.t (k := keyT ys) (a := D) (b := kt) (upd_same (H := H7) (a := D) (o := .dT (putK kvs (keyT ys) (.int (cst (within rs ys) T : Int))))) kt9
          rw [valV_put, if_pos rfl] at g
          exact g
        · rw [wp]
          rw [wp] at hx9
          refine q _ (fun b o nb e => ?_) ⟨dx, _, hx9, upd_same, ?_, fun zs' v' hv' => ?_⟩
          · rw [upd_ne nb]
            exact s8 _ _ e
          · rw [putK_new _ hv, List.length_append]
            show _ + 1 ≤ _
            omega
          · rw [valV_put] at hv'
            split at hv'
            · rename_i e
              rw [keyT_inj e, wp]
              exact (Option.some.inj hv').symm
            · exact val zs' v' hv'
end
end P37
/-! CostTable.increments, increments_of -/
namespace P37
open PySem PySem.Spec PyProof.Rows L2 AskG Ask
abbrev sIO : Stmt := topS 37
abbrev NTN : List Str := ["self", "order", "costs", "many", "before", "after"]
theorem scTN : FnScope NTN ["self", "order"] (defScope sTN) := ⟨rfl, rfl, rfl, by decide +kernel, rfl, by decide +kernel, by decide +kernel⟩
theorem scIO : FnScope ["rights", "order", "day"] ["rights", "order", "day"] (defScope sIO) := ⟨rfl, rfl, rfl, by decide +kernel, rfl, by decide +kernel, by decide +kernel⟩
noncomputable def upTo (rs : List (Str × Rt)) (zs : List Str) (T : Int) (i : Nat) : Int := (cst (within rs (zs.take i)) T : Int)
noncomputable def incs (rs : List (Str × Rt)) (zs : List Str) (T : Int) : List Int := (List.range zs.length).map fun i => upTo rs zs T (i + 1) - upTo rs zs T i
section
variable {K : PySem.W.Frag} {a b : Addr} {xs ys : List V} {H0 : Hp} {Qd : Hp → Prop} {Body : V → Hp → (Hp → Prop) → Prop}
theorem loop_zipR (hl : ys.length ≤ xs.length) (Pv : Nat → Hp → Prop) (h0 : Pv 0 H0) (hq : ∀ i H, Pv i H → SqL K H a xs ∧ SqL K H b ys)
    (hs : ∀ (i : Nat) (x y : V) (T : Addr) (H : Hp), xs[i]? = some x → ys[i]? = some y → Pv i H → H T = none → Body (.ref T) (upd H T (.tup [x, y])) (Pv (i + 1))) (hd : ∀ H, Pv ys.length H → Qd H) : Loops (Itz K a b) H0 Qd Body := by
  refine ⟨fun i m H => m + i = ys.length ∧ Pv i H, ⟨ys.length, Nat.add_zero _, h0⟩, fun i m H h => ?_⟩
  obtain ⟨e, p⟩ := h
  obtain ⟨qx, qy⟩ := hq i H p
  cases m with
  | zero =>
    have e : i = ys.length := by omega
    subst e
    exact .inl ⟨⟨xs, ys, qx, qy, .inr (Nat.le_refl _)⟩, hd H p⟩
  | succ m =>
    have lt : i < ys.length := by omega
    have lt2 : i < xs.length := by omega
    refine .inr ⟨⟨xs, ys, xs[i], ys[i], qx, qy, List.getElem?_eq_getElem lt2, List.getElem?_eq_getElem lt⟩, Pv (i + 1), fun H' p' => ⟨m, Nat.lt_succ_self _, by omega, p'⟩, fun v H' y => ?_⟩
    obtain ⟨T, x, y, rfl, nT, rfl, f1, f2⟩ := y
    exact hs i x y T _ (f1 xs qx) (f2 ys qy) p nT
end
section
variable {P : Program} {w : World} {K : PySem.W.Frag} {mg : Str → Option Value} {base : Heap}
variable {C fI fC fN fK fF : Addr} {fdI fdC fdN fdK fdF : FuncData}
def prTN (C : Addr) : Pr := fun vs H Q => ∃ (x n a D : Addr) (rs : List (Str × Rt)) (T : Int) (zs : List Str), vs = [.ref x, .ref n] ∧ CtAt H C x a D rs T 0 ∧ RightsAt H a rs ∧ CRs rs ∧ rs.length ≤ 100 ∧ 0 ≤ T ∧ T ≤ 9 ∧ TxtAt H n zs ∧ zs.length < 64 ∧
  ∀ H' p, KeepX D H H' → H' p = some (.tup ((incs rs zs T).map V.int)) → Q (.ref p) H'
theorem ok_tn {f : Addr} {fd : FuncData} {k : Nat} (U : CtC K mg C fI fC f) (F : Fun K "increments" "CostTable.increments" sTN f fd)
    (bC : Binds K fdC ["self", "names"] []) (GC : FnX P w K mg base (k + 7) fC fdC ["self", "names"] (quiet (prTC C)))
    (mr : mg "range" = none) (ml : mg "len" = none) (mz : mg "zip" = none) (mt : mg "tuple" = none) : FnX P w K mg base (k + 8) f fd ["self", "order"] (quiet (prTN C)) := by
  refine okN F scTN (fun vs H Q h => ?_) (fun cdv A outer s H E vs Q hr h => ?_)
  · obtain ⟨_, _, _, _, _, _, _, rfl, _⟩ := h
    rfl
  · obtain ⟨x, n, a, D, rs, T, zs, rfl, hCt, hR, cr, lr, t0, t9, hN, lz, q⟩ := h
    have big := sizeBig
    refine ⟨_, pss_cons (ps_setLc (i := 2) (own := [("many", 3)]) (g := gName 3) (tt := tYes) rfl scTN.nd rfl rfl (sw_true rfl rfl rfl (by decide +kernel)) (pi_range1 (by rfl) mr (pa_cons (pe_op op_add (pe_callB call_len_seq (by rfl) ml PySem.boot_len (pa_cons (pv 1) pa_nil)) pe_int) pa_nil)) (blkOk_by (N := NTN) (sc := defScope sTN) (by decide +kernel))
        (fun _ _ _ _ _ => pg_name (i := 3) scTN.nd rfl (.inl rfl)) (fun _ _ _ _ _ => pts_nil)
        (fun _ _ _ _ _ => pe_meth (pv 0) U.cl U.mC GC hr bC .nil (passes_call LamX.takes0 fun _ _ _ _ z => z) (pa_cons (pe_slice (sl_tupA : SlR _ (rSlA K)) (pv 1) po_none (po_some (pv 3))) pa_nil)))
      (pss_one (ps_ret (pe_callTy call_tuple_of (by rfl) mt (by decide +kernel) (pa_cons (pe_lc (own := [("before", 4), ("after", 5)]) (g := g2 K 4 5) (tt := tYes) rfl scTN.nd (pi_zip (by rfl) mz (pa_cons (pv 2) (pa_cons (pe_slice (sl_list : SlR _ (rSlL K)) (pv 2) (po_some pe_int) po_none) pa_nil))) (blkOk_by (N := NTN) (sc := defScope sTN) (by decide +kernel))
        (fun _ _ _ _ _ => pg_tup rfl (pgs_cons (pg_name (i := 4) scTN.nd rfl (.inl rfl)) (pgs_cons (pg_name (i := 5) scTN.nd rfl (.inl rfl)) pgs_nil))) (fun _ _ _ _ _ => pts_nil)
        (fun _ _ _ _ _ => pe_op op_sub (pv 5) (pv 4))) pa_nil)))), ?_⟩
    obtain ⟨dx0, kvs0, hx0, hD0, _⟩ := id hCt
    refine iSeq (iAsg ⟨.ref n, rfl, n, _, rfl, .inr (sqT hN), _, 1, rfl, rfl, ?_⟩)
    refine ⟨((zs.map V.str).length : Int) + 1, rfl, by rw [List.length_map]; omega, by rw [List.length_map]; omega, fun L hL => ?_⟩
    rw [List.length_map]
    have LD : L ≠ D := fun e => by rw [e, hD0] at hL; cases hL
    have nL : ∀ {b : Addr} {o : HO}, H b = some o → b ≠ L := fun e => ne_of_none e hL
    have done : ∀ (i : Nat) (H' H2 : Hp), KeepX D H H' → H' L = some (.lst (((List.range i).map (upTo rs zs T)).map V.int)) → KeepX D H' H2 → CtAt H2 C x a D rs T (i + 1) → i < ((zs.length : Int) + 1 - 0).toNat →
        ∃ ys, H2 L = some (.lst ys) ∧ ys.length < sizeLine ∧ KeepX D H (upd H2 L (.lst (ys ++ [.int (upTo rs zs T i)]))) ∧ CtAt (upd H2 L (.lst (ys ++ [.int (upTo rs zs T i)]))) C x a D rs T (i + 1) ∧ upd H2 L (.lst (ys ++ [.int (upTo rs zs T i)])) L = some (.lst (((List.range (i + 1)).map (upTo rs zs T)).map V.int)) := fun i H' H2 kx hLi k2 ct2 hi => by
      refine ⟨_, k2 _ _ LD hLi, by rw [List.length_map, List.length_map, List.length_range]; omega, fun b o nb e => ?_, ?_, ?_⟩
      · rw [upd_ne (nL e)]
        exact k2 _ _ nb (kx _ _ nb e)
      · obtain ⟨dx, kvs, h1, h2, h3⟩ := ct2
        exact ⟨dx, kvs, by rw [upd_ne (ne_of h1 (k2 _ _ LD hLi) fun z => nomatch z)]; exact h1, by rw [upd_ne (Ne.symm LD)]; exact h2, h3⟩
      · rw [upd_same, List.range_succ, List.map_append, List.map_append]
        rfl
    refine loop_rg (lo := 0) (n := ((zs.length : Int) + 1 - 0).toNat) (fun i H' => KeepX D H H' ∧ CtAt H' C x a D rs T i ∧ H' L = some (.lst (((List.range i).map (upTo rs zs T)).map V.int))) ⟨KeepX.of (same_new hL), hCt.same (same_new hL), upd_same⟩ (fun i H' hi h => ?_) (fun H1 h => ?_)
    · obtain ⟨kx, ct, hLi⟩ := h
      obtain ⟨dx, kvs, hx, hD, _⟩ := id ct
      have hN' : TxtAt H' n zs := kx _ _ (ne_of hN hD0 fun z => nomatch z) hN
      have hR' := hR.keep (kx.tup hD0)
      rw [Int.zero_add]
      refine ⟨wipe1, iYes (iteT ⟨.ref x, rfl, x, dx, _, rfl, hx, rfl, .ref n, rfl, .int (i : Int), rfl, _, rfl, n, zs.map V.str, rfl, sqT hN', fun whole => ?_, fun _ p hp => ?_⟩)⟩
      · rw [HT.sIx_none, HT.sIx_nat, List.length_map] at whole
        have tk : zs.take i = zs := List.take_of_length_le (by omega)
        have e1 : upTo rs zs T i = (cst (within rs zs) T : Int) := by
          unfold upTo
          rw [tk]
        refine ⟨x, n, a, D, rs, T, i, zs, rfl, ct, hR', cr, lr, t0, t9, by omega, hN', lz, fun H2 k2 ct2 => ?_⟩
        rw [← e1]
        exact done i H' H2 kx hLi k2 ct2 hi
      · rw [cut_take, ← List.map_take] at *
        have s2 := same_new (o := .tup ((zs.take i).map V.str)) hp
        refine ⟨x, p, a, D, rs, T, i, zs.take i, rfl, ct.same s2, hR'.keep (KeepT.of s2), cr, lr, t0, t9, by omega, upd_same, by rw [List.length_take]; omega, fun H2 k2 ct2 => ?_⟩
        exact done i _ H2 (kx.trans (KeepX.of s2)) (s2 _ _ hLi) k2 ct2 hi
    · obtain ⟨kx, ct, hL1⟩ := h
      rw [show ((zs.length : Int) + 1 - 0).toNat = zs.length + 1 by omega] at hL1
      refine iName ?_
      dsimp only
      refine iRet ⟨.ref L, rfl, .ref L, rfl, _, rfl, L, _, rfl, sqL hL1, fun M hM => ?_⟩
      rw [show ((1 : Int)) = ((1 : Nat) : Int) from rfl, cut_drop]
      have s2 := same_new (o := .lst ((((List.range (zs.length + 1)).map (upTo rs zs T)).map V.int).drop 1)) hM
      have hM2 : upd H1 M (.lst ((((List.range (zs.length + 1)).map (upTo rs zs T)).map V.int).drop 1)) M = some (.lst ((((List.range (zs.length + 1)).map (upTo rs zs T)).map V.int).drop 1)) := upd_same
      generalize upd H1 M (.lst ((((List.range (zs.length + 1)).map (upTo rs zs T)).map V.int).drop 1)) = H2 at s2 hM2
      have hL2 := s2 _ _ hL1
      have len1 : (((List.range (zs.length + 1)).map (upTo rs zs T)).map V.int).length = zs.length + 1 := by
        rw [List.length_map, List.length_map, List.length_range]
      have len2 : ((((List.range (zs.length + 1)).map (upTo rs zs T)).map V.int).drop 1).length = zs.length := by
        rw [List.length_drop, len1]
        omega
      refine ⟨L, M, _, _, rfl, sqL hL2, sqL hM2, fun R hR' => ?_⟩
      have nR : ∀ {b : Addr} {o : HO}, H2 b = some o → b ≠ R := fun e => ne_of_none e hR'
      refine loop_zipR (K := K) (a := L) (b := M) (xs := ((List.range (zs.length + 1)).map (upTo rs zs T)).map V.int) (ys := (((List.range (zs.length + 1)).map (upTo rs zs T)).map V.int).drop 1) (by rw [len1, len2]; omega) (fun j H3 => Same H2 H3 ∧ H3 R = some (.lst (((incs rs zs T).take j).map V.int))) ⟨same_new hR', by rw [List.take_zero]; exact upd_same⟩ (fun j H3 h => ⟨sqL (h.1 _ _ hL2), sqL (h.1 _ _ hM2)⟩) (fun j u v T2 H3 hu hv h hT2 => ?_) (fun H3 h => ?_)
      · obtain ⟨sm3, hR3⟩ := h
        have jl : j < zs.length := by
          have := (List.getElem?_eq_some_iff.mp hv).1
          rw [len2] at this
          exact this
        have eu : u = .int (upTo rs zs T j) := by
          rw [List.getElem?_map, List.getElem?_map, List.getElem?_range (by omega)] at hu
          exact (Option.some.inj hu).symm
        have ev : v = .int (upTo rs zs T (j + 1)) := by
          rw [List.getElem?_drop, List.getElem?_map, List.getElem?_map, List.getElem?_range (by omega), Nat.add_comm 1 j] at hv
          exact (Option.some.inj hv).symm
        subst eu ev
        have s4 := same_new (o := .tup [.int (upTo rs zs T j), .int (upTo rs zs T (j + 1))]) hT2
        refine ⟨T2, _, rfl, sqT upd_same, rfl, .int (upTo rs zs T j), _, rfl, .int (upTo rs zs T (j + 1)), _, rfl, rfl, wipe2 (by decide), iYes (iteT ?_)⟩
        refine ⟨.int (upTo rs zs T (j + 1)), rfl, .int (upTo rs zs T j), rfl, _, _, rfl, rfl, ?_⟩
        have ej : (incs rs zs T)[j]? = some (upTo rs zs T (j + 1) - upTo rs zs T j) := by
          unfold incs
          rw [List.getElem?_map, List.getElem?_range jl]
          rfl
        refine ⟨_, s4 _ _ hR3, by rw [List.length_map, List.length_take]; omega, fun b o e => ?_, ?_⟩
        · rw [upd_ne (nR e)]
          exact s4 _ _ (sm3 _ _ e)
        · rw [upd_same, List.take_add_one, ej, List.map_append]
          rfl
      · obtain ⟨sm3, hR3⟩ := h
        have li : (incs rs zs T).length = zs.length := by
          unfold incs
          rw [List.length_map, List.length_range]
        rw [len2, ← li, List.take_length] at hR3
        refine ⟨R, _, rfl, .inl ⟨sqL hR3, fun p hp => ?_⟩⟩
        exact q _ p (((kx.trans (KeepX.of s2)).trans (KeepX.of sm3)).trans (KeepX.of (same_new hp))) upd_same
def prIO : Pr := fun vs H Q => ∃ (a n : Addr) (rs : List (Str × Rt)) (T : Int) (zs : List Str), vs = [.ref a, .ref n, .int T] ∧ RightsAt H a rs ∧ CRs rs ∧ rs.length ≤ 100 ∧ 0 ≤ T ∧ T ≤ 9 ∧ TxtAt H n zs ∧ zs.length < 64 ∧ (∀ z ∈ zs, z ∈ rs.map (·.1)) ∧
  ∀ H' p, Same H H' → H' p = some (.tup ((incs rs zs T).map V.int)) → Q (.ref p) H'
theorem ok_io {f : Addr} {fd : FuncData} {k : Nat} (U : CtC K mg C fI fC fN) (F : Fun K "increments_of" "increments_of" sIO f fd)
    (bI : Binds K fdI ["self", "rights", "day"] []) (GI : FnX P w K mg base (k + 7) fI fdI ["self", "rights", "day"] (quiet (prTI C)))
    (bN : Binds K fdN ["self", "order"] []) (GN : FnX P w K mg base (k + 8) fN fdN ["self", "order"] (quiet (prTN C)))
    (FK : Fun K "check_names" "check_names" sKN fK fdK) (bK : Binds K fdK ["rights", "names"] []) (gK : mg "check_names" = some (.ref fK)) (GK : FnX P w K mg base (k + 8) fK fdK ["rights", "names"] (quiet prKN)) : FnX P w K mg base (k + 9) f fd ["rights", "order", "day"] (quiet prIO) := by
  refine okN F scIO (fun vs H Q h => ?_) (fun cdv A outer s H E vs Q hr h => ?_)
  · obtain ⟨_, _, _, _, _, rfl, _⟩ := h
    rfl
  · obtain ⟨a, n, rs, T, zs, rfl, hR, cr, lr, t0, t9, hN, lz, known, q⟩ := h
    refine ⟨_, pss_cons (ps_expr (pe_n GK hr (by rfl) gK FK.kp bK (pa_cons (pv 0) (pa_cons (pv 1) pa_nil))))
      (pss_one (ps_ret (pe_meth (pe_make U.made GI hr (by rfl) U.gl bI .nil (passes_call LamX.takes0 fun _ _ _ _ z => z) (pa_cons (pv 0) (pa_cons (pv 2) pa_nil))) U.cl U.mN GN hr bN .nil (passes_call LamX.takes0 fun _ _ _ _ z => z) (pa_cons (pv 1) pa_nil)))), ?_⟩
    refine iSeq (iDrop' ⟨.ref a, rfl, .ref n, rfl, a, n, rs, zs, rfl, hR, lr, hN, known, fun H1 s1 => ?_⟩)
    try dsimp only
    refine iRet ⟨.ref a, rfl, .int T, rfl, fun x dx hx hdx ne => ?_⟩
    refine ⟨x, dx, a, T, rfl, upd_same, fun D hD nDx => ⟨rfl, ?_⟩⟩
    rw [upd_ne nDx] at hD
    have nDd : D ≠ dx := fun e => by rw [e, upd_same] at hD; cases hD
    rw [upd_ne nDd] at hD
    have s2 : Same H (upd (upd (upd (upd H1 dx (.own x)) x (.ins C dx [])) D (.dT [])) x (.ins C dx [("rights", .ref a), ("day", .int T), ("found", .ref D)])) := fun b o e => by
      have e1 := s1 _ _ e
      rw [upd_ne (ne_of_none e1 hx), upd_ne (ne_of_none e1 hD), upd_ne (ne_of_none e1 hx), upd_ne (ne_of_none e1 hdx)]
      exact e1
    have ct : CtAt (upd (upd (upd (upd H1 dx (.own x)) x (.ins C dx [])) D (.dT [])) x (.ins C dx [("rights", .ref a), ("day", .int T), ("found", .ref D)])) C x a D rs T 0 := ⟨dx, [], upd_same, by rw [upd_ne nDx]; exact upd_same, Nat.le_refl _, fun zs v h => by rw [valV_nil] at h; cases h⟩
    generalize upd (upd (upd (upd H1 dx (.own x)) x (.ins C dx [])) D (.dT [])) x (.ins C dx [("rights", .ref a), ("day", .int T), ("found", .ref D)]) = H2 at s2 ct
    obtain ⟨dx', kvs, hx2, _⟩ := id ct
    refine ⟨x, dx', _, rfl, hx2, rfl, .ref n, rfl, x, n, a, D, rs, T, zs, rfl, ct, hR.keep (KeepT.of s2), cr, lr, t0, t9, s2 _ _ hN, lz, fun H3 p k3 hp => ?_⟩
    refine q H3 p (fun b o e => k3 _ _ (fun z => ?_) (s2 _ _ e)) hp
    have e1 := s1 _ _ e
    rw [z, hD] at e1
    cases e1
end
end P37
/-! != of two lists of the same texts. -/
namespace AskG
open PySem PySem.Spec PyProof.Rows L2
def rNeS (K : PySem.W.Frag) : R2 := fun x y H Q => ∃ (a b : Addr) (xs : List Str), x = .ref a ∧ y = .ref b ∧ SqL K H a (xs.map V.str) ∧ SqL K H b (xs.map V.str) ∧ Q (.bl false) H
theorem vals_strs : ∀ {xs : List Str} {us : List Value}, Vals (xs.map V.str) us → ∀ j (h : j < us.length), ∃ x t, xs[j]? = some x ∧ us[j] = .str x t
  | [], _, .nil, j, h => absurd h (by simp)
  | x :: xs, _, .cons h1 t, 0, h => by
    obtain ⟨tk, rfl⟩ := h1
    exact ⟨x, tk, rfl, rfl⟩
  | x :: xs, _, .cons h1 t, j + 1, h => by
    obtain ⟨y, tk, e1, e2⟩ := vals_strs t j (by simpa using h)
    exact ⟨y, tk, e1, by simpa using e2⟩
theorem op_neS {X : Cx} (hu : X.A.units + 64 < cLine) : OpR X (compareOp .NotEq) (rNeS X.K) := by
  intro pins s σ H x y v u Q I rx ry h
  obtain ⟨a, b, xs, rfl, rfl, ha, hb, q⟩ := h
  cases rx
  cases ry
  obtain ⟨us, ru, pu, _⟩ := I.list ha
  obtain ⟨ws, rw', pw, _⟩ := I.list hb
  have hsz : us.toArray.size = ws.toArray.size := by
    rw [List.size_toArray, List.size_toArray, ← ru.length, ← rw'.length]
  have R := SeqAt.RcNeAt.lists (A := X.A) (s := s) (e := fun _ => true) pu.isList pw.isList hsz (by omega) (fun j h1 h2 => by
    obtain ⟨x1, t1, e1, e2⟩ := vals_strs ru j (by simpa using h1)
    obtain ⟨x2, t2, e3, e4⟩ := vals_strs rw' j (by simpa using h2)
    rw [e1] at e3
    cases e3
    have g1 : us.toArray[j] = .str x1 t1 := by simpa using e2
    have g2 : ws.toArray[j] = .str x1 t2 := by simpa using e4
    rw [g1, g2]
    have := SeqAt.EqAt.str_str (A := X.A.in1) (s := s) x1 t1 x1 t2
    rw [beq_self_eq_true] at this
    exact this)
  have z : wpAny (model X.prog X.w) X.A (compareOp .NotEq (.ref a) (.ref b)) (EP X pins σ Q) X.xe s := by
    refine R X.prog X.w X.xe (EP X pins σ Q) ⟨.bl false, H, I, ?_, q⟩
    show Value.bool _ = Value.bool false
    congr 1
    simp
  exact z
end AskG
namespace P37
open PySem PySem.Spec PyProof.Rows L2 AskG Ask
abbrev sFeed : Stmt := topS 40
theorem scFeed : FnScope ["_law_script"] ["_law_script"] (defScope sFeed) := ⟨rfl, rfl, rfl, by decide +kernel, rfl, by decide +kernel, by decide +kernel⟩
abbrev sDraw : Stmt := topS 41
theorem scDraw : FnScope ["_law_feed_here", "_law_many", "_law_figure", "_law_at", "_law_cell", "_law_mixed"] ["_law_feed_here", "_law_many"] (defScope sDraw) := ⟨rfl, rfl, rfl, by decide +kernel, rfl, by decide +kernel, by decide +kernel⟩
def feedKvs (L : Addr) (at' left n : Int) : List (Key × V) := [(Sum.inr "cells", .ref L), (Sum.inr "at", .int at'), (Sum.inr "left", .int left), (Sum.inr "count", .int n)]
def FeedAt (H : Hp) (F L : Addr) : Prop := ∃ (ns : List Int) (at' left n : Int), H F = some (.dK (feedKvs L at' left n)) ∧ H L = some (.lst (ns.map V.int))
/-- all but the feed stays -/
def KeepF (F : Addr) (H H' : Hp) : Prop := ∀ b o, b ≠ F → H b = some o → H' b = some o
theorem KeepF.refl (F : Addr) (H : Hp) : KeepF F H H := fun _ _ _ e => e
theorem KeepF.trans {F : Addr} {H H1 H2 : Hp} (h : KeepF F H H1) (g : KeepF F H1 H2) : KeepF F H H2 := fun b o n e => g b o n (h b o n e)
theorem KeepF.of {F : Addr} {H H' : Hp} (h : Same H H') : KeepF F H H' := fun b o _ e => h b o e
theorem KeepF.tup {F L : Addr} {H H' : Hp} (h : KeepF F H H') (f : FeedAt H F L) : KeepT H H' := fun b xs e => by
  obtain ⟨_, _, _, _, hF, _⟩ := f
  exact h b _ (ne_of e hF fun z => nomatch z) e
theorem FeedAt.same {F L : Addr} {H H' : Hp} (f : FeedAt H F L) (h : Same H H') : FeedAt H' F L := by
  obtain ⟨ns, a, l, n, h1, h2⟩ := f
  exact ⟨ns, a, l, n, h _ _ h1, h _ _ h2⟩
section
variable (L : Addr) (a l n x : Int)
theorem g_count : valV (feedKvs L a l n) (Sum.inr "count") = some (.int n) := rfl
theorem g_left : valV (feedKvs L a l n) (Sum.inr "left") = some (.int l) := rfl
theorem g_at : valV (feedKvs L a l n) (Sum.inr "at") = some (.int a) := rfl
theorem g_cells : valV (feedKvs L a l n) (Sum.inr "cells") = some (.ref L) := rfl
theorem p_count : putK (feedKvs L a l n) (Sum.inr "count") (.int x) = feedKvs L a l x := rfl
theorem p_left : putK (feedKvs L a l n) (Sum.inr "left") (.int x) = feedKvs L a x n := rfl
theorem p_at : putK (feedKvs L a l n) (Sum.inr "at") (.int x) = feedKvs L x l n := rfl
end
theorem dg_count {H : Hp} {F L : Addr} {a l n : Int} (h : H F = some (.dK (feedKvs L a l n))) : DGet H F (.str "count") (some (.int n)) := DGet.k (k := Sum.inr "count") h
theorem dg_left {H : Hp} {F L : Addr} {a l n : Int} (h : H F = some (.dK (feedKvs L a l n))) : DGet H F (.str "left") (some (.int l)) := DGet.k (k := Sum.inr "left") h
theorem dg_at {H : Hp} {F L : Addr} {a l n : Int} (h : H F = some (.dK (feedKvs L a l n))) : DGet H F (.str "at") (some (.int a)) := DGet.k (k := Sum.inr "at") h
theorem dg_cells {H : Hp} {F L : Addr} {a l n : Int} (h : H F = some (.dK (feedKvs L a l n))) : DGet H F (.str "cells") (some (.ref L)) := DGet.k (k := Sum.inr "cells") h
theorem four : (feedKvs 0 0 0 0).length < sizeLine := by
  show 4 < sizeLine
  decide
theorem dp_count {H : Hp} {F L : Addr} {a l n x : Int} (h : H F = some (.dK (feedKvs L a l n))) : DPut H F (.str "count") (.int x) (upd H F (.dK (feedKvs L a l x))) := DPut.k (k := Sum.inr "count") h four
theorem dp_left {H : Hp} {F L : Addr} {a l n x : Int} (h : H F = some (.dK (feedKvs L a l n))) : DPut H F (.str "left") (.int x) (upd H F (.dK (feedKvs L a x n))) := DPut.k (k := Sum.inr "left") h four
theorem dp_at {H : Hp} {F L : Addr} {a l n x : Int} (h : H F = some (.dK (feedKvs L a l n))) : DPut H F (.str "at") (.int x) (upd H F (.dK (feedKvs L x l n))) := DPut.k (k := Sum.inr "at") h four
section
variable {P : Program} {w : World} {K : PySem.W.Frag} {mg : Str → Option Value} {base : Heap}
def prFeed (K : PySem.W.Frag) : Pr := fun vs H Q => ∃ (a : Addr) (ns : List Int), vs = [.ref a] ∧ SqL K H a (ns.map V.int) ∧ ∀ H' F L, Same H H' → FeedAt H' F L → Q (.ref F) H'
theorem cut63 (ns : List Int) : ∃ ms : List Int, cutV (ns.map V.int) none (some 63) = ms.map V.int := by
  unfold cutV
  rw [← List.map_drop, ← List.map_take]
  exact ⟨_, rfl⟩
theorem ok_feed {f : Addr} {fd : FuncData} {k : Nat} (F : Fun K "_law_feed" "_law_feed" sFeed f fd) (ml : mg "list" = none) : FnG P w K mg base (k + 1) f fd ["_law_script"] (prFeed K) := by
  refine okG F scFeed (fun vs H Q h => ?_) (fun cdv A outer s H vs Q hr h => ?_)
  · obtain ⟨_, _, rfl, _⟩ := h
    rfl
  · obtain ⟨a, ns, rfl, hS, q⟩ := h
    refine ⟨_, pss_one (ps_ret (pe_disp (pps_cons pe_str (pe_callTy call_list_of (by rfl) ml (by decide +kernel) (pa_cons (pe_slice sl_list (pv 0) po_none (po_some pe_int)) pa_nil))
      (pps_cons pe_str pe_int (pps_cons pe_str pe_int (pps_cons pe_str pe_int pps_nil)))) (by rfl) (by rfl) (fun z => by cases z) (by decide))), ?_⟩
    obtain ⟨ms, hms⟩ := cut63 ns
    refine iRet (fun p hp => ?_)
    have s1 : Same H (upd H p (.dK [])) := same_new hp
    refine ⟨.ref a, rfl, 63, rfl, a, ns.map V.int, rfl, s1.seq hS, fun c hc => ?_⟩
    rw [hms]
    have s2 : Same (upd H p (.dK [])) (upd (upd H p (.dK [])) c (.lst (ms.map V.int))) := same_new hc
    refine ⟨c, ms.map V.int, rfl, .inl (sqL upd_same), fun l hl => ?_⟩
    have s3 : Same (upd (upd H p (.dK [])) c (.lst (ms.map V.int))) (upd (upd (upd H p (.dK [])) c (.lst (ms.map V.int))) l (.lst (ms.map V.int))) := same_new hl
    have hpp : (upd (upd (upd H p (.dK [])) c (.lst (ms.map V.int))) l (.lst (ms.map V.int))) p = some (.dK []) := s3 _ _ (s2 _ _ upd_same)
    refine ⟨hpp, feedKvs l 0 0 0, rfl, by show 4 ≤ 15; decide, ?_⟩
    have npl : l ≠ p := fun e => by
      rw [e, s2 _ _ upd_same] at hl
      cases hl
    refine q _ p l (fun b o e => ?_) ⟨ms, 0, 0, 0, upd_same, ?_⟩
    · rw [upd_ne (ne_of_none e hp)]
      exact s3 _ _ (s2 _ _ (s1 _ _ e))
    · rw [upd_ne npl, upd_same]
end
section
variable {P : Program} {w : World} {K : PySem.W.Frag} {mg : Str → Option Value} {base : Heap}
def prDraw : Pr := fun vs H Q => ∃ (F L : Addr) (m : Int), vs = [.ref F, .int m] ∧ FeedAt H F L ∧ 0 < m ∧ m < 1000 ∧
  ∀ d H', 0 ≤ d → d < m → KeepF F H H' → FeedAt H' F L → Q (.int d) H'
theorem ok_draw {f : Addr} {fd : FuncData} {k : Nat} (F : Fun K "_law_draw" "_law_draw" sDraw f fd) (ml : mg "len" = none) : FnG P w K mg base (k + 1) f fd ["_law_feed_here", "_law_many"] prDraw := by
  refine okG F scDraw (fun vs H Q h => ?_) (fun cdv A outer s H vs Q hr h => ?_)
  · obtain ⟨_, _, _, rfl, _⟩ := h
    rfl
  · obtain ⟨F, L, m, rfl, ⟨ns, a, l, n, hF, hL⟩, m1, m2, q⟩ := h
    have hu := hu_of hr.room
    refine ⟨_, pss_cons (ps_dput hu (pv 0) pe_str (pe_op op_add (pe_dget hu (pv 0) pe_str (fun _ _ => rfl)) pe_int) rfl)
      (pss_cons (ps_if (pt_cmpR op_gt (pe_dget hu (pv 0) pe_str (fun _ _ => rfl)) pe_int (nomark _))
        (pss_cons (ps_set (i := 2) scDraw.nd rfl (.inl rfl) (pe_op op_mod (pe_dget hu (pv 0) pe_str (fun _ _ => rfl)) (pv 1)))
          (pss_cons (ps_dput hu (pv 0) pe_str (pe_op op_fdiv (pe_dget hu (pv 0) pe_str (fun _ _ => rfl)) (pv 1)) rfl)
          (pss_one (ps_ret (pv 2))))) pss_nil)
      (pss_cons (ps_set (i := 3) scDraw.nd rfl (.inl rfl) (pe_dget hu (pv 0) pe_str (fun _ _ => rfl)))
      (pss_cons (ps_dput hu (pv 0) pe_str (pe_op op_add (pv 3) pe_int) rfl)
      (pss_cons (ps_set (i := 4) scDraw.nd rfl (.inl rfl) (pe_ifExp (pt_cmpR (op_neD hr.room.units) (pe_dget hu (pv 0) pe_str (fun _ _ => rfl)) (pe_lst pa_nil) (nomark _))
        (pe_ix ix_list (pe_dget hu (pv 0) pe_str (fun _ _ => rfl)) (pe_op op_mod (pv 3) (pe_callB call_len_seq (by rfl) ml PySem.boot_len (pa_cons (pe_dget hu (pv 0) pe_str (fun _ _ => rfl)) pa_nil))) (fun _ _ => rfl)) pe_int))
      (pss_cons (ps_if (PW.pt (pw_and (pt_cmpR op_ge (pv 4) (pe_op op_pow pe_int pe_int) (nomark _)) (pw_and1 (pt_cmpR op_lt (pv 3) (pe_callB call_len_seq (by rfl) ml PySem.boot_len (pa_cons (pe_dget hu (pv 0) pe_str (fun _ _ => rfl)) pa_nil)) (nomark _)))))
        (pss_cons (ps_dput hu (pv 0) pe_str (pe_op op_fdiv (pv 4) (pv 1)) rfl) (pss_one (ps_ret (pe_op op_mod (pv 4) (pv 1))))) pss_nil)
      (pss_cons (ps_set (i := 5) scDraw.nd rfl (.inl rfl) (pe_op op_mod (pe_op op_add (pe_op op_add (pe_op op_mod (pv 4) pe_int) (pe_op op_mul pe_int (pe_dget hu (pv 0) pe_str (fun _ _ => rfl)))) pe_int) pe_int))
      (pss_cons (ps_set (i := 5) scDraw.nd rfl (.inl rfl) (pe_op op_mod (pe_op op_add (pe_op op_add (pe_op op_mul (pv 5) (pv 5)) (pe_op op_mul pe_int (pe_dget hu (pv 0) pe_str (fun _ _ => rfl)))) pe_int) pe_int))
      (pss_one (ps_ret (pe_op op_mod (pe_op op_fdiv (pe_op op_mod (pe_op op_add (pe_op op_mul (pv 5) (pv 5)) (pe_op op_mul pe_int (pv 5))) pe_int) pe_int) (pv 1))))))))))), ?_⟩
    have nLF : L ≠ F := ne_of hL hF fun z => nomatch z
    -- count
    refine ⟨.ref F, rfl, F, .int n, rfl, dg_count hF, n, 1, rfl, rfl, .ref F, rfl, F, _, rfl, dp_count hF, ?_⟩
    have hF1 : (upd H F (.dK (feedKvs L a l (n + 1)))) F = some (.dK (feedKvs L a l (n + 1))) := upd_same
    have hL1 : (upd H F (.dK (feedKvs L a l (n + 1)))) L = some (.lst (ns.map V.int)) := by
      rw [upd_ne nLF]
      exact hL
    have k1 : KeepF F H (upd H F (.dK (feedKvs L a l (n + 1)))) := fun b o h e => by
      rw [upd_ne h]
      exact e
    generalize upd H F (.dK (feedKvs L a l (n + 1))) = H1 at hF1 hL1 k1 ⊢
    -- left
    refine ⟨.ref F, rfl, F, .int l, rfl, dg_left hF1, l, 0, rfl, rfl, _, rfl, ite2 (fun e => ?_) (fun e => ?_)⟩
    · refine ⟨.ref F, rfl, F, .int l, rfl, dg_left hF1, .int m, rfl, l, m, rfl, rfl, m1, ?_⟩
      refine ⟨.ref F, rfl, F, .int l, rfl, dg_left hF1, .int m, rfl, l, m, rfl, rfl, ⟨m1, by omega⟩, .ref F, rfl, F, _, rfl, dp_left hF1, ?_⟩
      refine ⟨.int (l % m), rfl, q _ _ (Int.emod_nonneg _ (by omega)) (Int.emod_lt_of_pos _ m1) (k1.trans fun b o h e => ?_) ⟨ns, a, l / m, n + 1, upd_same, ?_⟩⟩
      · rw [upd_ne h]
        exact e
      · rw [upd_ne nLF]
        exact hL1
    · -- at
      refine ⟨.ref F, rfl, F, .int a, rfl, dg_at hF1, ?_⟩
      refine ⟨.int a, rfl, a, 1, rfl, rfl, .ref F, rfl, F, _, rfl, dp_at hF1, ?_⟩
      have hF2 : (upd H1 F (.dK (feedKvs L (a + 1) l (n + 1)))) F = some (.dK (feedKvs L (a + 1) l (n + 1))) := upd_same
      have hL2 : (upd H1 F (.dK (feedKvs L (a + 1) l (n + 1)))) L = some (.lst (ns.map V.int)) := by
        rw [upd_ne nLF]
        exact hL1
      have k2 : KeepF F H (upd H1 F (.dK (feedKvs L (a + 1) l (n + 1)))) := k1.trans fun b o h e => by
        rw [upd_ne h]
        exact e
      generalize upd H1 F (.dK (feedKvs L (a + 1) l (n + 1))) = H2 at hF2 hL2 k2 ⊢
      -- the cell
      dsimp only
      refine iSeq (iAsg ?_)
      refine split_k (fun v H3 => ∃ c, v = .int c ∧ H3 F = some (.dK (feedKvs L (a + 1) l (n + 1))) ∧ H3 L = some (.lst (ns.map V.int)) ∧ KeepF F H H3) (fun Q' hQ' => ?_) (fun v H3 hv => ?_)
      · refine ⟨.ref F, rfl, F, .ref L, rfl, dg_cells hF2, Nat.zero_le _, fun p hp => ?_⟩
        have s3 : Same H2 (upd H2 p (.lst [])) := same_new hp
        have k3 : KeepF F H (upd H2 p (.lst [])) := k2.trans (KeepF.of s3)
        refine ⟨.list (ns.map PyData.int), .list [], .lst (sqL (s3 _ _ hL2)) (dp_ints ns), .lst (sqL upd_same) .nil, shaped_ints ns, shaped_nil, _, rfl, ?_⟩
        cases ns with
        | nil => exact iteF (hQ' _ _ ⟨55, rfl, s3 _ _ hF2, s3 _ _ hL2, k3⟩)
        | cons x ns =>
          refine iteT ?_
          refine ⟨.ref F, rfl, F, .ref L, rfl, dg_cells (s3 _ _ hF2), .int a, rfl, .ref F, rfl, F, .ref L, rfl, dg_cells (s3 _ _ hF2), L, _, rfl, .inl (sqL (s3 _ _ hL2)), a, (((x :: ns).map V.int).length : Int), rfl, rfl, ?_, ?_⟩
          · rw [List.length_map, List.length_cons]
            show (0 : Int) < ((ns.length + 1 : Nat) : Int)
            omega
          · have hlen : (0 : Int) < (((x :: ns).map V.int).length : Int) := by
              rw [List.length_map, List.length_cons]
              omega
            have h0 := Int.emod_nonneg a (show (((x :: ns).map V.int).length : Int) ≠ 0 by omega)
            have h1 := Int.emod_lt_of_pos a hlen
            obtain ⟨jn, ej⟩ : ∃ jn : Nat, a % (((x :: ns).map V.int).length : Int) = (jn : Int) := ⟨(a % (((x :: ns).map V.int).length : Int)).toNat, by omega⟩
            have hj : jn < ((x :: ns).map V.int).length := by omega
            have hjn : jn < (x :: ns).length := by rw [List.length_map] at hj; exact hj
            refine ⟨L, _, _, .int (x :: ns)[jn], rfl, rfl, sqL (s3 _ _ hL2), (by rw [ej]; exact atI_nat (j := jn) (by rw [List.getElem?_map, List.getElem?_eq_getElem hjn]; rfl)), hQ' _ _ ⟨_, rfl, s3 _ _ hF2, s3 _ _ hL2, k3⟩⟩
      · obtain ⟨c, rfl, hF3, hL3, k3⟩ := hv
        -- if cell >= 10 ** 18 and at < len(cells)
        refine iName ?_
        dsimp only
        refine iSeq ?_
        refine split_s (fun σ' H' => σ' = [some (.ref F), some (.int m), none, some (.int a), some (.int c), none] ∧ H' = H3) (fun nx hnx => ?_) (fun σ' H' hx => ?_)
        · refine ⟨.int c, rfl, 10, 18, rfl, rfl, ⟨by decide, by decide, by decide⟩, c, _, rfl, rfl, _, rfl, ite2 (fun e1 => ?_) (fun e1 => ?_)⟩
          · refine ⟨.int a, rfl, .ref F, rfl, F, .ref L, rfl, dg_cells hF3, L, _, rfl, .inl (sqL hL3), a, _, rfl, rfl, _, rfl, ite2 (fun e2 => ?_) (fun e2 => ?_)⟩
            · refine ⟨.int c, rfl, .int m, rfl, c, m, rfl, rfl, ⟨m1, by omega⟩, .ref F, rfl, F, _, rfl, dp_left hF3, ?_⟩
              refine ⟨.int c, rfl, .int m, rfl, c, m, rfl, rfl, m1, q _ _ (Int.emod_nonneg _ (by omega)) (Int.emod_lt_of_pos _ m1) (k3.trans fun b o h e => ?_) ⟨ns, a + 1, c / m, n + 1, upd_same, ?_⟩⟩
              · rw [upd_ne h]
                exact e
              · rw [upd_ne nLF]
                exact hL3
            · exact hnx _ _ ⟨rfl, rfl⟩
          · exact iteF (hnx _ _ ⟨rfl, rfl⟩)
        · obtain ⟨rfl, rfl⟩ := hx
          dsimp only
          -- mixed
          refine ⟨.int c, rfl, c, 1000005079, rfl, rfl, (by decide : (0 : Int) < 1000005079), .ref F, rfl, F, .int (n + 1), rfl, dg_count hF3, 70239, n + 1, rfl, rfl, .inl ⟨by decide, by decide⟩, _, _, rfl, rfl, _, 75, rfl, rfl, _, 2147483579, rfl, rfl, (by decide : (0 : Int) < 2147483579), ?_⟩
          dsimp only
          have b0 := Int.emod_nonneg (c % 1000005079 + 70239 * (n + 1) + 75) (show (2147483579 : Int) ≠ 0 by decide)
          have b1 := Int.emod_lt_of_pos (c % 1000005079 + 70239 * (n + 1) + 75) (show (0 : Int) < 2147483579 by decide)
          generalize (c % 1000005079 + 70239 * (n + 1) + 75) % 2147483579 = x at b0 b1 ⊢
          refine ⟨.int x, rfl, .int x, rfl, x, x, rfl, rfl, .inl ⟨by omega, by omega⟩, .ref F, rfl, F, .int (n + 1), rfl, dg_count hF3, 6909001, n + 1, rfl, rfl, .inl ⟨by decide, by decide⟩, _, _, rfl, rfl, _, 45, rfl, rfl, _, 2147483549, rfl, rfl, (by decide : (0 : Int) < 2147483549), ?_⟩
          dsimp only
          have d0 := Int.emod_nonneg (x * x + 6909001 * (n + 1) + 45) (show (2147483549 : Int) ≠ 0 by decide)
          have d1 := Int.emod_lt_of_pos (x * x + 6909001 * (n + 1) + 45) (show (0 : Int) < 2147483549 by decide)
          generalize (x * x + 6909001 * (n + 1) + 45) % 2147483549 = y at d0 d1 ⊢
          refine ⟨.int y, rfl, .int y, rfl, y, y, rfl, rfl, .inl ⟨by omega, by omega⟩, .int y, rfl, 61, y, rfl, rfl, .inl ⟨by decide, by decide⟩, _, _, rfl, rfl, _, 2147483543, rfl, rfl, (by decide : (0 : Int) < 2147483543), _, 16, rfl, rfl, ⟨by decide, by decide⟩, .int m, rfl, _, m, rfl, rfl, m1, ?_⟩
          exact q _ _ (Int.emod_nonneg _ (by omega)) (Int.emod_lt_of_pos _ m1) k3 ⟨ns, a + 1, l, n + 1, hF3, hL3⟩
end
end P37
/-! _law_claim -/
namespace P37
open PySem PySem.Spec PyProof.Rows L2 AskG Ask
abbrev sClm : Stmt := topS 49
abbrev NClm : List Str := ["_law_feed_here", "_law_early", "_law_some", "_law_weights", "_law_account", "_law_begin", "_law_end", "_law_way", "_law_start", "_law_size", "_law_kind"]
theorem scClm : FnScope NClm ["_law_feed_here", "_law_early"] (defScope sClm) := ⟨rfl, rfl, rfl, by decide +kernel, rfl, by decide +kernel, by decide +kernel⟩
theorem KeepF.lst' {F L p : Addr} {H H' : Hp} {ys : List V} (k : KeepF F H H') (f : FeedAt H F L) (e : H p = some (.lst ys)) : H' p = some (.lst ys) := by
  obtain ⟨_, _, _, _, h, _⟩ := f
  exact k p _ (ne_of e h fun z => nomatch z) e
theorem FeedAt.fresh {F L p : Addr} {H : Hp} (f : FeedAt H F L) (h : H p = none) : p ≠ F ∧ p ≠ L := by
  obtain ⟨_, _, _, _, h1, h2⟩ := f
  exact ⟨(ne_of_none h1 h).symm, (ne_of_none h2 h).symm⟩
theorem FeedAt.put {F L p : Addr} {H : Hp} {o : HO} (f : FeedAt H F L) (n : p ≠ F ∧ p ≠ L) : FeedAt (upd H p o) F L := by
  obtain ⟨ns, a, l, n', h1, h2⟩ := f
  exact ⟨ns, a, l, n', by rw [upd_ne n.1.symm]; exact h1, by rw [upd_ne n.2.symm]; exact h2⟩
def abL : List Str := ["a", "b"]
theorem name_ok {n : Str} (h : n ∈ (["ann", "bob", "a", "b"] : List Str)) {i : Int} (h1 : -100 ≤ i) (h2 : i ≤ 100) : CellOk (n, i) := by
  have lit : i.natAbs.log2 < 1920 := by
    by_cases z : i.natAbs = 0
    · rw [z]
      decide
    · have : i.natAbs < 2 ^ 10 := by omega
      have := (Nat.log2_lt z).mpr this
      omega
  have all : ((["ann", "bob", "a", "b"] : List Str).all fun n => cellB (n, 0)) = true := by decide +kernel
  have c := cellOk_of (List.all_eq_true.mp all n h)
  exact ⟨c.short, c.plain, c.ok, lit⟩
theorem ab_up : abL.Pairwise fun a b => a.cps.toList < b.cps.toList := by
  unfold abL
  decide +kernel
/-- weights that the law draws -/
structure WsG (ws : List Cell) : Prop where
  ne : ws ≠ []
  sub : (ws.map (·.1)).Sublist abL
  lit : ∀ x ∈ ws, x.2.natAbs ≤ 3
  nz : ∀ x ∈ ws, x.2 ≠ 0
theorem WsG.up {ws : List Cell} (h : WsG ws) : NamesUp ws := by
  have h1 := ab_up.sublist h.sub
  rw [List.pairwise_map] at h1
  exact h1
theorem WsG.len {ws : List Cell} (h : WsG ws) : ws.length ≤ 2 := by
  have := h.sub.length_le
  rw [List.length_map] at this
  exact this
theorem WsG.name {ws : List Cell} (h : WsG ws) {x : Cell} (hx : x ∈ ws) : x.1 = "a" ∨ x.1 = "b" := by
  have hm := h.sub.subset (List.mem_map.mpr ⟨x, hx, rfl⟩)
  simp only [abL, List.mem_cons, List.not_mem_nil, or_false] at hm
  exact hm
theorem WsG.cells {ws : List Cell} (h : WsG ws) : ∀ x ∈ ws, CellOk x := fun x hx => by
  have l := h.lit x hx
  have hm := h.name hx
  obtain ⟨n, i⟩ := x
  have l : i.natAbs ≤ 3 := l
  refine name_ok (n := n) (i := i) ?_ (by omega) (by omega)
  rcases hm with z | z <;> rw [show n = _ from z] <;> decide +kernel
/-- claims that the law draws -/
structure ClG (m : Nat) (R : Rt) : Prop where
  ws : WsG R.ws
  person : R.person = "ann" ∨ R.person = "bob"
  f0 : 0 ≤ R.first
  fl : R.first ≤ R.last
  l9 : R.last ≤ 9
  lm : R.last - R.first ≤ m
  kind : R.kind.Ok
theorem ClG.ok {m : Nat} {R : Rt} (h : ClG m R) : RtOk R := by
  have := h.f0
  have := h.fl
  have := h.l9
  refine ⟨?_, Nat.le_succ_of_le h.ws.len, h.ws.cells, h.f0, by omega, by omega, by omega, h.kind⟩
  rcases h.person with z | z <;> rw [z] <;> exact name_ok (by decide +kernel) (by decide) (by decide)
theorem ClG.wt {m : Nat} {R : Rt} (h : ClG m R) : WtG R := fun x hx => ⟨h.ws.lit x hx, h.ws.name hx⟩
theorem ClG.more {m n : Nat} {R : Rt} (h : ClG m R) (le : m ≤ n) : ClG n R := ⟨h.ws, h.person, h.f0, h.fl, h.l9, by have := h.lm; omega, h.kind⟩
theorem crs_of {rs : List (Str × Rt)} {m : Nat} (h : ∀ x ∈ rs, ClG m x.2) (few : rs.length * (m + 2) ≤ 30) : CRs rs := by
  refine ⟨⟨m + 2, fun x hx => ?_, few, by omega⟩, fun x hx => (h x hx).wt⟩
  have c := h x hx
  have := c.lm
  exact ⟨c.ok, ⟨c.ws.ne, c.l9⟩, c.ws.up, by omega⟩
section
variable {P : Program} {w : World} {K : PySem.W.Frag} {mg : Str → Option Value} {base : Heap}
variable {fD : Addr} {fdD : FuncData}
def prClm : Pr := fun vs H Q => ∃ (F L : Addr), vs = [.ref F, .int 0] ∧ FeedAt H F L ∧
  ∀ H' p R, KeepF F H H' → FeedAt H' F L → RightAt H' p R → ClG 3 R → R.last ≤ 6 → Q (.ref p) H'
theorem ok_clm {f : Addr} {fd : FuncData} {k : Nat} (F : Fun K "_law_claim" "_law_claim" sClm f fd)
    (FD : Fun K "_law_draw" "_law_draw" sDraw fD fdD) (bD : Binds K fdD ["_law_feed_here", "_law_many"] []) (gD : mg "_law_draw" = some (.ref fD)) (GD : FnG P w K mg base (k + 1) fD fdD ["_law_feed_here", "_law_many"] prDraw)
    (mt : mg "tuple" = none) (mn' : mg "min" = none) : FnG P w K mg base (k + 2) f fd ["_law_feed_here", "_law_early"] prClm := by
  refine okG F scClm (fun vs H Q h => ?_) (fun cdv A outer s H vs Q hr h => ?_)
  · obtain ⟨_, _, rfl, _⟩ := h
    rfl
  · obtain ⟨F, L, rfl, hF, q⟩ := h
    have big := sizeBig
    refine ⟨_, pss_cons (ps_set (i := 2) scClm.nd rfl (.inl rfl) (pe_ix (ix_list : IxR _ (rIxL K)) (pe_lst (pa_cons (pe_tup (pa_cons pe_str pa_nil)) (pa_cons (pe_tup (pa_cons pe_str pa_nil)) (pa_cons (pe_tup (pa_cons pe_str (pa_cons pe_str pa_nil))) pa_nil)))) (pe_g GD hr (by rfl) gD FD.kp bD .nil (pa_cons (pv 0) (pa_cons pe_int pa_nil))) (fun _ _ => rfl)))
      (pss_cons (ps_set (i := 3) scClm.nd rfl (.inl rfl) (pe_callTy call_tuple_of (by rfl) mt (by decide +kernel) (pa_cons (pe_lc (own := [("_law_account", 4)]) (g := gName 4) (tt := tYes) rfl scClm.nd (pi_tup (pv 2)) (blkOk_by (N := NClm) (sc := defScope sClm) (by decide +kernel))
        (fun _ _ _ _ _ => pg_name (i := 4) scClm.nd rfl (.inl rfl)) (fun _ _ _ _ _ => pts_nil)
        (fun _ _ _ _ _ => pe_tup (pa_cons (pv 4) (pa_cons (pe_ix (ix_list : IxR _ (rIxL K)) (pe_lst (pa_cons pe_int (pa_cons pe_int (pa_cons (pe_un un_neg pe_int) (pa_cons pe_int (pa_cons pe_int (pa_cons (pe_un un_neg pe_int) pa_nil))))))) (pe_g GD hr (by rfl) gD FD.kp bD .nil (pa_cons (pv 0) (pa_cons pe_int pa_nil))) (fun _ _ => rfl)) pa_nil)))) pa_nil)))
      (pss_cons (ps_set (i := 5) scClm.nd rfl (.inl rfl) (pe_callB (call_min2 rfl) (by rfl) mn' (by decide +kernel) (pa_cons pe_int (pa_cons (pe_op op_add (pv 1) (pe_g GD hr (by rfl) gD FD.kp bD .nil (pa_cons (pv 0) (pa_cons pe_int pa_nil)))) pa_nil))))
      (pss_cons (ps_set (i := 6) scClm.nd rfl (.inl rfl) (pe_callB (call_min2 rfl) (by rfl) mn' (by decide +kernel) (pa_cons pe_int (pa_cons (pe_op op_add (pv 5) (pe_g GD hr (by rfl) gD FD.kp bD .nil (pa_cons (pv 0) (pa_cons pe_int pa_nil)))) pa_nil))))
      (pss_cons (ps_par3 rfl scClm.nd (i := 7) (j := 8) (l := 9) rfl rfl rfl (by decide) (by decide) (by decide) rfl rfl rfl (pa_cons (pe_g GD hr (by rfl) gD FD.kp bD .nil (pa_cons (pv 0) (pa_cons pe_int pa_nil))) (pa_cons (pe_g GD hr (by rfl) gD FD.kp bD .nil (pa_cons (pv 0) (pa_cons pe_int pa_nil))) (pa_cons (pe_g GD hr (by rfl) gD FD.kp bD .nil (pa_cons (pv 0) (pa_cons pe_int pa_nil))) pa_nil))) rfl)
      (pss_cons (ps_set (i := 10) scClm.nd rfl (.inl rfl) (pe_ix (ix_list : IxR _ (rIxL K)) (pe_lst (pa_cons (pe_tup (pa_cons pe_str (pa_cons (pv 8) pa_nil))) (pa_cons (pe_tup (pa_cons pe_str (pa_cons (pe_op op_add pe_int (pv 9)) pa_nil))) (pa_cons (pe_tup (pa_cons pe_str (pa_cons (pe_op op_add pe_int (pv 9)) pa_nil))) (pa_cons (pe_tup (pa_cons pe_str (pa_cons (pv 8) (pa_cons (pe_op op_add (pv 8) (pv 9)) pa_nil)))) pa_nil))))) (pv 7) (fun _ _ => rfl)))
      (pss_one (ps_ret (pe_tup (pa_cons (pe_ix (ix_list : IxR _ (rIxL K)) (pe_lst (pa_cons pe_str (pa_cons pe_str pa_nil))) (pe_g GD hr (by rfl) gD FD.kp bD .nil (pa_cons (pv 0) (pa_cons pe_int pa_nil))) (fun _ _ => rfl)) (pa_cons (pv 3) (pa_cons (pv 5) (pa_cons (pv 6) (pa_cons (pv 10) pa_nil))))))))))))), ?_⟩
    -- the names
    refine iSeq (iAsg ⟨by show 1 ≤ sizeLine; omega, fun t1 ht1 => ⟨by show 1 ≤ sizeLine; omega, fun t2 ht2 => ⟨by show 2 ≤ sizeLine; omega, fun t3 ht3 => ⟨by show 3 ≤ sizeLine; omega, fun l1 hl1 => ?_⟩⟩⟩⟩)
    have a1 := same_new (o := .tup [.str "a"]) ht1
    have a2 := same_new (o := .tup [.str "b"]) ht2
    have a3 := same_new (o := .tup [.str "a", .str "b"]) ht3
    have a4 := same_new (o := .lst [.ref t1, .ref t2, .ref t3]) hl1
    have s1 : Same H _ := ((a1.trans a2).trans a3).trans a4
    have g1 := a4 _ _ (a3 _ _ (a2 _ _ (upd_same (H := H) (a := t1) (o := .tup [.str "a"]))))
    have g2' := a4 _ _ (a3 _ _ (upd_same (H := upd H t1 (.tup [.str "a"])) (a := t2) (o := .tup [.str "b"])))
    have g3 := a4 _ _ (upd_same (H := upd (upd H t1 (.tup [.str "a"])) t2 (.tup [.str "b"])) (a := t3) (o := .tup [.str "a", .str "b"]))
    have g4 := upd_same (H := upd (upd (upd H t1 (.tup [.str "a"])) t2 (.tup [.str "b"])) t3 (.tup [.str "a", .str "b"])) (a := l1) (o := .lst [.ref t1, .ref t2, .ref t3])
    clear a1 a2 a3 a4 ht1 ht2 ht3 hl1
    generalize upd (upd (upd (upd H t1 (.tup [.str "a"])) t2 (.tup [.str "b"])) t3 (.tup [.str "a", .str "b"])) l1 (.lst [.ref t1, .ref t2, .ref t3]) = H1 at s1 g1 g2' g3 g4
    have hF1 := hF.same s1
    refine ⟨.ref F, rfl, F, L, 3, rfl, hF1, by decide, by decide, fun d H2 d0 d1 k2 hF2 => ?_⟩
    have kt2 := k2.tup hF1
    obtain ⟨ka, ns, hat, hka, nne, nsub⟩ : ∃ (ka : Addr) (ns : List Str), atI [V.ref t1, .ref t2, .ref t3] d = some (.ref ka) ∧ H2 ka = some (.tup (ns.map V.str)) ∧ ns ≠ [] ∧ ns.Sublist abL := by
      obtain ⟨z, rfl⟩ : ∃ z : Nat, d = (z : Int) := ⟨d.toNat, by omega⟩
      have z3 : z < 3 := by omega
      match z, z3 with
      | 0, _ => exact ⟨t1, ["a"], rfl, kt2 _ _ g1, by simp, List.Sublist.cons_cons _ (List.nil_sublist _)⟩
      | 1, _ => exact ⟨t2, ["b"], rfl, kt2 _ _ g2', by simp, List.Sublist.cons _ (List.Sublist.refl _)⟩
      | 2, _ => exact ⟨t3, ["a", "b"], rfl, kt2 _ _ g3, by simp, List.Sublist.refl _⟩
    refine ⟨l1, _, d, .ref ka, rfl, rfl, sqL (k2.lst' hF1 g4), hat, ?_⟩
    refine iName ?_
    dsimp only
    have k12 := (KeepF.of (F := F) s1).trans k2
    clear g1 g2' g3 g4 kt2 k2 hF1 s1
    have nl2 : ns.length ≤ 2 := nsub.length_le
    -- the weights
    refine iSeq (iAsg ⟨.ref ka, rfl, ka, rfl, ⟨_, sqT hka⟩, fun D hD => ?_⟩)
    have s3 := same_new (o := .lst []) hD
    have nD := hF2.fresh hD
    have hDn : H D = none := by
      cases e : H D with
      | none => rfl
      | some o =>
        have := k12 _ _ nD.1 e
        rw [hD] at this
        cases this
    refine loop_tup (K := K) (a := ka) (xs := ns.map V.str) (fun i H' => KeepF F H H' ∧ FeedAt H' F L ∧ H' ka = some (.tup (ns.map V.str)) ∧ ∃ ps ws, H' D = some (.lst (ps.map V.ref)) ∧ Paired (AskG.CellAt H') ps ws ∧ ws.map (·.1) = ns.take i ∧ ∀ x ∈ ws, x.2.natAbs ≤ 3 ∧ x.2 ≠ 0)
      ⟨k12.trans (KeepF.of s3), hF2.same s3, s3 _ _ hka, [], [], upd_same, .nil, by rw [List.take_zero]; rfl, fun x hx => absurd hx (by simp)⟩ (fun i H' h => sqT h.2.2.1) (fun i x H' hx h => ?_) (fun H3 h => ?_)
    · obtain ⟨k1, hF3, hka3, ps, ws, hps, hpp, sub, lit⟩ := h
      rw [List.getElem?_map] at hx
      obtain ⟨z, hz, rfl⟩ := Option.map_eq_some_iff.mp hx
      have il : i < ns.length := (List.getElem?_eq_some_iff.mp hz).1
      have pl := Paired.length hpp
      have wl : ws.length ≤ i := by
        have e := congrArg List.length sub
        rw [List.length_map, List.length_take] at e
        omega
      have tk : ns.take (i + 1) = ns.take i ++ [z] := by
        rw [List.take_add_one, hz]
        rfl
      refine ⟨wipe1, iYes (iteT ?_)⟩
      refine ⟨.str z, rfl, 1, rfl, 3, rfl, by show 6 ≤ sizeLine; omega, fun l5 hl5 => ?_⟩
      have s5 := same_new (o := .lst [.int 1, .int 1, .int (-1), .int 2, .int 3, .int (-3)]) hl5
      refine ⟨.ref F, rfl, F, L, 6, rfl, hF3.same s5, by decide, by decide, fun d6 H6 d60 d61 k6 hF6 => ?_⟩
      obtain ⟨wv, hwv, w1⟩ : ∃ wv : Int, atI [V.int 1, .int 1, .int (-1), .int 2, .int 3, .int (-3)] d6 = some (.int wv) ∧ (wv.natAbs ≤ 3 ∧ wv ≠ 0) := by
        obtain ⟨z, rfl⟩ : ∃ z : Nat, d6 = (z : Int) := ⟨d6.toNat, by omega⟩
        have z5 : z < 6 := by omega
        match z, z5 with
        | 0, _ => exact ⟨1, rfl, by decide⟩
        | 1, _ => exact ⟨1, rfl, by decide⟩
        | 2, _ => exact ⟨-1, rfl, by decide⟩
        | 3, _ => exact ⟨2, rfl, by decide⟩
        | 4, _ => exact ⟨3, rfl, by decide⟩
        | 5, _ => exact ⟨-3, rfl, by decide⟩
      refine ⟨l5, _, d6, .int wv, rfl, rfl, sqL (k6.lst' (hF3.same s5) upd_same), hwv, by show 2 ≤ sizeLine; omega, fun p hp => ?_⟩
      have s7 := same_new (o := .tup [.str z, .int wv]) hp
      have kall := (KeepF.of (F := F) s5).trans (k6.trans (KeepF.of s7))
      have hps7 := kall _ _ nD.1 hps
      have kp : KeepT _ (upd _ D (.lst (ps.map V.ref ++ [.ref p]))) := KeepT.put hps7 fun _ z => nomatch z
      have kt := (kall.tup hF3).trans kp
      refine ⟨_, hps7, by rw [List.length_map]; omega, fun c o hc e => ?_, (hF6.same s7).put nD, kt _ _ hka3, ps ++ [p], ws ++ [(z, wv)], by rw [upd_same, List.map_append]; rfl, Paired.snoc (Paired.mapP hpp fun _ _ z => z.keepT kt) (kp _ _ upd_same), ?_, fun x hx => ?_⟩
      · rw [upd_ne (ne_of_none e hDn)]
        exact kall _ _ hc (k1 _ _ hc e)
      · rw [List.map_append, tk, sub]
        rfl
      · rcases List.mem_append.mp hx with h | h
        · exact lit x h
        · rw [List.mem_singleton.mp h]
          exact w1
    · obtain ⟨k1, hF3, hka3, ps, ws, hps, hpp, sub, lit⟩ := h
      rw [List.length_map, List.take_length] at sub
      have wg : WsG ws := ⟨fun e => nne (by rw [← sub, e]; rfl), by rw [sub]; exact nsub, fun x hx => (lit x hx).1, fun x hx => (lit x hx).2⟩
      refine ⟨D, _, rfl, .inl ⟨sqL hps, fun wp hwp => ?_⟩⟩
      have s4 := same_new (o := .tup (ps.map V.ref)) hwp
      have hwp4 : upd H3 wp (.tup (ps.map V.ref)) wp = some (.tup (ps.map V.ref)) := upd_same
      have hF4 := hF3.same s4
      have k14 := k1.trans (KeepF.of s4)
      have hpp4 : Paired (AskG.CellAt (upd H3 wp (.tup (ps.map V.ref)))) ps ws := Paired.mapP hpp fun _ _ z => z.keepT (KeepT.of s4)
      generalize upd H3 wp (.tup (ps.map V.ref)) = H4 at s4 hwp4 hF4 k14 hpp4
      clear hps hpp k1 hF3 hka3 s3 hD s4 hwp
      refine iName ?_
      dsimp only
      refine iSeq (iAsg ⟨.int 0, rfl, .ref F, rfl, F, L, 4, rfl, hF4, by decide, by decide, fun b0 H5 b00 b01 k5 hF5 => ⟨0, b0, rfl, rfl, 9, 0 + b0, rfl, ?_⟩⟩)
      obtain ⟨fi, efi⟩ : ∃ fi : Int, fi = if 0 + b0 < 9 then 0 + b0 else 9 := ⟨_, rfl⟩
      rw [← efi]
      have fib : 0 ≤ fi ∧ fi ≤ 3 := by
        rw [if_pos (by omega)] at efi
        omega
      refine iName ?_
      dsimp only
      refine iSeq (iAsg ⟨.int fi, rfl, .ref F, rfl, F, L, 4, rfl, hF5, by decide, by decide, fun b1 H6 b10 b11 k6 hF6 => ⟨fi, b1, rfl, rfl, 9, fi + b1, rfl, ?_⟩⟩)
      obtain ⟨la, ela⟩ : ∃ la : Int, la = if fi + b1 < 9 then fi + b1 else 9 := ⟨_, rfl⟩
      rw [← ela]
      have lab : fi ≤ la ∧ la ≤ 6 ∧ la - fi ≤ 3 := by
        rw [if_pos (by omega)] at ela
        omega
      refine iName ?_
      dsimp only
      refine iSeq ⟨.ref F, rfl, F, L, 4, rfl, hF6, by decide, by decide, fun wy H7 wy0 wy1 k7 hF7 => ⟨.ref F, rfl, F, L, 5, rfl, hF7, by decide, by decide, fun st H8 st0 st1 k8 hF8 => ⟨.ref F, rfl, F, L, 4, rfl, hF8, by decide, by decide, fun sz H9 sz0 sz1 k9 hF9 => ⟨_, _, _, rfl, ?_⟩⟩⟩⟩
      dsimp only
      have k49 := (((k5.trans k6).trans k7).trans k8).trans k9
      refine iSeq (iAsg ⟨.int st, rfl, by show 2 ≤ sizeLine; omega, fun u1 hu1 => ⟨.int sz, rfl, 1, sz, rfl, rfl, by show 2 ≤ sizeLine; omega, fun u2 hu2 => ⟨.int sz, rfl, 2, sz, rfl, rfl, by show 2 ≤ sizeLine; omega, fun u3 hu3 => ⟨.int st, rfl, .int st, rfl, .int sz, rfl, st, sz, rfl, rfl, by show 3 ≤ sizeLine; omega, fun u4 hu4 => ⟨by show 4 ≤ sizeLine; omega, fun l8 hl8 => ?_⟩⟩⟩⟩⟩)
      have v1 := same_new (o := .tup [.str "total", .int st]) hu1
      have v2 := same_new (o := .tup [.str "window", .int (1 + sz)]) hu2
      have v3 := same_new (o := .tup [.str "window", .int (2 + sz)]) hu3
      have v4 := same_new (o := .tup [.str "period", .int st, .int (st + sz)]) hu4
      have v5 := same_new (o := .lst [.ref u1, .ref u2, .ref u3, .ref u4]) hl8
      have e1 := v5 _ _ (v4 _ _ (v3 _ _ (v2 _ _ (upd_same (H := H9) (a := u1) (o := .tup [.str "total", .int st])))))
      have e2 := v5 _ _ (v4 _ _ (v3 _ _ (upd_same (H := upd H9 u1 (.tup [.str "total", .int st])) (a := u2) (o := .tup [.str "window", .int (1 + sz)]))))
      have e3 := v5 _ _ (v4 _ _ (upd_same (H := upd (upd H9 u1 (.tup [.str "total", .int st])) u2 (.tup [.str "window", .int (1 + sz)])) (a := u3) (o := .tup [.str "window", .int (2 + sz)])))
      have e4 := v5 _ _ (upd_same (H := upd (upd (upd H9 u1 (.tup [.str "total", .int st])) u2 (.tup [.str "window", .int (1 + sz)])) u3 (.tup [.str "window", .int (2 + sz)])) (a := u4) (o := .tup [.str "period", .int st, .int (st + sz)]))
      have e5 := upd_same (H := upd (upd (upd (upd H9 u1 (.tup [.str "total", .int st])) u2 (.tup [.str "window", .int (1 + sz)])) u3 (.tup [.str "window", .int (2 + sz)])) u4 (.tup [.str "period", .int st, .int (st + sz)])) (a := l8) (o := .lst [.ref u1, .ref u2, .ref u3, .ref u4])
      have v : Same H9 _ := (((v1.trans v2).trans v3).trans v4).trans v5
      clear v1 v2 v3 v4 v5 hu1 hu2 hu3 hu4 hl8
      generalize upd (upd (upd (upd (upd H9 u1 (.tup [.str "total", .int st])) u2 (.tup [.str "window", .int (1 + sz)])) u3 (.tup [.str "window", .int (2 + sz)])) u4 (.tup [.str "period", .int st, .int (st + sz)])) l8 (.lst [.ref u1, .ref u2, .ref u3, .ref u4]) = HA at v e1 e2 e3 e4 e5
      obtain ⟨kd, kind, hatk, hkd, hk⟩ : ∃ (kd : Addr) (kind : KindM), atI [V.ref u1, .ref u2, .ref u3, .ref u4] wy = some (.ref kd) ∧ HA kd = some (.tup kind.vals) ∧ kind.Ok := by
        obtain ⟨z, rfl⟩ : ∃ z : Nat, wy = (z : Int) := ⟨wy.toNat, by omega⟩
        have z4 : z < 4 := by omega
        match z, z4 with
        | 0, _ => exact ⟨u1, .tot st, rfl, e1, ⟨by omega, by omega⟩⟩
        | 1, _ => exact ⟨u2, .win (1 + sz), rfl, e2, ⟨by omega, by omega⟩⟩
        | 2, _ => exact ⟨u3, .win (2 + sz), rfl, e3, ⟨by omega, by omega⟩⟩
        | 3, _ => exact ⟨u4, .per st (st + sz), rfl, e4, ⟨by omega, by omega, by omega, by omega⟩⟩
      refine ⟨.int wy, rfl, l8, _, wy, .ref kd, rfl, rfl, sqL e5, hatk, ?_⟩
      refine iName ?_
      dsimp only
      have hFA := hF9.same v
      have k4A := k49.trans (KeepF.of v)
      refine iRet ⟨by show 2 ≤ sizeLine; omega, fun l9 hl9 => ?_⟩
      have x1 := same_new (o := .lst [.str "ann", .str "bob"]) hl9
      refine ⟨.ref F, rfl, F, L, 2, rfl, hFA.same x1, by decide, by decide, fun pd HB pd0 pd1 kB hFB => ?_⟩
      obtain ⟨pn, hatp, hpn⟩ : ∃ pn : Str, atI [V.str "ann", .str "bob"] pd = some (.str pn) ∧ (pn = "ann" ∨ pn = "bob") := by
        obtain ⟨z, rfl⟩ : ∃ z : Nat, pd = (z : Int) := ⟨pd.toNat, by omega⟩
        have z4 : z < 2 := by omega
        match z, z4 with
        | 0, _ => exact ⟨_, rfl, .inl rfl⟩
        | 1, _ => exact ⟨_, rfl, .inr rfl⟩
      refine ⟨l9, _, pd, .str pn, rfl, rfl, sqL (kB.lst' (hFA.same x1) upd_same), hatp, .ref wp, rfl, .int fi, rfl, .int la, rfl, .ref kd, rfl, by show 5 ≤ sizeLine; omega, fun pr hpr => ?_⟩
      have x2 := same_new (o := .tup [.str pn, .ref wp, .int fi, .int la, .ref kd]) hpr
      have kAB := ((KeepF.of (F := F) x1).trans kB).trans (KeepF.of x2)
      have ktAB := kAB.tup hFA
      have kt4 := (k4A.tup hF4).trans ktAB
      exact q _ pr ⟨pn, ws, fi, la, kind⟩ ((k14.trans k4A).trans kAB) (hFB.same x2) ⟨wp, ps, kd, upd_same, kt4 _ _ hwp4, Paired.mapP hpp4 fun _ _ z => z.keepT kt4, ktAB _ _ hkd⟩ ⟨wg, hpn, fib.1, lab.1, by show la ≤ 9; omega, lab.2.2, hk⟩ lab.2.1
end
end P37
/-! _law_claims -/
namespace P37
open PySem PySem.Spec PyProof.Rows L2 AskG Ask
abbrev sCms : Stmt := topS 50
abbrev NCms : List Str := ["_law_feed_here", "_law_many", "_law_labels", "_law_found", "_law_k", "_law_claim_here", "_law_account", "_law_weight"]
theorem scCms : FnScope NCms ["_law_feed_here", "_law_many"] (defScope sCms) := ⟨rfl, rfl, rfl, by decide +kernel, rfl, by decide +kernel, by decide +kernel⟩
def namedD (x : Str × Rt) : PyData := .tuple [.str x.1, rightD x.2]
theorem dp_named {K : PySem.W.Frag} {H : Hp} {p : Addr} {x : Str × Rt} (h : NamedAt H p x) : Dp K H (.ref p) (namedD x) := by
  obtain ⟨r, h1, h2⟩ := h
  exact .tup (sqT h1) (.cons (.str _) (.cons (dp_right h2) .nil))
theorem kind_lay {k : KindM} : k.data.canLay0 = true := by
  cases k with
  | tot s =>
    show ((PyData.strOk "total") && (true && true)) = true
    decide +kernel
  | win l =>
    show ((PyData.strOk "window") && (true && true)) = true
    decide +kernel
  | per b e =>
    show ((PyData.strOk "period") && (true && (true && true))) = true
    decide +kernel
theorem kind_dep {k : KindM} : k.data.depth ≤ 1 := by
  cases k with
  | tot s =>
    show max 0 (max 0 0) + 1 ≤ 1
    decide
  | win l =>
    show max 0 (max 0 0) + 1 ≤ 1
    decide
  | per b e =>
    show max 0 (max 0 (max 0 0)) + 1 ≤ 1
    decide
theorem shaped_named {rs : List (Str × Rt)} (h : ∀ x ∈ rs, PyData.strOk x.1 = true ∧ RtOk x.2) : SeqAt.shaped (.list (rs.map namedD)) = true := by
  have h1 : PyData.canLayAll0 (rs.map namedD) = true := can_all fun x hx => by
    obtain ⟨n, r⟩ := h x hx
    have w : PyData.canLayAll0 (x.2.ws.map AskG.cellD) = true := can_all fun c hc => by
      show ((PyData.strOk c.1) && (true && true)) = true
      rw [(r.ws c hc).ok]
      rfl
    show ((PyData.strOk x.1) && (((PyData.strOk x.2.person) && ((PyData.canLayAll0 (x.2.ws.map AskG.cellD)) && (true && (true && (x.2.kind.data.canLay0 && true))))) && true)) = true
    rw [n, r.name.ok, w, kind_lay]
    rfl
  have h2 : PyData.depthAll (rs.map namedD) ≤ 4 := depth_all fun x _ => by
    have w : PyData.depthAll (x.2.ws.map AskG.cellD) ≤ 1 := depth_all fun c _ => by
      show max 0 (max 0 0) + 1 ≤ 1
      decide
    have kd := kind_dep (k := x.2.kind)
    show max 0 (max (max 0 (max (PyData.depthAll (x.2.ws.map AskG.cellD) + 1) (max 0 (max 0 (max x.2.kind.data.depth 0)))) + 1) 0) + 1 ≤ 4
    omega
  show (PyData.canLayAll0 (rs.map namedD) && decide (PyData.depthAll (rs.map namedD) + 1 ≤ 64)) = true
  rw [h1, decide_eq_true (by omega)]
  rfl
def labs : List Str := ["east", "lot", "one", "three", "two", "west"]
theorem labs_ok : ∀ z ∈ labs, PyData.strOk z = true := by
  have : labs.all PyData.strOk = true := by decide +kernel
  exact List.all_eq_true.mp this
/-- claims that the law draws -/
structure CmsG (rs : List (Str × Rt)) : Prop where
  names : rs.map (·.1) = labs.take rs.length
  few : rs.length ≤ 4
  all : ∀ x ∈ rs, ClG 3 x.2 ∧ x.2.last ≤ 6
theorem CmsG.lab {rs : List (Str × Rt)} (h : CmsG rs) {x : Str × Rt} (hx : x ∈ rs) : x.1 ∈ labs := by
  have : x.1 ∈ rs.map (·.1) := List.mem_map.mpr ⟨x, hx, rfl⟩
  rw [h.names] at this
  exact List.mem_of_mem_take this
theorem CmsG.shaped {rs : List (Str × Rt)} (h : CmsG rs) : SeqAt.shaped (.list (rs.map namedD)) = true := shaped_named fun x hx => ⟨labs_ok _ (h.lab hx), (h.all x hx).1.ok⟩
theorem ClG.scaled {m : Nat} {R : Rt} (h : ClG m R) {f : Int} (hf : ∀ x ∈ R.ws, (f * x.2).natAbs ≤ 3) (f0 : f ≠ 0 := by decide) : ClG m (scaled f R) := by
  refine ⟨⟨fun e => h.ws.ne (List.map_eq_nil_iff.mp e), ?_, fun x hx => ?_, fun x hx => ?_⟩, h.person, h.f0, h.fl, h.l9, h.lm, h.kind⟩
  · show ((R.ws.map fun x => (x.1, f * x.2)).map (·.1)).Sublist abL
    rw [List.map_map]
    exact h.ws.sub
  · obtain ⟨y, hy, rfl⟩ := List.mem_map.mp hx
    exact hf y hy
  · obtain ⟨y, hy, rfl⟩ := List.mem_map.mp hx
    exact Int.mul_ne_zero f0 (h.ws.nz y hy)
theorem tk_lt {H : Hp} {F L p : Addr} (f : FeedAt H F L) {xs : List V} (h : H p = some (.lst xs)) : p ≠ F := by
  obtain ⟨_, _, _, _, e, _⟩ := f
  exact ne_of h e fun z => nomatch z
section
variable {P : Program} {w : World} {K : PySem.W.Frag} {mg : Str → Option Value} {base : Heap}
variable {fD fC : Addr} {fdD fdC : FuncData}
def prCms : Pr := fun vs H Q => ∃ (F L : Addr), vs = [.ref F, .int 4] ∧ FeedAt H F L ∧
  ∀ H' p rs, KeepF F H H' → FeedAt H' F L → RightsAt H' p rs → CmsG rs → Q (.ref p) H'
theorem ok_cms {f : Addr} {fd : FuncData} {k : Nat} (F : Fun K "_law_claims" "_law_claims" sCms f fd)
    (FD : Fun K "_law_draw" "_law_draw" sDraw fD fdD) (bD : Binds K fdD ["_law_feed_here", "_law_many"] []) (gD : mg "_law_draw" = some (.ref fD)) (GD : FnG P w K mg base (k + 2) fD fdD ["_law_feed_here", "_law_many"] prDraw)
    (FC : Fun K "_law_claim" "_law_claim" sClm fC fdC) (bC : Binds K fdC ["_law_feed_here", "_law_early"] []) (gC : mg "_law_claim" = some (.ref fC)) (GC : FnG P w K mg base (k + 2) fC fdC ["_law_feed_here", "_law_early"] prClm)
    (mt : mg "tuple" = none) (mr : mg "range" = none) (ml : mg "len" = none) : FnG P w K mg base (k + 3) f fd ["_law_feed_here", "_law_many"] prCms := by
  refine okG F scCms (fun vs H Q h => ?_) (fun cdv A outer s H vs Q hr h => ?_)
  · obtain ⟨_, _, rfl, _⟩ := h
    rfl
  · obtain ⟨F, L, rfl, hF, q⟩ := h
    have big := sizeBig
    have hun := hr.room.units
    refine ⟨_, pss_cons (ps_par (by rfl) scCms.nd (i := 2) (j := 3) rfl rfl (by decide) rfl rfl (pa_cons (pe_lst (pa_cons pe_str (pa_cons pe_str (pa_cons pe_str (pa_cons pe_str (pa_cons pe_str (pa_cons pe_str pa_nil))))))) (pa_cons (pe_lst pa_nil) pa_nil)) (by rfl))
      (pss_cons (ps_for PassesOwn.never rfl (pi_range1 (by rfl) mr (pa_cons (pe_g GD hr (by rfl) gD FD.kp bD .nil (pa_cons (pv 0) (pa_cons (pe_op op_add (pv 1) pe_int) pa_nil))) pa_nil)) (pg_name (i := 4) scCms.nd rfl (.inl rfl))
        (pss_cons (ps_set (i := 5) scCms.nd rfl (.inl rfl) (pe_g GC hr (by rfl) gC FC.kp bC .nil (pa_cons (pv 0) (pa_cons pe_int pa_nil))))
        (pss_cons (ps_if (PW.pt (pw_and (pt_cmpR (op_neD hun) (pv 3) (pe_lst pa_nil) (nomark _)) (pw_and1 (pt_cmpR op_eq (pe_g GD hr (by rfl) gD FD.kp bD .nil (pa_cons (pv 0) (pa_cons pe_int pa_nil))) pe_int (nomark _)))))
          (pss_cons (ps_set (i := 5) scCms.nd rfl (.inl rfl) (pe_ix (ix_tup : IxR _ (rIxT K)) (pe_ix (ix_list : IxR _ (rIxL K)) (pv 3) (pe_g GD hr (by rfl) gD FD.kp bD .nil (pa_cons (pv 0) (pa_cons (pe_callB call_len_seq (by rfl) ml PySem.boot_len (pa_cons (pv 3) pa_nil)) pa_nil))) (fun _ _ => rfl)) pe_int (fun _ _ => rfl)))
          (pss_one (ps_set (i := 5) scCms.nd rfl (.inl rfl) (pe_op (op_catT : OpR _ _ (rCatT K)) (pe_tup (pa_cons (pe_ix (ix_tup : IxR _ (rIxT K)) (pv 5) pe_int (fun _ _ => rfl)) (pa_cons (pe_callTy call_tuple_of (by rfl) mt (by decide +kernel) (pa_cons (pe_lc (own := [("_law_account", 6), ("_law_weight", 7)]) (g := g2 K 6 7) (tt := tYes) rfl scCms.nd (pi_tup (pe_ix (ix_tup : IxR _ (rIxT K)) (pv 5) pe_int (fun _ _ => rfl))) (blkOk_by (N := NCms) (sc := defScope sCms) (by decide +kernel))
            (fun _ _ _ _ _ => pg_tup rfl (pgs_cons (pg_name (i := 6) scCms.nd rfl (.inl rfl)) (pgs_cons (pg_name (i := 7) scCms.nd rfl (.inl rfl)) pgs_nil))) (fun _ _ _ _ _ => pts_nil)
            (fun _ _ _ _ _ => pe_tup (pa_cons (pv 6) (pa_cons (pe_op op_sub pe_int (pv 7)) pa_nil)))) pa_nil)) pa_nil))) (pe_slice (sl_tup : SlR _ (rSlT K)) (pv 5) (po_some pe_int) po_none))))) pss_nil)
        (pss_one (ps_expr (pe_bm PySem.F.plainAttrs_list PySem.F.slot_list_append PySem.F.type_list_append mt_append (pv 3) (pa_cons (pe_tup (pa_cons (pe_ix (ix_list : IxR _ (rIxL K)) (pv 2) (pv 4) (fun _ _ => rfl)) (pa_cons (pv 5) pa_nil))) pa_nil)))))))
      (pss_one (ps_ret (pe_callTy call_tuple_of (by rfl) mt (by decide +kernel) (pa_cons (pv 3) pa_nil))))), ?_⟩
    refine iSeq ⟨by show 6 ≤ sizeLine; omega, fun Lb hLb => ⟨by show 0 ≤ sizeLine; omega, fun Fo hFo => ⟨_, _, rfl, ?_⟩⟩⟩
    dsimp only
    have hFo : upd H Lb (.lst (labs.map V.str)) Fo = none := hFo
    have b1 := same_new (o := .lst (labs.map V.str)) hLb
    have b2 := same_new (o := .lst []) hFo
    have hLb2 : upd (upd H Lb (.lst (labs.map V.str))) Fo (.lst []) Lb = some (.lst (labs.map V.str)) := b2 _ _ upd_same
    have hFo2 : upd (upd H Lb (.lst (labs.map V.str))) Fo (.lst []) Fo = some (.lst ([].map V.ref)) := upd_same
    have hFn : H Fo = none := by
      cases e : H Fo with
      | none => rfl
      | some o =>
        have := b1 _ _ e
        rw [hFo] at this
        cases this
    have nFL : Fo ≠ Lb := fun e => by
      rw [e, upd_same] at hFo
      cases hFo
    have s0 := b1.trans b2
    have hF0 := hF.same s0
    show tSeq _ _ _ _ (upd (upd H Lb (.lst (labs.map V.str))) Fo (.lst []))
    generalize upd (upd H Lb (.lst (labs.map V.str))) Fo (.lst []) = H0 at s0 hF0 hLb2 hFo2
    have nFo := hF.fresh hFn
    have nLbF : Lb ≠ F := tk_lt hF0 hLb2
    refine iSeq ?_
    refine ⟨.ref F, rfl, .int 4, rfl, 4, 1, rfl, rfl, F, L, 4 + 1, rfl, hF0, by decide, by decide, fun d H1 d0 d1 k1 hF1 => ⟨d, rfl, by omega, by omega, ?_⟩⟩
    refine for_range (lo := 0) (n := d.toNat) (fun i σ' H' => (∃ x4 x5, σ' = [some (.ref F), some (.int 4), some (.ref Lb), some (.ref Fo), x4, x5, none, none]) ∧ KeepF F H H' ∧ FeedAt H' F L ∧ H' Lb = some (.lst (labs.map V.str)) ∧ ∃ ps rs, H' Fo = some (.lst (ps.map V.ref)) ∧ Paired (NamedAt H') ps rs ∧ rs.length = i ∧ CmsG rs)
      ⟨⟨_, _, rfl⟩, (KeepF.of s0).trans k1, hF1, k1 _ _ nLbF hLb2, [], [], k1 _ _ nFo.1 hFo2, .nil, rfl, ⟨rfl, Nat.zero_le _, fun x hx => absurd hx (by simp)⟩⟩ (fun i σ' H' hi h => ?_) (fun σ' H' h => ?_)
    · obtain ⟨⟨x4, x5, rfl⟩, k2, hF2, hLb', ps, rs, hps, hpp, rl, cg⟩ := h
      rw [Int.zero_add]
      refine iName ?_
      dsimp only
      refine iSeq (iAsg ⟨.ref F, rfl, F, L, rfl, hF2, fun H3 r R k3 hF3 hR hG h6 => ?_⟩)
      refine iName ?_
      dsimp only
      have hps3 := k3 _ _ nFo.1 hps
      have hpp3 := Paired.mapP hpp fun _ _ z => z.keep (k3.tup hF2)
      have pl := Paired.length hpp3
      refine iSeq ?_
      refine split_s (fun σ' H' => ∃ r' R', σ' = [some (.ref F), some (.int 4), some (.ref Lb), some (.ref Fo), some (.int (i : Int)), some (.ref r'), none, none] ∧ KeepF F H3 H' ∧ FeedAt H' F L ∧ RightAt H' r' R' ∧ ClG 3 R' ∧ R'.last ≤ 6) (fun nx hnx => ?_) (fun σ' H4 hx => ?_)
      · refine iIfS ⟨.ref Fo, rfl, Nat.zero_le _, fun e1 he1 => ?_⟩
        have sd := same_new (o := .lst []) he1
        refine ⟨.list (rs.map namedD), .list [], .lst (sqL (sd _ _ hps3)) (dp_all (f := namedD) (R := NamedAt _) (fun _ _ z => dp_named (z.keep (KeepT.of sd))) hpp3), .lst (sqL upd_same) .nil, cg.shaped, shaped_nil, _, rfl, ?_⟩
        have hF4 := hF3.same sd
        have hR4 := hR.keep (KeepT.of sd)
        cases rs with
        | nil => exact iteF (iteF (hnx _ _ ⟨r, R, rfl, KeepF.of sd, hF4, hR4, hG, h6⟩))
        | cons x0 rs0 =>
          obtain ⟨rs, ers⟩ : ∃ rs, rs = x0 :: rs0 := ⟨_, rfl⟩
          rw [← ers] at cg hpp3 rl pl
          have rpos : 0 < rs.length := by rw [ers]; exact Nat.succ_pos _
          clear ers hpp
          refine iteT ?_
          refine ⟨.ref F, rfl, F, L, 3, rfl, hF4, by decide, by decide, fun d2 H5 d20 d21 k5 hF5 => ⟨rfl, _, rfl, ?_⟩⟩
          have k35 := (KeepF.of (F := F) sd).trans k5
          have hps5 := k35 _ _ nFo.1 hps3
          refine ite2 (fun e => ?_) (fun e => ?_)
          · refine iSeq (iAsg ⟨.ref Fo, rfl, .ref F, rfl, .ref Fo, rfl, Fo, _, rfl, .inl (sqL hps5), F, L, _, rfl, hF5, by rw [List.length_map]; omega, by rw [List.length_map]; omega, fun d3 H6 d30 d31 k6 hF6 => ?_⟩)
            rw [List.length_map] at d31
            obtain ⟨jn, rfl⟩ : ∃ jn : Nat, d3 = (jn : Int) := ⟨d3.toNat, by omega⟩
            have jl : jn < ps.length := by omega
            obtain ⟨y, hy, rj, hpj, hRj⟩ := paired_at' hpp3 (List.getElem?_eq_getElem jl)
            have k36 := k35.trans k6
            have kt6 := k36.tup hF3
            obtain ⟨wa, qs, ka, g1, g2', g3, g4⟩ := hRj.keep kt6
            refine ⟨Fo, _, _, .ref ps[jn], rfl, rfl, sqL (k6 _ _ nFo.1 hps5), atI_nat (j := jn) (by rw [List.getElem?_map, List.getElem?_eq_getElem jl]; rfl), ps[jn], _, _, .ref rj, rfl, rfl, sqT (kt6 _ _ hpj), atI_nat (j := 1) rfl, ?_⟩
            refine iName ?_
            dsimp only
            have ym := List.mem_of_getElem? hy
            obtain ⟨yG, y6⟩ := cg.all y ym
            have ql := Paired.length g3
            have wl := yG.ws.len
            refine iAsg ⟨.ref rj, rfl, rj, _, _, .str y.2.person, rfl, rfl, sqT g1, atI_nat (j := 0) rfl, .ref rj, rfl, rj, _, _, .ref wa, rfl, rfl, sqT g1, atI_nat (j := 1) rfl, wa, rfl, ⟨_, sqT g2'⟩, fun D hD => ?_⟩
            refine loop_tup (K := K) (a := wa) (xs := qs.map V.ref) (fun i H' => Same H6 H' ∧ ∃ cs, H' D = some (.lst (cs.map V.ref)) ∧ Paired (AskG.CellAt H') cs ((scaled (-1) y.2).ws.take i)) ⟨same_new hD, [], upd_same, by rw [List.take_zero]; exact .nil⟩ (fun i H' h => sqT (h.1 _ _ g2')) (fun i v H' hv h => ?_) (fun H7 h => ?_)
            · obtain ⟨sm, cs, hcs, hcc⟩ := h
              rw [List.getElem?_map] at hv
              obtain ⟨pi, hpi, rfl⟩ := Option.map_eq_some_iff.mp hv
              obtain ⟨c, hc, hca⟩ := paired_at' g3 hpi
              have il : i < y.2.ws.length := (List.getElem?_eq_some_iff.mp hc).1
              have cl := Paired.length hcc
              rw [List.length_take] at cl
              have ec : (scaled (-1) y.2).ws[i]? = some (c.1, 0 - c.2) := by
                show (y.2.ws.map fun x => (x.1, -1 * x.2))[i]? = _
                rw [List.getElem?_map, hc]
                show some (c.1, -1 * c.2) = _
                rw [show -1 * c.2 = 0 - c.2 by omega]
              refine ⟨pi, _, rfl, sqT (sm _ _ hca), rfl, .str c.1, _, rfl, .int c.2, _, rfl, rfl, wipe2 (by decide), iYes (iteT ?_)⟩
              refine ⟨.str c.1, rfl, .int c.2, rfl, 0, c.2, rfl, rfl, by show 2 ≤ sizeLine; omega, fun p' hp' => ?_⟩
              have s4 := same_new (o := .tup [.str c.1, .int (0 - c.2)]) hp'
              have hDp := s4 _ _ hcs
              refine ⟨_, hDp, by rw [List.length_map]; omega, fun b o e => ?_, cs ++ [p'], by rw [upd_same, List.map_append]; rfl, ?_⟩
              · rw [upd_ne (ne_of_none e hD)]
                exact s4 _ _ (sm _ _ e)
              · have kp : KeepT _ (upd _ D (.lst (cs.map V.ref ++ [.ref p']))) := KeepT.put hDp fun _ z => nomatch z
                rw [List.take_add_one, ec]
                exact Paired.snoc (Paired.mapP hcc fun _ _ z => (z.keepT (KeepT.of s4)).keepT kp) (kp _ _ upd_same)
            · obtain ⟨sm, cs, hcs, hcc⟩ := h
              rw [List.length_map, ql, List.take_of_length_le (by show (y.2.ws.map _).length ≤ _; rw [List.length_map]; exact Nat.le_refl _)] at hcc
              refine ⟨D, _, rfl, .inl ⟨sqL hcs, fun wp hwp => ⟨by show 2 ≤ sizeLine; omega, fun tp htp => ?_⟩⟩⟩
              have s8 := same_new (o := .tup (cs.map V.ref)) hwp
              have s9 := same_new (o := .tup [.str y.2.person, .ref wp]) htp
              have s69 := (sm.trans s8).trans s9
              refine ⟨.ref rj, rfl, _, rfl, rj, _, rfl, sqT (s69 _ _ g1), fun z => absurd z.1 (by show ¬ HT.sIx 5 0 (some 2) = 0; decide), fun sp hsp => ?_⟩
              have s10 := same_new (o := .tup [.int y.2.first, .int y.2.last, .ref ka]) hsp
              refine ⟨tp, sp, [.str y.2.person, .ref wp], [.int y.2.first, .int y.2.last, .ref ka], rfl, rfl, sqT (s10 _ _ upd_same), sqT upd_same, by simp, by show 5 ≤ sizeLine; omega, fun z => absurd z (by simp), fun _ pn hpn => ?_⟩
              have s11 := same_new (o := .tup [.str y.2.person, .ref wp, .int y.2.first, .int y.2.last, .ref ka]) hpn
              have s1011 := s10.trans s11
              refine iName (hnx _ _ ⟨pn, scaled (-1) y.2, rfl, k36.trans (KeepF.of (s69.trans s1011)), hF6.same (s69.trans s1011), ⟨wp, cs, ka, upd_same, s1011 _ _ (s9 _ _ upd_same), Paired.mapP hcc fun _ _ z => z.keepT (KeepT.of ((s8.trans s9).trans s1011)), (s69.trans s1011) _ _ g4⟩, yG.scaled fun x hx => ?_, y6⟩)
              have := yG.ws.lit x hx
              omega
          · exact hnx _ _ ⟨r, R, rfl, k35, hF5, hR.keep (k35.tup hF3), hG, h6⟩
      · obtain ⟨r', R', rfl, k4, hF4, hR4, hG4, h64⟩ := hx
        dsimp only
        have hLb4 := k4 _ _ nLbF (k3 _ _ nLbF hLb')
        have hps4 := k4 _ _ nFo.1 hps3
        have i4 : i < 4 := by omega
        obtain ⟨nm, hnm⟩ : ∃ nm, labs[i]? = some nm := ⟨labs[i]'(by show i < 6; omega), List.getElem?_eq_getElem _⟩
        refine iDrop' ⟨.ref Fo, rfl, .inl ⟨rfl, _, sqL hps4⟩, ?_⟩
        refine ⟨.ref Lb, rfl, .int (i : Int), rfl, Lb, _, _, .str nm, rfl, rfl, sqL hLb4, atI_nat (j := i) (by rw [List.getElem?_map, hnm]; rfl), .ref r', rfl, by show 2 ≤ sizeLine; omega, fun pt hpt => ?_⟩
        have se := same_new (o := .tup [.str nm, .ref r']) hpt
        have kt4 := k4.tup hF3
        have hps5 := se _ _ hps4
        refine ⟨Fo, ps.map V.ref, .ref pt, rfl, rfl, hps5, by rw [List.length_map]; omega, ?_⟩
        have kp : KeepT _ (upd _ Fo (.lst (ps.map V.ref ++ [.ref pt]))) := KeepT.put hps5 fun _ z => nomatch z
        have kall := (kt4.trans (KeepT.of se)).trans kp
        refine ⟨⟨_, _, rfl⟩, fun b o hb e => ?_, (hF4.same se).put nFo, ?_, ps ++ [pt], rs ++ [(nm, R')], by rw [upd_same, List.map_append]; rfl, Paired.snoc (Paired.mapP hpp3 fun _ _ z => z.keep kall) ⟨r', kp _ _ upd_same, (hR4.keep (KeepT.of se)).keep kp⟩, by rw [List.length_append, rl]; rfl, ?_⟩
        · rw [upd_ne (ne_of_none e hFn)]
          exact se _ _ (k4 _ _ hb (k3 _ _ hb (k2 _ _ hb e)))
        · rw [upd_ne nFL.symm]
          exact se _ _ hLb4
        · refine ⟨?_, by rw [List.length_append, rl]; show i + 1 ≤ 4; omega, fun x hx => ?_⟩
          · rw [List.map_append, cg.names, List.length_append, rl]
            show _ = labs.take (i + 1)
            rw [List.take_add_one, hnm]
            rfl
          · rcases List.mem_append.mp hx with z | z
            · exact cg.all x z
            · rw [List.mem_singleton.mp z]
              exact ⟨hG4, h64⟩
    · obtain ⟨⟨x4, x5, rfl⟩, k2, hF2, hLb', ps, rs, hps, hpp, rl, cg⟩ := h
      dsimp only
      refine iRet ⟨.ref Fo, rfl, Fo, _, rfl, .inl ⟨sqL hps, fun p hp => ?_⟩⟩
      have s9 := same_new (o := .tup (ps.map V.ref)) hp
      exact q _ p rs (k2.trans (KeepF.of s9)) (hF2.same s9) ⟨ps, upd_same, Paired.mapP hpp fun _ _ z => z.keep (KeepT.of s9)⟩ cg
end
end P37
/-! AskMn: min of a dict of cells; d != {}. -/
namespace AskG
open PySem PySem.Spec PyProof.Rows L2
/-- min(d), d a dict of cells: one of them -/
def rMinT : List V → Hp → VK → Prop := fun xs H Q => ∃ (d : Addr) (kvs : List (List Key × V)) (cs : List Cell), xs = [.ref d] ∧ Rd H d (.dT kvs) ∧ kvs.map (·.1) = cs.map ck ∧ cs ≠ [] ∧
  ∀ (c : Cell) (b : Addr), c ∈ cs → CellAt H b c → Q (.ref b) H
theorem cell_lt {A : Around} {s : Shared} {v u : Value} {c d : Cell} (hv : IsCl s.heap v c) (hu' : IsCl s.heap u d) (hu : A.units < cLine) : Ob.RcOp .Lt A s v u (ltC c d) := by
  obtain ⟨a', t, t', e, ht⟩ := hv
  cases e
  obtain ⟨b', u, u', e, hu2⟩ := hu'
  cases e
  have R := Ob.RcOp.tuples_lt (A := A) (s := s) (e := fun j => if j = 0 then c.1 == d.1 else c.2 == d.2)
    (r := fun j => if j = 0 then decide (c.1.cps.toList < d.1.cps.toList) else decide (c.2 < d.2)) ht hu2 hu
    (fun j h1 h2 => by
      have h1 : j < 2 := h1
      match j, h1 with
      | 0, _ => exact SeqAt.EqAt.str_str c.1 t d.1 u
      | 1, _ => exact SeqAt.EqAt.int_int c.2 t' d.2 u')
    (fun j h1 h2 _ => by
      have h1 : j < 2 := h1
      match j, h1 with
      | 0, _ => exact fun _ _ _ _ h => PyProof.Rows.lt_str h
      | 1, _ => exact fun _ _ _ _ h => PyProof.Rows.lt_int h)
  have e : Ob.lexAt (fun j => if j = 0 then c.1 == d.1 else c.2 == d.2) (fun j => if j = 0 then decide (c.1.cps.toList < d.1.cps.toList) else decide (c.2 < d.2)) (decide (2 < 2)) 0 (min 2 2) = ltC c d := by
    show (if (c.1 == d.1) = true then (if (c.2 == d.2) = true then decide (2 < 2) else decide (c.2 < d.2)) else decide (c.1.cps.toList < d.1.cps.toList)) = ltC c d
    unfold ltC
    by_cases e1 : c.1 = d.1
    · rw [if_pos (beq_iff_eq.mpr e1), if_pos e1]
      by_cases e2 : c.2 = d.2
      · rw [if_pos (beq_iff_eq.mpr e2), e2, decide_eq_false (Int.lt_irrefl _)]
        rfl
      · rw [if_neg fun z => e2 (beq_iff_eq.mp z)]
    · rw [if_neg fun z => e1 (beq_iff_eq.mp z), if_neg e1]
  rw [← e]
  exact R
theorem argBest_le (bt : Nat → Nat → Bool) : ∀ k, argBest bt k ≤ k
  | 0 => Nat.le_refl _
  | k + 1 => by
    unfold argBest
    split
    · exact Nat.le_refl _
    · exact Nat.le_succ_of_le (argBest_le bt k)
section
variable {X : Cx}
theorem cr_minT (hc : X.calm = true) (hu : X.A.units + 4 < cLine) : CallR X (.builtin "min") rMinT := by
  intro pins s σ H xs us Q I r q
  obtain ⟨d, kvs, cs, ex, hd, hks, hne, q⟩ := q
  subst ex
  obtain ⟨u, eu, rx⟩ := vals1 r
  subst eu
  cases rx
  obtain ⟨z, hs, ks, pr, o, es, ep, ho, hx, hdt, he, hn⟩ := (show ObjOk X.prog X.w H s.heap d (.dT kvs) from hd.ok I.hok)
  have l1 : es.size = ks.length := size_of_entries he
  have l2 : kvs.length = ks.length := Paired.length pr
  have hkk : ks.map (·.1) = cs.map ck := by
    rw [← hks]
    clear q he hn hd l1 l2 hks z
    induction pr with
    | nil => rfl
    | cons h t ih => rw [List.map_cons, List.map_cons, ih, h.1]
  have l3 : ks.length = cs.length := by
    have := congrArg List.length hkk
    rw [List.length_map, List.length_map] at this
    exact this
  have atK : ∀ x ∈ ks, H x.2.1 = some (.tup (x.1.map kV)) := by
    clear q he hn hd l1 l2 hks z hkk l3
    induction pr with
    | nil => exact fun x hx => absurd hx (by simp)
    | cons h t ih =>
      intro x hx
      rcases List.mem_cons.mp hx with e | hx
      · subst e
        rw [← h.1]
        exact h.2.1
      · exact ih x hx
  have atC : ∀ (i : Nat) (v : Value), (∃ en : DictEntry, es[i]? = some en ∧ v = en.key) → ∃ b c, v = .ref b ∧ c ∈ cs ∧ cs[i]? = some c ∧ CellAt H b c := by
    rintro i v ⟨en, hen, rfl⟩
    have qe := entry_at he i
    rw [hen] at qe
    cases hb : ks[i]? with
    | none =>
      rw [hb] at qe
      exact nomatch (show some en = none from qe)
    | some x =>
      rw [hb] at qe
      have e2 : en = entryOfKey (tupleKind (mixKind X.prog X.w)) x := Option.some.inj qe
      have e3 : (cs.map ck)[i]? = some x.1 := by
        rw [← hkk, List.getElem?_map, hb]
        rfl
      rw [List.getElem?_map] at e3
      obtain ⟨c, hc1, hc2⟩ := Option.map_eq_some_iff.mp e3
      refine ⟨x.2.1, c, by rw [e2]; rfl, List.mem_of_getElem? hc1, hc1, ?_⟩
      have := atK x (List.mem_of_getElem? hb)
      rw [← hc2] at this
      exact this
  have pos : 0 < es.size := by
    rw [l1, l3]
    exact List.length_pos_iff.mpr hne
  obtain ⟨oI, St, hit, W, st⟩ := (kdl_raw (prog := X.prog) (w := X.w) hs hx hdt).iter X.A.in1 s (I.ok.hd hc) ho
  refine call_min_walkH (hit _ _ ?_)
  refine ⟨_, _, _, _, _, _, _, s.heap, fun i j => ltC (cs.getD i default) (cs.getD j default), rfl, W.toS, st, fun b hb => ?_, pos, fun b o e m => ?_, fun b o e => Heap.get?_push_of_some _ e, fun i j vi vj s2 Q2 E2 kp hi hj hq => ?_, fun v s' hP hm => ?_⟩
  · show b < (s.heap.push _).objs.size
    rw [Heap.size_push]
    rcases List.mem_cons.mp hb with e | hb
    · rw [e]
      exact Nat.lt_succ_self _
    · rw [List.mem_singleton.mp hb]
      exact Nat.lt_succ_of_lt (Heap.lt_size ho)
  · have e1 := List.mem_singleton.mp m
    rw [e1] at e
    exact absurd (Heap.lt_size e) (Nat.lt_irrefl _)
  · obtain ⟨b, c, rfl, _, hci, hcb⟩ := atC i vi hi
    obtain ⟨b', c', rfl, _, hcj, hcb'⟩ := atC j vj hj
    have i1 : IsCl s2.heap (.ref b) c := (isCl_of I.hok hcb).keeps fun b o e _ => kp b o e
    have i2 : IsCl s2.heap (.ref b') c' := (isCl_of I.hok hcb').keeps fun b o e _ => kp b o e
    have R := cell_lt (A := X.A.in1) i1 i2 (by rw [Around.in1_units]; omega)
    have e1 : cs.getD i default = c := by rw [List.getD_eq_getElem?_getD, hci]; rfl
    have e2 : cs.getD j default = c' := by rw [List.getD_eq_getElem?_getD, hcj]; rfl
    have hq : Q2 (Value.bool (ltC (cs.getD i default) (cs.getD j default))) s2 := hq
    rw [e1, e2] at hq
    exact R X.prog X.w E2 Q2 hq
  · obtain ⟨b, c, rfl, hcm, _, hcb⟩ := atC _ v hP
    have I2 : Inv X pins σ H { s with heap := s'.heap, toks := s'.toks } := I.kept (t' := s'.toks) fun b o e => hm.heap b o (fun m => by
      rw [List.mem_singleton.mp m] at e
      exact absurd (Heap.lt_size e) (Nat.lt_irrefl _)) (Heap.get?_push_of_some _ e)
    have es' : s' = { s with heap := s'.heap, toks := s'.toks } := by
      have := Moved.eq_with hm
      exact this
    rw [es']
    exact ⟨.ref b, H, I2, rfl, q c b hcm hcb⟩
/-- d != {} -/
def rNe0 : R2 := fun x y H Q => ∃ (a b : Addr) (kvs : List (List Key × V)), x = .ref a ∧ y = .ref b ∧ Rd H a (.dT kvs) ∧ H b = some (.dT []) ∧ Q (.bl (!kvs.isEmpty)) H
theorem same0 {prog : Program} {w : World} {A : Around} {E : Value → Shared → Prop} {s : Shared} {nm : String} {a b : Addr} {oa ob : Obj} {es es' : Array DictEntry} {ep ep' : Nat} {Q : Bool → Shared → Prop} (ha : (a == sysModules) = false) (hb : (b == sysModules) = false)
    (hoa : s.heap.get? a = some oa) (hda : oa.data = .dict es ep) (hob : s.heap.get? b = some ob) (hdb : ob.data = .dict es' ep') (z : es'.size = 0) (h : Q (es.size == 0) s) :
    wpAny (model prog w) A (Builtin.Dict.samePairs nm a b) Q E s := by
  unfold Builtin.Dict.samePairs Builtin.Dict.showsAll
  rw [if_neg (show ¬ (a == sysModules) = true by rw [ha]; exact Bool.false_ne_true), if_neg (show ¬ (b == sysModules) = true by rw [hb]; exact Bool.false_ne_true)]
  refine wpAny_bind (wpAny_pure (wpAny_bind (wpAny_pure ?_)))
  refine wpAny_bind (wpAny_dictEntries hoa hda ?_)
  dsimp only
  refine wpAny_bind (wpAny_dictEntries hob hdb ?_)
  by_cases hsz : es.size = es'.size
  case neg =>
    rw [if_pos (by simpa using hsz)]
    have hbf : (es.size == 0) = false := by rw [z] at hsz; simpa using hsz
    rw [hbf] at h
    exact wpAny_bind (wpAny_rule (wpAny_pure h))
  case pos =>
    rw [if_neg (by rw [hsz]; simp)]
    rw [z] at hsz
    refine wpAny_bind (wpAny_dictEpoch hoa hda ?_)
    refine wpAny_bind ?_
    rw [Std.Legacy.Range.forIn_eq_forIn_range']
    simp only [Std.Legacy.Range.size, Nat.sub_zero, Nat.add_sub_cancel, Nat.div_one]
    rw [hsz] at h ⊢
    refine wpAny_pure ?_
    exact wpAny_pure h
theorem op_ne0 (hu : X.A.units < cLine) : OpR X (compareOp .NotEq) rNe0 := by
  intro pins s σ H x y v u Q I rx ry h
  obtain ⟨a, b, kvs, rfl, rfl, ea, eb, q⟩ := h
  obtain rfl : v = Value.ref a := rx
  obtain rfl : u = Value.ref b := ry
  obtain ⟨_, hs, ks, pr, o, es, ep, ho, hx, hdt, he, hn⟩ := (show ObjOk X.prog X.w H s.heap a (.dT kvs) from ea.ok I.hok)
  obtain ⟨_, hs', ks', pr', o', es', ep', ho', hx', hdt', he', hn'⟩ := (show ObjOk X.prog X.w H s.heap b (.dT []) from I.hok b _ eb)
  have l1 : es.size = kvs.length := (size_of_entries he).trans (Paired.length pr).symm
  have l2 : es'.size = 0 := (size_of_entries he').trans (Paired.length pr').symm
  have ta : s.TypeIs (.ref a) "dict" := ⟨o, ho, hx.1⟩
  have tb : s.TypeIs (.ref b) "dict" := ⟨o', ho', hx'.1⟩
  refine wpAny_richCompare_same_room (op := .NotEq) ta tb PySem.F.slot_dict_ne (wpAny_call_entry PySem.F.slot_dict_ne ta PySem.F.entry_dict_ne ?_ (PySem.F.args_dict_ne_2 _ _)) hu
  show wpAny _ _ (Builtin.Dict.dictSlotArgs "__ne__" ⟨[.ref a, .ref b], []⟩ >>= _) _ _ s
  refine wpAny_bind ?_
  unfold Builtin.Dict.dictSlotArgs
  refine wpAny_bind (wpAny_notOrdered_dict ta ?_)
  show wpAny _ _ (pure (Value.ref a, Value.ref b)) _ _ s
  refine wpAny_pure ?_
  refine wpAny_bind (wpAny_isInstance (T := "dict") tb PySem.F.sub_dict_dict ?_)
  simp only [Bool.not_true, Bool.false_eq_true, if_false]
  refine wpAny_bind (wpAny_pure (wpAny_bind (wpAny_pure ?_)))
  refine wpAny_bind (same0 hs hs' ho hdt ho' hdt' l2 ?_)
  refine wpAny_pure ⟨_, rfl, ?_, ?_⟩
  · exact fun x => nomatch x
  · refine ⟨.bl (!kvs.isEmpty), H, I, ?_, q⟩
    rw [l1]
    cases kvs <;> rfl
end
end AskG
/-! LinE: rows cleared one by one, each divided by its common divisor: the entries stay small, as many rows as the rank. -/
namespace Lin
/-- the fraction-free rows that stand behind: pivots (row, column), the latest first -/
def GD : List ((Nat → Int) × Nat) → ((Nat → Int) → (Nat → Int)) × Int
  | [] => (fun s => s, 1)
  | q :: ps => (fun s c => ((GD ps).1 q.1 q.2 * (GD ps).1 s c - (GD ps).1 s q.2 * (GD ps).1 q.1 c).fdiv (GD ps).2, (GD ps).1 q.1 q.2)
def cols (ps : List ((Nat → Int) × Nat)) : List Nat := ps.map (·.2)
def Good (L : List (Nat → Int)) : List ((Nat → Int) × Nat) → Prop
  | [] => True
  | q :: ps => Good L ps ∧ q.1 ∈ L ∧ q.2 ∉ cols ps ∧ (GD ps).1 q.1 q.2 ≠ 0
theorem fdiv_zero' (d : Int) : (0 : Int).fdiv d = 0 := Int.zero_fdiv d
theorem zero_G : ∀ {ps : List ((Nat → Int) × Nat)} {c : Nat}, c ∈ cols ps → ∀ s, (GD ps).1 s c = 0
  | [], c, h => absurd h (by simp [cols])
  | q :: ps, c, h => fun s => by
    show ((GD ps).1 q.1 q.2 * (GD ps).1 s c - (GD ps).1 s q.2 * (GD ps).1 q.1 c).fdiv (GD ps).2 = 0
    rcases List.mem_cons.mp h with rfl | h
    · rw [Int.mul_comm, Int.sub_self, fdiv_zero']
    · rw [zero_G h s, zero_G h q.1, Int.mul_zero, Int.mul_zero, Int.sub_self, fdiv_zero']
section
variable {L : List (Nat → Int)} {B : Nat}
theorem even_G (hB : 1 ≤ B) (hL : ∀ r ∈ L, ∀ c, (r c).natAbs ≤ B) : ∀ {ps : List ((Nat → Int) × Nat)}, Good L ps → Even (fb B) ps.length (L.map (GD ps).1) (fun c => c ∉ cols ps) (GD ps).2 ∧ (GD ps).2 ≠ 0
  | [], _ => by
    refine ⟨?_, by show (1 : Int) ≠ 0; decide⟩
    have e : L.map (GD []).1 = L := List.map_id L
    rw [e]
    exact even_one hL _
  | q :: ps, h => by
    obtain ⟨h1, hq, hc, hn⟩ := h
    obtain ⟨ev, d0⟩ := even_G hB hL h1
    refine ⟨?_, hn⟩
    refine Even.step (A := L.map (GD ps).1) (f := fun c => c ∉ cols ps) (d := (GD ps).2) (r := (GD ps).1 q.1) (p := q.2) (fun {n m} => fb_mono hB) d0 ev (List.mem_map_of_mem hq) hc hn (fun c z y => z (List.mem_cons_of_mem _ y)) fun t ht => .inr ?_
    obtain ⟨s, hs, rfl⟩ := List.mem_map.mp ht
    refine ⟨_, List.mem_map_of_mem hs, fun c hc' => ?_⟩
    obtain ⟨k, hk⟩ := ev.two (List.mem_map_of_mem hq) (List.mem_map_of_mem (f := (GD ps).1) hs) hc (c := c) (fun y => hc' (List.mem_cons_of_mem _ y))
    show (GD ps).2 * ((GD ps).1 q.1 q.2 * (GD ps).1 s c - (GD ps).1 s q.2 * (GD ps).1 q.1 c).fdiv (GD ps).2 = _
    rw [fdiv_exact d0 hk, hk]
/-- each division comes out even -/
theorem exact_G (hB : 1 ≤ B) (hL : ∀ r ∈ L, ∀ c, (r c).natAbs ≤ B) {ps : List ((Nat → Int) × Nat)} {q : (Nat → Int) × Nat} (h : Good L (q :: ps)) {s : Nat → Int} (hs : s ∈ L) (c : Nat) :
    (GD ps).2 * (GD (q :: ps)).1 s c = (GD ps).1 q.1 q.2 * (GD ps).1 s c - (GD ps).1 s q.2 * (GD ps).1 q.1 c := by
  obtain ⟨h1, hq, hc, hn⟩ := h
  obtain ⟨ev, d0⟩ := even_G hB hL h1
  show (GD ps).2 * ((GD ps).1 q.1 q.2 * (GD ps).1 s c - (GD ps).1 s q.2 * (GD ps).1 q.1 c).fdiv (GD ps).2 = _
  by_cases hc' : c ∈ cols ps
  · rw [zero_G hc' s, zero_G hc' q.1, Int.mul_zero, Int.mul_zero, Int.sub_self, fdiv_zero', Int.mul_zero]
  · obtain ⟨k, hk⟩ := ev.two (List.mem_map_of_mem hq) (List.mem_map_of_mem (f := (GD ps).1) hs) hc (c := c) hc'
    rw [fdiv_exact d0 hk, hk]
theorem small_G (hB : 1 ≤ B) (hL : ∀ r ∈ L, ∀ c, (r c).natAbs ≤ B) {ps : List ((Nat → Int) × Nat)} (h : Good L ps) {s : Nat → Int} (hs : s ∈ L) (c : Nat) : ((GD ps).1 s c).natAbs ≤ fb B (ps.length + 1) := by
  by_cases hc : c ∈ cols ps
  · rw [zero_G hc s]
    exact Nat.zero_le _
  · exact (even_G hB hL h).1.small (List.mem_map_of_mem hs) hc
end
/-- two rows on one line -/
def Pp (v u : Nat → Int) : Prop := ∃ α β : Int, α ≠ 0 ∧ β ≠ 0 ∧ ∀ c, α * v c = β * u c
theorem Pp.refl (v : Nat → Int) : Pp v v := ⟨1, 1, by decide, by decide, fun _ => rfl⟩
theorem Pp.zero {v u : Nat → Int} (h : Pp v u) {c : Nat} : v c = 0 ↔ u c = 0 := by
  obtain ⟨α, β, ha, hb, e⟩ := h
  have := e c
  constructor
  · intro z
    rw [z, Int.mul_zero] at this
    exact (Int.mul_eq_zero.mp this.symm).resolve_left hb
  · intro z
    rw [z, Int.mul_zero] at this
    exact (Int.mul_eq_zero.mp this).resolve_left ha
def Prim (v : Nat → Int) : Prop := ∀ e : Int, (∀ c, e ∣ v c) → e.natAbs = 1
theorem Pp.le {v u : Nat → Int} (h : Pp v u) (p : Prim v) (c : Nat) : (v c).natAbs ≤ (u c).natAbs := by
  obtain ⟨α, β, ha, hb, e⟩ := h
  have e' : ∀ c, α.natAbs * (v c).natAbs = β.natAbs * (u c).natAbs := fun c => by rw [← Int.natAbs_mul, ← Int.natAbs_mul, e c]
  have a0 : 0 < α.natAbs := Int.natAbs_pos.mpr ha
  have b0 : 0 < β.natAbs := Int.natAbs_pos.mpr hb
  generalize α.natAbs = a at e' a0
  generalize β.natAbs = b at e' b0
  have g0 : 0 < Nat.gcd a b := Nat.gcd_pos_of_pos_left b a0
  obtain ⟨a', ha'⟩ := Nat.gcd_dvd_left a b
  obtain ⟨b', hb'⟩ := Nat.gcd_dvd_right a b
  have cop : Nat.Coprime b' a' := by
    have : Nat.Coprime (b / Nat.gcd a b) (a / Nat.gcd a b) := (Nat.coprime_div_gcd_div_gcd g0).symm
    rwa [show b / Nat.gcd a b = b' from Nat.div_eq_of_eq_mul_right g0 hb', show a / Nat.gcd a b = a' from Nat.div_eq_of_eq_mul_right g0 ha'] at this
  have e2 : ∀ c, a' * (v c).natAbs = b' * (u c).natAbs := fun c => by
    refine Nat.eq_of_mul_eq_mul_left g0 ?_
    rw [← Nat.mul_assoc, ← Nat.mul_assoc, ← ha', ← hb']
    exact e' c
  have d : ∀ c, (b' : Int) ∣ v c := fun c => by
    have : b' ∣ a' * (v c).natAbs := ⟨_, e2 c⟩
    exact Int.natAbs_dvd_natAbs.mp (by rw [Int.natAbs_natCast]; exact cop.dvd_of_dvd_mul_left this)
  have b1 := p b' d
  have b1 : b' = 1 := by simpa using b1
  have := e2 c
  rw [b1, Nat.one_mul] at this
  rw [← this]
  refine Nat.le_mul_of_pos_left _ ?_
  rcases Nat.eq_zero_or_pos a' with z | z
  · rw [z, Nat.mul_zero] at ha'
    omega
  · exact z
section
variable {L : List (Nat → Int)} {B : Nat} {ps : List ((Nat → Int) × Nat)} {r s : Nat → Int} {p : Nat} {b m m' : Nat → Int}
theorem Pp.step (hB : 1 ≤ B) (hL : ∀ r ∈ L, ∀ c, (r c).natAbs ≤ B) (h : Good L ((r, p) :: ps)) (hs : s ∈ L) (hb : Pp b ((GD ps).1 r)) (hm : Pp m ((GD ps).1 s)) {g : Int} (hg : g ≠ 0) (e : ∀ c, g * m' c = m c * b p - b c * m p) : Pp m' ((GD ((r, p) :: ps)).1 s) := by
  have d0 := (even_G hB hL h.1).2
  obtain ⟨α, β, ha, hb', e1⟩ := hb
  obtain ⟨γ, δ, hc, hd, e2⟩ := hm
  refine ⟨α * γ * g, δ * β * (GD ps).2, Int.mul_ne_zero (Int.mul_ne_zero ha hc) hg, Int.mul_ne_zero (Int.mul_ne_zero hd hb') d0, fun c => ?_⟩
  have x := exact_G hB hL h hs c
  dsimp only at x
  rw [Int.mul_assoc (δ * β), x, Int.mul_assoc (α * γ), e c]
  have f1 := e1 p
  have f2 := e1 c
  have f3 := e2 p
  have f4 := e2 c
  generalize (GD ps).1 r p = R1 at *
  generalize (GD ps).1 r c = R2 at *
  generalize (GD ps).1 s p = S1 at *
  generalize (GD ps).1 s c = S2 at *
  have g1 : α * γ * (m c * b p) = (γ * m c) * (α * b p) := by ac_rfl
  have g2 : α * γ * (b c * m p) = (γ * m p) * (α * b c) := by ac_rfl
  have g3 : δ * β * (R1 * S2) = (δ * S2) * (β * R1) := by ac_rfl
  have g4 : δ * β * (S1 * R2) = (δ * S1) * (β * R2) := by ac_rfl
  rw [Int.mul_sub, Int.mul_sub, g1, g2, g3, g4, f1, f2, f3, f4]
theorem Pp.skip (hB : 1 ≤ B) (hL : ∀ r ∈ L, ∀ c, (r c).natAbs ≤ B) (h : Good L ((r, p) :: ps)) (hs : s ∈ L) (hm : Pp m ((GD ps).1 s)) (z : m p = 0) : Pp m ((GD ((r, p) :: ps)).1 s) := by
  have d0 := (even_G hB hL h.1).2
  have z2 := hm.zero.mp z
  obtain ⟨γ, δ, hc, hd, e2⟩ := hm
  refine ⟨(GD ps).1 r p * γ, δ * (GD ps).2, Int.mul_ne_zero h.2.2.2 hc, Int.mul_ne_zero hd d0, fun c => ?_⟩
  have x := exact_G hB hL h hs c
  dsimp only at x
  rw [Int.mul_assoc δ, x, z2, Int.zero_mul, Int.sub_zero, Int.mul_assoc, e2 c]
  ac_rfl
end
/-- the bases found so far, the oldest first, and the pivots behind them, the latest first -/
inductive Bs (L : List (Nat → Int)) : List (Nat × (Nat → Int)) → List ((Nat → Int) × Nat) → Prop
  | nil : Bs L [] []
  | snoc {bs : List (Nat × (Nat → Int))} {ps : List ((Nat → Int) × Nat)} {r b : Nat → Int} {p : Nat} (h : Bs L bs ps) (hr : r ∈ L) (hp : Pp b ((GD ps).1 r)) (hn : b p ≠ 0) (hz : ∀ x ∈ bs, b x.1 = 0) : Bs L (bs ++ [(p, b)]) ((r, p) :: ps)
theorem Bs.cols {L : List (Nat → Int)} {bs : List (Nat × (Nat → Int))} {ps : List ((Nat → Int) × Nat)} (h : Bs L bs ps) : ∀ c, c ∈ Lin.cols ps ↔ c ∈ bs.map (·.1) := by
  induction h with
  | nil => exact fun c => Iff.rfl
  | snoc _ _ _ _ _ ih =>
    intro c
    show c ∈ _ :: Lin.cols _ ↔ _
    rw [List.mem_cons, List.map_append, List.mem_append, ih c, List.map_cons, List.map_nil, List.mem_singleton]
    exact Or.comm
theorem Bs.len {L : List (Nat → Int)} {bs : List (Nat × (Nat → Int))} {ps : List ((Nat → Int) × Nat)} (h : Bs L bs ps) : ps.length = bs.length := by
  induction h with
  | nil => rfl
  | snoc _ _ _ _ _ ih => rw [List.length_append, List.length_cons, ih]; rfl
theorem Bs.good {L : List (Nat → Int)} {bs : List (Nat × (Nat → Int))} {ps : List ((Nat → Int) × Nat)} (h : Bs L bs ps) : Good L ps := by
  induction h with
  | nil => exact trivial
  | snoc h hr hp hn hz ih =>
    refine ⟨ih, hr, fun m => ?_, fun z => hn (hp.zero.mpr z)⟩
    obtain ⟨x, hx, e⟩ := List.mem_map.mp ((h.cols _).mp m)
    have e : x.1 = _ := e
    have := hz x hx
    rw [e] at this
    exact hn this
/-- the base at i -/
theorem Bs.at {L : List (Nat → Int)} {bs : List (Nat × (Nat → Int))} {ps : List ((Nat → Int) × Nat)} (h : Bs L bs ps) : ∀ {i : Nat} {p : Nat} {b : Nat → Int}, bs[i]? = some (p, b) →
    ∃ r, r ∈ L ∧ ps.drop (bs.length - (i + 1)) = (r, p) :: ps.drop (bs.length - i) ∧ Bs L (bs.take (i + 1)) (ps.drop (bs.length - (i + 1))) ∧ Pp b ((GD (ps.drop (bs.length - i))).1 r) ∧ b p ≠ 0 ∧ ∀ x ∈ bs.take i, b x.1 = 0 := by
  induction h with
  | nil => intro i p b e; cases e
  | @snoc bs ps r b p h hr hp hn hz ih =>
    intro i q v e
    have l := h.len
    by_cases hi : i < bs.length
    · rw [List.getElem?_append_left hi] at e
      obtain ⟨r', g1, g2, g3, g4, g5, g6⟩ := ih e
      have e1 : (bs ++ [(p, b)]).length - (i + 1) = bs.length - (i + 1) + 1 := by rw [List.length_append]; show _ + 1 - _ = _; omega
      have e2 : (bs ++ [(p, b)]).length - i = bs.length - i + 1 := by rw [List.length_append]; show _ + 1 - _ = _; omega
      rw [e1, e2, List.drop_succ_cons, List.drop_succ_cons, List.take_append_of_le_length (by omega), List.take_append_of_le_length (by omega)]
      exact ⟨r', g1, g2, g3, g4, g5, g6⟩
    · have il : i = bs.length := by
        have := (List.getElem?_eq_some_iff.mp e).1
        rw [List.length_append] at this
        have : i < bs.length + 1 := this
        omega
      subst il
      rw [List.getElem?_append_right (Nat.le_refl _), Nat.sub_self] at e
      cases e
      have e1 : (bs ++ [(p, b)]).length - (bs.length + 1) = 0 := by rw [List.length_append]; show _ + 1 - _ = _; omega
      have e2 : (bs ++ [(p, b)]).length - bs.length = 1 := by rw [List.length_append]; show _ + 1 - _ = _; omega
      rw [e1, e2, List.drop_zero, List.drop_succ_cons, List.drop_zero, List.take_of_length_le (by rw [List.length_append]; exact Nat.le_refl _), List.take_append_of_le_length (Nat.le_refl _), List.take_length]
      exact ⟨r, hr, rfl, .snoc h hr hp hn hz, hp, hn, hz⟩
/-- what remains of the line s behind the first i bases -/
structure Rst (L : List (Nat → Int)) (bs : List (Nat × (Nat → Int))) (ps : List ((Nat → Int) × Nat)) (s : Nat → Int) (i : Nat) (m : Nat → Int) : Prop where
  zero : ∀ x ∈ bs.take i, m x.1 = 0
  pp : Pp m ((GD (ps.drop (bs.length - i))).1 s)
  small : m = s ∨ Prim m ∨ ∀ c, m c = 0
  up : Dep (m :: bs.map (·.2)) s
  down : Dep (s :: bs.map (·.2)) m
section
variable {L : List (Nat → Int)} {B : Nat} {bs : List (Nat × (Nat → Int))} {ps : List ((Nat → Int) × Nat)} {s m m' b : Nat → Int} {i p : Nat}
theorem Rst.start (h : Bs L bs ps) : Rst L bs ps s 0 s where
  zero := fun x hx => by rw [List.take_zero] at hx; exact absurd hx (by simp)
  pp := by
    rw [Nat.sub_zero, ← h.len, List.drop_length]
    exact .refl s
  small := .inl rfl
  up := .mem List.mem_cons_self
  down := .mem List.mem_cons_self
theorem Rst.bound (hB : 1 ≤ B) (hL : ∀ r ∈ L, ∀ c, (r c).natAbs ≤ B) (h : Bs L bs ps) (hs : s ∈ L) (hr : Rst L bs ps s i m) (il : i ≤ bs.length) (gd : Good L (ps.drop (bs.length - i))) (c : Nat) : (m c).natAbs ≤ fb B (bs.length + 1) := by
  rcases hr.small with e | e | e
  · rw [e]
    refine Nat.le_trans (hL s hs c) ?_
    have : fb B 1 ≤ fb B (bs.length + 1) := fb_mono hB (by omega)
    have e1 : fb B 1 = B := by show (0 + 1) * (B * 1) = B; omega
    rw [e1] at this
    exact this
  · refine Nat.le_trans (hr.pp.le e c) (Nat.le_trans (small_G hB hL gd hs c) (fb_mono hB ?_))
    rw [List.length_drop, h.len]
    omega
  · rw [e c]
    exact Nat.zero_le _
theorem Bs.good_at (h : Bs L bs ps) (il : i ≤ bs.length) : Good L (ps.drop (bs.length - i)) := by
  cases i with
  | zero =>
    rw [Nat.sub_zero, ← h.len, List.drop_length]
    exact trivial
  | succ i =>
    obtain ⟨r, _, _, g, _⟩ := h.at (List.getElem?_eq_getElem (show i < bs.length by omega))
    exact g.good
theorem Rst.skip (hB : 1 ≤ B) (hL : ∀ r ∈ L, ∀ c, (r c).natAbs ≤ B) (h : Bs L bs ps) (hs : s ∈ L) (hr : Rst L bs ps s i m) (e : bs[i]? = some (p, b)) (z : m p = 0) : Rst L bs ps s (i + 1) m := by
  obtain ⟨r, g1, g2, g3, g4, g5, g6⟩ := h.at e
  refine ⟨fun x hx => ?_, ?_, hr.small, hr.up, hr.down⟩
  · rw [List.take_add_one, e] at hx
    rcases List.mem_append.mp hx with hx | hx
    · exact hr.zero x hx
    · rw [List.mem_singleton.mp hx]
      exact z
  · have gd := g3.good
    rw [g2] at gd ⊢
    exact hr.pp.skip hB hL gd hs z
theorem Rst.clr (hB : 1 ≤ B) (hL : ∀ r ∈ L, ∀ c, (r c).natAbs ≤ B) (h : Bs L bs ps) (hs : s ∈ L) (hr : Rst L bs ps s i m) (e : bs[i]? = some (p, b)) {g : Int} (hg : g ≠ 0) (he : ∀ c, g * m' c = m c * b p - b c * m p) (pr : Prim m' ∨ ∀ c, m' c = 0) : Rst L bs ps s (i + 1) m' := by
  obtain ⟨r, g1, g2, g3, g4, g5, g6⟩ := h.at e
  have mb : b ∈ bs.map (·.2) := List.mem_map.mpr ⟨_, List.mem_of_getElem? e, rfl⟩
  refine ⟨fun x hx => ?_, ?_, .inr pr, ?_, ?_⟩
  · have := he x.1
    rw [List.take_add_one, e] at hx
    rcases List.mem_append.mp hx with hx | hx
    · rw [hr.zero x hx, g6 x hx, Int.zero_mul, Int.zero_mul] at this
      exact (Int.mul_eq_zero.mp this).resolve_left hg
    · rw [List.mem_singleton.mp hx] at this ⊢
      dsimp only at this ⊢
      rw [Int.mul_comm (m p), Int.sub_self] at this
      exact (Int.mul_eq_zero.mp this).resolve_left hg
  · have gd := g3.good
    rw [g2] at gd ⊢
    exact Pp.step hB hL gd hs g4 hr.pp hg he
  · refine hr.up.trans fun t ht => ?_
    rcases List.mem_cons.mp ht with rfl | ht
    · refine ⟨b p, g5, (((Sp.mem (List.mem_cons_self (a := m') (l := bs.map (·.2)))).scale g).plus ((Sp.mem (List.mem_cons_of_mem m' mb)).scale (t p))).cast fun c => ?_⟩
      have := he c
      rw [this, Int.mul_comm (b p), Int.mul_comm (t p)]
      omega
    · exact .mem (List.mem_cons_of_mem _ ht)
  · have d1 : Dep (m :: bs.map (·.2)) m' := ⟨g, hg, (((Sp.mem (List.mem_cons_self (a := m) (l := bs.map (·.2)))).scale (b p)).plus ((Sp.mem (List.mem_cons_of_mem m mb)).scale (-(m p)))).cast fun c => by
      have := he c
      rw [this, Int.mul_comm (b p), Int.neg_mul, Int.mul_comm (m p)]
      omega⟩
    refine d1.trans fun t ht => ?_
    rcases List.mem_cons.mp ht with rfl | ht
    · exact hr.down
    · exact .mem (List.mem_cons_of_mem _ ht)
end
/-- the bases of lines: the span is the same -/
structure Bas (L S : List (Nat → Int)) (bs : List (Nat × (Nat → Int))) : Prop where
  has : ∃ ps, Bs L bs ps
  up : ∀ s ∈ S, Dep (bs.map (·.2)) s
  down : ∀ b ∈ bs.map (·.2), Dep S b
theorem Bas.nil (L : List (Nat → Int)) : Bas L [] [] := ⟨⟨_, .nil⟩, fun s m => absurd m (by simp), fun s m => absurd m (by simp)⟩
theorem dep_zero {ι : Type} {S : List (ι → Int)} {m s : ι → Int} (h : Dep (m :: S) s) (z : ∀ c, m c = 0) : Dep S s := h.trans fun t ht => by
  rcases List.mem_cons.mp ht with rfl | ht
  · exact ⟨1, by decide, Sp.zero.cast fun c => by rw [z c]; rfl⟩
  · exact .mem ht
theorem Bas.same {L S : List (Nat → Int)} {bs : List (Nat × (Nat → Int))} {ps : List ((Nat → Int) × Nat)} (h : Bas L S bs) {s m : Nat → Int} (hr : Rst L bs ps s bs.length m) (z : ∀ c, m c = 0) : Bas L (S ++ [s]) bs := by
  refine ⟨h.has, fun t ht => ?_, fun b hb => (h.down b hb).mono fun t ht => List.mem_append_left _ ht⟩
  rcases List.mem_append.mp ht with ht | ht
  · exact h.up t ht
  · rw [List.mem_singleton.mp ht]
    exact dep_zero hr.up z
theorem Bas.more {L S : List (Nat → Int)} {bs : List (Nat × (Nat → Int))} {ps : List ((Nat → Int) × Nat)} (h : Bas L S bs) (hb : Bs L bs ps) {s m : Nat → Int} {p : Nat} (hs : s ∈ L) (hr : Rst L bs ps s bs.length m) (n : m p ≠ 0) : Bas L (S ++ [s]) (bs ++ [(p, m)]) := by
  refine ⟨⟨(s, p) :: ps, .snoc hb hs ?_ n fun x hx => hr.zero x (by rw [List.take_length]; exact hx)⟩, fun t ht => ?_, fun b hb => ?_⟩
  · have := hr.pp
    rw [Nat.sub_self, List.drop_zero] at this
    exact this
  · rw [List.map_append]
    rcases List.mem_append.mp ht with ht | ht
    · exact (h.up t ht).mono fun t ht => List.mem_append_left _ ht
    · rw [List.mem_singleton.mp ht]
      refine hr.up.mono fun t ht => ?_
      rcases List.mem_cons.mp ht with rfl | ht
      · exact List.mem_append_right _ List.mem_cons_self
      · exact List.mem_append_left _ ht
  · rw [List.map_append] at hb
    rcases List.mem_append.mp hb with hb | hb
    · exact (h.down b hb).mono fun t ht => List.mem_append_left _ ht
    · have e : b = m := by simpa using hb
      rw [e]
      refine hr.down.trans fun t ht => ?_
      rcases List.mem_cons.mp ht with rfl | ht
      · exact .mem (List.mem_append_right _ List.mem_cons_self)
      · exact (h.down t ht).mono fun t ht => List.mem_append_left _ ht
theorem Bs.free {L : List (Nat → Int)} {bs : List (Nat × (Nat → Int))} {ps : List ((Nat → Int) × Nat)} (h : Bs L bs ps) : rank (bs.map (·.2)) = bs.length := by
  have e : rank (bs.map (·.2)) = rank (bs.map (·.2)).reverse := rank_perm (List.reverse_perm _).symm
  rw [e]
  have key : rk [] (bs.map (·.2)).reverse = (bs.map (·.2)).reverse.length := by
    refine rk_free fun i hi => ?_
    rw [List.length_reverse, List.length_map] at hi
    obtain ⟨r, _, _, _, _, g5, _⟩ := h.at (i := bs.length - 1 - i) (List.getElem?_eq_getElem (by omega))
    refine ⟨(bs[bs.length - 1 - i]'(by omega)).1, ?_, fun s m => absurd m (by simp), fun t ht => ?_⟩
    · rw [List.getElem_reverse, List.getElem_map]
      simp only [List.length_map]
      exact g5
    · obtain ⟨r', _, _, _, _, _, g6⟩ := h.at (i := bs.length - 1 - t) (List.getElem?_eq_getElem (by omega))
      rw [List.getElem_reverse, List.getElem_map]
      simp only [List.length_map]
      refine g6 _ ?_
      rw [List.mem_take_iff_getElem]
      exact ⟨bs.length - 1 - i, by omega, rfl⟩
  show rk [] _ = _
  rw [key, List.length_reverse, List.length_map]
theorem Bas.rank {L S : List (Nat → Int)} {bs : List (Nat × (Nat → Int))} (h : Bas L S bs) : Lin.rank S = bs.length := by
  obtain ⟨ps, hp⟩ := h.has
  rw [← hp.free]
  exact rank_eq h.up h.down
end Lin
/-! what clearing a row makes of it -/
namespace P37
open PySem PySem.Spec PyProof.Rows L2 AskG Ask
/-- the weight at z before the division -/
def clW (rest base : RowD) (c z : Cell) : Int := get0 rest z * get0 base c - get0 base z * get0 rest c
def gstep (g : Int) (x : Cell × Int) : Int := ((Int.gcd g x.2 : Nat) : Int)
def gcdR (m : RowD) : Int := m.foldl gstep 0
theorem gcdR_snoc (m : RowD) (x : Cell × Int) : gcdR (m ++ [x]) = ((Int.gcd (gcdR m) x.2 : Nat) : Int) := by
  unfold gcdR
  rw [List.foldl_append]
  rfl
theorem gfold_dvd : ∀ (m : RowD) (g : Int), m.foldl gstep g ∣ g ∧ ∀ x ∈ m, m.foldl gstep g ∣ x.2
  | [], g => ⟨⟨1, by rw [Int.mul_one]; rfl⟩, fun x hx => absurd hx (by simp)⟩
  | y :: m, g => by
    obtain ⟨h1, h2⟩ := gfold_dvd m (gstep g y)
    refine ⟨Int.dvd_trans h1 (Int.gcd_dvd_left ..), fun x hx => ?_⟩
    rcases List.mem_cons.mp hx with rfl | hx
    · exact Int.dvd_trans h1 (Int.gcd_dvd_right ..)
    · exact h2 x hx
theorem gfold_of : ∀ (m : RowD) (g e : Int), e ∣ g → (∀ x ∈ m, e ∣ x.2) → e ∣ m.foldl gstep g
  | [], g, e, h, _ => h
  | y :: m, g, e, h, k => gfold_of m _ e (Int.dvd_coe_gcd h (k y List.mem_cons_self)) fun x hx => k x (List.mem_cons_of_mem _ hx)
theorem gcdR_dvd {m : RowD} {x : Cell × Int} (h : x ∈ m) : gcdR m ∣ x.2 := (gfold_dvd m 0).2 x h
theorem gcdR_of {m : RowD} {e : Int} (h : ∀ x ∈ m, e ∣ x.2) : e ∣ gcdR m := gfold_of m 0 e (Int.dvd_zero e) h
theorem gcdR_nn (m : RowD) : 0 ≤ gcdR m := by
  have : ∀ (m : RowD) (g : Int), 0 ≤ g → 0 ≤ m.foldl gstep g := by
    intro m
    induction m with
    | nil => exact fun g h => h
    | cons y m ih => exact fun g _ => ih _ (Int.natCast_nonneg _)
  exact this m 0 (Int.le_refl _)
def divR (g : Int) (m : RowD) : RowD := m.map fun x => (x.1, x.2.fdiv g)
theorem divR_keys (g : Int) (m : RowD) : keys (divR g m) = keys m := by
  unfold divR keys
  rw [List.map_map]
  rfl
theorem fdiv_of {g x : Int} (g0 : g ≠ 0) (h : g ∣ x) : g * x.fdiv g = x := by
  obtain ⟨k, rfl⟩ := h
  rw [Lin.fdiv_exact g0 rfl]
theorem divR_get {g : Int} (g0 : g ≠ 0) : ∀ {m : RowD}, (∀ x ∈ m, g ∣ x.2) → ∀ z, g * get0 (divR g m) z = get0 m z
  | [], _, z => by
    show g * 0 = 0
    omega
  | x :: m, h, z => by
    show g * get0 ((x.1, x.2.fdiv g) :: divR g m) z = _
    rw [get0_cons, get0_cons]
    by_cases e : x.1 = z
    · rw [if_pos e, if_pos e]
      exact fdiv_of g0 (h x List.mem_cons_self)
    · rw [if_neg e, if_neg e]
      exact divR_get g0 (fun y hy => h y (List.mem_cons_of_mem _ hy)) z
/-- the entries that are not 0 -/
def nzs (rest base : RowD) (c : Cell) (ys : List Cell) : RowD := (ys.filter fun z => decide (clW rest base c z ≠ 0)).map fun z => (z, clW rest base c z)
theorem nzs_keys (rest base : RowD) (c : Cell) (ys : List Cell) : keys (nzs rest base c ys) = ys.filter fun z => decide (clW rest base c z ≠ 0) := by
  unfold nzs keys
  rw [List.map_map]
  exact List.map_id _
theorem nzs_mem {rest base : RowD} {c : Cell} {ys : List Cell} {x : Cell × Int} (h : x ∈ nzs rest base c ys) : x.1 ∈ ys ∧ x.2 = clW rest base c x.1 ∧ x.2 ≠ 0 := by
  obtain ⟨z, hz, rfl⟩ := List.mem_map.mp h
  obtain ⟨h1, h2⟩ := List.mem_filter.mp hz
  exact ⟨h1, rfl, of_decide_eq_true h2⟩
theorem nzs_get {rest base : RowD} {c : Cell} {ys : List Cell} (nd : ys.Nodup) (all : ∀ z, z ∈ keys rest ∨ z ∈ keys base → z ∈ ys) (z : Cell) : get0 (nzs rest base c ys) z = clW rest base c z := by
  by_cases e : clW rest base c z = 0
  · rw [e]
    refine get0_none fun m => ?_
    rw [nzs_keys] at m
    exact of_decide_eq_true (List.mem_filter.mp m).2 e
  · have hz : z ∈ ys := by
      refine Classical.byContradiction fun n => e ?_
      have n1 : z ∉ keys rest := fun m => n (all z (.inl m))
      have n2 : z ∉ keys base := fun m => n (all z (.inr m))
      unfold clW
      rw [get0_none n1, get0_none n2]
      omega
    refine get0_mem (m := nzs rest base c ys) (by rw [nzs_keys]; exact nd.filter _) (x := (z, clW rest base c z)) ?_
    exact List.mem_map.mpr ⟨z, List.mem_filter.mpr ⟨hz, decide_eq_true e⟩, rfl⟩
/-- a row without the cell c -/
structure Clr (rest base : RowD) (c : Cell) (m : RowD) : Prop where
  nd : (keys m).Nodup
  nz : ∀ x ∈ m, x.2 ≠ 0
  sub : ∀ z ∈ keys m, z ∈ keys rest ∨ z ∈ keys base
  eq : ∃ g : Int, g ≠ 0 ∧ ∀ z, g * get0 m z = get0 rest z * get0 base c - get0 base z * get0 rest c
  prim : ∀ e : Int, m ≠ [] → (∀ x ∈ m, e ∣ x.2) → e.natAbs = 1
theorem clr_of {rest base : RowD} {c : Cell} {ys : List Cell} (nd : ys.Nodup) (all : ∀ z, z ∈ ys ↔ z ∈ keys rest ∨ z ∈ keys base) : Clr rest base c (divR (gcdR (nzs rest base c ys)) (nzs rest base c ys)) := by
  obtain ⟨m, em⟩ : ∃ m, m = nzs rest base c ys := ⟨_, rfl⟩
  have get : ∀ z, get0 m z = clW rest base c z := fun z => by rw [em]; exact nzs_get nd (fun z h => (all z).mpr h) z
  have mem : ∀ x ∈ m, x.1 ∈ ys ∧ x.2 = clW rest base c x.1 ∧ x.2 ≠ 0 := fun x hx => by rw [em] at hx; exact nzs_mem hx
  have ks : keys m = ys.filter fun z => decide (clW rest base c z ≠ 0) := by rw [em]; exact nzs_keys ..
  rw [← em]
  by_cases z : m = []
  · rw [z]
    refine ⟨List.nodup_nil, fun x hx => absurd hx (by simp [divR]), fun x hx => absurd hx (by simp [divR, keys]), ⟨1, by decide, fun z' => ?_⟩, fun e ne => absurd rfl ne⟩
    have := get z'
    rw [z] at this
    show 1 * (0 : Int) = _
    rw [get0_nil] at this
    exact this
  · have g0 : gcdR m ≠ 0 := fun e => by
      obtain ⟨x, hx⟩ := List.exists_mem_of_ne_nil m z
      have := gcdR_dvd hx
      rw [e] at this
      exact (mem x hx).2.2 (Int.zero_dvd.mp this)
    refine ⟨by rw [divR_keys, ks]; exact nd.filter _, fun x hx e => ?_, fun z hz => ?_, ⟨gcdR m, g0, fun z => ?_⟩, fun e _ h => ?_⟩
    · obtain ⟨y, hy, rfl⟩ := List.mem_map.mp hx
      have := fdiv_of g0 (gcdR_dvd hy)
      rw [show y.2.fdiv (gcdR m) = 0 from e, Int.mul_zero] at this
      exact (mem y hy).2.2 this.symm
    · rw [divR_keys, ks] at hz
      exact (all z).mp (List.mem_filter.mp hz).1
    · rw [divR_get g0 (fun x hx => gcdR_dvd hx), get z]
      rfl
    · have : gcdR m * e ∣ gcdR m := gcdR_of fun x hx => by
        obtain ⟨k, hk⟩ := h (x.1, x.2.fdiv (gcdR m)) (List.mem_map.mpr ⟨x, hx, rfl⟩)
        refine ⟨k, ?_⟩
        rw [Int.mul_assoc, ← hk]
        exact (fdiv_of g0 (gcdR_dvd hx)).symm
      obtain ⟨k, hk⟩ := this
      have h1 : e * k = 1 := Int.eq_of_mul_eq_mul_left g0 (by rw [← Int.mul_assoc, ← hk, Int.mul_one])
      have h2 := congrArg Int.natAbs h1
      rw [Int.natAbs_mul] at h2
      exact Nat.eq_one_of_dvd_one ⟨_, h2.symm⟩
theorem putC_new {m : RowD} {c : Cell} (w : Int) (h : c ∉ keys m) : putC m c w = m ++ [(c, w)] := by
  unfold putC
  rw [if_neg fun z => h (mem_any.mp z)]
theorem putC_old {l r : RowD} {c : Cell} {v : Int} (w : Int) (hl : c ∉ keys l) (hr : c ∉ keys r) : putC (l ++ (c, v) :: r) c w = l ++ (c, w) :: r := by
  unfold putC
  rw [if_pos (mem_any.mpr (by unfold keys; rw [List.map_append]; exact List.mem_append_right _ List.mem_cons_self))]
  have id' : ∀ (q : RowD), c ∉ keys q → q.map (fun x => if x.1 = c then (x.1, w) else x) = q := fun q hq => by
    refine (List.map_congr_left fun x hx => ?_).trans (List.map_id q)
    rw [if_neg fun e => hq (List.mem_map.mpr ⟨x, hx, e⟩)]
    rfl
  rw [List.map_append, List.map_cons, id' l hl, id' r hr, if_pos rfl]
theorem gcd_step (x y : Int) : Int.gcd y (x % y) = Int.gcd x y := by
  rw [Int.gcd_comm y, Int.emod_def, Int.gcd_sub_mul_left_left]
end P37
/-! _law_gcd, _law_cleared -/
namespace P37
open PySem PySem.Spec PyProof.Rows L2 AskG Ask
abbrev sGcd : Stmt := topS 42
abbrev sLCl : Stmt := topS 43
abbrev NLCl : List Str := ["_law_rest", "_law_base", "_law_cell", "_law_up", "_law_down", "_law_found", "_law_common", "_law_spot", "_law_weight"]
theorem scGcd : FnScope ["_law_one", "_law_other"] ["_law_one", "_law_other"] (defScope sGcd) := ⟨rfl, rfl, rfl, by decide +kernel, rfl, by decide +kernel, by decide +kernel⟩
theorem scLCl : FnScope NLCl ["_law_rest", "_law_base", "_law_cell"] (defScope sLCl) := ⟨rfl, rfl, rfl, by decide +kernel, rfl, by decide +kernel, by decide +kernel⟩
section
variable {P : Program} {w : World} {K : PySem.W.Frag} {mg : Str → Option Value} {base : Heap}
variable {fG : Addr} {fdG : FuncData}
def prGcd : Pr := fun vs H Q => ∃ n m : Int, vs = [.int n, .int m] ∧ Q (.int ((Int.gcd n m : Nat) : Int)) H
theorem gcd_abs2 (n m : Int) : Int.gcd (if n < 0 then -n else n) (if m < 0 then -m else m) = Int.gcd n m := by
  split <;> split <;> simp only [Int.gcd_neg, Int.neg_gcd]
theorem ok_gcd {f : Addr} {fd : FuncData} {k : Nat} (F : Fun K "_law_gcd" "_law_gcd" sGcd f fd) (mb : mg "abs" = none) : FnG P w K mg base (k + 1) f fd ["_law_one", "_law_other"] prGcd := by
  refine okG F scGcd (fun vs H Q h => ?_) (fun cdv A outer s H vs Q hr h => ?_)
  · obtain ⟨_, _, rfl, _⟩ := h
    rfl
  · obtain ⟨n, m, rfl, q⟩ := h
    refine ⟨_, pss_cons (ps_par (by rfl) scGcd.nd (i := 0) (j := 1) rfl rfl (by decide) rfl rfl (pa_cons (pe_callB call_abs (by rfl) mb (by decide +kernel) (pa_cons (pv 0) pa_nil)) (pa_cons (pe_callB call_abs (by rfl) mb (by decide +kernel) (pa_cons (pv 1) pa_nil)) pa_nil)) (by rfl))
      (pss_cons (ps_while PassesOwn.never (pt_cmpR op_gt (pv 1) pe_int (nomark _)) (pss_one (ps_par (by rfl) scGcd.nd (i := 0) (j := 1) rfl rfl (by decide) rfl rfl (pa_cons (pv 1) (pa_cons (pe_op op_mod (pv 0) (pv 1)) pa_nil)) (by rfl))))
      (pss_one (ps_ret (pv 0)))), ?_⟩
    refine iSeq ⟨.int n, rfl, n, rfl, .int m, rfl, m, rfl, _, _, rfl, ?_⟩
    try dsimp only
    refine iSeq ?_
    refine ⟨fun j σ' H' => ∃ x y : Int, σ' = [some (.int x), some (.int y)] ∧ 0 ≤ x ∧ 0 ≤ y ∧ y.natAbs = j ∧ Int.gcd x y = Int.gcd n m ∧ H' = H, ⟨_, _, _, rfl, by split <;> omega, by split <;> omega, rfl, gcd_abs2 n m, rfl⟩, ?_⟩
    rintro j σ' H' ⟨x, y, rfl, hx, hy, rfl, hg, rfl⟩
    refine ⟨.int y, rfl, _, _, rfl, rfl, _, rfl, ?_⟩
    by_cases e : y > 0
    · rw [decide_eq_true e]
      refine iteT ⟨fun σ2 H2 => ∃ x2 y2 : Int, σ2 = [some (.int x2), some (.int y2)] ∧ 0 ≤ x2 ∧ 0 ≤ y2 ∧ y2.natAbs < y.natAbs ∧ Int.gcd x2 y2 = Int.gcd n m ∧ H2 = H', fun σ2 H2 h => ?_, ?_⟩
      · obtain ⟨x2, y2, h1, h2, h3, h4, h5, h6⟩ := h
        exact ⟨y2.natAbs, h4, x2, y2, h1, h2, h3, rfl, h5, h6⟩
      · have y0 : 0 < y := by omega
        refine ⟨.int y, rfl, .int x, rfl, .int y, rfl, x, y, rfl, rfl, y0, _, _, rfl, ?_⟩
        have l1 := Int.emod_nonneg x (show y ≠ 0 by omega)
        have l2 := Int.emod_lt_of_pos x y0
        exact ⟨y, x % y, rfl, hy, l1, by omega, (gcd_step x y).trans hg, rfl⟩
    · rw [decide_eq_false e]
      have e0 : y = 0 := by omega
      subst e0
      refine iteF ?_
      refine ⟨.int x, rfl, ?_⟩
      rw [Int.gcd_zero_right] at hg
      rw [← hg, show ((x.natAbs : Nat) : Int) = x by omega] at q
      exact q
end
end P37
/-! _law_cleared -/
namespace P37
open PySem PySem.Spec PyProof.Rows L2 AskG Ask
theorem getO_in {m : RowD} {c : Cell} (h : c ∈ keys m) : getO m c = some (get0 m c) := by
  unfold get0
  cases e : getO m c with
  | some v => rfl
  | none =>
    exfalso
    unfold getO at e
    have e := Option.map_eq_none_iff.mp e
    obtain ⟨x, hx, ex⟩ := List.mem_map.mp h
    exact List.find?_eq_none.mp e x hx (decide_eq_true ex)
theorem get0_opt (m : RowD) (c : Cell) : ((getO m c).map V.int).getD (.int 0) = .int (get0 m c) := by
  unfold get0
  cases getO m c <;> rfl
theorem keys_of {H : Hp} : ∀ {m : RowD} {bs : List Addr}, IsKeys H (dk m) bs → Paired (AskG.CellAt H) bs (keys m)
  | [], _, h => by
    cases h
    exact .nil
  | x :: m, _, h => by
    cases h with
    | cons h1 t => exact .cons h1 (keys_of t)
theorem cells_at {H : Hp} : ∀ {bs : List Addr} {cs : List Cell}, Paired (AskG.CellAt H) bs cs → CellsAt H (bs.zip (cs.map cellK)) ∧ (bs.zip (cs.map cellK)).map (fun p => V.ref p.1) = bs.map V.ref ∧ (bs.zip (cs.map cellK)).map Prod.snd = cs.map cellK
  | _, _, .nil => ⟨fun p hp => absurd hp (by simp), rfl, rfl⟩
  | _, _, .cons h t => by
    obtain ⟨h1, h2, h3⟩ := cells_at t
    refine ⟨fun p hp => ?_, ?_, ?_⟩
    · rcases List.mem_cons.mp hp with rfl | hp
      · exact ⟨_, rfl, h⟩
      · exact h1 p hp
    · exact congrArg (_ :: ·) h2
    · exact congrArg (_ :: ·) h3
theorem wide_clW {rest base : RowD} (hr : ∀ z, (get0 rest z).natAbs < 2 ^ 4000) (hb : ∀ z, (get0 base z).natAbs < 2 ^ 4000) (c z : Cell) : (clW rest base c z).natAbs < 2 ^ 8001 := by
  have h1 : (get0 rest z * get0 base c).natAbs < 2 ^ 8000 := by
    rw [Int.natAbs_mul]
    calc _ < 2 ^ 4000 * 2 ^ 4000 := Nat.mul_lt_mul'' (hr z) (hb c)
      _ = 2 ^ 8000 := by rw [← Nat.pow_add]
  have h2 : (get0 base z * get0 rest c).natAbs < 2 ^ 8000 := by
    rw [Int.natAbs_mul]
    calc _ < 2 ^ 4000 * 2 ^ 4000 := Nat.mul_lt_mul'' (hb z) (hr c)
      _ = 2 ^ 8000 := by rw [← Nat.pow_add]
  have e : (2 : Nat) ^ 8001 = 2 ^ 8000 * 2 := Nat.pow_succ 2 8000
  rw [e]
  unfold clW
  generalize (2 : Nat) ^ 8000 = B at h1 h2 ⊢
  omega
theorem nzs_snoc (rest base : RowD) (c : Cell) (ys : List Cell) (z : Cell) : nzs rest base c (ys ++ [z]) = if clW rest base c z = 0 then nzs rest base c ys else nzs rest base c ys ++ [(z, clW rest base c z)] := by
  unfold nzs
  rw [List.filter_append, List.map_append]
  by_cases e : clW rest base c z = 0
  · rw [if_pos e, List.filter_cons_of_neg (by simp [e])]
    exact List.append_nil _
  · rw [if_neg e, List.filter_cons_of_pos (by simp [e])]
    rfl
section
variable {P : Program} {w : World} {K : PySem.W.Frag} {mg : Str → Option Value} {base : Heap}
variable {fG : Addr} {fdG : FuncData}
def prLCl : Pr := fun vs H Q => ∃ (r b p : Addr) (rest bs : RowD) (c : Cell), vs = [.ref r, .ref b, .ref p] ∧ H r = some (.dT (dk rest)) ∧ H b = some (.dT (dk bs)) ∧ AskG.CellAt H p c ∧ rest.length ≤ 20 ∧ bs.length ≤ 20 ∧
  (∀ z, (get0 rest z).natAbs < 2 ^ 4000) ∧ (∀ z, (get0 bs z).natAbs < 2 ^ 4000) ∧ c ∈ keys rest ∧ c ∈ keys bs ∧ ∀ H' D m, Same H H' → H D = none → H' D = some (.dT (dk m)) → Clr rest bs c m → Q (.ref D) H'
theorem ok_lcl {f : Addr} {fd : FuncData} {k : Nat} (F : Fun K "_law_cleared" "_law_cleared" sLCl f fd)
    (FG : Fun K "_law_gcd" "_law_gcd" sGcd fG fdG) (bG : Binds K fdG ["_law_one", "_law_other"] []) (gG : mg "_law_gcd" = some (.ref fG)) (GG : FnG P w K mg base (k + 1) fG fdG ["_law_one", "_law_other"] prGcd)
    (ms : mg "sorted" = none) (mst : mg "set" = none) (ml : mg "list" = none) : FnG P w K mg base (k + 2) f fd ["_law_rest", "_law_base", "_law_cell"] prLCl := by
  refine okG F scLCl (fun vs H Q h => ?_) (fun cdv A outer s H vs Q hr h => ?_)
  · obtain ⟨_, _, _, _, _, _, rfl, _⟩ := h
    rfl
  · obtain ⟨r, b, p, rest, bs, c, rfl, hr0, hb0, hp0, lr, lb, wr, wb, cr, cb, q⟩ := h
    have big := sizeBig
    have hu := hu_of hr.room
    have hun := hr.room.units
    have hu12 : (A.deeper (envOfC "_law_cleared" (defScope sLCl) s.heap.objs.size f cdv)).units + 12 < cLine := by omega
    refine ⟨_, pss_cons (ps_asg (pe_tup (pa_cons (pe_dget hu (pv 1) (pv 2) (fun _ _ => rfl)) (pa_cons (pe_dget hu (pv 0) (pv 2) (fun _ _ => rfl)) (pa_cons pe_dnewT (pa_cons pe_int pa_nil))))) (pg_tup (by rfl) (pgs_cons (pg_name (i := 3) scLCl.nd rfl (.inl rfl)) (pgs_cons (pg_name (i := 4) scLCl.nd rfl (.inl rfl)) (pgs_cons (pg_name (i := 5) scLCl.nd rfl (.inl rfl)) (pgs_cons (pg_name (i := 6) scLCl.nd rfl (.inl rfl)) pgs_nil))))))
      (pss_cons (ps_for PassesOwn.never rfl (pi_list (pe_callB (cr_sortSC rfl) (by rfl) ms (by decide +kernel) (pa_cons (pe_callTy (cr_setLK rfl hu12) (by rfl) mst (by decide +kernel) (pa_cons (pe_op op_cat (pe_callTy (call_list_dT rfl) (by rfl) ml (by decide +kernel) (pa_cons (pv 0) pa_nil)) (pe_callTy (call_list_dT rfl) (by rfl) ml (by decide +kernel) (pa_cons (pv 1) pa_nil))) pa_nil)) pa_nil))) (pg_name (i := 7) scLCl.nd rfl (.inl rfl))
        (pss_cons (ps_set (i := 8) scLCl.nd rfl (.inl rfl) (pe_op op_sub (pe_op op_mulW (pe_dget2 hu (pv 0) (pv 7) pe_int ⟨rfl, rfl, rfl, rfl⟩) (pv 3)) (pe_op op_mulW (pe_dget2 hu (pv 1) (pv 7) pe_int ⟨rfl, rfl, rfl, rfl⟩) (pv 4))))
        (pss_one (ps_if (pt_cmpR op_ne (pv 8) pe_int (nomark _)) (pss_cons (ps_dput hu (pv 5) (pv 7) (pv 8) rfl) (pss_one (ps_set (i := 6) scLCl.nd rfl (.inl rfl) (pe_g GG hr (by rfl) gG FG.kp bG .nil (pa_cons (pv 6) (pa_cons (pv 8) pa_nil)))))) pss_nil))))
      (pss_cons (ps_for PassesOwn.never rfl (pi_list (pe_callTy (call_list_dT rfl) (by rfl) ml (by decide +kernel) (pa_cons (pv 5) pa_nil))) (pg_name (i := 7) scLCl.nd rfl (.inl rfl))
        (pss_one (ps_dput hu (pv 5) (pv 7) (pe_op op_fdivX (pe_dget hu (pv 5) (pv 7) (fun _ _ => rfl)) (pv 6)) rfl)))
      (pss_one (ps_ret (pv 5))))), ?_⟩
    have gb := dget_of hb0 hp0
    have gr := dget_of hr0 hp0
    rw [getO_in cb] at gb
    rw [getO_in cr] at gr
    refine iSeq (iAsg ⟨.ref b, rfl, .ref p, rfl, b, _, rfl, gb, .ref r, rfl, .ref p, rfl, r, _, rfl, gr, fun D hD => ?_⟩)
    have u1 := same_new (o := .dT []) hD
    refine ⟨by show 4 ≤ sizeLine; omega, fun tp htp => ?_⟩
    have u2 := same_new (o := .tup [.int (get0 bs c), .int (get0 rest c), .ref D, .int 0]) htp
    refine ⟨tp, _, rfl, sqT upd_same, rfl, .int (get0 bs c), _, rfl, .int (get0 rest c), _, rfl, .ref D, _, rfl, .int 0, _, rfl, rfl, ?_⟩
    dsimp only
    have s2 := u1.trans u2
    have hD2 := u2 _ _ (upd_same (H := H) (a := D) (o := .dT []))
    clear u1 u2 htp
    generalize upd (upd H D (.dT [])) tp (.tup [.int (get0 bs c), .int (get0 rest c), .ref D, .int 0]) = H2 at s2 hD2
    have hr2 := s2 _ _ hr0
    have hb2 := s2 _ _ hb0
    have nrD : r ≠ D := ne_of_none hr0 hD
    have nbD : b ≠ D := ne_of_none hb0 hD
    refine iSeq ⟨.ref r, rfl, r, _, rfl, .inl hr2, fun p1 b1 hp1 hk1 => ?_⟩
    have v1 := same_new (o := .lst (b1.map V.ref)) hp1
    have k1 := keys_of hk1
    refine ⟨.ref b, rfl, b, _, rfl, .inl (v1 _ _ hb2), fun p2 b2 hp2 hk2 => ?_⟩
    have v2 := same_new (o := .lst (b2.map V.ref)) hp2
    have k2 := keys_of hk2
    have k1' : Paired (AskG.CellAt _) b1 (keys rest) := Paired.mapP k1 fun _ _ z => v1 _ _ z
    refine ⟨p1, p2, _, _, rfl, rfl, v2 _ _ upd_same, upd_same, ?_, fun p3 hp3 => ?_⟩
    · have e1 := Paired.length k1
      have e2 := Paired.length k2
      unfold keys at e1 e2
      rw [List.length_map] at e1 e2
      rw [List.length_map, List.length_map]
      omega
    have v3 := same_new (o := .lst (b1.map V.ref ++ b2.map V.ref)) hp3
    have kk : Paired (AskG.CellAt _) (b1 ++ b2) (keys rest ++ keys bs) := paired_app (Paired.mapP k1' fun _ _ z => v3 _ _ (v2 _ _ z)) (Paired.mapP k2 fun _ _ z => v3 _ _ (v2 _ _ z))
    obtain ⟨c1, c2, c3⟩ := cells_at kk
    have hp3' := upd_same (H := upd (upd H2 p1 (.lst (b1.map V.ref))) p2 (.lst (b2.map V.ref))) (a := p3) (o := .lst (b1.map V.ref ++ b2.map V.ref))
    have s3 := (s2.trans v1).trans (v2.trans v3)
    have w3 := v1.trans (v2.trans v3)
    clear v1 v2 v3 k1 k2 k1' hk1 hk2
    generalize upd (upd (upd H2 p1 (.lst (b1.map V.ref))) p2 (.lst (b2.map V.ref))) p3 (.lst (b1.map V.ref ++ b2.map V.ref)) = H3 at s3 w3 hp3' kk c1
    have ks := congrArg List.length c3
    rw [List.length_map, List.length_map, List.length_append] at ks
    have kl1 : (keys rest).length = rest.length := List.length_map _
    have kl2 : (keys bs).length = bs.length := List.length_map _
    refine ⟨p3, (b1 ++ b2).zip ((keys rest ++ keys bs).map cellK), rfl, by rw [c2, List.map_append]; exact sqL hp3', c1.keys, by omega, fun sA L hsA memL subL => ?_⟩
    have v4 := same_new (o := SetKO (cxOf CX0 P w K mg base NLCl (Str.ofString "_law_cleared") (defScope sLCl) f cdv A outer s H E0).w sA L) hsA
    refine ⟨sA, L, rfl, upd_same, fun x hx => ?_, fun ys bs' p5 memy leny srt hys hp5 => ?_⟩
    · obtain ⟨c', e1, e2⟩ := c1 x (subL x hx)
      exact ⟨c', e1, v4 _ _ e2⟩
    have v5 := same_new (o := .lst (bs'.map V.ref)) hp5
    have hp5' := upd_same (H := upd H3 sA (SetKO (cxOf CX0 P w K mg base NLCl (Str.ofString "_law_cleared") (defScope sLCl) f cdv A outer s H E0).w sA L)) (a := p5) (o := .lst (bs'.map V.ref))
    have hys5 : Paired (AskG.CellAt _) bs' ys := Paired.mapP hys fun _ _ z => v5 _ _ z
    have s5 := s3.trans (v4.trans v5)
    have w5 := w3.trans (v4.trans v5)
    clear v4 v5 hys
    generalize upd (upd H3 sA (SetKO (cxOf CX0 P w K mg base NLCl (Str.ofString "_law_cleared") (defScope sLCl) f cdv A outer s H E0).w sA L)) p5 (.lst (bs'.map V.ref)) = H5 at s5 w5 hp5' hys5
    have all : ∀ z, z ∈ ys ↔ z ∈ keys rest ∨ z ∈ keys bs := fun z => by
      rw [memy z, memL, c3, List.mem_map]
      constructor
      · rintro ⟨z', hz', e⟩
        rw [← cellK_inj e]
        exact List.mem_append.mp hz'
      · exact fun h => ⟨z, List.mem_append.mpr h, rfl⟩
    have nd : ys.Nodup := srt.imp fun h e => by
      rw [e, ltC_irr] at h
      cases h
    have yl : ys.length ≤ 40 := by
      have := Lin.nodup_few nd (U := keys rest ++ keys bs) fun z hz => List.mem_append.mpr ((all z).mp hz)
      rw [List.length_append] at this
      omega
    have bl := Paired.length hys5
    have hD5 := w5 _ _ hD2
    have hr5 := s5 _ _ hr0
    have hb5 := s5 _ _ hb0
    have np5 : p5 ≠ D := ne_of hp5' hD5 fun z => nomatch z
    refine ⟨p5, rfl, ⟨_, sqL hp5'⟩, ?_⟩
    refine for_list (xs := bs'.map V.ref) (fun i σ' H' => (∃ x7 x8, σ' = [some (.ref r), some (.ref b), some (.ref p), some (.int (get0 bs c)), some (.int (get0 rest c)), some (.ref D), some (.int (gcdR (nzs rest bs c (ys.take i)))), x7, x8]) ∧ KeepX D H5 H' ∧ H' D = some (.dT (dk (nzs rest bs c (ys.take i)))))
      ⟨⟨_, _, rfl⟩, fun _ _ _ e => e, hD5⟩ (fun i σ' H' _ h => sqL (h.2.1 _ _ np5 hp5')) (fun i x σ' H' hx h => ?_) (fun σ' H6 h => ?_)
    · obtain ⟨⟨x7, x8, rfl⟩, kx, hDi⟩ := h
      rw [List.getElem?_map] at hx
      obtain ⟨bi, hbi, rfl⟩ := Option.map_eq_some_iff.mp hx
      obtain ⟨z, hz, hcell⟩ := paired_at' hys5 hbi
      have hcell' : AskG.CellAt H' bi z := hcell.keep (kx.tup hD5)
      have hr' := kx _ _ nrD hr5
      have hb' := kx _ _ nbD hb5
      have tk : ys.take (i + 1) = ys.take i ++ [z] := by
        rw [List.take_add_one, hz]
        rfl
      have il : i < ys.length := (List.getElem?_eq_some_iff.mp hz).1
      refine iName ?_
      dsimp only
      refine iSeq (iAsg ⟨.ref r, rfl, r, rfl, .inr ⟨_, .inl hr'⟩, .ref bi, rfl, _, dget_of hr' hcell', ?_⟩)
      rw [get0_opt]
      refine ⟨.int (get0 bs c), rfl, _, _, rfl, rfl, wide_mul (wr z) (wb c) (by decide) (by decide) (by decide), .ref b, rfl, b, rfl, .inr ⟨_, .inl hb'⟩, .ref bi, rfl, _, dget_of hb' hcell', ?_⟩
      rw [get0_opt]
      refine ⟨.int (get0 rest c), rfl, _, _, rfl, rfl, wide_mul (wb z) (wr c) (by decide) (by decide) (by decide), _, _, rfl, rfl, iName ?_⟩
      obtain ⟨W, eW⟩ : ∃ W, W = clW rest bs c z := ⟨_, rfl⟩
      dsimp only
      rw [show get0 rest z * get0 bs c - get0 bs z * get0 rest c = W from eW.symm]
      rw [tk, nzs_snoc, ← eW]
      refine iIfS ⟨.int W, rfl, rfl, _, rfl, ?_⟩
      by_cases z0 : W = 0
      · rw [if_pos z0, z0, decide_eq_true rfl]
        exact iteF ⟨⟨_, _, rfl⟩, kx, hDi⟩
      · rw [if_neg z0, decide_eq_false fun e => z0 (V.int.inj e)]
        have nk : z ∉ keys (nzs rest bs c (ys.take i)) := fun m => by
          rw [nzs_keys] at m
          have m1 := (List.mem_filter.mp m).1
          rw [← List.take_append_drop i ys, List.nodup_append] at nd
          refine nd.2.2 z m1 z ?_ rfl
          rw [List.mem_drop_iff_getElem]
          obtain ⟨h1, h2⟩ := List.getElem?_eq_some_iff.mp hz
          exact ⟨0, by omega, by simpa using h2⟩
        have ml : (nzs rest bs c (ys.take i)).length ≤ 40 := by
          unfold nzs
          rw [List.length_map]
          refine Nat.le_trans (List.length_filter_le _ _) ?_
          rw [List.length_take]
          omega
        refine iteT (iSeq ⟨.int W, rfl, .ref D, rfl, .ref bi, rfl, D, _, rfl, DPut.t (k := ck z) hDi (by rw [ck_kV]; exact hcell') (by rw [dk_length]; omega), ?_⟩)
        try dsimp only
        rw [dk_put, putC_new W nk]
        refine iAsg ⟨.int (gcdR (nzs rest bs c (ys.take i))), rfl, .int W, rfl, _, _, rfl, iName ?_⟩
        dsimp only
        refine ⟨⟨_, _, by rw [gcdR_snoc]; rfl⟩, fun a o n e => ?_, upd_same⟩
        rw [upd_ne n]
        exact kx _ _ n e
    · obtain ⟨⟨x7, x8, rfl⟩, kx, hD6⟩ := h
      rw [List.length_map, bl, List.take_length] at hD6 ⊢
      obtain ⟨m, em⟩ : ∃ m, m = nzs rest bs c ys := ⟨_, rfl⟩
      have cl := clr_of (rest := rest) (base := bs) (c := c) nd all
      have wm : ∀ x ∈ m, x.2.natAbs < 2 ^ 8001 ∧ x.2 ≠ 0 := fun x hx => by
        rw [em] at hx
        obtain ⟨_, e1, e2⟩ := nzs_mem hx
        exact ⟨by rw [e1]; exact wide_clW wr wb c x.1, e2⟩
      have nm : (keys m).Nodup := by
        rw [em, nzs_keys]
        exact nd.filter _
      have ml : m.length ≤ 40 := by
        rw [em]
        unfold nzs
        rw [List.length_map]
        exact Nat.le_trans (List.length_filter_le _ _) yl
      rw [← em] at hD6 cl ⊢
      dsimp only
      refine iSeq ⟨.ref D, rfl, D, _, rfl, .inl hD6, fun p7 b7 hp7 hk7 => ?_⟩
      have v7 := same_new (o := .lst (b7.map V.ref)) hp7
      have k7 : Paired (AskG.CellAt _) b7 (keys m) := Paired.mapP (keys_of hk7) fun _ _ z => v7 _ _ z
      have hp7' := upd_same (H := H6) (a := p7) (o := .lst (b7.map V.ref))
      have hD7 := v7 _ _ hD6
      generalize upd H6 p7 (.lst (b7.map V.ref)) = H7 at v7 k7 hp7' hD7
      have np7 : p7 ≠ D := ne_of hp7' hD7 fun z => nomatch z
      have bl7 := Paired.length k7
      refine ⟨p7, rfl, ⟨_, sqL hp7'⟩, ?_⟩
      refine for_list (xs := b7.map V.ref) (fun i σ' H' => (∃ x7, σ' = [some (.ref r), some (.ref b), some (.ref p), some (.int (get0 bs c)), some (.int (get0 rest c)), some (.ref D), some (.int (gcdR m)), x7, x8]) ∧ KeepX D H7 H' ∧ H' D = some (.dT (dk (divR (gcdR m) (m.take i) ++ m.drop i))))
        ⟨⟨_, rfl⟩, fun _ _ _ e => e, hD7⟩ (fun i σ' H' _ h => sqL (h.2.1 _ _ np7 hp7')) (fun i x σ' H' hx h => ?_) (fun σ' H8 h => ?_)
      · obtain ⟨⟨x7, rfl⟩, kx7, hDi⟩ := h
        rw [List.getElem?_map] at hx
        obtain ⟨bi, hbi, rfl⟩ := Option.map_eq_some_iff.mp hx
        obtain ⟨z, hz, hcell⟩ := paired_at' k7 hbi
        have hcell' : AskG.CellAt H' bi z := hcell.keep (kx7.tup hD7)
        unfold keys at hz
        rw [List.getElem?_map] at hz
        obtain ⟨y, hy, rfl⟩ := Option.map_eq_some_iff.mp hz
        have il : i < m.length := (List.getElem?_eq_some_iff.mp hy).1
        have dr : m.drop i = y :: m.drop (i + 1) := by
          rw [List.drop_eq_getElem_cons il]
          obtain ⟨_, e⟩ := List.getElem?_eq_some_iff.mp hy
          rw [e]
        have spl : keys m = keys (m.take i) ++ y.1 :: keys (m.drop (i + 1)) := by
          have e : m = m.take i ++ y :: m.drop (i + 1) := by rw [← dr, List.take_append_drop]
          have e2 := congrArg keys e
          rw [e2]
          unfold keys
          rw [List.map_append, List.map_cons]
        rw [spl] at nm
        obtain ⟨_, n2, n3⟩ := List.nodup_append.mp nm
        have nl : y.1 ∉ keys (divR (gcdR m) (m.take i)) := fun h => by
          rw [divR_keys] at h
          exact n3 _ h _ List.mem_cons_self rfl
        have nr : y.1 ∉ keys (m.drop (i + 1)) := (List.nodup_cons.mp n2).1
        have g0 : gcdR m ≠ 0 := fun e => by
          have := gcdR_dvd (List.mem_of_getElem? hy)
          rw [e] at this
          exact (wm y (List.mem_of_getElem? hy)).2 (Int.zero_dvd.mp this)
        have gl : (gcdR m).natAbs.log2 < 9000 := by
          have d := Int.natAbs_dvd_natAbs.mpr (gcdR_dvd (List.mem_of_getElem? hy))
          obtain ⟨w1, w2⟩ := wm y (List.mem_of_getElem? hy)
          have le := Nat.le_of_dvd (Int.natAbs_pos.mpr w2) d
          have z : (gcdR m).natAbs ≠ 0 := fun e => g0 (Int.natAbs_eq_zero.mp e)
          exact Nat.lt_of_lt_of_le ((Nat.log2_lt z).mpr (Nat.lt_of_le_of_lt le w1)) (by decide)
        have gt : getO (divR (gcdR m) (m.take i) ++ m.drop i) y.1 = some y.2 := by
          unfold getO
          rw [List.find?_append, List.find?_eq_none.mpr (fun x hx e => nl (List.mem_map.mpr ⟨x, hx, of_decide_eq_true e⟩)), dr, List.find?_cons_of_pos (by exact decide_eq_true rfl)]
          rfl
        have dg := dget_of hDi hcell'
        rw [gt] at dg
        refine iName ?_
        dsimp only
        refine ⟨.ref D, rfl, .ref bi, rfl, D, _, rfl, dg, .int (gcdR m), rfl, _, _, rfl, rfl, ⟨g0, gl⟩, .ref D, rfl, .ref bi, rfl, D, _, rfl, DPut.t (k := ck y.1) hDi (by rw [ck_kV]; exact hcell') (by rw [dk_length, List.length_append]; unfold divR; rw [List.length_map, List.length_take, List.length_drop]; omega), ?_⟩
        refine ⟨⟨_, rfl⟩, fun a o n e => ?_, ?_⟩
        · rw [upd_ne n]
          exact kx7 _ _ n e
        · rw [upd_same, dk_put, dr]
          rw [show (y : Cell × Int) = (y.1, y.2) from rfl, putC_old _ nl nr]
          have e : divR (gcdR m) (m.take (i + 1)) = divR (gcdR m) (m.take i) ++ [(y.1, y.2.fdiv (gcdR m))] := by
            unfold divR
            rw [List.take_add_one, hy, List.map_append]
            rfl
          rw [e, List.append_assoc]
          rfl
      · obtain ⟨⟨x7, rfl⟩, kx7, hD8⟩ := h
        have kl : (keys m).length = m.length := List.length_map _
        rw [List.length_map, bl7, kl, List.take_length, List.drop_length, List.append_nil] at hD8
        try dsimp only
        refine iRet ⟨.ref D, rfl, q H8 D _ (fun a o e => ?_) hD hD8 cl⟩
        have n := ne_of_none e hD
        exact kx7 _ _ n (v7 _ _ (kx _ _ n (s5 _ _ e)))
end
end P37
/-! _law_reduced -/
namespace P37
open PySem PySem.Spec PyProof.Rows L2 AskG Ask
abbrev sLRd : Stmt := topS 44
abbrev NLRd : List Str := ["_law_bases_here", "_law_line", "_law_rest", "_law_cell", "_law_base"]
theorem scLRd : FnScope NLRd ["_law_bases_here", "_law_line"] (defScope sLRd) := ⟨rfl, rfl, rfl, by decide +kernel, rfl, by decide +kernel, by decide +kernel⟩
/-- a row by the places of its cells -/
def vD (m : RowD) : Nat → Int := look univ (get0 m)
def ixU (c : Cell) : Nat := univ.idxOf c
theorem vD_at {m : RowD} {c : Cell} (h : c ∈ univ) : vD m (ixU c) = get0 m c := by
  unfold vD look ixU
  rw [List.getElem?_eq_getElem (List.idxOf_lt_length_of_mem h), List.getElem_idxOf]
  rfl
theorem vD_or (m : RowD) (j : Nat) : vD m j = 0 ∨ ∃ c ∈ univ, j = ixU c := by
  unfold vD look
  cases e : univ[j]? with
  | none => exact .inl rfl
  | some c =>
    refine .inr ⟨c, List.mem_of_getElem? e, ?_⟩
    obtain ⟨h, e⟩ := List.getElem?_eq_some_iff.mp e
    have nd : univ.Nodup := by decide +kernel
    unfold ixU
    rw [← e]
    exact (List.Nodup.idxOf_getElem nd j h).symm
theorem vD_none {m : RowD} {j : Nat} (h : univ[j]? = none) : vD m j = 0 := by
  unfold vD look
  rw [h]
  rfl
theorem vD_some {m : RowD} {j : Nat} {c : Cell} (h : univ[j]? = some c) : vD m j = get0 m c := by
  unfold vD look
  rw [h]
  rfl
/-- a dict of the law's elimination -/
structure OkD (m : RowD) : Prop where
  nd : (keys m).Nodup
  nz : ∀ x ∈ m, x.2 ≠ 0
  un : ∀ z ∈ keys m, z ∈ univ
theorem OkD.len {m : RowD} (h : OkD m) : m.length ≤ 20 := by
  have := Lin.nodup_few h.nd h.un
  rw [univ_len] at this
  unfold keys at this
  rw [List.length_map] at this
  exact this
theorem OkD.mem {m : RowD} (h : OkD m) (c : Cell) : c ∈ keys m ↔ get0 m c ≠ 0 := by
  constructor
  · intro hc e
    obtain ⟨x, hx, rfl⟩ := List.mem_map.mp hc
    rw [get0_mem h.nd hx] at e
    exact h.nz x hx e
  · exact fun e => Classical.byContradiction fun n => e (get0_none n)
theorem OkD.small {m : RowD} (h : OkD m) {B : Nat} (b : ∀ j, (vD m j).natAbs ≤ B) (z : Cell) : (get0 m z).natAbs ≤ B := by
  by_cases hz : z ∈ univ
  · rw [← vD_at hz]
    exact b _
  · rw [get0_none fun k => hz (h.un z k)]
    exact Nat.zero_le _
def bsV (bs : List (Cell × RowD)) : List (Nat × (Nat → Int)) := bs.map fun x => (ixU x.1, vD x.2)
theorem bsV_len (bs : List (Cell × RowD)) : (bsV bs).length = bs.length := List.length_map _
/-- the bases in the heap -/
def BaseAt (H : Hp) (t : Addr) (x : Cell × RowD) : Prop := ∃ c d, H t = some (.tup [.ref c, .ref d]) ∧ AskG.CellAt H c x.1 ∧ H d = some (.dT (dk x.2))
def BasesAt (H : Hp) (a : Addr) (bs : List (Cell × RowD)) : Prop := ∃ ts : List Addr, H a = some (.lst (ts.map V.ref)) ∧ Paired (BaseAt H) ts bs
theorem BaseAt.same {H H' : Hp} {t : Addr} {x : Cell × RowD} (h : BaseAt H t x) (s : Same H H') : BaseAt H' t x := by
  obtain ⟨c, d, h1, h2, h3⟩ := h
  exact ⟨c, d, s _ _ h1, s _ _ h2, s _ _ h3⟩
/-- lines and the bases found so far -/
structure BsG (L : List (Nat → Int)) (bs : List (Cell × RowD)) (ps : List ((Nat → Int) × Nat)) : Prop where
  all : Lin.Bs L (bsV bs) ps
  ok : ∀ x ∈ bs, OkD x.2 ∧ x.1 ∈ keys x.2
  sm : ∀ x ∈ bs, ∀ z, (get0 x.2 z).natAbs < 2 ^ 4000
  few : bs.length ≤ 20
  lit : ∀ r ∈ L, ∀ j, (r j).natAbs ≤ 3
theorem fb_20 {n : Nat} (h : n ≤ 20) : Lin.fb 3 (n + 1) < 2 ^ 4000 := by
  have := fb_small
  rw [univ_len] at this
  exact Nat.lt_of_le_of_lt (Lin.fb_mono (by decide) (by omega)) this
theorem prim_of {rest base : RowD} {c : Cell} {m : RowD} (h : Clr rest base c m) (un : ∀ z ∈ keys m, z ∈ univ) : Lin.Prim (vD m) ∨ ∀ j, vD m j = 0 := by
  by_cases e : m = []
  · refine .inr fun j => ?_
    rw [e]
    unfold vD look
    cases univ[j]? <;> rfl
  · refine .inl fun d hd => h.prim d e fun x hx => ?_
    have k : x.1 ∈ keys m := List.mem_map.mpr ⟨x, hx, rfl⟩
    have := hd (ixU x.1)
    rw [vD_at (un _ k), get0_mem h.nd hx] at this
    exact this
section
variable {L : List (Nat → Int)} {bs : List (Cell × RowD)} {ps : List ((Nat → Int) × Nat)} {s : Nat → Int} {i : Nat} {m m' : RowD} {x : Cell × RowD}
theorem BsG.at (hx : bs[i]? = some x) : (bsV bs)[i]? = some (ixU x.1, vD x.2) := by
  unfold bsV
  rw [List.getElem?_map, hx]
  rfl
theorem BsG.skip (h : BsG L bs ps) (hs : s ∈ L) (hr : Lin.Rst L (bsV bs) ps s i (vD m)) (hx : bs[i]? = some x) (z : x.1 ∉ keys m) : Lin.Rst L (bsV bs) ps s (i + 1) (vD m) := by
  obtain ⟨o1, o2⟩ := h.ok x (List.mem_of_getElem? hx)
  refine hr.skip (by decide) h.lit h.all hs (BsG.at hx) ?_
  rw [vD_at (o1.un _ o2), get0_none z]
theorem BsG.clr (h : BsG L bs ps) (hs : s ∈ L) (hr : Lin.Rst L (bsV bs) ps s i (vD m)) (okm : OkD m) (hx : bs[i]? = some x) (cl : Clr m x.2 x.1 m') : OkD m' ∧ Lin.Rst L (bsV bs) ps s (i + 1) (vD m') := by
  obtain ⟨o1, o2⟩ := h.ok x (List.mem_of_getElem? hx)
  have un : ∀ z ∈ keys m', z ∈ univ := fun z hz => (cl.sub z hz).elim (okm.un z) (o1.un z)
  refine ⟨⟨cl.nd, cl.nz, un⟩, ?_⟩
  obtain ⟨g, g0, e⟩ := cl.eq
  have xu := o1.un _ o2
  refine hr.clr (by decide) h.lit h.all hs (BsG.at hx) g0 (fun j => ?_) (prim_of cl un)
  rw [vD_at xu, vD_at xu]
  cases ej : univ[j]? with
  | none =>
    rw [vD_none ej, vD_none ej, vD_none ej]
    omega
  | some c =>
    rw [vD_some ej, vD_some ej, vD_some ej]
    exact e c
theorem BsG.bound (h : BsG L bs ps) (hs : s ∈ L) (hr : Lin.Rst L (bsV bs) ps s i (vD m)) (okm : OkD m) (il : i ≤ bs.length) (z : Cell) : (get0 m z).natAbs < 2 ^ 4000 := by
  have l := bsV_len bs
  have gd := h.all.good_at (i := i) (by omega)
  have b := fun j => hr.bound (by decide) h.lit h.all hs (by omega) gd j
  rw [l] at b
  exact Nat.lt_of_le_of_lt (okm.small b z) (fb_20 h.few)
end
section
variable {P : Program} {w : World} {K : PySem.W.Frag} {mg : Str → Option Value} {base : Heap}
variable {fC : Addr} {fdC : FuncData}
theorem pairs_dict {H : Hp} : ∀ {ps : List Addr} {ρ : RowD}, Paired (PairRow H) ps ρ → Paired (PairAt' K H) ps (dk ρ)
  | _, _, .nil => .nil
  | _, _, .cons h t => by
    obtain ⟨b, h1, h2⟩ := h
    exact .cons ⟨b, sqT h1, h2⟩ (pairs_dict t)
theorem putAll_dk : ∀ (ρ m : RowD), putAll (dk m) (dk ρ) = dk (ρ.foldl (fun m x => putC m x.1 x.2) m)
  | [], _ => rfl
  | x :: ρ, m => by
    show putAll (putK (dk m) (ck x.1) (.int x.2)) (dk ρ) = _
    rw [dk_put]
    exact putAll_dk ρ _
def prLRd : Pr := fun vs H Q => ∃ (a r : Addr) (bs : List (Cell × RowD)) (ρ : RowD) (L : List (Nat → Int)) (ps : List ((Nat → Int) × Nat)), vs = [.ref a, .ref r] ∧ BasesAt H a bs ∧ RowAt H r ρ ∧ BsG L bs ps ∧ OkD ρ ∧ vD ρ ∈ L ∧
  ∀ H' D m, Same H H' → H D = none → H' D = some (.dT (dk m)) → OkD m → Lin.Rst L (bsV bs) ps (vD ρ) bs.length (vD m) → Q (.ref D) H'
theorem ok_lrd {f : Addr} {fd : FuncData} {k : Nat} (F : Fun K "_law_reduced" "_law_reduced" sLRd f fd)
    (FC : Fun K "_law_cleared" "_law_cleared" sLCl fC fdC) (bC : Binds K fdC ["_law_rest", "_law_base", "_law_cell"] []) (gC : mg "_law_cleared" = some (.ref fC)) (GC : FnG P w K mg base (k + 2) fC fdC ["_law_rest", "_law_base", "_law_cell"] prLCl)
    (md : mg "dict" = none) (ml : mg "list" = none) : FnG P w K mg base (k + 3) f fd ["_law_bases_here", "_law_line"] prLRd := by
  refine okG F scLRd (fun vs H Q h => ?_) (fun cdv A outer s H vs Q hr h => ?_)
  · obtain ⟨_, _, _, _, _, _, rfl, _⟩ := h
    rfl
  · obtain ⟨a, r, bs, ρ, L, ps, rfl, hB, hR, bg, okρ, mem, q⟩ := h
    have big := sizeBig
    have hu := hu_of hr.room
    refine ⟨_, pss_cons (ps_set (i := 2) scLRd.nd rfl (.inl rfl) (pe_callTy (call_dictT rfl hr.room) (by rfl) md (by decide +kernel) (pa_cons (pe_callTy call_list_of (by rfl) ml (by decide +kernel) (pa_cons (pv 1) pa_nil)) pa_nil)))
      (pss_cons (ps_for PassesOwn.never rfl (pi_list (pv 0)) (pg_tup rfl (pgs_cons (pg_name (i := 3) scLRd.nd rfl (.inl rfl)) (pgs_cons (pg_name (i := 4) scLRd.nd rfl (.inl rfl)) pgs_nil)))
        (pss_one (ps_if (pt_cmp (pc_din hu (pv 3) (pv 2)) (by rfl)) (pss_one (ps_set (i := 2) scLRd.nd rfl (.inl rfl) (pe_g GC hr (by rfl) gC FC.kp bC .nil (pa_cons (pv 2) (pa_cons (pv 4) (pa_cons (pv 3) pa_nil)))))) pss_nil)))
      (pss_one (ps_ret (pv 2)))), ?_⟩
    obtain ⟨pr, hr1, hp⟩ := hR
    obtain ⟨ts, hts, htb⟩ := hB
    have tl := Paired.length htb
    refine iSeq (iAsg ⟨.ref r, rfl, r, _, rfl, .inr (sqT hr1), fun l hl => ?_⟩)
    have s1 : Same H (upd H l (.lst (pr.map V.ref))) := same_new hl
    refine ⟨l, pr, dk ρ, rfl, sqL upd_same, pairs_dict (Paired.mapP hp fun _ _ z => z.keep (KeepT.of s1)), fun D hD => ?_⟩
    have ed : putAll [] (dk ρ) = dk ρ := (putAll_dk ρ []).trans (congrArg dk (ofRow_self okρ.nd))
    rw [ed]
    have s2 := s1.trans (same_new (o := .dT (dk ρ)) hD)
    have hD2 := upd_same (H := upd H l (.lst (pr.map V.ref))) (a := D) (o := .dT (dk ρ))
    have hDn : H D = none := by
      cases e : H D with
      | none => rfl
      | some o =>
        rw [s1 _ _ e] at hD
        cases hD
    generalize upd (upd H l (.lst (pr.map V.ref))) D (.dT (dk ρ)) = H2 at s2 hD2
    refine iName ?_
    dsimp only
    refine iSeq ⟨.ref a, rfl, a, rfl, ⟨_, sqL (s2 _ _ hts)⟩, ?_⟩
    refine for_list (xs := ts.map V.ref) (fun i σ' H' => i ≤ bs.length ∧ ∃ E m x3 x4, σ' = [some (.ref a), some (.ref r), some (.ref E), x3, x4] ∧ Same H H' ∧ H E = none ∧ H' E = some (.dT (dk m)) ∧ OkD m ∧ Lin.Rst L (bsV bs) ps (vD ρ) i (vD m))
      ⟨Nat.zero_le _, D, ρ, _, _, rfl, s2, hDn, hD2, okρ, Lin.Rst.start bg.all⟩ (fun i σ' H' _ h => by obtain ⟨_, _, _, _, _, _, sm, _⟩ := h; exact sqL (sm _ _ hts)) (fun i x σ' H' hx h => ?_) (fun σ' H3 h => ?_)
    · obtain ⟨ile, E, m, x3, x4, rfl, sm, hEn, hE, okm, rst⟩ := h
      rw [List.getElem?_map] at hx
      obtain ⟨t, ht, rfl⟩ := Option.map_eq_some_iff.mp hx
      obtain ⟨y, hy, cp, dp, e1, e2, e3⟩ := paired_at' htb ht
      have il : i < bs.length := (List.getElem?_eq_some_iff.mp hy).1
      obtain ⟨oy, cy⟩ := bg.ok y (List.mem_of_getElem? hy)
      refine ⟨t, _, rfl, sqT (sm _ _ e1), rfl, .ref cp, _, rfl, .ref dp, _, rfl, rfl, ?_⟩
      dsimp only
      refine iIfS ⟨.ref cp, rfl, .ref E, rfl, E, _, rfl, dget_of hE (sm _ _ e2), _, rfl, ?_⟩
      by_cases hk : y.1 ∈ keys m
      · rw [getO_in hk]
        refine iteT (iAsg ⟨.ref E, rfl, .ref dp, rfl, .ref cp, rfl, E, dp, cp, m, y.2, y.1, rfl, hE, sm _ _ e3, sm _ _ e2, okm.len, oy.len, bg.bound mem rst okm (by omega), bg.sm y (List.mem_of_getElem? hy), hk, cy, fun H4 G m' s4 hG hG4 cl => iName ?_⟩)
        obtain ⟨o', r'⟩ := bg.clr mem rst okm hy cl
        have hGn : H G = none := by
          cases e : H G with
          | none => rfl
          | some o =>
            rw [sm _ _ e] at hG
            cases hG
        exact ⟨by omega, G, m', _, _, rfl, sm.trans s4, hGn, hG4, o', r'⟩
      · have e : getO m y.1 = none := by
          unfold getO
          rw [List.find?_eq_none.mpr fun x hx e => hk (List.mem_map.mpr ⟨x, hx, of_decide_eq_true e⟩)]
          rfl
        rw [e]
        exact iteF ⟨by omega, E, m, _, _, rfl, sm, hEn, hE, okm, bg.skip mem rst hy hk⟩
    · obtain ⟨_, E, m, x3, x4, rfl, sm, hEn, hE, okm, rst⟩ := h
      rw [List.length_map, tl] at rst
      try dsimp only
      exact iRet ⟨.ref E, rfl, q H3 E m sm hEn hE okm rst⟩
end
end P37
/-! _law_bases -/
namespace P37
open PySem PySem.Spec PyProof.Rows L2 AskG Ask
abbrev sLB : Stmt := topS 45
abbrev NLB : List Str := ["_law_lines", "_law_found", "_law_line", "_law_rest"]
theorem scLB : FnScope NLB ["_law_lines"] (defScope sLB) := ⟨rfl, rfl, rfl, by decide +kernel, rfl, by decide +kernel, by decide +kernel⟩
theorem cols_nodup {L : List (Nat → Int)} : ∀ {ps : List ((Nat → Int) × Nat)}, Lin.Good L ps → (Lin.cols ps).Nodup
  | [], _ => List.nodup_nil
  | q :: ps, h => List.nodup_cons.mpr ⟨h.2.2.1, cols_nodup h.1⟩
theorem bases_few {L : List (Nat → Int)} {bs : List (Cell × RowD)} {ps : List ((Nat → Int) × Nat)} (h : Lin.Bs L (bsV bs) ps) (un : ∀ x ∈ bs, x.1 ∈ univ) : bs.length ≤ 20 := by
  have n := cols_nodup h.good
  have l := Lin.nodup_few n (U := List.range 20) fun c hc => by
    obtain ⟨y, hy, e⟩ := List.mem_map.mp ((h.cols c).mp hc)
    obtain ⟨x, hx, rfl⟩ := List.mem_map.mp hy
    have : ixU x.1 < univ.length := List.idxOf_lt_length_of_mem (un x hx)
    rw [univ_len] at this
    rw [← e]
    exact List.mem_range.mpr this
  rw [List.length_range] at l
  unfold Lin.cols at l
  rw [List.length_map, h.len, bsV_len] at l
  exact l
theorem wt_self {ρ : RowD} (h : OkD ρ) : wt ρ = get0 ρ := by
  unfold wt
  rw [ofRow_self h.nd]
theorem rank_vD {ys : List RowD} (h : ∀ ρ ∈ ys, OkD ρ) : Lin.rank (ys.map vD) = rkR ys := by
  rw [← rank_lines (ys := ys) (cs := univ) fun c ⟨ρ, hρ, x, hx, e⟩ => e ▸ (h ρ hρ).un _ (List.mem_map.mpr ⟨x, hx, rfl⟩)]
  congr 1
  rw [List.map_map]
  refine List.map_congr_left fun ρ hρ => ?_
  show vD ρ = Lin.vec (lineR univ ρ)
  rw [line_look, wt_self (h ρ hρ)]
  rfl
theorem lit_vD {ρ : RowD} (h : OkD ρ) (l : ∀ x ∈ ρ, x.2.natAbs ≤ 3) (j : Nat) : (vD ρ j).natAbs ≤ 3 := by
  unfold vD look
  cases univ[j]? with
  | none => exact Nat.zero_le _
  | some c =>
    show (get0 ρ c).natAbs ≤ 3
    rw [← wt_self h]
    exact wt_bound l c
theorem BaseAt.keepX {H H' : Hp} {R t : Addr} {x : Cell × RowD} {ys : List V} (h : BaseAt H t x) (k : KeepX R H H') (hR : H R = some (.lst ys)) : BaseAt H' t x := by
  obtain ⟨c, d, h1, h2, h3⟩ := h
  exact ⟨c, d, k _ _ (ne_of h1 hR fun z => nomatch z) h1, k _ _ (ne_of h2 hR fun z => nomatch z) h2, k _ _ (ne_of h3 hR fun z => nomatch z) h3⟩
section
variable {P : Program} {w : World} {K : PySem.W.Frag} {mg : Str → Option Value} {base : Heap}
variable {fR : Addr} {fdR : FuncData}
def prLB : Pr := fun vs H Q => ∃ (l : Addr) (rs : List Addr) (ys : List RowD), vs = [.ref l] ∧ H l = some (.lst (rs.map V.ref)) ∧ Paired (RowAt H) rs ys ∧ (∀ ρ ∈ ys, OkD ρ ∧ ∀ x ∈ ρ, x.2.natAbs ≤ 3) ∧
  ∀ H' p (ts : List V), Same H H' → H' p = some (.lst ts) → ts.length = rkR ys → Q (.ref p) H'
theorem ok_lb {f : Addr} {fd : FuncData} {k : Nat} (F : Fun K "_law_bases" "_law_bases" sLB f fd)
    (FR : Fun K "_law_reduced" "_law_reduced" sLRd fR fdR) (bR : Binds K fdR ["_law_bases_here", "_law_line"] []) (gR : mg "_law_reduced" = some (.ref fR)) (GR : FnG P w K mg base (k + 3) fR fdR ["_law_bases_here", "_law_line"] prLRd)
    (mm : mg "min" = none) : FnG P w K mg base (k + 4) f fd ["_law_lines"] prLB := by
  refine okG F scLB (fun vs H Q h => ?_) (fun cdv A outer s H vs Q hr h => ?_)
  · obtain ⟨_, _, _, rfl, _⟩ := h
    rfl
  · obtain ⟨l, rs, ys, rfl, hl, hrs, okall, q⟩ := h
    have big := sizeBig
    have hun := hr.room.units
    have hu4 := Nat.lt_of_le_of_lt (Nat.add_le_add_left (by decide : 4 ≤ 64) _) hun
    have hu0 := Nat.lt_of_le_of_lt (Nat.add_le_add_left (by decide : 0 ≤ 64) _) hun
    refine ⟨_, pss_cons (ps_set (i := 1) scLB.nd rfl (.inl rfl) (pe_lst pa_nil))
      (pss_cons (ps_for PassesOwn.never rfl (pi_list (pv 0)) (pg_name (i := 2) scLB.nd rfl (.inl rfl))
        (pss_cons (ps_set (i := 3) scLB.nd rfl (.inl rfl) (pe_g GR hr (by rfl) gR FR.kp bR .nil (pa_cons (pv 1) (pa_cons (pv 2) pa_nil))))
        (pss_one (ps_if (pt_cmpR (op_ne0 hu0) (pv 3) pe_dnewT (nomark _)) (pss_one (ps_expr (pe_bm PySem.F.plainAttrs_list PySem.F.slot_list_append PySem.F.type_list_append mt_append (pv 1) (pa_cons (pe_tup (pa_cons (pe_callB (cr_minT rfl hu4) (by rfl) mm (by decide +kernel) (pa_cons (pv 3) pa_nil)) (pa_cons (pv 3) pa_nil))) pa_nil)))) pss_nil))))
      (pss_one (ps_ret (pv 1)))), ?_⟩
    have yl := Paired.length hrs
    obtain ⟨L, eL⟩ : ∃ L, L = ys.map vD := ⟨_, rfl⟩
    have litL : ∀ r ∈ L, ∀ j, (r j).natAbs ≤ 3 := fun r hr' j => by
      rw [eL] at hr'
      obtain ⟨ρ, hρ, rfl⟩ := List.mem_map.mp hr'
      exact lit_vD (okall ρ hρ).1 (okall ρ hρ).2 j
    refine iSeq (iAsg ⟨Nat.zero_le _, fun R hR => iName ?_⟩)
    dsimp only
    have s1 := same_new (o := .lst []) hR
    have hR1 : (upd H R (.lst [])) R = some (.lst []) := upd_same
    generalize upd H R (.lst []) = H1 at s1 hR1 ⊢
    refine iSeq ⟨.ref l, rfl, l, rfl, ⟨_, sqL (s1 _ _ hl)⟩, ?_⟩
    refine for_list (xs := rs.map V.ref) (fun i σ' H' => (∃ x2 x3, σ' = [some (.ref l), some (.ref R), x2, x3]) ∧ Same H H' ∧ ∃ ts bs ps, H' R = some (.lst (ts.map V.ref)) ∧ Paired (BaseAt H') ts bs ∧ BsG L bs ps ∧ Lin.Bas L ((ys.take i).map vD) (bsV bs))
      ⟨⟨_, _, rfl⟩, s1, [], [], [], hR1, .nil, ⟨.nil, fun x hx => absurd hx (by simp), fun x hx => absurd hx (by simp), Nat.zero_le _, litL⟩, by rw [List.take_zero]; exact Lin.Bas.nil L⟩ (fun i σ' H' _ h => sqL (h.2.1 _ _ hl)) (fun i x σ' H' hx h => ?_) (fun σ' H2 h => ?_)
    · obtain ⟨⟨x2, x3, rfl⟩, sm, ts, bs, ps, hts, htb, bg, bas⟩ := h
      rw [List.getElem?_map] at hx
      obtain ⟨ra, hra, rfl⟩ := Option.map_eq_some_iff.mp hx
      obtain ⟨ρ, hρ, hrow⟩ := paired_at' hrs hra
      have hm := List.mem_of_getElem? hρ
      have memL : vD ρ ∈ L := by
        rw [eL]
        exact List.mem_map.mpr ⟨ρ, hm, rfl⟩
      have tk : (ys.take (i + 1)).map vD = (ys.take i).map vD ++ [vD ρ] := by
        rw [List.take_add_one, hρ, List.map_append]
        rfl
      have tl := Paired.length htb
      refine iName ?_
      dsimp only
      refine iSeq (iAsg ⟨.ref R, rfl, .ref ra, rfl, R, ra, bs, ρ, L, ps, rfl, ⟨ts, hts, htb⟩, hrow.keep (KeepT.of sm), bg, (okall ρ hm).1, memL, fun H3 D m s3 hD0 hD okm rst => iName ?_⟩)
      dsimp only
      have bl := bsV_len bs
      rw [← bl] at rst
      refine iIfS ⟨.ref D, rfl, fun E hE => ⟨D, E, dk m, rfl, rfl, .inl (same_new hE _ _ hD), upd_same, _, rfl, ?_⟩⟩
      have s4 := s3.trans (same_new (o := .dT []) hE)
      have hD4 := same_new (o := .dT []) hE _ _ hD
      generalize upd H3 E (.dT []) = H4 at s4 hD4 ⊢
      have hts4 := s4 _ _ hts
      have htb4 : Paired (BaseAt H4) ts bs := Paired.mapP htb fun _ _ z => z.same s4
      have sm4 := sm.trans s4
      cases em : m with
      | nil =>
        rw [tk]
        refine iteF ⟨⟨_, _, rfl⟩, sm4, ts, bs, ps, hts4, htb4, bg, bas.same rst fun c => ?_⟩
        rw [em]
        unfold vD look
        cases univ[c]? <;> rfl
      | cons x0 m0 =>
        rw [tk]
        have hne : keys m ≠ [] := by
          rw [em]
          exact fun z => nomatch z
        refine iteT (iDrop' ⟨.ref R, rfl, .inl ⟨rfl, _, sqL hts4⟩, .ref D, rfl, D, dk m, keys m, rfl, .inl hD4, dk_keys m, hne, fun c cp hc hcp => ?_⟩)
        refine ⟨.ref D, rfl, by show 2 ≤ sizeLine; omega, fun tp htp => ?_⟩
        have s5 := same_new (o := .tup [.ref cp, .ref D]) htp
        have htp5 := upd_same (H := H4) (a := tp) (o := .tup [.ref cp, .ref D])
        have hts5 := s5 _ _ hts4
        have hcp5 : AskG.CellAt _ cp c := s5 _ _ hcp
        have hD5 := s5 _ _ hD4
        have htb5 : Paired (BaseAt _) ts bs := Paired.mapP htb4 fun _ _ z => z.same s5
        have sm5 := sm4.trans s5
        generalize upd H4 tp (.tup [.ref cp, .ref D]) = H5 at s5 htp5 hts5 hcp5 hD5 htb5 sm5 ⊢
        have cu := okm.un c hc
        have n0 : vD m (ixU c) ≠ 0 := by
          rw [vD_at cu]
          exact (okm.mem c).mp hc
        have bas' := bas.more bg.all memL rst n0
        have e1 : bsV (bs ++ [(c, m)]) = bsV bs ++ [(ixU c, vD m)] := by
          unfold bsV
          rw [List.map_append]
          rfl
        rw [← e1] at bas'
        obtain ⟨ps', bs'⟩ := bas'.has
        have un' : ∀ x ∈ bs ++ [(c, m)], x.1 ∈ univ := fun x hx => by
          rcases List.mem_append.mp hx with hx | hx
          · obtain ⟨o1, o2⟩ := bg.ok x hx
            exact o1.un _ o2
          · rw [List.mem_singleton.mp hx]
            exact cu
        have rb := fun z => bg.bound memL rst okm (by omega) z
        have kx : KeepX R H5 (upd H5 R (.lst (ts.map V.ref ++ [.ref tp]))) := fun b o n e => by
          rw [upd_ne n]
          exact e
        refine ⟨R, _, _, rfl, rfl, hts5, by rw [List.length_map]; have := bg.few; omega, ⟨_, _, rfl⟩, fun b o e => ?_, ts ++ [tp], bs ++ [(c, m)], ps', by rw [upd_same, List.map_append]; rfl, ?_, ⟨bs', fun x hx => ?_, fun x hx z => ?_, bases_few bs' un', litL⟩, bas'⟩
        · rw [upd_ne (ne_of_none e hR)]
          exact sm5 _ _ e
        · refine paired_app (Paired.mapP htb5 fun _ _ z => z.keepX kx hts5) (.cons ?_ .nil)
          exact BaseAt.keepX ⟨cp, D, htp5, hcp5, hD5⟩ kx hts5
        · rcases List.mem_append.mp hx with hx | hx
          · exact bg.ok x hx
          · rw [List.mem_singleton.mp hx]
            exact ⟨okm, hc⟩
        · rcases List.mem_append.mp hx with hx | hx
          · exact bg.sm x hx z
          · rw [List.mem_singleton.mp hx]
            exact rb z
    · obtain ⟨⟨x2, x3, rfl⟩, sm, ts, bs, ps, hts, htb, bg, bas⟩ := h
      rw [List.length_map, yl, List.take_length] at bas
      try dsimp only
      refine iRet ⟨.ref R, rfl, q H2 R _ sm hts ?_⟩
      rw [List.length_map, Paired.length htb, ← rank_vD fun ρ hρ => (okall ρ hρ).1, bas.rank, bsV_len]
end
end P37
/-! _law_part -/
namespace P37
open PySem PySem.Spec PyProof.Rows L2 AskG Ask
abbrev sLP : Stmt := topS 46
abbrev NLP : List Str := ["_law_claim_here", "_law_date", "_law_top", "_law_person", "_law_weights", "_law_begin", "_law_end", "_law_kind", "_law_start", "_law_stop", "_law_found", "_law_account", "_law_weight", "_law_k"]
theorem scLP : FnScope NLP ["_law_claim_here", "_law_date", "_law_top"] (defScope sLP) := ⟨rfl, rfl, rfl, by decide +kernel, rfl, by decide +kernel, by decide +kernel⟩
theorem rowOn_snoc {ws : List Cell} {lo hi : Int} {i : Nat} {c : Cell} (h : ws[i]? = some c) : rowOn (ws.take (i + 1)) lo hi = rowOn (ws.take i) lo hi ++ (daysOf lo hi).map fun d => ((c.1, d), c.2) := by
  unfold rowOn
  rw [List.take_add_one, h, List.flatMap_append]
  congr 1
  show (daysOf lo hi).map _ ++ [] = _
  rw [List.append_nil]
section
variable {P : Program} {w : World} {K : PySem.W.Frag} {mg : Str → Option Value} {base : Heap}
def prLP : Pr := fun vs H Q => ∃ (a : Addr) (R : Rt) (t T : Int), vs = [.ref a, .int t, .int T] ∧ RightAt H a R ∧ RtOk R ∧ 0 ≤ t ∧ t ≤ 9 ∧ 0 ≤ T ∧ ∀ H' p, Same H H' → RowAt H' p (rowOn R.ws (R.kind.lo t) (mn (R.kind.hi t) T)) → Q (.ref p) H'
theorem ok_lp {f : Addr} {fd : FuncData} {k : Nat} (F : Fun K "_law_part" "_law_part" sLP f fd)
    (mx' : mg "max" = none) (mn' : mg "min" = none) (mr : mg "range" = none) (mt : mg "tuple" = none) : FnG P w K mg base (k + 1) f fd ["_law_claim_here", "_law_date", "_law_top"] prLP := by
  refine okG F scLP (fun vs H Q h => ?_) (fun cdv A outer s H vs Q hr h => ?_)
  · obtain ⟨_, _, _, _, rfl, _⟩ := h
    rfl
  · obtain ⟨a, R, t, T, rfl, hR, ok, t0, t9, T0, q⟩ := h
    have big := sizeBig
    obtain ⟨wa, ps, ka, h1, h2, h3, h4⟩ := id hR
    obtain ⟨b1, b2, b3, b4⟩ := kind_bounds ok.kind t0 t9
    refine ⟨_, pss_cons (ps_asg (pv 0) (pg_tup (by rfl) (pgs_cons (pg_name (i := 3) scLP.nd rfl (.inl rfl)) (pgs_cons (pg_name (i := 4) scLP.nd rfl (.inl rfl)) (pgs_cons (pg_name (i := 5) scLP.nd rfl (.inl rfl)) (pgs_cons (pg_name (i := 6) scLP.nd rfl (.inl rfl)) (pgs_cons (pg_name (i := 7) scLP.nd rfl (.inl rfl)) pgs_nil)))))))
      (pss_cons (ps_par (by rfl) scLP.nd (i := 8) (j := 9) rfl rfl (by decide) rfl rfl (pa_cons (pe_ix (ix_tup : IxR _ (rIxT K)) (pv 7) pe_int (fun _ _ => rfl)) (pa_cons (pv 1) pa_nil)) (by rfl))
      (pss_cons (ps_if (pt_cmpR op_eq (pe_ix (ix_tup : IxR _ (rIxT K)) (pv 7) pe_int (fun _ _ => rfl)) pe_str (nomark _)) (pss_one (ps_set (i := 8) scLP.nd rfl (.inl rfl) (pe_callB (call_max2 rfl) (by rfl) mx' (by decide +kernel) (pa_cons pe_int (pa_cons (pe_op op_add (pe_op op_sub (pv 1) (pe_ix (ix_tup : IxR _ (rIxT K)) (pv 7) pe_int (fun _ _ => rfl))) pe_int) pa_nil))))) pss_nil)
      (pss_cons (ps_if (pt_cmpR op_eq (pe_ix (ix_tup : IxR _ (rIxT K)) (pv 7) pe_int (fun _ _ => rfl)) pe_str (nomark _)) (pss_one (ps_set (i := 9) scLP.nd rfl (.inl rfl) (pe_callB (call_min2 rfl) (by rfl) mn' (by decide +kernel) (pa_cons (pv 1) (pa_cons (pe_ix (ix_tup : IxR _ (rIxT K)) (pv 7) pe_int (fun _ _ => rfl)) pa_nil))))) pss_nil)
      (pss_cons (ps_set (i := 9) scLP.nd rfl (.inl rfl) (pe_callB (call_min2 rfl) (by rfl) mn' (by decide +kernel) (pa_cons (pv 9) (pa_cons (pv 2) pa_nil))))
      (pss_cons (ps_set (i := 10) scLP.nd rfl (.inl rfl) (pe_lst pa_nil))
      (pss_cons (ps_for PassesOwn.never rfl (pi_tup (pv 4)) (pg_tup rfl (pgs_cons (pg_name (i := 11) scLP.nd rfl (.inr rfl)) (pgs_cons (pg_name (i := 12) scLP.nd rfl (.inr rfl)) pgs_nil)))
        (pss_one (ps_expr (pe_bm PySem.F.plainAttrs_list PySem.F.slot_list_extend PySem.F.type_list_extend mt_extend (pv 10) (pa_cons
          (pe_lc (own := [("_law_k", 13)]) (g := gName 13) (tt := tYes) rfl scLP.nd (pi_range2 (by rfl) mr (pa_cons (pv 8) (pa_cons (pe_op op_add (pv 9) pe_int) pa_nil))) (blkOk_by (N := NLP) (sc := defScope sLP) (by decide +kernel))
            (fun _ _ _ _ _ => pg_name (i := 13) scLP.nd rfl (.inl rfl)) (fun _ _ _ _ _ => pts_nil)
            (fun _ _ _ _ _ => pe_tup (pa_cons (pe_tup (pa_cons (pv 11) (pa_cons (pv 13) pa_nil))) (pa_cons (pv 12) pa_nil)))) pa_nil)))))
      (pss_one (ps_ret (pe_callTy call_tuple_of (by rfl) mt (by decide +kernel) (pa_cons (pv 10) pa_nil)))))))))), ?_⟩
    refine iSeq (iAsg ⟨.ref a, rfl, a, _, rfl, sqT h1, rfl, .str R.person, _, rfl, .ref wa, _, rfl, .int R.first, _, rfl, .int R.last, _, rfl, .ref ka, _, rfl, rfl, ?_⟩)
    dsimp only
    refine iSeq ?_
    refine split_s (fun σ' H' => ∃ x7 : Int, σ' = [some (.ref a), some (.int t), some (.int T), some (.str R.person), some (.ref wa), some (.int R.first), some (.int R.last), some (.ref ka), some (.int x7), some (.int t), none, none, none, none] ∧ H' = H ∧ ∃ z, R.kind.vals[1]? = some (.int z) ∧ x7 = z) (fun nx hnx => ?_) (fun σ' H' hx => ?_)
    · cases hk : R.kind with
      | tot s0 =>
        rw [hk] at h4 hnx
        exact ⟨.ref ka, rfl, ka, _, _, _, rfl, rfl, sqT h4, atI_nat (j := 1) rfl, .int t, rfl, _, _, rfl, hnx _ _ ⟨s0, rfl, rfl, s0, rfl, rfl⟩⟩
      | win l =>
        rw [hk] at h4 hnx
        exact ⟨.ref ka, rfl, ka, _, _, _, rfl, rfl, sqT h4, atI_nat (j := 1) rfl, .int t, rfl, _, _, rfl, hnx _ _ ⟨l, rfl, rfl, l, rfl, rfl⟩⟩
      | per b e =>
        rw [hk] at h4 hnx
        exact ⟨.ref ka, rfl, ka, _, _, _, rfl, rfl, sqT h4, atI_nat (j := 1) rfl, .int t, rfl, _, _, rfl, hnx _ _ ⟨b, rfl, rfl, b, rfl, rfl⟩⟩
    obtain ⟨x7, rfl, eH, z, hz, rfl⟩ := hx
    rw [eH]
    clear eH H'
    dsimp only
    refine iSeq ?_
    refine split_s (fun σ' H' => σ' = [some (.ref a), some (.int t), some (.int T), some (.str R.person), some (.ref wa), some (.int R.first), some (.int R.last), some (.ref ka), some (.int (R.kind.lo t)), some (.int t), none, none, none, none] ∧ H' = H) (fun nx hnx => ?_) (fun σ' H' hx => ?_)
    · cases hk : R.kind with
      | tot s0 =>
        rw [hk] at h4 hz hnx
        cases hz
        refine iIfS ⟨.ref ka, rfl, ka, _, _, _, rfl, rfl, sqT h4, atI_nat (j := 0) rfl, rfl, _, rfl, ?_⟩
        exact iteF (hnx _ _ ⟨rfl, rfl⟩)
      | win l =>
        rw [hk] at h4 hz hnx
        cases hz
        refine iIfS ⟨.ref ka, rfl, ka, _, _, _, rfl, rfl, sqT h4, atI_nat (j := 0) rfl, rfl, _, rfl, ?_⟩
        exact iteT (iAsg ⟨.int t, rfl, .ref ka, rfl, ka, _, _, _, rfl, rfl, sqT h4, atI_nat (j := 1) rfl, t, x7, rfl, rfl, t - x7, 1, rfl, rfl, 0, t - x7 + 1, rfl, iName (hnx _ _ ⟨rfl, rfl⟩)⟩)
      | per b e =>
        rw [hk] at h4 hz hnx
        cases hz
        refine iIfS ⟨.ref ka, rfl, ka, _, _, _, rfl, rfl, sqT h4, atI_nat (j := 0) rfl, rfl, _, rfl, ?_⟩
        exact iteF (hnx _ _ ⟨rfl, rfl⟩)
    obtain ⟨rfl, eH⟩ := hx
    rw [eH]
    clear eH H'
    dsimp only
    refine iSeq ?_
    refine split_s (fun σ' H2 => σ' = [some (.ref a), some (.int t), some (.int T), some (.str R.person), some (.ref wa), some (.int R.first), some (.int R.last), some (.ref ka), some (.int (R.kind.lo t)), some (.int (R.kind.hi t)), none, none, none, none] ∧ H2 = H) (fun nx hnx => ?_) (fun σ' H2 hx => ?_)
    · cases hk : R.kind with
      | tot s0 =>
        rw [hk] at h4 hnx
        refine iIfS ⟨.ref ka, rfl, ka, _, _, _, rfl, rfl, sqT h4, atI_nat (j := 0) rfl, rfl, _, rfl, ?_⟩
        exact iteF (hnx _ _ ⟨rfl, rfl⟩)
      | win l =>
        rw [hk] at h4 hnx
        refine iIfS ⟨.ref ka, rfl, ka, _, _, _, rfl, rfl, sqT h4, atI_nat (j := 0) rfl, rfl, _, rfl, ?_⟩
        exact iteF (hnx _ _ ⟨rfl, rfl⟩)
      | per b e =>
        rw [hk] at h4 hnx
        refine iIfS ⟨.ref ka, rfl, ka, _, _, _, rfl, rfl, sqT h4, atI_nat (j := 0) rfl, rfl, _, rfl, ?_⟩
        refine iteT (iAsg ⟨.int t, rfl, .ref ka, rfl, ka, _, _, _, rfl, rfl, sqT h4, atI_nat (j := 2) rfl, t, e, rfl, iName (hnx _ _ ⟨?_, rfl⟩)⟩)
        have ee : (if e < t then e else t) = (if t < e then t else e) := by split <;> split <;> omega
        rw [ee]
        rfl
    obtain ⟨rfl, eH⟩ := hx
    rw [eH]
    clear eH H2
    dsimp only
    refine iSeq (iAsg ⟨.int (R.kind.hi t), rfl, .int T, rfl, _, _, rfl, iName ?_⟩)
    dsimp only
    have hm : mn (R.kind.hi t) T ≤ 9 ∧ 0 ≤ mn (R.kind.hi t) T := by
      unfold mn
      split <;> omega
    rw [show (if T < R.kind.hi t then T else R.kind.hi t) = mn (R.kind.hi t) T from rfl]
    clear hz h4
    obtain ⟨b3, b4⟩ := hm
    generalize hlo : R.kind.lo t = lo at *
    generalize hhi : mn (R.kind.hi t) T = hi at *
    refine iSeq (iAsg ⟨Nat.zero_le _, fun Lc hLc => ?_⟩)
    have s1 := same_new (o := .lst []) hLc
    refine iName ?_
    dsimp only
    refine iSeq ?_
    refine ⟨.ref wa, rfl, wa, rfl, ⟨_, sqT (s1 _ _ h2)⟩, ?_⟩
    refine for_tup (xs := ps.map V.ref) (fun i σ' H' => (∃ x10 x11, σ' = [some (.ref a), some (.int t), some (.int T), some (.str R.person), some (.ref wa), some (.int R.first), some (.int R.last), some (.ref ka), some (.int lo), some (.int hi), some (.ref Lc), x10, x11, none]) ∧ Same H H' ∧ ∃ qs, H' Lc = some (.lst (qs.map V.ref)) ∧ Paired (PairRow H') qs (rowOn (R.ws.take i) lo hi))
      ⟨⟨none, none, rfl⟩, s1, [], upd_same, .nil⟩ (fun i σ' H' _ h => sqT (h.2.1 _ _ h2)) (fun i x σ' H' hx h => ?_) (fun σ' H' h => ?_)
    · obtain ⟨⟨x10, x11, rfl⟩, sm, qs, hqs, hqq⟩ := h
      rw [List.getElem?_map] at hx
      obtain ⟨pj, hpj, rfl⟩ := Option.map_eq_some_iff.mp hx
      obtain ⟨c, hc, hcell⟩ := paired_at' h3 hpj
      refine ⟨pj, _, rfl, sqT (sm _ _ hcell), rfl, .str c.1, _, rfl, .int c.2, _, rfl, rfl, ?_⟩
      dsimp only
      refine iDrop' ⟨.ref Lc, rfl, .inl ⟨rfl, _, sqL hqs⟩, ?_⟩
      refine ⟨.int lo, rfl, .int hi, rfl, hi, 1, rfl, rfl, lo, hi + 1, rfl, ⟨by omega, by omega, by omega, by omega⟩, fun D hD => ?_⟩
      refine loop_rg (lo := lo) (n := (hi + 1 - lo).toNat) (fun j H3 => Same H' H3 ∧ ∃ rs, H3 D = some (.lst (rs.map V.ref)) ∧ Paired (PairRow H3) rs (((daysOf lo hi).take j).map fun d => ((c.1, d), c.2))) ⟨same_new hD, [], upd_same, by rw [List.take_zero]; exact .nil⟩ (fun j H3 hj h => ?_) (fun H3 h => ?_)
      · obtain ⟨sm2, rs, hrs, hrr⟩ := h
        have rl := Paired.length hrr
        rw [List.length_map, List.length_take, days_len] at rl
        refine ⟨wipe1, iYes (iteT ?_)⟩
        refine ⟨.str c.1, rfl, .int (lo + (j : Int)), rfl, by show 2 ≤ sizeLine; omega, fun p1 hp1 => ⟨.int c.2, rfl, by show 2 ≤ sizeLine; omega, fun p2 hp2 => ?_⟩⟩
        have c1 := same_new (o := .tup [.str c.1, .int (lo + (j : Int))]) hp1
        have c2 := same_new (o := .tup [.ref p1, .int c.2]) hp2
        have c12 := c1.trans c2
        have hDp := c12 _ _ hrs
        refine ⟨_, hDp, by rw [List.length_map]; omega, fun b o e => ?_, rs ++ [p2], by rw [upd_same, List.map_append]; rfl, ?_⟩
        · rw [upd_ne (ne_of_none e hD)]
          exact c12 _ _ (sm2 _ _ e)
        · have kp : KeepT _ (upd _ D (.lst (rs.map V.ref ++ [.ref p2]))) := KeepT.put hDp fun _ z => nomatch z
          have dj : (daysOf lo hi)[j]? = some (lo + (j : Int)) := by
            unfold daysOf
            rw [List.getElem?_map, List.getElem?_range hj]
            rfl
          rw [List.take_add_one, dj, List.map_append]
          exact Paired.snoc (Paired.mapP hrr fun _ _ z => (z.keep (KeepT.of c12)).keep kp) ⟨p1, kp _ _ upd_same, kp _ _ (c2 _ _ upd_same)⟩
      · obtain ⟨sm2, rs, hrs, hrr⟩ := h
        rw [← days_len, List.take_length] at hrr
        have ql := Paired.length hqq
        have rl := Paired.length hrr
        rw [List.length_map, days_len] at rl
        have m3 := ok.many
        have fl : (rowOn (R.ws.take i) lo hi).length ≤ 3 * 10 := by
          rw [rowOn_len, List.length_take]
          exact Nat.mul_le_mul (by omega) (by omega)
        refine ⟨Lc, D, qs.map V.ref, rs.map V.ref, rfl, rfl, sm2 _ _ hqs, hrs, by rw [List.length_map, List.length_map]; omega, ?_⟩
        have kp : KeepT _ (upd _ Lc (.lst (qs.map V.ref ++ rs.map V.ref))) := KeepT.put (sm2 _ _ hqs) fun _ z => nomatch z
        refine ⟨⟨_, _, rfl⟩, fun b o e => ?_, qs ++ rs, by rw [upd_same, List.map_append], ?_⟩
        · rw [upd_ne (ne_of_none e hLc)]
          exact sm2 _ _ (sm _ _ e)
        · rw [rowOn_snoc hc]
          exact paired_app (Paired.mapP hqq fun _ _ z => (z.keep (KeepT.of sm2)).keep kp) (Paired.mapP hrr fun _ _ z => z.keep kp)
    · obtain ⟨⟨x10, x11, rfl⟩, sm, qs, hqs, hqq⟩ := h
      dsimp only
      rw [List.length_map, Paired.length h3, List.take_length] at hqq
      refine iRet ⟨.ref Lc, rfl, Lc, _, rfl, .inl ⟨sqL hqs, fun p2 hp2 => ?_⟩⟩
      have s6 := same_new (o := .tup (qs.map V.ref)) hp2
      exact q _ p2 (sm.trans s6) ⟨qs, upd_same, Paired.mapP hqq fun _ _ z => z.keep (KeepT.of s6)⟩
end
end P37
/-! _law_future, _law_cost -/
namespace P37
open PySem PySem.Spec PyProof.Rows L2 AskG Ask
abbrev sLF : Stmt := topS 47
abbrev sLCo : Stmt := topS 48
abbrev NLF : List Str := ["_law_claims_here", "_law_date", "_law_found", "_law_label", "_law_claim_here", "_law_k", "_law_line"]
theorem scLF : FnScope NLF ["_law_claims_here", "_law_date"] (defScope sLF) := ⟨rfl, rfl, rfl, by decide +kernel, rfl, by decide +kernel, by decide +kernel⟩
theorem scLCo : FnScope ["_law_claims_here", "_law_date"] ["_law_claims_here", "_law_date"] (defScope sLCo) := ⟨rfl, rfl, rfl, by decide +kernel, rfl, by decide +kernel, by decide +kernel⟩
theorem shaped_row {ρ : RowD} (h : ∀ x ∈ ρ, PyData.strOk x.1.1 = true) : SeqAt.shaped (rowPD ρ) = true := by
  have h1 : PyData.canLayAll0 (ρ.map AskG.pairD) = true := can_all fun x hx => by
    show ((PyData.strOk x.1.1 && (true && true)) && (true && true)) = true
    rw [h x hx]
    rfl
  have h2 : PyData.depthAll (ρ.map AskG.pairD) ≤ 2 := depth_all fun x _ => by
    show max (max 0 (max 0 0) + 1) (max 0 0) + 1 ≤ 2
    decide
  show (PyData.canLayAll0 (ρ.map AskG.pairD) && decide (PyData.depthAll (ρ.map AskG.pairD) + 1 ≤ 64)) = true
  rw [h1, decide_eq_true (by omega)]
  rfl
theorem shaped_rows {zs : List RowD} (h : ∀ ρ ∈ zs, ∀ x ∈ ρ, PyData.strOk x.1.1 = true) : SeqAt.shaped (.list (zs.map rowPD)) = true := by
  have h1 : PyData.canLayAll0 (zs.map rowPD) = true := can_all fun ρ hρ => by
    have z : (PyData.canLayAll0 (ρ.map AskG.pairD) && decide (PyData.depthAll (ρ.map AskG.pairD) + 1 ≤ 64)) = true := shaped_row (h ρ hρ)
    rw [Bool.and_eq_true] at z
    exact z.1
  have h2 : PyData.depthAll (zs.map rowPD) ≤ 3 := depth_all fun ρ _ => by
    have : PyData.depthAll (ρ.map AskG.pairD) ≤ 2 := depth_all fun x _ => by
      show max (max 0 (max 0 0) + 1) (max 0 0) + 1 ≤ 2
      decide
    show PyData.depthAll (ρ.map AskG.pairD) + 1 ≤ 3
    omega
  show (PyData.canLayAll0 (zs.map rowPD) && decide (PyData.depthAll (zs.map rowPD) + 1 ≤ 64)) = true
  rw [h1, decide_eq_true (by omega)]
  rfl
theorem shaped_tnil : SeqAt.shaped (.tuple []) = true := by decide
theorem row_ne (ρ : RowD) : (!PyData.eqv (rowPD ρ) (.tuple [])) = decide (ρ ≠ []) := by
  cases ρ with
  | nil => rfl
  | cons x ρ =>
    rw [decide_eq_true (by intro z; cases z)]
    rfl
theorem eqv_pairs : ∀ xs ys : RowD, PyData.eqvAll (xs.map AskG.pairD) (ys.map AskG.pairD) = decide (xs = ys)
  | [], [] => rfl
  | [], _ :: _ => rfl
  | _ :: _, [] => rfl
  | c :: cs, e :: es => by
    have h : PyData.eqv (AskG.pairD c) (AskG.pairD e) = decide (c = e) := by
      show ((c.1.1 == e.1.1 && (c.1.2 == e.1.2 && true)) && (c.2 == e.2 && true)) = decide (c = e)
      rw [Bool.and_true, Bool.and_true, Bool.eq_iff_iff, Bool.and_eq_true, Bool.and_eq_true, beq_iff_eq, beq_iff_eq, beq_iff_eq, decide_eq_true_iff]
      exact ⟨fun h => Prod.ext (Prod.ext h.1.1 h.1.2) h.2, fun h => by rw [h]; exact ⟨⟨rfl, rfl⟩, rfl⟩⟩
    show (PyData.eqv (AskG.pairD c) (AskG.pairD e) && PyData.eqvAll (cs.map AskG.pairD) (es.map AskG.pairD)) = _
    rw [h, eqv_pairs cs es, Bool.eq_iff_iff, Bool.and_eq_true, decide_eq_true_iff, decide_eq_true_iff, decide_eq_true_iff, List.cons_eq_cons]
theorem eqv_row (a b : RowD) : PyData.eqv (rowPD a) (rowPD b) = decide (a = b) := eqv_pairs a b
theorem any_row (zs : List RowD) (ρ : RowD) : ((zs.map rowPD).any fun z => PyData.eqv z (rowPD ρ)) = decide (ρ ∈ zs) := by
  rw [List.any_map, Bool.eq_iff_iff, List.any_eq_true, decide_eq_true_iff]
  constructor
  · rintro ⟨z, hz, e⟩
    have e : PyData.eqv (rowPD z) (rowPD ρ) = true := e
    rw [eqv_row, decide_eq_true_iff] at e
    exact e ▸ hz
  · intro h
    refine ⟨ρ, h, ?_⟩
    show PyData.eqv (rowPD ρ) (rowPD ρ) = true
    rw [eqv_row, decide_eq_true rfl]
theorem mem_rowOn {ws : List Cell} {lo hi : Int} {x : Cell × Int} (h : x ∈ rowOn ws lo hi) : ∃ c ∈ ws, ∃ d, lo ≤ d ∧ d ≤ hi ∧ x = ((c.1, d), c.2) := by
  obtain ⟨c, hc, hx⟩ := List.mem_flatMap.mp h
  obtain ⟨d, hd, rfl⟩ := List.mem_map.mp hx
  have hd := mem_days.mp hd
  exact ⟨c, hc, d, hd.1, hd.2, rfl⟩
theorem rowOn_nodup (lo hi : Int) : ∀ {ws : List Cell}, NamesUp ws → (keys (rowOn ws lo hi)).Nodup
  | [], _ => List.nodup_nil
  | x :: ws, h => by
    have e : keys (rowOn (x :: ws) lo hi) = (daysOf lo hi).map (fun d => (x.1, d)) ++ keys (rowOn ws lo hi) := by
      show keys ((daysOf lo hi).map (fun d => ((x.1, d), x.2)) ++ rowOn ws lo hi) = _
      unfold keys
      rw [List.map_append, List.map_map]
      rfl
    rw [e]
    obtain ⟨h1, h2⟩ := List.pairwise_cons.mp h
    refine List.nodup_append.mpr ⟨?_, rowOn_nodup lo hi h2, fun a ha b hb e => ?_⟩
    · unfold daysOf
      rw [List.map_map]
      refine List.pairwise_map.mpr (List.nodup_range.imp fun h e => h ?_)
      have := congrArg Prod.snd e
      have this : lo + ((_ : Nat) : Int) = lo + ((_ : Nat) : Int) := this
      omega
    · obtain ⟨d, _, rfl⟩ := List.mem_map.mp ha
      obtain ⟨y, hy, rfl⟩ := List.mem_map.mp hb
      obtain ⟨c, hc, d', _, _, rfl⟩ := mem_rowOn hy
      have := h1 c hc
      have e : (x.1, d) = (c.1, d') := e
      have e1 : x.1 = c.1 := (Prod.mk.inj e).1
      rw [e1] at this
      exact List.lt_irrefl _ this
/-- rights whose weights are not 0 -/
def NzR (rs : List (Str × Rt)) : Prop := ∀ x ∈ rs, ∀ c ∈ x.2.ws, c.2 ≠ 0
theorem fut_okD {rs : List (Str × Rt)} (cr : CRs rs) (nz : NzR rs) {T : Int} (t0 : 0 ≤ T) {ρ : RowD} (h : ∃ x ∈ rs, ρ ∈ futR x.2 T) : OkD ρ ∧ ∀ x ∈ ρ, x.2.natAbs ≤ 3 := by
  obtain ⟨x, hx, hf⟩ := h
  obtain ⟨m, ok⟩ := cr.ok
  obtain ⟨o1, o2, o3, _⟩ := ok.all x hx
  have t9 : T ≤ 9 := by
    have h1 := (mem_fut.mp hf).1
    have h2 := soon_gt x.2 T
    have h3 := o2.l9
    omega
  obtain ⟨_, f2⟩ := fut_row o1 o2 (cr.wg x hx) t0 t9 hf
  obtain ⟨_, b, _, _, e⟩ := mem_fut.mp hf
  refine ⟨⟨by rw [e]; exact rowOn_nodup _ _ o3, fun y hy => ?_, fun z hz => ?_⟩, fun y hy => (f2 y hy).1⟩
  · rw [e] at hy
    obtain ⟨c, hc, d, _, _, rfl⟩ := mem_rowOn hy
    exact nz x hx c hc
  · obtain ⟨y, hy, rfl⟩ := List.mem_map.mp hz
    exact (f2 y hy).2
/-- the row of a day to come -/
def rowT (R : Rt) (T t : Int) : RowD := rowOn R.ws (R.kind.lo t) (mn (R.kind.hi t) T)
theorem rowT_ok {R : Rt} (h : RtOk R) (T t : Int) : ∀ x ∈ rowT R T t, PyData.strOk x.1.1 = true := fun x hx => by
  obtain ⟨c, hc, d, _, _, rfl⟩ := mem_rowOn hx
  exact (h.ws c hc).ok
section
variable {P : Program} {w : World} {K : PySem.W.Frag} {mg : Str → Option Value} {base : Heap}
variable {fP fB fF : Addr} {fdP fdB fdF : FuncData}
def prLF : Pr := fun vs H Q => ∃ (a : Addr) (rs : List (Str × Rt)) (T : Int), vs = [.ref a, .int T] ∧ RightsAt H a rs ∧ CRs rs ∧ 0 ≤ T ∧ T ≤ 20 ∧
  ∀ H' p qs ys, Same H H' → H' p = some (.lst (qs.map V.ref)) → Paired (RowAt H') qs ys → (∀ ρ, ρ ∈ ys ↔ ∃ x ∈ rs, ρ ∈ futR x.2 T) → Q (.ref p) H'
theorem ok_lf {f : Addr} {fd : FuncData} {k : Nat} (F : Fun K "_law_future" "_law_future" sLF f fd)
    (FP : Fun K "_law_part" "_law_part" sLP fP fdP) (bP : Binds K fdP ["_law_claim_here", "_law_date", "_law_top"] []) (gP : mg "_law_part" = some (.ref fP)) (GP : FnG P w K mg base (k + 1) fP fdP ["_law_claim_here", "_law_date", "_law_top"] prLP)
    (mx' : mg "max" = none) (mr : mg "range" = none) (ms : mg "sorted" = none) : FnG P w K mg base (k + 2) f fd ["_law_claims_here", "_law_date"] prLF := by
  refine okG F scLF (fun vs H Q h => ?_) (fun cdv A outer s H vs Q hr h => ?_)
  · obtain ⟨_, _, _, rfl, _⟩ := h
    rfl
  · obtain ⟨a, rs, T, rfl, hR, cr, t0, t9, q⟩ := h
    have big := sizeBig
    have hun := hr.room.units
    have hu8 := Nat.lt_of_le_of_lt (Nat.add_le_add_left (by decide : 8 ≤ 64) _) hun
    have hu65 : (A.deeper (envOfC "_law_future" (defScope sLF) s.heap.objs.size f cdv)).units + 65 < cLine := by
      have := hr.room.un
      omega
    obtain ⟨m, ok⟩ := id cr.ok
    obtain ⟨ps, h1, h2⟩ := id hR
    have pl := Paired.length h2
    have rl : rs.length ≤ 30 := by
      have := Nat.le_trans (Nat.mul_le_mul_left rs.length ok.m1) ok.few
      omega
    refine ⟨_, pss_cons (ps_set (i := 2) scLF.nd rfl (.inl rfl) (pe_lst pa_nil))
      (pss_cons (ps_for PassesOwn.never rfl (pi_tup (pv 0)) (pg_tup rfl (pgs_cons (pg_name (i := 3) scLF.nd rfl (.inl rfl)) (pgs_cons (pg_name (i := 4) scLF.nd rfl (.inl rfl)) pgs_nil)))
        (pss_one (ps_for PassesOwn.never rfl (pi_range2 (by rfl) mr (pa_cons (pe_callB (call_max2 rfl) (by rfl) mx' (by decide +kernel) (pa_cons (pe_op op_add (pv 1) pe_int) (pa_cons (pe_ix (ix_tup : IxR _ (rIxT K)) (pv 4) pe_int (fun _ _ => rfl)) pa_nil))) (pa_cons (pe_op op_add (pe_ix (ix_tup : IxR _ (rIxT K)) (pv 4) pe_int (fun _ _ => rfl)) pe_int) pa_nil))) (pg_name (i := 5) scLF.nd rfl (.inl rfl))
          (pss_cons (ps_set (i := 6) scLF.nd rfl (.inl rfl) (pe_g GP hr (by rfl) gP FP.kp bP .nil (pa_cons (pv 4) (pa_cons (pv 5) (pa_cons (pv 1) pa_nil)))))
          (pss_one (ps_if (PW.pt (pw_and (pt_cmpR (op_neD hun) (pv 6) (pe_tup pa_nil) (nomark _)) (pw_and1 (pt_cmpR (op_notInD hu65) (pv 6) (pv 2) (by rfl))))) (pss_one (ps_expr (pe_bm PySem.F.plainAttrs_list PySem.F.slot_list_append PySem.F.type_list_append mt_append (pv 2) (pa_cons (pv 6) pa_nil)))) pss_nil))))))
      (pss_one (ps_ret (pe_callB (cr_sortLR hu8) (by rfl) ms (by decide +kernel) (pa_cons (pv 2) pa_nil))))), ?_⟩
    refine iSeq (iAsg ⟨Nat.zero_le _, fun R hRn => iName ?_⟩)
    dsimp only
    have s1 := same_new (o := .lst []) hRn
    have hR1 : (upd H R (.lst [])) R = some (.lst []) := upd_same
    generalize upd H R (.lst []) = H1 at s1 hR1 ⊢
    refine iSeq ⟨.ref a, rfl, a, rfl, ⟨_, sqT (s1 _ _ h1)⟩, ?_⟩
    refine for_tup (xs := ps.map V.ref) (fun i σ' H' => (∃ x3 x4 x5 x6, σ' = [some (.ref a), some (.int T), some (.ref R), x3, x4, x5, x6]) ∧ Same H H' ∧ ∃ qs zs, H' R = some (.lst (qs.map V.ref)) ∧ Paired (RowAt H') qs zs ∧ zs.length ≤ 10 * i ∧ (∀ ρ ∈ zs, ∀ x ∈ ρ, PyData.strOk x.1.1 = true) ∧ ∀ ρ, ρ ∈ zs ↔ ∃ x ∈ rs.take i, ρ ∈ latR x.2 T ∧ ρ ≠ [])
      ⟨⟨_, _, _, _, rfl⟩, s1, [], [], hR1, .nil, Nat.le_refl _, fun ρ hρ => absurd hρ (by simp), fun ρ => ⟨fun z => absurd z (by simp), fun ⟨x, hx, _⟩ => by rw [List.take_zero] at hx; exact absurd hx (by simp)⟩⟩ (fun i σ' H' _ h => sqT (h.2.1 _ _ h1)) (fun i v σ' H' hv h => ?_) (fun σ' H2 h => ?_)
    · obtain ⟨⟨x3, x4, x5, x6, rfl⟩, sm, qs, zs, hqs, hqq, zl, zok, zmem⟩ := h
      rw [List.getElem?_map] at hv
      obtain ⟨pi, hpi, rfl⟩ := Option.map_eq_some_iff.mp hv
      obtain ⟨y, hy, r, hnm, hr'⟩ := paired_at' h2 hpi
      have il : i < rs.length := (List.getElem?_eq_some_iff.mp hy).1
      obtain ⟨okR, okD, up, cm⟩ := ok.all _ (List.mem_of_getElem? hy)
      obtain ⟨wa, pw, ka, g1, g2, g3, g4⟩ := id hr'
      have l9 := okD.l9
      have f0 := okR.f0
      have sg := soon_gt y.2 T
      have es : (if y.2.first > T + 1 then y.2.first else T + 1) = soon y.2 T := by
        unfold soon
        split <;> split <;> omega
      have sb : 0 ≤ soon y.2 T ∧ soon y.2 T ≤ 40 := by
        have := okR.f1
        unfold soon
        split <;> omega
      refine ⟨pi, _, rfl, sqT (sm _ _ hnm), rfl, .str y.1, _, rfl, .ref r, _, rfl, rfl, ?_⟩
      dsimp only
      refine ⟨.int T, rfl, T, 1, rfl, rfl, .ref r, rfl, r, _, _, _, rfl, rfl, sqT (sm _ _ g1), atI_nat (j := 2) rfl, _, _, rfl, .ref r, rfl, r, _, _, _, rfl, rfl, sqT (sm _ _ g1), atI_nat (j := 3) rfl, _, 1, rfl, rfl, _, _, rfl, ?_⟩
      rw [es]
      have l0 := okR.l0
      refine ⟨⟨by omega, by omega, by omega, by omega⟩, ?_⟩
      refine for_range (lo := soon y.2 T) (n := (y.2.last + 1 - soon y.2 T).toNat) (fun j σ' H' => (∃ x5 x6, σ' = [some (.ref a), some (.int T), some (.ref R), some (.str y.1), some (.ref r), x5, x6]) ∧ Same H H' ∧ ∃ qs zs, H' R = some (.lst (qs.map V.ref)) ∧ Paired (RowAt H') qs zs ∧ zs.length ≤ 10 * i + j ∧ (∀ ρ ∈ zs, ∀ x ∈ ρ, PyData.strOk x.1.1 = true) ∧ ∀ ρ, ρ ∈ zs ↔ (∃ x ∈ rs.take i, ρ ∈ latR x.2 T ∧ ρ ≠ []) ∨ ∃ t, soon y.2 T ≤ t ∧ t < soon y.2 T + (j : Int) ∧ ρ = rowT y.2 T t ∧ ρ ≠ [])
        ⟨⟨_, _, rfl⟩, sm, qs, zs, hqs, hqq, zl, zok, fun ρ => by
          rw [zmem ρ]
          refine ⟨.inl, fun h => h.elim id fun ⟨t, h1, h2, _⟩ => ?_⟩
          have h2 : t < soon y.2 T + 0 := h2
          omega⟩ (fun j σ' H' hj h => ?_) (fun σ' H' h => ?_)
      · obtain ⟨⟨x5, x6, rfl⟩, sm2, qs, zs, hqs, hqq, zl, zok, zmem⟩ := h
        obtain ⟨t, et⟩ : ∃ t, t = soon y.2 T + (j : Int) := ⟨_, rfl⟩
        rw [← et]
        refine iName ?_
        dsimp only
        refine iSeq (iAsg ⟨.ref r, rfl, .int t, rfl, .int T, rfl, r, y.2, t, T, rfl, hr'.keep (KeepT.of sm2), okR, by omega, by omega, t0, fun H3 p s3 hp => iName ?_⟩)
        dsimp only
        have hp : RowAt H3 p (rowT y.2 T t) := hp
        have rok := rowT_ok okR T t
        have hqs3 := s3 _ _ hqs
        have hqq3 : Paired (RowAt H3) qs zs := Paired.mapP hqq fun _ _ z => z.keep (KeepT.of s3)
        have sm3 := sm2.trans s3
        have lt_j : ∀ u, u < soon y.2 T + ((j + 1 : Nat) : Int) ↔ u < soon y.2 T + (j : Int) ∨ u = t := fun u => by omega
        refine iIfS ⟨.ref p, rfl, Nat.zero_le _, fun e1 he1 => ?_⟩
        have sd := same_new (o := .tup []) he1
        refine ⟨rowPD (rowT y.2 T t), .tuple [], dp_row (hp.keep (KeepT.of sd)), .tup (sqT upd_same) .nil, shaped_row rok, shaped_tnil, _, rfl, ?_⟩
        have hqs4 := sd _ _ hqs3
        have hqq4 : Paired (RowAt _) qs zs := Paired.mapP hqq3 fun _ _ z => z.keep (KeepT.of sd)
        have hp4 := hp.keep (KeepT.of sd)
        have sm4 := sm3.trans sd
        generalize upd H3 e1 (.tup []) = H4 at hqs4 hqq4 hp4 sm4 ⊢
        rw [row_ne]
        by_cases em : rowT y.2 T t = []
        · rw [decide_eq_false fun z => z em]
          refine iteF (iteF ⟨⟨_, _, rfl⟩, sm4, qs, zs, hqs4, hqq4, by omega, zok, fun ρ => ?_⟩)
          rw [zmem ρ]
          refine or_congr Iff.rfl ⟨fun ⟨u, a1, a2, a3⟩ => ⟨u, a1, by omega, a3⟩, fun ⟨u, a1, a2, a3, a4⟩ => ⟨u, a1, ?_, a3, a4⟩⟩
          rcases (lt_j u).mp a2 with h | h
          · exact h
          · rw [h] at a3
            exact absurd (a3.trans em) a4
        · rw [decide_eq_true em]
          refine iteT ⟨.ref p, rfl, .ref R, rfl, rowPD (rowT y.2 T t), zs.map rowPD, dp_row hp4, .lst (sqL hqs4) (dp_all (f := rowPD) (R := RowAt _) (fun _ _ z => dp_row z) hqq4), shaped_row rok, shaped_rows zok, _, rfl, ?_⟩
          rw [any_row]
          by_cases hm : rowT y.2 T t ∈ zs
          · rw [decide_eq_true hm]
            refine iteF ⟨⟨_, _, rfl⟩, sm4, qs, zs, hqs4, hqq4, by omega, zok, fun ρ => ?_⟩
            rw [zmem ρ]
            refine ⟨fun h => h.imp id fun ⟨u, a1, a2, a3⟩ => ⟨u, a1, by omega, a3⟩, fun h => h.elim .inl fun ⟨u, a1, a2, a3, a4⟩ => ?_⟩
            rcases (lt_j u).mp a2 with h | h
            · exact .inr ⟨u, a1, h, a3, a4⟩
            · rw [h] at a3
              rw [← a3] at hm
              exact (zmem ρ).mp hm
          · rw [decide_eq_false hm]
            have ql := Paired.length hqq4
            have jl : (j : Int) ≤ 10 := by omega
            refine iteT (iDrop' ⟨.ref R, rfl, .inl ⟨rfl, _, sqL hqs4⟩, .ref p, rfl, R, _, _, rfl, rfl, hqs4, by rw [List.length_map]; omega, ⟨_, _, rfl⟩, fun b o e => ?_, qs ++ [p], zs ++ [rowT y.2 T t], by rw [upd_same, List.map_append]; rfl, ?_, by rw [List.length_append]; show _ + 1 ≤ _; omega, fun ρ hρ => ?_, fun ρ => ?_⟩)
            · rw [upd_ne (ne_of_none e hRn)]
              exact sm4 _ _ e
            · have kp : KeepT H4 (upd H4 R (.lst (qs.map V.ref ++ [.ref p]))) := KeepT.put hqs4 fun _ z => nomatch z
              exact paired_app (Paired.mapP hqq4 fun _ _ z => z.keep kp) (.cons (hp4.keep kp) .nil)
            · rcases List.mem_append.mp hρ with hρ | hρ
              · exact zok ρ hρ
              · rw [List.mem_singleton.mp hρ]
                exact rok
            · rw [List.mem_append, List.mem_singleton, zmem ρ]
              constructor
              · rintro (h | h)
                · exact h.imp id fun ⟨u, a1, a2, a3⟩ => ⟨u, a1, by omega, a3⟩
                · exact .inr ⟨t, by omega, by omega, h, h ▸ em⟩
              · rintro (h | ⟨u, a1, a2, a3, a4⟩)
                · exact .inl (.inl h)
                · rcases (lt_j u).mp a2 with h | h
                  · exact .inl (.inr ⟨u, a1, h, a3, a4⟩)
                  · rw [h] at a3
                    exact .inr a3
      · obtain ⟨⟨x5, x6, rfl⟩, sm2, qs, zs, hqs, hqq, zl, zok, zmem⟩ := h
        refine ⟨⟨_, _, _, _, rfl⟩, sm2, qs, zs, hqs, hqq, by omega, zok, fun ρ => ?_⟩
        have e : (∃ x ∈ rs.take (i + 1), ρ ∈ latR x.2 T ∧ ρ ≠ []) ↔ (∃ x ∈ rs.take i, ρ ∈ latR x.2 T ∧ ρ ≠ []) ∨ (ρ ∈ latR y.2 T ∧ ρ ≠ []) := by
          rw [List.take_add_one, hy]
          constructor
          · rintro ⟨x, hx, h⟩
            rcases List.mem_append.mp hx with hx | hx
            · exact .inl ⟨x, hx, h⟩
            · have ex : x = y := by simpa using hx
              rw [ex] at h
              exact .inr h
          · rintro (⟨x, hx, h⟩ | h)
            · exact ⟨x, List.mem_append_left _ hx, h⟩
            · exact ⟨y, List.mem_append_right _ (by simp), h⟩
        rw [zmem ρ, e, mem_lat]
        refine or_congr Iff.rfl ⟨fun ⟨u, a1, a2, a3, a4⟩ => ⟨⟨u, a1, by omega, a3⟩, a4⟩, fun ⟨⟨u, a1, a2, a3⟩, a4⟩ => ⟨u, a1, by omega, a3, a4⟩⟩
    · obtain ⟨⟨x3, x4, x5, x6, rfl⟩, sm, qs, zs, hqs, hqq, zl, zok, zmem⟩ := h
      rw [List.length_map, pl, List.take_length] at zmem
      try dsimp only
      refine iRet ⟨.ref R, rfl, R, qs, zs, rfl, sqL hqs, hqq, fun ρ hρ => ?_, fun ys ts p pm _ hyy hp => ?_⟩
      · obtain ⟨_, _, _, h⟩ := (zmem ρ).mp hρ
        exact h
      · have s3 := same_new (o := .lst (ys.map V.ref)) hp
        refine q _ p ys ts (sm.trans s3) upd_same (Paired.mapP hyy fun _ _ z => z.keep (KeepT.of s3)) fun ρ => ?_
        rw [pm.mem_iff, zmem ρ]
        exact ⟨fun ⟨x, hx, h⟩ => ⟨x, hx, (fut_lat (ok.all x hx).2.1.some ρ).mpr h⟩, fun ⟨x, hx, h⟩ => ⟨x, hx, (fut_lat (ok.all x hx).2.1.some ρ).mp h⟩⟩
/-- what the law says that rights cost -/
def prLCo : Pr := fun vs H Q => ∃ (a : Addr) (rs : List (Str × Rt)) (T : Int), vs = [.ref a, .int T] ∧ RightsAt H a rs ∧ CRs rs ∧ NzR rs ∧ 0 ≤ T ∧ T ≤ 20 ∧ ∀ H', Same H H' → Q (.int (cst rs T : Int)) H'
theorem ok_lco {f : Addr} {fd : FuncData} {k : Nat} (F : Fun K "_law_cost" "_law_cost" sLCo f fd)
    (FB : Fun K "_law_bases" "_law_bases" sLB fB fdB) (bB : Binds K fdB ["_law_lines"] []) (gB : mg "_law_bases" = some (.ref fB)) (GB : FnG P w K mg base (k + 4) fB fdB ["_law_lines"] prLB)
    (FF : Fun K "_law_future" "_law_future" sLF fF fdF) (bF : Binds K fdF ["_law_claims_here", "_law_date"] []) (gF : mg "_law_future" = some (.ref fF)) (GF : FnG P w K mg base (k + 4) fF fdF ["_law_claims_here", "_law_date"] prLF)
    (ml : mg "len" = none) : FnG P w K mg base (k + 5) f fd ["_law_claims_here", "_law_date"] prLCo := by
  refine okG F scLCo (fun vs H Q h => ?_) (fun cdv A outer s H vs Q hr h => ?_)
  · obtain ⟨_, _, _, rfl, _⟩ := h
    rfl
  · obtain ⟨a, rs, T, rfl, hR, cr, nz, t0, t9, q⟩ := h
    refine ⟨_, pss_one (ps_ret (pe_callB call_len_seq (by rfl) ml PySem.boot_len (pa_cons (pe_g GB hr (by rfl) gB FB.kp bB .nil (pa_cons (pe_g GF hr (by rfl) gF FF.kp bF .nil (pa_cons (pv 0) (pa_cons (pv 1) pa_nil))) pa_nil)) pa_nil))), ?_⟩
    refine iRet ⟨.ref a, rfl, .int T, rfl, a, rs, T, rfl, hR, cr, t0, t9, fun H1 p qs ys s1 hp hqq mem => ?_⟩
    refine ⟨p, qs, ys, rfl, hp, hqq, fun ρ hρ => fut_okD cr nz t0 ((mem ρ).mp hρ), fun H2 p2 ts s2 hp2 tl => ?_⟩
    refine ⟨p2, _, rfl, .inl (sqL hp2), ?_⟩
    rw [tl, show rkR ys = cst rs T from rk_set fun ρ => (mem ρ).trans mem_FR.symm]
    exact q _ (s1.trans s2)
end
end P37
/-! AskXd: defs that may raise and have defaults. -/
namespace AskG
open PySem PySem.Spec PyProof.Rows L2
section
variable {P : Program} {w : World} {K : PySem.W.Frag} {mg : Str → Option Value} {base : Heap}
theorem okXD {x qual : Str} {params : Arguments} {body : List Stmt} {scope : Scope} {dvs : List V} {kws : List (Str × V)} {f : Addr} {fd : FuncData} {N ps : List Str} {k : Nat} {sp : Sp} (F : FunD K x qual params body scope dvs kws f fd) (S : FnScope N ps scope)
    (many : ∀ vs H Q E, sp vs H Q E → vs.length = ps.length)
    (body_ok : ∀ (cdv : Value) (A : Around) (outer : List Env) (s : Shared) (H : Hp) (vs : List V) (Q : VK) (E : XK),
      Room k (A.deeper (envOfC qual scope s.heap.objs.size f cdv)) → Takes (cxX P w K mg base N qual scope f cdv A outer s H E) (fun cls d _ H' => E cls d H') →
      PassesOwn (model P w) (A.deeper (envOfC qual scope s.heap.objs.size f cdv)) (envOfC qual scope s.heap.objs.size f cdv) (cxX P w K mg base N qual scope f cdv A outer s H E).xe → sp vs H Q E →
      ∃ t, PSs (cxX P w K mg base N qual scope f cdv A outer s H E) body t ∧ t { nx := fun _ H' => Q .non H', rt := Q } (start N vs) H) :
    FnX P w K mg base (k + 1) f fd ps sp := by
  obtain ⟨oc, od, dV, kV, doc, pm, an, cdv, ct, osl, rfl, lk, hcd, _, _⟩ := F.ex
  exact fn_of lk hcd S many fun A outer s H vs Q E hr hsp => body_ok cdv A outer s H vs Q E hr (takes_of rfl rfl rfl rfl) (passes_of rfl) hsp
end
section
variable {X : Cx} {k : Nat} {f : Addr} {fd : FuncData} {ps : List Str} {sp : Sp} {x : Str} {p pos : Pos} {e : Expr} {es : List Expr} {t : TA} {W : WX} {ds : List Value} {dvs : List V}
/-- f(..), some parameters left out, what it raises taken by W -/
def tCallXD (sp : Sp) (W : WX) (dvs : List V) (t : TA) : TE := fun σ H Q => t σ H fun vs H1 => sp (vs ++ dvs) H1 Q fun cls d H' => W cls d σ H'
theorem pe_xd (F : FnX X.prog X.w X.K X.mg X.base k f fd ps sp) (hr : Room k X.A) (hg : Gl X x) (hm : X.mg x = some (.ref f)) (hk : PySem.W.keepIn X.K (.ref f) = true) (hb : Binds X.K fd ps ds) (hd : Vals dvs ds) (tk : Takes X W) (ha : PA X (e :: es) t)
    (hdb : (x == ("__debug__" : Str)) = false := by decide) (he : starEach (e :: es) X.env = (false, eval e X.env) :: starEach es X.env := by rfl) (hpl : (backTo pos (starEach es X.env)).any (·.1) = false := by rfl) :
    PE X (.Call (.Name x p) (e :: es) [] pos) (tCallXD sp W dvs t) := by
  constructor
  intro pins s σ H Q I h
  refine wpAny_Call_Name_kw (ld_glob I hg hm ?_ hdb)
  refine PySem.W.callWith_K (h₀ := X.base) I.ok.mod.kin hk (thn (ha.run pos pins s σ H _ I h) ?_) he hpl
  rintro us s1 ⟨vs, H1, I1, r, q⟩
  refine ⟨I1.kIn, ?_⟩
  have rr := r.append hd
  have hl := F.len _ _ _ _ q
  have b := hb s1 us I1.kIn (by rw [← rr.length]; exact hl)
  have hx := passAt tk σ
  refine wpAny_call (codeAny_mono (F.run X.A X.stack s1 H1 ⟨us, []⟩ _ _ Q (WE W σ) hr I1.env0 b rr q) fun res s' hq => ?_)
  cases res with
  | error e => exact hx pins H1 s1 e s' I1 hq
  | ok fl =>
    cases fl with
    | ret u => exact I1.after hq
    | next => exact False.elim hq
    | brk => exact False.elim hq
    | cont => exact False.elim hq
end
end AskG
/-! check_names where it raises -/
namespace P37
open PySem PySem.Spec PyProof.Rows L2 AskG Ask
abbrev sUnk : Stmt := (clsBody (topS 28)).getD 0 (.Pass ⟨0, 0, 0, 0⟩)
theorem scUnk : FnScope ["self", "name"] ["self", "name"] (defScope sUnk) := ⟨rfl, rfl, rfl, by decide +kernel, rfl, by decide +kernel, by decide +kernel⟩
/-- what the top says of the error UnknownName -/
structure UnkC (K : PySem.W.Frag) (mg : Str → Option Value) (C fI : Addr) : Prop where
  T : OexC K C
  ini : PySem.W.findIn K (.ref C) "__init__" = some (some (.ref fI))
  ty : PySem.W.typeIn K (.ref fI) = some (.type "function")
  no : PySem.W.findIn K (.ref C) "name" = some none
  gl : mg "UnknownName" = some (.ref C)
/-- the first name that is not known -/
def strange (rs : List (Str × Rt)) (zs : List Str) : Option Str := zs.find? fun z => !inS z (rs.map (·.1))
section
variable {P : Program} {w : World} {K : PySem.W.Frag} {mg : Str → Option Value} {base : Heap}
variable {C fI : Addr} {fdI : FuncData}
def prUnk (C : Addr) : Pr := fun vs H Q => ∃ (a : Addr) (y : V), vs = [.ref a, y] ∧ H a = some (exo a C none) ∧ ∀ dx, H dx = none → dx ≠ a → Q .non (upd (upd H dx (exd dx [("name", y)])) a (exo a C (some dx)))
theorem ok_unk {f : Addr} {fd : FuncData} {k : Nat} (U : UnkC K mg C f) (F : Fun K "__init__" "UnknownName.__init__" sUnk f fd) : FnX P w K mg base (k + 1) f fd ["self", "name"] (quiet (prUnk C)) := by
  refine okN F scUnk (fun vs H Q h => ?_) (fun cdv A outer s H E vs Q hr h => ?_)
  · obtain ⟨_, _, rfl, _⟩ := h
    rfl
  · obtain ⟨a, y, rfl, ha, q⟩ := h
    refine ⟨_, pss_one (ps_ost (pv 0) (pv 1)), ?_⟩
    exact ⟨y, rfl, .ref a, rfl, a, C, rfl, U.T, U.no, .inl ⟨ha, fun dx h1 h2 => q dx h1 h2⟩⟩
def spCN (C : Addr) : Sp := fun vs H Q E => ∃ (l n : Addr) (rs : List (Str × Rt)) (zs : List Str), vs = [.ref l, .ref n] ∧ RightsAt H l rs ∧ rs.length ≤ 100 ∧ (TxtAt H n zs ∨ H n = some (.lst (zs.map V.str))) ∧
  (strange rs zs = none → ∀ H', Same H H' → Q .non H') ∧ ∀ z, strange rs zs = some z → ∀ H' d, Same H H' → H' d = some (.xd [("name", .str z)]) → E (.ref C) (some d) H'
theorem ok_cn {f : Addr} {fd : FuncData} {k : Nat} (F : Fun K "check_names" "check_names" sKN f fd) (U : UnkC K mg C fI) (FI : Fun K "__init__" "UnknownName.__init__" sUnk fI fdI) (bI : Binds K fdI ["self", "name"] []) :
    FnX P w K mg base (k + 3) f fd ["rights", "names"] (spCN C) := by
  have GI : FnX P w K mg base (k + 1) fI fdI ["self", "name"] (quiet (prUnk C)) := ok_unk U FI
  refine okX F scKN (fun vs H Q E h => ?_) (fun cdv A outer s H vs Q E hr tk pa h => ?_)
  · obtain ⟨_, _, _, _, rfl, _⟩ := h
    rfl
  · obtain ⟨l, n, rs, zs, rfl, hR, lr, hN0, q1, q2⟩ := h
    have big := sizeBig
    obtain ⟨ps, hl, hps⟩ := id hR
    rcases hN0 with hN | hN
    · skip
      refine ⟨_, pss_cons (ps_setLc (i := 2) (own := [("name", 3), ("right", 4)]) (g := g2 K 3 4) (tt := tYes) rfl scKN.nd rfl rfl (sw_true rfl rfl rfl (by decide +kernel)) (pi_tup (pv 0)) (blkOk_by (N := NKN) (sc := defScope sKN) (by decide +kernel))
          (fun _ _ _ _ _ => pg_tup rfl (pgs_cons (pg_name (i := 3) scKN.nd rfl (.inl rfl)) (pgs_cons (pg_name (i := 4) scKN.nd rfl (.inl rfl)) pgs_nil))) (fun _ _ _ _ _ => pts_nil) (fun _ _ _ _ _ => pv 3))
        (pss_one (ps_for pa rfl (pi_tup (pv 1)) (pg_name (i := 3) scKN.nd rfl (.inl rfl))
          (pss_one (ps_if (pt_cmpR (op_notIn_seq : OpR _ _ (rIn K true)) (pv 3) (pv 2) (by rfl))
            (pss_one (ps_raise rfl tk (pmk_oex U.T U.ini U.ty GI hr bI .nil (passes_call LamX.takes0 fun _ _ _ _ z => z) (by rfl) U.gl (pa_cons (pv 3) pa_nil)))) pss_nil)))), ?_⟩
      have pl := Paired.length hps
      refine iSeq (iAsg ⟨.ref l, rfl, l, rfl, ⟨_, sqT hl⟩, fun D hD => ?_⟩)
      refine loop_tup (K := K) (a := l) (xs := ps.map V.ref) (fun i H' => Same H H' ∧ H' D = some (.lst ((((rs.map (·.1)).take i)).map V.str))) ⟨same_new hD, by rw [List.take_zero]; exact upd_same⟩ (fun i H' h => sqT (h.1 _ _ hl)) (fun i v H' hv h => ?_) (fun H1 h => ?_)
      · obtain ⟨sm, hcs⟩ := h
        rw [List.getElem?_map] at hv
        obtain ⟨pi, hpi, rfl⟩ := Option.map_eq_some_iff.mp hv
        obtain ⟨m, hm, r, hnm, hr'⟩ := paired_at' hps hpi
        have il : i < rs.length := (List.getElem?_eq_some_iff.mp hm).1
        refine ⟨pi, _, rfl, sqT (sm _ _ hnm), rfl, .str m.1, _, rfl, .ref r, _, rfl, rfl, wipe2 (by decide), iYes (iteT ?_)⟩
        refine ⟨.str m.1, rfl, _, hcs, by rw [List.length_map, List.length_take]; omega, fun b o e => ?_, ?_⟩
        · rw [upd_ne (ne_of_none e hD)]
          exact sm _ _ e
        · have e1 : (rs.map (·.1))[i]? = some m.1 := by
            rw [List.getElem?_map, hm]
            rfl
          rw [upd_same, List.take_add_one, e1, List.map_append]
          rfl
      · obtain ⟨sm, hcs⟩ := h
        rw [List.length_map, pl, List.take_of_length_le (by rw [List.length_map]; exact Nat.le_refl _)] at hcs
        refine iName ?_
        dsimp only
        refine ⟨.ref n, rfl, n, rfl, ⟨_, sqT (sm _ _ hN)⟩, ?_⟩
        refine for_tup (xs := zs.map V.str) (fun i σ' H' => (∃ x3, σ' = [some (.ref l), some (.ref n), some (.ref D), x3, none]) ∧ H' = H1 ∧ strange rs (zs.take i) = none) ⟨⟨_, rfl⟩, rfl, rfl⟩ (fun i σ' H' _ h => by rw [h.2.1]; exact sqT (sm _ _ hN)) (fun i x σ' H' hx h => ?_) (fun σ' H' h => ?_)
        · obtain ⟨⟨x3, rfl⟩, rfl, hs⟩ := h
          rw [List.getElem?_map] at hx
          obtain ⟨z, hz, rfl⟩ := Option.map_eq_some_iff.mp hx
          have sn : ∀ b, (!inS z (rs.map (·.1))) = b → strange rs (zs.take (i + 1)) = if b = true then some z else none := fun b hb => by
            unfold strange at hs ⊢
            rw [List.take_add_one, hz, List.find?_append, hs]
            show (none : Option Str).or (List.find? _ [z]) = _
            rw [Option.none_or, List.find?_cons, hb]
            cases b <;> rfl
          refine iName ?_
          dsimp only
          refine iIfS ⟨.str z, rfl, .ref D, rfl, D, (rs.map (·.1)).map V.str, rfl, .inl (sqL hcs), rfl, flat_strs _, _, rfl, ?_⟩
          refine ite2 (fun e => ?_) (fun e => ?_)
          · have e' : (!inS z (rs.map (·.1))) = true := by
              have e : (!inV (.str z) ((rs.map (·.1)).map V.str)) = true := e
              rw [inV_str] at e
              exact e
            have st : strange rs zs = some z := by
              have h1 := sn _ e'
              rw [if_pos rfl] at h1
              unfold strange at h1 ⊢
              rw [← List.take_append_drop (i + 1) zs, List.find?_append, h1]
              rfl
            refine ⟨.str z, rfl, by show 1 ≤ 1000; decide, fun a ha => ?_⟩
            refine ⟨a, .str z, rfl, upd_same, fun dx hdx nda => ⟨rfl, dx, [("name", .str z)], upd_same, ?_, ?_, ?_⟩⟩
            · rw [upd_ne nda, upd_same]
            · rw [upd_ne nda] at hdx
              exact hdx
            · rw [upd_ne nda] at hdx
              refine q2 z st _ dx (fun b o e => ?_) upd_same
              have e1 := sm _ _ e
              have nb1 : b ≠ a := ne_of_none e1 ha
              have nb2 : b ≠ dx := ne_of_none e1 hdx
              rw [upd_ne nb2, del_ne nb1, upd_ne nb1, upd_ne nb2, upd_ne nb1]
              exact e1
          · have e' : (!inS z (rs.map (·.1))) = false := by
              cases y : inS z (rs.map (·.1)) with
              | true => rfl
              | false => exact absurd (show (!inV (.str z) ((rs.map (·.1)).map V.str)) = true by rw [inV_str, y]; rfl) e
            refine ⟨⟨_, rfl⟩, rfl, ?_⟩
            rw [sn _ e']
            rfl
        · obtain ⟨⟨x3, rfl⟩, rfl, hs⟩ := h
          dsimp only
          rw [List.length_map, List.take_length] at hs
          exact q1 hs _ sm
    · skip
      refine ⟨_, pss_cons (ps_setLc (i := 2) (own := [("name", 3), ("right", 4)]) (g := g2 K 3 4) (tt := tYes) rfl scKN.nd rfl rfl (sw_true rfl rfl rfl (by decide +kernel)) (pi_tup (pv 0)) (blkOk_by (N := NKN) (sc := defScope sKN) (by decide +kernel))
          (fun _ _ _ _ _ => pg_tup rfl (pgs_cons (pg_name (i := 3) scKN.nd rfl (.inl rfl)) (pgs_cons (pg_name (i := 4) scKN.nd rfl (.inl rfl)) pgs_nil))) (fun _ _ _ _ _ => pts_nil) (fun _ _ _ _ _ => pv 3))
        (pss_one (ps_for pa rfl (pi_list (pv 1)) (pg_name (i := 3) scKN.nd rfl (.inl rfl))
          (pss_one (ps_if (pt_cmpR (op_notIn_seq : OpR _ _ (rIn K true)) (pv 3) (pv 2) (by rfl))
            (pss_one (ps_raise rfl tk (pmk_oex U.T U.ini U.ty GI hr bI .nil (passes_call LamX.takes0 fun _ _ _ _ z => z) (by rfl) U.gl (pa_cons (pv 3) pa_nil)))) pss_nil)))), ?_⟩
      have pl := Paired.length hps
      refine iSeq (iAsg ⟨.ref l, rfl, l, rfl, ⟨_, sqT hl⟩, fun D hD => ?_⟩)
      refine loop_tup (K := K) (a := l) (xs := ps.map V.ref) (fun i H' => Same H H' ∧ H' D = some (.lst ((((rs.map (·.1)).take i)).map V.str))) ⟨same_new hD, by rw [List.take_zero]; exact upd_same⟩ (fun i H' h => sqT (h.1 _ _ hl)) (fun i v H' hv h => ?_) (fun H1 h => ?_)
      · obtain ⟨sm, hcs⟩ := h
        rw [List.getElem?_map] at hv
        obtain ⟨pi, hpi, rfl⟩ := Option.map_eq_some_iff.mp hv
        obtain ⟨m, hm, r, hnm, hr'⟩ := paired_at' hps hpi
        have il : i < rs.length := (List.getElem?_eq_some_iff.mp hm).1
        refine ⟨pi, _, rfl, sqT (sm _ _ hnm), rfl, .str m.1, _, rfl, .ref r, _, rfl, rfl, wipe2 (by decide), iYes (iteT ?_)⟩
        refine ⟨.str m.1, rfl, _, hcs, by rw [List.length_map, List.length_take]; omega, fun b o e => ?_, ?_⟩
        · rw [upd_ne (ne_of_none e hD)]
          exact sm _ _ e
        · have e1 : (rs.map (·.1))[i]? = some m.1 := by
            rw [List.getElem?_map, hm]
            rfl
          rw [upd_same, List.take_add_one, e1, List.map_append]
          rfl
      · obtain ⟨sm, hcs⟩ := h
        rw [List.length_map, pl, List.take_of_length_le (by rw [List.length_map]; exact Nat.le_refl _)] at hcs
        refine iName ?_
        dsimp only
        refine ⟨.ref n, rfl, n, rfl, ⟨_, sqL (sm _ _ hN)⟩, ?_⟩
        refine for_list (xs := zs.map V.str) (fun i σ' H' => (∃ x3, σ' = [some (.ref l), some (.ref n), some (.ref D), x3, none]) ∧ H' = H1 ∧ strange rs (zs.take i) = none) ⟨⟨_, rfl⟩, rfl, rfl⟩ (fun i σ' H' _ h => by rw [h.2.1]; exact sqL (sm _ _ hN)) (fun i x σ' H' hx h => ?_) (fun σ' H' h => ?_)
        · obtain ⟨⟨x3, rfl⟩, rfl, hs⟩ := h
          rw [List.getElem?_map] at hx
          obtain ⟨z, hz, rfl⟩ := Option.map_eq_some_iff.mp hx
          have sn : ∀ b, (!inS z (rs.map (·.1))) = b → strange rs (zs.take (i + 1)) = if b = true then some z else none := fun b hb => by
            unfold strange at hs ⊢
            rw [List.take_add_one, hz, List.find?_append, hs]
            show (none : Option Str).or (List.find? _ [z]) = _
            rw [Option.none_or, List.find?_cons, hb]
            cases b <;> rfl
          refine iName ?_
          dsimp only
          refine iIfS ⟨.str z, rfl, .ref D, rfl, D, (rs.map (·.1)).map V.str, rfl, .inl (sqL hcs), rfl, flat_strs _, _, rfl, ?_⟩
          refine ite2 (fun e => ?_) (fun e => ?_)
          · have e' : (!inS z (rs.map (·.1))) = true := by
              have e : (!inV (.str z) ((rs.map (·.1)).map V.str)) = true := e
              rw [inV_str] at e
              exact e
            have st : strange rs zs = some z := by
              have h1 := sn _ e'
              rw [if_pos rfl] at h1
              unfold strange at h1 ⊢
              rw [← List.take_append_drop (i + 1) zs, List.find?_append, h1]
              rfl
            refine ⟨.str z, rfl, by show 1 ≤ 1000; decide, fun a ha => ?_⟩
            refine ⟨a, .str z, rfl, upd_same, fun dx hdx nda => ⟨rfl, dx, [("name", .str z)], upd_same, ?_, ?_, ?_⟩⟩
            · rw [upd_ne nda, upd_same]
            · rw [upd_ne nda] at hdx
              exact hdx
            · rw [upd_ne nda] at hdx
              refine q2 z st _ dx (fun b o e => ?_) upd_same
              have e1 := sm _ _ e
              have nb1 : b ≠ a := ne_of_none e1 ha
              have nb2 : b ≠ dx := ne_of_none e1 hdx
              rw [upd_ne nb2, del_ne nb1, upd_ne nb1, upd_ne nb2, upd_ne nb1]
              exact e1
          · have e' : (!inS z (rs.map (·.1))) = false := by
              cases y : inS z (rs.map (·.1)) with
              | true => rfl
              | false => exact absurd (show (!inV (.str z) ((rs.map (·.1)).map V.str)) = true by rw [inV_str, y]; rfl) e
            refine ⟨⟨_, rfl⟩, rfl, ?_⟩
            rw [sn _ e']
            rfl
        · obtain ⟨⟨x3, rfl⟩, rfl, hs⟩ := h
          dsimp only
          rw [List.length_map, List.take_length] at hs
          exact q1 hs _ sm
end
end P37
/-! increments_of where it raises, with_last, extension_price -/
namespace P37
open PySem PySem.Spec PyProof.Rows L2 AskG Ask
abbrev sWL : Stmt := topS 31
abbrev sEP : Stmt := topS 38
abbrev NWL : List Str := ["right", "last", "person", "weights", "first", "old", "kind"]
abbrev NEP : List Str := ["rights", "name", "last", "today", "extended", "other", "right", "final"]
abbrev PSE : List Str := ["rights", "name", "last", "today"]
theorem scWL : FnScope NWL ["right", "last"] (defScope sWL) := ⟨rfl, rfl, rfl, by decide +kernel, rfl, by decide +kernel, by decide +kernel⟩
theorem scEP : FnScope NEP PSE (defScope sEP) := ⟨rfl, rfl, rfl, by decide +kernel, rfl, by decide +kernel, by decide +kernel⟩
theorem strange_none {rs : List (Str × Rt)} {zs : List Str} (h : ∀ z ∈ zs, z ∈ rs.map (·.1)) : strange rs zs = none := by
  unfold strange
  rw [List.find?_eq_none]
  intro z hz e
  rw [inS_iff.mpr (h z hz)] at e
  cases e
theorem strange_in {rs : List (Str × Rt)} {zs : List Str} (h : strange rs zs = none) : ∀ z ∈ zs, z ∈ rs.map (·.1) := fun z hz => by
  have := List.find?_eq_none.mp h z hz
  refine Classical.byContradiction fun n => this ?_
  rw [inS_dec, decide_eq_false n]
  rfl
section
variable {P : Program} {w : World} {K : PySem.W.Frag} {mg : Str → Option Value} {base : Heap}
variable {C CU fI fC fN fK fV fL fW : Addr} {fdI fdC fdN fdK fdV fdL fdW : FuncData}
def spIO (CU : Addr) : Sp := fun vs H Q E => ∃ (a n : Addr) (rs : List (Str × Rt)) (T : Int) (zs : List Str), vs = [.ref a, .ref n, .int T] ∧ RightsAt H a rs ∧ CRs rs ∧ rs.length ≤ 100 ∧ 0 ≤ T ∧ T ≤ 9 ∧ TxtAt H n zs ∧ zs.length < 64 ∧
  (strange rs zs = none → ∀ H' p, Same H H' → H' p = some (.tup ((incs rs zs T).map V.int)) → Q (.ref p) H') ∧
  ∀ z, strange rs zs = some z → ∀ H' d, Same H H' → H' d = some (.xd [("name", .str z)]) → E (.ref CU) (some d) H'
theorem ok_iox {f : Addr} {fd : FuncData} {k : Nat} (U : CtC K mg C fI fC fN) (F : Fun K "increments_of" "increments_of" sIO f fd)
    (bI : Binds K fdI ["self", "rights", "day"] []) (GI : FnX P w K mg base (k + 7) fI fdI ["self", "rights", "day"] (quiet (prTI C)))
    (bN : Binds K fdN ["self", "order"] []) (GN : FnX P w K mg base (k + 8) fN fdN ["self", "order"] (quiet (prTN C)))
    (FK : Fun K "check_names" "check_names" sKN fK fdK) (bK : Binds K fdK ["rights", "names"] []) (gK : mg "check_names" = some (.ref fK)) (GK : FnX P w K mg base (k + 8) fK fdK ["rights", "names"] (spCN CU)) : FnX P w K mg base (k + 9) f fd ["rights", "order", "day"] (spIO CU) := by
  refine okX F scIO (fun vs H Q E h => ?_) (fun cdv A outer s H vs Q E hr tk pa h => ?_)
  · obtain ⟨_, _, _, _, _, rfl, _⟩ := h
    rfl
  · obtain ⟨a, n, rs, T, zs, rfl, hR, cr, lr, t0, t9, hN, lz, q1, q2⟩ := h
    refine ⟨_, pss_cons (ps_expr (pe_x GK hr (by rfl) gK FK.kp bK tk (pa_cons (pv 0) (pa_cons (pv 1) pa_nil))))
      (pss_one (ps_ret (pe_meth (pe_make U.made GI hr (by rfl) U.gl bI .nil (passes_call LamX.takes0 fun _ _ _ _ z => z) (pa_cons (pv 0) (pa_cons (pv 2) pa_nil))) U.cl U.mN GN hr bN .nil (passes_call LamX.takes0 fun _ _ _ _ z => z) (pa_cons (pv 1) pa_nil)))), ?_⟩
    refine iSeq (iDrop' ⟨.ref a, rfl, .ref n, rfl, a, n, rs, zs, rfl, hR, lr, .inl hN, fun st H1 s1 => ?_, fun z st H2 d s2 hd => q2 z st H2 d s2 hd⟩)
    try dsimp only
    refine iRet ⟨.ref a, rfl, .int T, rfl, fun x dx hx hdx ne => ?_⟩
    refine ⟨x, dx, a, T, rfl, upd_same, fun D hD nDx => ⟨rfl, ?_⟩⟩
    rw [upd_ne nDx] at hD
    have nDd : D ≠ dx := fun e => by rw [e, upd_same] at hD; cases hD
    rw [upd_ne nDd] at hD
    have s2 : Same H (upd (upd (upd (upd H1 dx (.own x)) x (.ins C dx [])) D (.dT [])) x (.ins C dx [("rights", .ref a), ("day", .int T), ("found", .ref D)])) := fun b o e => by
      have e1 := s1 _ _ e
      rw [upd_ne (ne_of_none e1 hx), upd_ne (ne_of_none e1 hD), upd_ne (ne_of_none e1 hx), upd_ne (ne_of_none e1 hdx)]
      exact e1
    have ct : CtAt (upd (upd (upd (upd H1 dx (.own x)) x (.ins C dx [])) D (.dT [])) x (.ins C dx [("rights", .ref a), ("day", .int T), ("found", .ref D)])) C x a D rs T 0 := ⟨dx, [], upd_same, by rw [upd_ne nDx]; exact upd_same, Nat.le_refl _, fun zs v h => by rw [valV_nil] at h; cases h⟩
    generalize upd (upd (upd (upd H1 dx (.own x)) x (.ins C dx [])) D (.dT [])) x (.ins C dx [("rights", .ref a), ("day", .int T), ("found", .ref D)]) = H2 at s2 ct
    obtain ⟨dx', kvs, hx2, _⟩ := id ct
    refine ⟨x, dx', _, rfl, hx2, rfl, .ref n, rfl, x, n, a, D, rs, T, zs, rfl, ct, hR.keep (KeepT.of s2), cr, lr, t0, t9, s2 _ _ hN, lz, fun H3 p k3 hp => ?_⟩
    refine q1 st H3 p (fun b o e => k3 _ _ (fun z => ?_) (s2 _ _ e)) hp
    have e1 := s1 _ _ e
    rw [z, hD] at e1
    cases e1
def prWL : Pr := fun vs H Q => ∃ (r : Addr) (R : Rt) (l : Int), vs = [.ref r, .int l] ∧ RightAt H r R ∧ ∀ H' p, Same H H' → RightAt H' p { R with last := l } → Q (.ref p) H'
theorem ok_wl {f : Addr} {fd : FuncData} {k : Nat} (F : Fun K "with_last" "with_last" sWL f fd) : FnX P w K mg base (k + 1) f fd ["right", "last"] (quiet prWL) := by
  refine okN F scWL (fun vs H Q h => ?_) (fun cdv A outer s H E vs Q hr h => ?_)
  · obtain ⟨_, _, _, rfl, _⟩ := h
    rfl
  · obtain ⟨r, R, l, rfl, hR, q⟩ := h
    have big := sizeBig
    obtain ⟨wa, ps, ka, h1, h2, h3, h4⟩ := id hR
    refine ⟨_, pss_cons (ps_asg (pv 0) (pg_tup (by rfl) (pgs_cons (pg_name (i := 2) scWL.nd rfl (.inl rfl)) (pgs_cons (pg_name (i := 3) scWL.nd rfl (.inl rfl)) (pgs_cons (pg_name (i := 4) scWL.nd rfl (.inl rfl)) (pgs_cons (pg_name (i := 5) scWL.nd rfl (.inl rfl)) (pgs_cons (pg_name (i := 6) scWL.nd rfl (.inl rfl)) pgs_nil)))))))
      (pss_one (ps_ret (pe_tup (pa_cons (pv 2) (pa_cons (pv 3) (pa_cons (pv 4) (pa_cons (pv 1) (pa_cons (pv 6) pa_nil)))))))), ?_⟩
    refine iSeq (iAsg ⟨.ref r, rfl, r, _, rfl, sqT h1, rfl, .str R.person, _, rfl, .ref wa, _, rfl, .int R.first, _, rfl, .int R.last, _, rfl, .ref ka, _, rfl, rfl, ?_⟩)
    dsimp only
    refine iRet ⟨.str R.person, rfl, .ref wa, rfl, .int R.first, rfl, .int l, rfl, .ref ka, rfl, by show 5 ≤ sizeLine; omega, fun p hp => ?_⟩
    have s1 := same_new (o := .tup [.str R.person, .ref wa, .int R.first, .int l, .ref ka]) hp
    exact q _ p s1 ⟨wa, ps, ka, upd_same, s1 _ _ h2, Paired.mapP h3 fun _ _ z => z.keepT (KeepT.of s1), s1 _ _ h4⟩
/-- the rights with another last day of one of them -/
def longer (rs : List (Str × Rt)) (z : Str) (l : Int) : List (Str × Rt) := rs.map fun x => (x.1, if x.1 = z then { x.2 with last := l } else x.2)
/-- a day after which nothing is paid for -/
def spEP (CU : Addr) : Sp := fun vs H Q E => ∃ (a : Addr) (rs : List (Str × Rt)) (z : Str) (l t : Int), vs = [.ref a, .str z, .int l, .int t] ∧ RightsAt H a rs ∧ rs.length ≤ 20 ∧
  (strange rs [z] = none → CRs rs ∧ CRs (longer rs z l) ∧ 0 ≤ t ∧ t ≤ 20 ∧ ∀ H' m, Same H H' → -1 ≤ m → m ≤ 8 → (∀ x ∈ longer rs z l, x.2.last - 1 ≤ m) → Q (.int (sumC (longer rs z l) t (m - t + 1).toNat - sumC rs t (m - t + 1).toNat)) H') ∧
  ∀ y, strange rs [z] = some y → ∀ H' d, Same H H' → H' d = some (.xd [("name", .str y)]) → E (.ref CU) (some d) H'
abbrev FEP (K : PySem.W.Frag) (f : Addr) (fd : FuncData) : Prop := FunD K "extension_price" "extension_price" (defArgs sEP) (defBody sEP) (defScope sEP) [] [("today", .int 0)] f fd
theorem ok_ep {f : Addr} {fd : FuncData} {k : Nat} (F : FEP K f fd)
    (FK : Fun K "check_names" "check_names" sKN fK fdK) (bK : Binds K fdK ["rights", "names"] []) (gK : mg "check_names" = some (.ref fK)) (GK : FnX P w K mg base (k + 8) fK fdK ["rights", "names"] (spCN CU))
    (FW : Fun K "with_last" "with_last" sWL fW fdW) (bW : Binds K fdW ["right", "last"] []) (gW : mg "with_last" = some (.ref fW)) (GW : FnX P w K mg base (k + 8) fW fdW ["right", "last"] (quiet prWL))
    (FL : Fun K "last_costly_day" "last_costly_day" sLC fL fdL) (bL : Binds K fdL ["rights"] []) (gL : mg "last_costly_day" = some (.ref fL)) (GL : FnX P w K mg base (k + 8) fL fdL ["rights"] (quiet prLC))
    (FV : Fun K "cost_over" "cost_over" sCV fV fdV) (bV : Binds K fdV ["rights", "first", "last"] []) (gV : mg "cost_over" = some (.ref fV)) (GV : FnX P w K mg base (k + 8) fV fdV ["rights", "first", "last"] (quiet prCV))
    (mt : mg "tuple" = none) : FnX P w K mg base (k + 9) f fd PSE (spEP CU) := by
  refine okXD F scEP (fun vs H Q E h => ?_) (fun cdv A outer s H vs Q E hr tk pa h => ?_)
  · obtain ⟨_, _, _, _, _, rfl, _⟩ := h
    rfl
  · obtain ⟨a, rs, z, l, t, rfl, hR, lr, q1, q2⟩ := h
    have big := sizeBig
    refine ⟨_, pss_cons (ps_expr (pe_x GK hr (by rfl) gK FK.kp bK tk (pa_cons (pv 0) (pa_cons (pe_lst (pa_cons (pv 1) pa_nil)) pa_nil))))
      (pss_cons (ps_set (i := 4) scEP.nd rfl (.inl rfl) (pe_callTy call_tuple_of (by rfl) mt (by decide +kernel) (pa_cons (pe_lc (own := [("other", 5), ("right", 6)]) (g := g2 K 5 6) (tt := tYes) rfl scEP.nd (pi_tup (pv 0)) (blkOk_by (N := NEP) (sc := defScope sEP) (by decide +kernel))
          (fun _ _ _ _ _ => pg_tup rfl (pgs_cons (pg_name (i := 5) scEP.nd rfl (.inl rfl)) (pgs_cons (pg_name (i := 6) scEP.nd rfl (.inl rfl)) pgs_nil))) (fun _ _ _ _ _ => pts_nil)
          (fun _ _ _ _ _ => pe_tup (pa_cons (pv 5) (pa_cons (pe_ifExp (pt_cmpR op_eq (pv 5) (pv 1) (nomark _)) (pe_n GW hr (by rfl) gW FW.kp bW (pa_cons (pv 6) (pa_cons (pv 2) pa_nil))) (pv 6)) pa_nil)))) pa_nil)))
      (pss_cons (ps_set (i := 7) scEP.nd rfl (.inl rfl) (pe_n GL hr (by rfl) gL FL.kp bL (pa_cons (pv 4) pa_nil)))
      (pss_one (ps_ret (pe_op op_sub (pe_n GV hr (by rfl) gV FV.kp bV (pa_cons (pv 4) (pa_cons (pv 3) (pa_cons (pv 7) pa_nil)))) (pe_n GV hr (by rfl) gV FV.kp bV (pa_cons (pv 0) (pa_cons (pv 3) (pa_cons (pv 7) pa_nil))))))))), ?_⟩
    refine iSeq (iDrop' ⟨.ref a, rfl, .str z, rfl, by show 1 ≤ sizeLine; omega, fun nl hnl => ?_⟩)
    have s0 := same_new (o := .lst [.str z]) hnl
    have hR0 := hR.keep (KeepT.of s0)
    refine ⟨a, nl, rs, [z], rfl, hR0, by omega, .inr upd_same, fun st H1 s1 => ?_, fun y st H2 d s2 hd => q2 y st H2 d (s0.trans s2) hd⟩
    try dsimp only
    obtain ⟨cr, cr2, t0, t20, q⟩ := q1 st
    have s01 := s0.trans s1
    have hR1 := hR0.keep (KeepT.of s1)
    obtain ⟨ps, h1, h2⟩ := id hR1
    have pl := Paired.length h2
    clear s0 s1 hnl
    refine iSeq (iAsg ⟨.ref a, rfl, a, rfl, ⟨_, sqT h1⟩, fun D hD => ?_⟩)
    refine loop_tup (K := K) (a := a) (xs := ps.map V.ref) (fun i H' => Same H1 H' ∧ ∃ cs, H' D = some (.lst (cs.map V.ref)) ∧ Paired (NamedAt H') cs ((longer rs z l).take i)) ⟨same_new hD, [], upd_same, by rw [List.take_zero]; exact .nil⟩ (fun i H' h => sqT (h.1 _ _ h1)) (fun i v H' hv h => ?_) (fun H2 h => ?_)
    · obtain ⟨sm, cs, hcs, hcc⟩ := h
      rw [List.getElem?_map] at hv
      obtain ⟨pi, hpi, rfl⟩ := Option.map_eq_some_iff.mp hv
      obtain ⟨y, hy, r, hnm, hr'⟩ := paired_at' h2 hpi
      have il : i < rs.length := (List.getElem?_eq_some_iff.mp hy).1
      have cl := Paired.length hcc
      rw [List.length_take] at cl
      have hr2 := hr'.keep (KeepT.of sm)
      have ly : (longer rs z l)[i]? = some (y.1, if y.1 = z then { y.2 with last := l } else y.2) := by
        unfold longer
        rw [List.getElem?_map, hy]
        rfl
      have key : ∀ (r2 : Addr) (H3 : Hp), Same H' H3 → RightAt H3 r2 (if y.1 = z then { y.2 with last := l } else y.2) → 2 ≤ sizeLine ∧ ∀ p, H3 p = none → ∃ xs, (upd H3 p (.tup [.str y.1, .ref r2])) D = some (.lst xs) ∧ xs.length < sizeLine ∧ Same H1 (upd (upd H3 p (.tup [.str y.1, .ref r2])) D (.lst (xs ++ [.ref p]))) ∧ ∃ cs, (upd (upd H3 p (.tup [.str y.1, .ref r2])) D (.lst (xs ++ [.ref p]))) D = some (.lst (cs.map V.ref)) ∧ Paired (NamedAt (upd (upd H3 p (.tup [.str y.1, .ref r2])) D (.lst (xs ++ [.ref p])))) cs ((longer rs z l).take (i + 1)) := fun r2 H3 s3 hr3 => by
        refine ⟨by omega, fun p hp => ?_⟩
        have s4 := same_new (o := .tup [.str y.1, .ref r2]) hp
        have hD4 := s4 _ _ (s3 _ _ hcs)
        refine ⟨_, hD4, by rw [List.length_map]; omega, fun b o e => ?_, cs ++ [p], by rw [upd_same, List.map_append]; rfl, ?_⟩
        · rw [upd_ne (ne_of_none e hD)]
          exact s4 _ _ (s3 _ _ (sm _ _ e))
        · have kp : KeepT _ (upd (upd H3 p (.tup [.str y.1, .ref r2])) D (.lst (cs.map V.ref ++ [.ref p]))) := KeepT.put hD4 fun _ z => nomatch z
          rw [List.take_add_one, ly]
          refine Paired.snoc (Paired.mapP hcc fun _ _ z => ((z.keep (KeepT.of s3)).keep (KeepT.of s4)).keep kp) ⟨r2, kp _ _ upd_same, (hr3.keep (KeepT.of s4)).keep kp⟩
      refine ⟨pi, _, rfl, sqT (sm _ _ hnm), rfl, .str y.1, _, rfl, .ref r, _, rfl, rfl, wipe2 (by decide), iYes (iteT ⟨.str y.1, rfl, .str y.1, rfl, .str z, rfl, rfl, _, rfl, ?_⟩)⟩
      by_cases ez : y.1 = z
      · rw [decide_eq_true (congrArg V.str ez)]
        refine iteT ⟨.ref r, rfl, .int l, rfl, r, y.2, l, rfl, hr2, fun H3 p3 s3 h3 => ?_⟩
        exact key p3 H3 s3 (by rw [if_pos ez]; exact h3)
      · rw [decide_eq_false fun e => ez (V.str.inj e)]
        exact iteF ⟨.ref r, rfl, key r H' (fun _ _ e => e) (by rw [if_neg ez]; exact hr2)⟩
    · obtain ⟨sm, cs, hcs, hcc⟩ := h
      have ll : (longer rs z l).length = rs.length := List.length_map _
      rw [List.length_map, pl, ← ll, List.take_length] at hcc
      refine ⟨D, _, rfl, .inl ⟨sqL hcs, fun ea hea => iName ?_⟩⟩
      dsimp only
      have s3 := same_new (o := .tup (cs.map V.ref)) hea
      have hX : RightsAt _ ea (longer rs z l) := ⟨cs, upd_same, Paired.mapP hcc fun _ _ y => y.keep (KeepT.of s3)⟩
      have s4 := (s01.trans sm).trans s3
      generalize upd H2 ea (.tup (cs.map V.ref)) = H3 at s3 hX s4 ⊢
      refine iSeq (iAsg ⟨.ref ea, rfl, ea, longer rs z l, rfl, hX, by rw [ll]; omega, fun H4 m s5 m0 m1 m2 => iName ?_⟩)
      dsimp only
      have mb : -1 ≤ m ∧ m ≤ 8 := by
        obtain ⟨mm, ok⟩ := cr2.ok
        cases e : longer rs z l with
        | nil =>
          have := m0 e
          omega
        | cons x xs =>
          obtain ⟨y, hy, e2⟩ := m2 (by rw [e]; simp)
          obtain ⟨o1, o2, _⟩ := ok.all y hy
          have := o1.l0
          have := o2.l9
          omega
      refine iRet ⟨.ref ea, rfl, .int t, rfl, .int m, rfl, ea, longer rs z l, t, m, rfl, hX.keep (KeepT.of s5), cr2, t0, t20, mb.1, by omega, by rw [ll]; omega, fun H5 s6 => ?_⟩
      refine ⟨.ref a, rfl, .int t, rfl, .int m, rfl, a, rs, t, m, rfl, ((hR.keep (KeepT.of s4)).keep (KeepT.of s5)).keep (KeepT.of s6), cr, t0, t20, mb.1, by omega, by omega, fun H6 s7 => ?_⟩
      exact ⟨_, _, rfl, rfl, q H6 m (((s4.trans s5).trans s6).trans s7) mb.1 mb.2 m1⟩
end
end P37
/-! _law_within -/
namespace P37
open PySem PySem.Spec PyProof.Rows L2 AskG Ask
abbrev sWi : Stmt := topS 51
abbrev NWi : List Str := ["_law_claims_here", "_law_labels", "_law_pair"]
theorem scWi : FnScope NWi ["_law_claims_here", "_law_labels"] (defScope sWi) := ⟨rfl, rfl, rfl, by decide +kernel, rfl, by decide +kernel, by decide +kernel⟩
section
variable {K : PySem.W.Frag} {H : Hp} {a b : Addr} {xs ys : List V} {Q : VK} {lo hi : Option Int}
theorem catA_by (ha : H a = some (.tup xs)) (hb : H b = some (.tup ys)) (hz : xs.length + ys.length ≤ sizeLine) (q : ∀ H' p, Same H H' → H' p = some (.tup (xs ++ ys)) → Q (.ref p) H') : rCatA K (.ref a) (.ref b) H Q := by
  refine ⟨a, b, xs, ys, rfl, rfl, sqT ha, sqT hb, hz, fun e => q H b (fun _ _ e => e) ?_, fun _ e => q H a (fun _ _ e => e) ?_, fun _ _ p hp => q _ p (same_new hp) upd_same⟩
  · rw [e, List.nil_append]
    exact hb
  · rw [e, List.append_nil]
    exact ha
theorem slA_by (ha : H a = some (.tup xs)) (q : ∀ H' p, Same H H' → H' p = some (.tup (cutV xs lo hi)) → Q (.ref p) H') : rSlA K (.ref a) lo hi H Q := by
  refine ⟨a, xs, rfl, sqT ha, fun e => q H a (fun _ _ e => e) ?_, fun _ p hp => q _ p (same_new hp) upd_same⟩
  unfold cutV
  rw [e.1, e.2, List.drop_zero, Nat.sub_zero, List.take_length]
  exact ha
end
theorem TxtAt.keep {H H' : Hp} {p : Addr} {zs : List Str} (h : TxtAt H p zs) (k : KeepT H H') : TxtAt H' p zs := k _ _ h
theorem slN_by {K : PySem.W.Frag} {H : Hp} {a : Addr} {xs : List V} {Q : VK} {lo : Option Int} {σ : L2.St} (ha : H a = some (.tup xs)) (q : ∀ H' p, Same H H' → H' p = some (.tup (cutV xs lo none)) → Q (.ref p) H') : tNoPart σ H fun u H3 => rSlA K (.ref a) lo u H3 Q := slA_by ha q
section
variable {P : Program} {w : World} {K : PySem.W.Frag} {mg : Str → Option Value} {base : Heap}
def prWi : Pr := fun vs H Q => ∃ (a n : Addr) (rs : List (Str × Rt)) (zs : List Str), vs = [.ref a, .ref n] ∧ RightsAt H a rs ∧ rs.length ≤ 100 ∧ TxtAt H n zs ∧ ∀ H' p, Same H H' → RightsAt H' p (within rs zs) → Q (.ref p) H'
theorem ok_wi {f : Addr} {fd : FuncData} {k : Nat} (F : Fun K "_law_within" "_law_within" sWi f fd) (mt : mg "tuple" = none) : FnG P w K mg base (k + 1) f fd ["_law_claims_here", "_law_labels"] prWi := by
  refine okG F scWi (fun vs H Q h => ?_) (fun cdv A outer s H vs Q hr h => ?_)
  · obtain ⟨_, _, _, _, rfl, _⟩ := h
    rfl
  · obtain ⟨a, n, rs, zs, rfl, hR, lr, hN, q⟩ := h
    have big := sizeBig
    obtain ⟨ps, h1, h2⟩ := id hR
    have pl := Paired.length h2
    refine ⟨_, pss_one (ps_ret (pe_callTy call_tuple_of (by rfl) mt (by decide +kernel) (pa_cons (pe_lc (own := [("_law_pair", 2)]) (g := gName 2) rfl scWi.nd (pi_tup (pv 0)) (blkOk_by (N := NWi) (sc := defScope sWi) (by decide +kernel))
      (fun _ _ _ _ _ => pg_name (i := 2) scWi.nd rfl (.inl rfl)) (fun _ _ _ _ _ => pts_one (pt_cmpR (op_in_seq : OpR _ _ (rIn K false)) (pe_ix (ix_tup : IxR _ (rIxT K)) (pv 2) pe_int (fun _ _ => rfl)) (pv 1) (by rfl))) (fun _ _ _ _ _ => pv 2)) pa_nil))), ?_⟩
    refine iRet ⟨.ref a, rfl, a, rfl, ⟨_, sqT h1⟩, fun L hL => ?_⟩
    refine loop_tup (K := K) (a := a) (xs := ps.map V.ref) (fun i H' => Same H H' ∧ ∃ cs, H' L = some (.lst (cs.map V.ref)) ∧ Paired (NamedAt H') cs (within (rs.take i) zs)) ⟨same_new hL, [], upd_same, by rw [List.take_zero]; exact .nil⟩ (fun i H' h => sqT (h.1 _ _ h1)) (fun i v H' hv' h => ?_) (fun H3 h => ?_)
    · obtain ⟨sm, cs, hcs, hcc⟩ := h
      rw [List.getElem?_map] at hv'
      obtain ⟨pi, hpi, rfl⟩ := Option.map_eq_some_iff.mp hv'
      obtain ⟨y, hy, hnd⟩ := paired_at' h2 hpi
      obtain ⟨r, hnm, hr'⟩ := id hnd
      have il : i < rs.length := (List.getElem?_eq_some_iff.mp hy).1
      have cl := Paired.length hcc
      have fl : (within (rs.take i) zs).length ≤ (rs.take i).length := List.length_filter_le _ _
      rw [List.length_take] at fl
      refine ⟨wipe1, .ref pi, rfl, pi, _, _, .str y.1, rfl, rfl, sqT (sm _ _ hnm), atI_nat (j := 0) rfl, .ref n, rfl, n, zs.map V.str, rfl, .inr (sqT (sm _ _ hN)), rfl, flat_strs zs, _, rfl, ?_⟩
      have tk : within (rs.take (i + 1)) zs = within (rs.take i) zs ++ (if inS y.1 zs = true then [y] else []) := by
        unfold within
        rw [List.take_add_one, hy, List.filter_append]
        congr 1
        show List.filter (fun x => inS x.1 zs) [y] = _
        rw [List.filter_cons]
        rfl
      refine ite2 (fun e => ?_) (fun e => ?_)
      · have e' : inS y.1 zs = true := by
          have e : inV (.str y.1) (zs.map V.str) = true := e
          rw [inV_str] at e
          exact e
        refine ⟨.ref pi, rfl, _, hcs, by rw [List.length_map]; omega, fun b o e => ?_, cs ++ [pi], by rw [upd_same, List.map_append]; rfl, ?_⟩
        · rw [upd_ne (ne_of_none e hL)]
          exact sm _ _ e
        · have kp : KeepT _ (upd _ L (.lst (cs.map V.ref ++ [.ref pi]))) := KeepT.put hcs fun _ z => nomatch z
          rw [tk, if_pos e']
          exact Paired.snoc (Paired.mapP hcc fun _ _ z => z.keep kp) ((hnd.keep (KeepT.of sm)).keep kp)
      · have e' : ¬ inS y.1 zs = true := fun z => e (by
          show inV (.str y.1) (zs.map V.str) = true
          rw [inV_str]
          exact z)
        refine ⟨sm, cs, hcs, ?_⟩
        rw [tk, if_neg e', List.append_nil]
        exact hcc
    · obtain ⟨sm, cs, hcs, hcc⟩ := h
      rw [List.length_map, pl, List.take_length] at hcc
      refine ⟨L, _, rfl, .inl ⟨sqL hcs, fun tp htp => ?_⟩⟩
      have s4 := same_new (o := .tup (cs.map V.ref)) htp
      exact q _ tp (sm.trans s4) ⟨cs, upd_same, Paired.mapP hcc fun _ _ z => z.keep (KeepT.of s4)⟩
end
end P37
/-! _law_stirred, _law_steps_of, _law_over, _law_longer -/
namespace P37
open PySem PySem.Spec PyProof.Rows L2 AskG Ask
abbrev sSt : Stmt := topS 53
abbrev sSo : Stmt := topS 54
abbrev sOv : Stmt := topS 55
abbrev sLg : Stmt := topS 56
abbrev NSt : List Str := ["_law_feed_here", "_law_labels", "_law_rest", "_law_found"]
abbrev NSo : List Str := ["_law_claims_here", "_law_queue", "_law_date", "_law_found", "_law_k", "_law_ahead"]
abbrev NOv : List Str := ["_law_claims_here", "_law_begin", "_law_end", "_law_date"]
abbrev NLg : List Str := ["_law_claims_here", "_law_label", "_law_end", "_law_found", "_law_one", "_law_claim_here"]
theorem scSt : FnScope NSt ["_law_feed_here", "_law_labels"] (defScope sSt) := ⟨rfl, rfl, rfl, by decide +kernel, rfl, by decide +kernel, by decide +kernel⟩
theorem scSo : FnScope NSo ["_law_claims_here", "_law_queue", "_law_date"] (defScope sSo) := ⟨rfl, rfl, rfl, by decide +kernel, rfl, by decide +kernel, by decide +kernel⟩
theorem scOv : FnScope NOv ["_law_claims_here", "_law_begin", "_law_end"] (defScope sOv) := ⟨rfl, rfl, rfl, by decide +kernel, rfl, by decide +kernel, by decide +kernel⟩
theorem scLg : FnScope NLg ["_law_claims_here", "_law_label", "_law_end"] (defScope sLg) := ⟨rfl, rfl, rfl, by decide +kernel, rfl, by decide +kernel, by decide +kernel⟩
theorem dp_tstr {K : PySem.W.Frag} {H : Hp} : ∀ zs : List Str, DpAll K H (zs.map V.str) (zs.map PyData.str)
  | [] => .nil
  | z :: zs => .cons (.str z) (dp_tstr zs)
theorem shaped_lstr {zs : List Str} (h : ∀ z ∈ zs, PyData.strOk z = true) : SeqAt.shaped (.list (zs.map PyData.str)) = true := by
  have h1 : PyData.canLayAll0 (zs.map PyData.str) = true := can_all fun z hz => h z hz
  have h2 : PyData.depthAll (zs.map PyData.str) ≤ 0 := depth_all fun z _ => Nat.le_refl _
  show (PyData.canLayAll0 (zs.map PyData.str) && decide (PyData.depthAll (zs.map PyData.str) + 1 ≤ 64)) = true
  rw [h1, decide_eq_true (by omega)]
  rfl
theorem perm_pop {α : Type} {xs : List α} {i : Nat} {y : α} (h : xs[i]? = some y) : (y :: xs.eraseIdx i).Perm xs := by
  obtain ⟨hi, e⟩ := List.getElem?_eq_some_iff.mp h
  have e2 : xs = xs.take i ++ y :: xs.drop (i + 1) := by
    rw [← e, ← List.drop_eq_getElem_cons hi, List.take_append_drop]
  rw [List.eraseIdx_eq_take_drop_succ]
  refine List.perm_middle.symm.trans ?_
  rw [← e2]
section
variable {P : Program} {w : World} {K : PySem.W.Frag} {mg : Str → Option Value} {base : Heap}
variable {fD fC fW : Addr} {fdD fdC fdW : FuncData}
def prSt : Pr := fun vs H Q => ∃ (F L n : Addr) (zs : List Str), vs = [.ref F, .ref n] ∧ FeedAt H F L ∧ TxtAt H n zs ∧ zs.length ≤ 100 ∧ (∀ z ∈ zs, PyData.strOk z = true) ∧
  ∀ H' p ys, KeepF F H H' → FeedAt H' F L → TxtAt H' p ys → ys.Perm zs → Q (.ref p) H'
theorem ok_st {f : Addr} {fd : FuncData} {k : Nat} (F : Fun K "_law_stirred" "_law_stirred" sSt f fd)
    (FD : Fun K "_law_draw" "_law_draw" sDraw fD fdD) (bD : Binds K fdD ["_law_feed_here", "_law_many"] []) (gD : mg "_law_draw" = some (.ref fD)) (GD : FnG P w K mg base (k + 1) fD fdD ["_law_feed_here", "_law_many"] prDraw)
    (mls : mg "list" = none) (ml : mg "len" = none) (mt : mg "tuple" = none) : FnG P w K mg base (k + 2) f fd ["_law_feed_here", "_law_labels"] prSt := by
  refine okG F scSt (fun vs H Q h => ?_) (fun cdv A outer s H vs Q hr h => ?_)
  · obtain ⟨_, _, _, _, rfl, _⟩ := h
    rfl
  · obtain ⟨F, L, n, zs, rfl, hF, hN, lz, zok, q⟩ := h
    have big := sizeBig
    have hun := hr.room.units
    refine ⟨_, pss_cons (ps_par (by rfl) scSt.nd (i := 2) (j := 3) rfl rfl (by decide) rfl rfl (pa_cons (pe_callTy call_list_of (by rfl) mls (by decide +kernel) (pa_cons (pv 1) pa_nil)) (pa_cons (pe_lst pa_nil) pa_nil)) (by rfl))
      (pss_cons (ps_while PassesOwn.never (pt_cmpR (op_neD hun) (pv 2) (pe_lst pa_nil) (nomark _))
        (pss_one (ps_expr (pe_bm PySem.F.plainAttrs_list PySem.F.slot_list_append PySem.F.type_list_append mt_append (pv 3) (pa_cons (pe_bm PySem.F.plainAttrs_list PySem.F.slot_list_pop PySem.F.type_list_pop mt_popAt (pv 2) (pa_cons (pe_g GD hr (by rfl) gD FD.kp bD .nil (pa_cons (pv 0) (pa_cons (pe_callB call_len_seq (by rfl) ml PySem.boot_len (pa_cons (pv 2) pa_nil)) pa_nil))) pa_nil)) pa_nil)))))
      (pss_one (ps_ret (pe_callTy call_tuple_of (by rfl) mt (by decide +kernel) (pa_cons (pv 3) pa_nil))))), ?_⟩
    refine iSeq ⟨.ref n, rfl, n, _, rfl, .inr (sqT hN), fun Re hRe0 => ⟨Nat.zero_le _, fun Fo hFo0 => ⟨_, _, rfl, ?_⟩⟩⟩
    have s1 := same_new (o := .lst (zs.map V.str)) hRe0
    have s2 := same_new (o := .lst []) hFo0
    have hRe := s2 _ _ (upd_same (H := H) (a := Re) (o := .lst (zs.map V.str)))
    have hFo := upd_same (H := upd H Re (.lst (zs.map V.str))) (a := Fo) (o := .lst [])
    have s12 := s1.trans s2
    have nFR : Fo ≠ Re := fun e => by
      rw [e, upd_same] at hFo0
      cases hFo0
    have hFn : H Fo = none := by
      cases e : H Fo with
      | none => rfl
      | some o =>
        rw [s1 _ _ e] at hFo0
        cases hFo0
    try dsimp only
    generalize upd (upd H Re (.lst (zs.map V.str))) Fo (.lst []) = H2 at s12 hRe hFo
    have nRF := hF.fresh hRe0
    have nFF := hF.fresh hFn
    refine iSeq ?_
    refine ⟨fun j σ' H' => ∃ rest found : List Str, σ' = [some (.ref F), some (.ref n), some (.ref Re), some (.ref Fo)] ∧ rest.length = j ∧ KeepF F H H' ∧ FeedAt H' F L ∧ H' Re = some (.lst (rest.map V.str)) ∧ H' Fo = some (.lst (found.map V.str)) ∧ (found ++ rest).Perm zs, ⟨_, zs, [], rfl, rfl, KeepF.of s12, hF.same s12, hRe, hFo, List.Perm.refl _⟩, ?_⟩
    rintro j σ' H' ⟨rest, found, rfl, rfl, k1, hF1, hRe1, hFo1, pm⟩
    have rl := pm.length_eq
    rw [List.length_append] at rl
    have rok : ∀ z ∈ rest, PyData.strOk z = true := fun z hz => zok z (pm.mem_iff.mp (List.mem_append_right _ hz))
    refine ⟨.ref Re, rfl, Nat.zero_le _, fun e he => ?_⟩
    have s3 := same_new (o := .lst []) he
    refine ⟨.list (rest.map PyData.str), .list [], .lst (sqL (s3 _ _ hRe1)) (dp_tstr rest), .lst (sqL upd_same) .nil, shaped_lstr rok, shaped_nil, _, rfl, ?_⟩
    have hRe3 := s3 _ _ hRe1
    have hFo3 := s3 _ _ hFo1
    have hF3 := hF1.same s3
    have k3 := k1.trans (KeepF.of s3)
    generalize upd H' e (.lst []) = H3 at hRe3 hFo3 hF3 k3 ⊢
    cases er : rest with
    | nil =>
      rw [er] at pm
      have eb : (!PyData.eqv (.list (rest.map PyData.str)) (.list [])) = false := by rw [er]; rfl
      rw [er] at eb
      rw [eb]
      refine iteF ?_
      try dsimp only
      refine iRet ⟨.ref Fo, rfl, Fo, _, rfl, .inl ⟨sqL hFo3, fun p hp => ?_⟩⟩
      have s4 := same_new (o := .tup (found.map V.str)) hp
      refine q _ p found (k3.trans (KeepF.of s4)) (hF3.same s4) upd_same ?_
      rw [List.append_nil] at pm
      exact pm
    | cons z0 r0 =>
      have rpos : 0 < rest.length := by
        rw [er]
        exact Nat.succ_pos _
      have eb : (!PyData.eqv (.list (rest.map PyData.str)) (.list [])) = true := by rw [er]; rfl
      rw [← er, eb]
      refine iteT ⟨fun σ2 H2' => ∃ rest2 found2 : List Str, σ2 = [some (.ref F), some (.ref n), some (.ref Re), some (.ref Fo)] ∧ rest2.length < rest.length ∧ KeepF F H H2' ∧ FeedAt H2' F L ∧ H2' Re = some (.lst (rest2.map V.str)) ∧ H2' Fo = some (.lst (found2.map V.str)) ∧ (found2 ++ rest2).Perm zs, fun σ2 H2' h => ?_, ?_⟩
      · obtain ⟨rest2, found2, a1, a2, a3⟩ := h
        exact ⟨rest2.length, a2, rest2, found2, a1, rfl, a3⟩
      · refine iDrop' ⟨.ref Fo, rfl, .inl ⟨rfl, _, sqL hFo3⟩, .ref Re, rfl, .inl ⟨rfl, _, sqL hRe3⟩, .ref F, rfl, .ref Re, rfl, Re, _, rfl, .inl (sqL hRe3), F, L, _, rfl, hF3, by rw [List.length_map]; omega, by rw [List.length_map]; omega, fun d H4 d0 d1 k4 hF4 => ?_⟩
        rw [List.length_map] at d1
        have hRe4 := k4 _ _ nRF.1 hRe3
        have hFo4 := k4 _ _ nFF.1 hFo3
        have dl : d.toNat < rest.length := by omega
        have hy : rest[d.toNat]? = some rest[d.toNat] := List.getElem?_eq_getElem dl
        refine ⟨Re, _, d, d.toNat, .str rest[d.toNat], rfl, rfl, hRe4, by omega, by omega, seqIndex_of d0 (by rw [List.length_map]; omega), by rw [List.getElem?_map, hy]; rfl, ?_⟩
        refine ⟨Fo, _, _, rfl, rfl, by rw [upd_ne nFR]; exact hFo4, by rw [List.length_map]; omega, ?_⟩
        refine ⟨rest.eraseIdx d.toNat, found ++ [rest[d.toNat]], rfl, by rw [List.length_eraseIdx_of_lt dl]; omega, fun b o nb e => ?_, ?_, ?_, ?_, ?_⟩
        · rw [upd_ne (ne_of_none e hFn), upd_ne (ne_of_none e hRe0)]
          exact k4 _ _ nb (k3 _ _ nb e)
        · exact (hF4.put nRF).put nFF
        · rw [upd_ne (Ne.symm nFR), upd_same, List.eraseIdx_eq_take_drop_succ, List.eraseIdx_eq_take_drop_succ, List.map_append, List.map_take, List.map_drop]
        · rw [upd_same, List.map_append]
          rfl
        · rw [List.append_assoc]
          exact (List.Perm.append_left found (perm_pop hy)).trans pm
def prSo : Pr := fun vs H Q => ∃ (a n : Addr) (rs : List (Str × Rt)) (zs : List Str) (T : Int), vs = [.ref a, .ref n, .int T] ∧ RightsAt H a rs ∧ CRs rs ∧ NzR rs ∧ TxtAt H n zs ∧ zs.length ≤ 100 ∧ 0 ≤ T ∧ T ≤ 9 ∧
  ∀ H' p, Same H H' → H' p = some (.tup ((incs rs zs T).map V.int)) → Q (.ref p) H'
theorem NzR.within {rs : List (Str × Rt)} (h : NzR rs) (zs : List Str) : NzR (within rs zs) := fun x hx => h x (List.mem_filter.mp hx).1
theorem CRs.few {rs : List (Str × Rt)} (h : CRs rs) : rs.length ≤ 30 := by
  obtain ⟨m, ok⟩ := h.ok
  have := Nat.le_trans (Nat.mul_le_mul_left rs.length ok.m1) ok.few
  omega
theorem ok_so {f : Addr} {fd : FuncData} {k : Nat} (F : Fun K "_law_steps_of" "_law_steps_of" sSo f fd)
    (FC : Fun K "_law_cost" "_law_cost" sLCo fC fdC) (bC : Binds K fdC ["_law_claims_here", "_law_date"] []) (gC : mg "_law_cost" = some (.ref fC)) (GC : FnG P w K mg base (k + 5) fC fdC ["_law_claims_here", "_law_date"] prLCo)
    (FW : Fun K "_law_within" "_law_within" sWi fW fdW) (bW : Binds K fdW ["_law_claims_here", "_law_labels"] []) (gW : mg "_law_within" = some (.ref fW)) (GW : FnG P w K mg base (k + 5) fW fdW ["_law_claims_here", "_law_labels"] prWi)
    (mr : mg "range" = none) (ml : mg "len" = none) (mt : mg "tuple" = none) : FnG P w K mg base (k + 6) f fd ["_law_claims_here", "_law_queue", "_law_date"] prSo := by
  refine okG F scSo (fun vs H Q h => ?_) (fun cdv A outer s H vs Q hr h => ?_)
  · obtain ⟨_, _, _, _, _, rfl, _⟩ := h
    rfl
  · obtain ⟨a, n, rs, zs, T, rfl, hR, cr, nz, hN, lz, t0, t9, q⟩ := h
    have big := sizeBig
    have r30 := cr.few
    refine ⟨_, pss_cons (ps_set (i := 3) scSo.nd rfl (.inl rfl) (pe_lst pa_nil))
      (pss_cons (ps_for PassesOwn.never rfl (pi_range1 (by rfl) mr (pa_cons (pe_callB call_len_seq (by rfl) ml PySem.boot_len (pa_cons (pv 1) pa_nil)) pa_nil)) (pg_name (i := 4) scSo.nd rfl (.inl rfl))
        (pss_cons (ps_set (i := 5) scSo.nd rfl (.inl rfl) (pe_g GC hr (by rfl) gC FC.kp bC .nil (pa_cons (pe_g GW hr (by rfl) gW FW.kp bW .nil (pa_cons (pv 0) (pa_cons (pe_slice (sl_tupA : SlR _ (rSlA K)) (pv 1) po_none (po_some (pv 4))) pa_nil))) (pa_cons (pv 2) pa_nil))))
        (pss_one (ps_expr (pe_bm PySem.F.plainAttrs_list PySem.F.slot_list_append PySem.F.type_list_append mt_append (pv 3) (pa_cons (pe_op op_sub (pe_g GC hr (by rfl) gC FC.kp bC .nil (pa_cons (pe_g GW hr (by rfl) gW FW.kp bW .nil (pa_cons (pv 0) (pa_cons (pe_slice (sl_tupA : SlR _ (rSlA K)) (pv 1) po_none (po_some (pe_op op_add (pv 4) pe_int))) pa_nil))) (pa_cons (pv 2) pa_nil))) (pv 5)) pa_nil))))))
      (pss_one (ps_ret (pe_callTy call_tuple_of (by rfl) mt (by decide +kernel) (pa_cons (pv 3) pa_nil))))), ?_⟩
    refine iSeq (iAsg ⟨Nat.zero_le _, fun R hRn => iName ?_⟩)
    dsimp only
    have s1 := same_new (o := .lst []) hRn
    have hR1 : (upd H R (.lst [])) R = some (.lst []) := upd_same
    generalize upd H R (.lst []) = H1 at s1 hR1 ⊢
    have li : (incs rs zs T).length = zs.length := by
      unfold incs
      rw [List.length_map, List.length_range]
    refine iSeq ⟨.ref n, rfl, n, _, rfl, .inr (sqT (s1 _ _ hN)), _, rfl, ?_⟩
    rw [List.length_map]
    refine ⟨by omega, by omega, ?_⟩
    refine for_range (lo := 0) (n := ((zs.length : Int)).toNat) (fun i σ' H' => (∃ x4 x5, σ' = [some (.ref a), some (.ref n), some (.int T), some (.ref R), x4, x5]) ∧ Same H H' ∧ H' R = some (.lst (((incs rs zs T).take i).map V.int))) ⟨⟨_, _, rfl⟩, s1, by rw [List.take_zero]; exact hR1⟩ (fun i σ' H' hi h => ?_) (fun σ' H' h => ?_)
    · obtain ⟨⟨x4, x5, rfl⟩, sm, hRi⟩ := h
      rw [Int.zero_add]
      refine iName ?_
      dsimp only
      have il : i < zs.length := by omega
      refine iSeq (iAsg ⟨.ref a, rfl, .ref n, rfl, .int (i : Int), rfl, _, rfl, slA_by (sm _ _ hN) fun H2 p2 s2 hp2 => ?_⟩)
      rw [cut_take, ← List.map_take] at hp2
      refine ⟨a, p2, rs, zs.take i, rfl, (hR.keep (KeepT.of sm)).keep (KeepT.of s2), by omega, hp2, fun H3 p3 s3 h3 => ?_⟩
      refine ⟨.int T, rfl, p3, _, T, rfl, h3, cr.within _, nz.within _, t0, by omega, fun H4 s4 => iName ?_⟩
      dsimp only
      have s24 := (s2.trans s3).trans s4
      have sm4 := sm.trans s24
      refine iDrop' ⟨.ref R, rfl, .inl ⟨rfl, _, sqL (s24 _ _ hRi)⟩, .ref a, rfl, .ref n, rfl, .int (i : Int), rfl, (i : Int), 1, rfl, rfl, _, rfl, slA_by (sm4 _ _ hN) fun H5 p5 s5 hp5 => ?_⟩
      rw [show ((i : Int) + 1) = ((i + 1 : Nat) : Int) from rfl, cut_take, ← List.map_take] at hp5
      refine ⟨a, p5, rs, zs.take (i + 1), rfl, (hR.keep (KeepT.of sm4)).keep (KeepT.of s5), by omega, hp5, fun H6 p6 s6 h6 => ?_⟩
      refine ⟨.int T, rfl, p6, _, T, rfl, h6, cr.within _, nz.within _, t0, by omega, fun H7 s7 => ?_⟩
      have s57 := (s5.trans s6).trans s7
      have hR7 := s57 _ _ (s24 _ _ hRi)
      have ei : (incs rs zs T)[i]? = some ((cst (within rs (zs.take (i + 1))) T : Int) - (cst (within rs (zs.take i)) T : Int)) := by
        unfold incs
        rw [List.getElem?_map, List.getElem?_range il]
        rfl
      refine ⟨.int (cst (within rs (zs.take i)) T : Int), rfl, _, _, rfl, rfl, R, _, _, rfl, rfl, hR7, by rw [List.length_map, List.length_take, li]; omega, ⟨_, _, rfl⟩, fun b o e => ?_, ?_⟩
      · rw [upd_ne (ne_of_none e hRn)]
        exact s57 _ _ (sm4 _ _ e)
      · have tk2 : (incs rs zs T).take (i + 1) = (incs rs zs T).take i ++ [(cst (within rs (zs.take (i + 1))) T : Int) - (cst (within rs (zs.take i)) T : Int)] := by
          rw [List.take_add_one (l := incs rs zs T), ei]
          rfl
        rw [upd_same, tk2, List.map_append]
        rfl
    · obtain ⟨⟨x4, x5, rfl⟩, sm, hRi⟩ := h
      rw [show ((zs.length : Int)).toNat = zs.length by omega, ← li, List.take_length] at hRi
      try dsimp only
      refine iRet ⟨.ref R, rfl, R, _, rfl, .inl ⟨sqL hRi, fun p hp => ?_⟩⟩
      exact q _ p (sm.trans (same_new hp)) upd_same
def prOv : Pr := fun vs H Q => ∃ (a : Addr) (rs : List (Str × Rt)) (t l : Int), vs = [.ref a, .int t, .int l] ∧ RightsAt H a rs ∧ CRs rs ∧ NzR rs ∧ 0 ≤ t ∧ t ≤ 20 ∧ -1 ≤ l ∧ l ≤ 19 ∧ ∀ H', Same H H' → Q (.int (sumC rs t (l - t + 1).toNat)) H'
theorem ok_ov {f : Addr} {fd : FuncData} {k : Nat} (F : Fun K "_law_over" "_law_over" sOv f fd)
    (FC : Fun K "_law_cost" "_law_cost" sLCo fC fdC) (bC : Binds K fdC ["_law_claims_here", "_law_date"] []) (gC : mg "_law_cost" = some (.ref fC)) (GC : FnG P w K mg base (k + 5) fC fdC ["_law_claims_here", "_law_date"] prLCo)
    (ms : mg "sum" = none) (mr : mg "range" = none) : FnG P w K mg base (k + 6) f fd ["_law_claims_here", "_law_begin", "_law_end"] prOv := by
  refine okG F scOv (fun vs H Q h => ?_) (fun cdv A outer s H vs Q hr h => ?_)
  · obtain ⟨_, _, _, _, rfl, _⟩ := h
    rfl
  · obtain ⟨a, rs, t, l, rfl, hR, cr, nz, t0, t20, lm, l9, q⟩ := h
    have big := sizeBig
    refine ⟨_, pss_one (ps_ret (pe_callB (cr_sum rfl) (by rfl) ms (by decide +kernel) (pa_cons (pe_lc (own := [("_law_date", 3)]) (g := gName 3) (tt := tYes) rfl scOv.nd (pi_range2 (by rfl) mr (pa_cons (pv 1) (pa_cons (pe_op op_add (pv 2) pe_int) pa_nil))) (blkOk_by (N := NOv) (sc := defScope sOv) (by decide +kernel))
      (fun _ _ _ _ _ => pg_name (i := 3) scOv.nd rfl (.inl rfl)) (fun _ _ _ _ _ => pts_nil) (fun _ _ _ _ _ => pe_g GC hr (by rfl) gC FC.kp bC .nil (pa_cons (pv 0) (pa_cons (pv 3) pa_nil)))) pa_nil))), ?_⟩
    refine iRet ⟨.int t, rfl, .int l, rfl, l, 1, rfl, rfl, t, l + 1, rfl, ⟨by omega, by omega, by omega, by omega⟩, fun D hD => ?_⟩
    have s2 := same_new (o := .lst []) hD
    refine loop_rg (lo := t) (n := (l + 1 - t).toNat) (fun i H' => Same H H' ∧ ∃ ns : List Int, H' D = some (.lst (ns.map V.int)) ∧ ns.length = i ∧ ns.sum = sumC rs t i) ⟨s2, [], upd_same, rfl, rfl⟩ (fun i H' hi h => ?_) (fun H2 h => ?_)
    · obtain ⟨sm, ns, hns, nl, nsum⟩ := h
      refine ⟨wipe1, iYes (iteT ⟨.ref a, rfl, .int (t + (i : Int)), rfl, a, rs, t + (i : Int), rfl, hR.keep (KeepT.of sm), cr, nz, by omega, by omega, fun H3 s3 => ?_⟩)⟩
      refine ⟨_, s3 _ _ hns, by rw [List.length_map]; omega, fun b o eb' => ?_, ns ++ [(cst rs (t + (i : Int)) : Int)], by rw [upd_same, List.map_append]; rfl, by rw [List.length_append, nl]; rfl, ?_⟩
      · rw [upd_ne (ne_of_none eb' hD)]
        exact s3 _ _ (sm _ _ eb')
      · rw [List.sum_append, nsum]
        show _ + (_ + 0) = sumC rs t i + _
        omega
    · obtain ⟨sm, ns, hns, nl, nsum⟩ := h
      refine ⟨D, ns, rfl, sqL hns, ?_⟩
      rw [nsum, show (l + 1 - t).toNat = (l - t + 1).toNat by congr 1; omega]
      exact q _ sm
def prLg : Pr := fun vs H Q => ∃ (a : Addr) (rs : List (Str × Rt)) (z : Str) (l : Int), vs = [.ref a, .str z, .int l] ∧ RightsAt H a rs ∧ rs.length ≤ 100 ∧ ∀ H' p, Same H H' → RightsAt H' p (longer rs z l) → Q (.ref p) H'
theorem ok_lg {f : Addr} {fd : FuncData} {k : Nat} (F : Fun K "_law_longer" "_law_longer" sLg f fd) (mt : mg "tuple" = none) : FnG P w K mg base (k + 1) f fd ["_law_claims_here", "_law_label", "_law_end"] prLg := by
  refine okG F scLg (fun vs H Q h => ?_) (fun cdv A outer s H vs Q hr h => ?_)
  · obtain ⟨_, _, _, _, rfl, _⟩ := h
    rfl
  · obtain ⟨a, rs, z, l, rfl, hR, lr, q⟩ := h
    have big := sizeBig
    obtain ⟨ps, h1, h2⟩ := id hR
    have pl := Paired.length h2
    refine ⟨_, pss_cons (ps_set (i := 3) scLg.nd rfl (.inl rfl) (pe_lst pa_nil))
      (pss_cons (ps_for PassesOwn.never rfl (pi_tup (pv 0)) (pg_tup rfl (pgs_cons (pg_name (i := 4) scLg.nd rfl (.inl rfl)) (pgs_cons (pg_name (i := 5) scLg.nd rfl (.inl rfl)) pgs_nil)))
        (pss_one (ps_expr (pe_bm PySem.F.plainAttrs_list PySem.F.slot_list_append PySem.F.type_list_append mt_append (pv 3) (pa_cons (pe_tup (pa_cons (pv 4) (pa_cons (pe_ifExp (pt_cmpR op_eq (pv 4) (pv 1) (nomark _)) (pe_op (op_catA : OpR _ _ (rCatA K)) (pe_op (op_catA : OpR _ _ (rCatA K)) (pe_slice (sl_tupA : SlR _ (rSlA K)) (pv 5) po_none (po_some pe_int)) (pe_tup (pa_cons (pv 2) pa_nil))) (pe_slice (sl_tupA : SlR _ (rSlA K)) (pv 5) (po_some pe_int) po_none)) (pv 5)) pa_nil))) pa_nil)))))
      (pss_one (ps_ret (pe_callTy call_tuple_of (by rfl) mt (by decide +kernel) (pa_cons (pv 3) pa_nil))))), ?_⟩
    refine iSeq (iAsg ⟨Nat.zero_le _, fun D hD => iName ?_⟩)
    dsimp only
    have s1 := same_new (o := .lst []) hD
    have hD1 : (upd H D (.lst [])) D = some (.lst []) := upd_same
    generalize upd H D (.lst []) = H1 at s1 hD1 ⊢
    have ll : (longer rs z l).length = rs.length := List.length_map _
    refine iSeq ⟨.ref a, rfl, a, rfl, ⟨_, sqT (s1 _ _ h1)⟩, ?_⟩
    refine for_tup (xs := ps.map V.ref) (fun i σ' H' => (∃ x4 x5, σ' = [some (.ref a), some (.str z), some (.int l), some (.ref D), x4, x5]) ∧ Same H H' ∧ ∃ cs, H' D = some (.lst (cs.map V.ref)) ∧ Paired (NamedAt H') cs ((longer rs z l).take i)) ⟨⟨_, _, rfl⟩, s1, [], hD1, by rw [List.take_zero]; exact .nil⟩ (fun i σ' H' _ h => sqT (h.2.1 _ _ h1)) (fun i v σ' H' hv h => ?_) (fun σ' H2 h => ?_)
    · obtain ⟨⟨x4, x5, rfl⟩, sm, cs, hcs, hcc⟩ := h
      rw [List.getElem?_map] at hv
      obtain ⟨pi, hpi, rfl⟩ := Option.map_eq_some_iff.mp hv
      obtain ⟨y, hy, r, hnm, hr'⟩ := paired_at' h2 hpi
      have il : i < rs.length := (List.getElem?_eq_some_iff.mp hy).1
      have cl := Paired.length hcc
      rw [List.length_take] at cl
      have hr2 := hr'.keep (KeepT.of sm)
      have ly : (longer rs z l)[i]? = some (y.1, if y.1 = z then { y.2 with last := l } else y.2) := by
        unfold longer
        rw [List.getElem?_map, hy]
        rfl
      have key : ∀ (r2 : Addr) (H3 : Hp), Same H' H3 → RightAt H3 r2 (if y.1 = z then { y.2 with last := l } else y.2) → ∀ p, H3 p = none → ∃ xs, (upd H3 p (.tup [.str y.1, .ref r2])) D = some (.lst xs) ∧ xs.length < sizeLine ∧ Same H (upd (upd H3 p (.tup [.str y.1, .ref r2])) D (.lst (xs ++ [.ref p]))) ∧ ∃ cs, (upd (upd H3 p (.tup [.str y.1, .ref r2])) D (.lst (xs ++ [.ref p]))) D = some (.lst (cs.map V.ref)) ∧ Paired (NamedAt (upd (upd H3 p (.tup [.str y.1, .ref r2])) D (.lst (xs ++ [.ref p])))) cs ((longer rs z l).take (i + 1)) := fun r2 H3 s3 hr3 p hp => by
        have s4 := same_new (o := .tup [.str y.1, .ref r2]) hp
        have hD4 := s4 _ _ (s3 _ _ hcs)
        refine ⟨_, hD4, by rw [List.length_map]; omega, fun b o e => ?_, cs ++ [p], by rw [upd_same, List.map_append]; rfl, ?_⟩
        · rw [upd_ne (ne_of_none e hD)]
          exact s4 _ _ (s3 _ _ (sm _ _ e))
        · have kp : KeepT _ (upd (upd H3 p (.tup [.str y.1, .ref r2])) D (.lst (cs.map V.ref ++ [.ref p]))) := KeepT.put hD4 fun _ z => nomatch z
          rw [List.take_add_one, ly]
          refine Paired.snoc (Paired.mapP hcc fun _ _ z => ((z.keep (KeepT.of s3)).keep (KeepT.of s4)).keep kp) ⟨r2, kp _ _ upd_same, (hr3.keep (KeepT.of s4)).keep kp⟩
      refine ⟨pi, _, rfl, sqT (sm _ _ hnm), rfl, .str y.1, _, rfl, .ref r, _, rfl, rfl, ?_⟩
      dsimp only
      refine iDrop' ⟨.ref D, rfl, .inl ⟨rfl, _, sqL hcs⟩, .str y.1, rfl, .str y.1, rfl, .str z, rfl, rfl, _, rfl, ?_⟩
      by_cases ez : y.1 = z
      · rw [decide_eq_true (congrArg V.str ez)]
        obtain ⟨wa, qs, ka, g1, g2, g3, g4⟩ := id hr2
        refine iteT ⟨.ref r, rfl, _, rfl, slA_by g1 fun H3 p3 s3 hp3 => ?_⟩
        refine ⟨.int l, rfl, by show 1 ≤ sizeLine; omega, fun t4 ht4 => ?_⟩
        have s4 := same_new (o := .tup [.int l]) ht4
        refine catA_by (s4 _ _ hp3) upd_same (by show 3 + 1 ≤ sizeLine; omega) fun H6 p6 s6 hp6 => ?_
        have s36 := (s3.trans s4).trans s6
        refine ⟨.ref r, rfl, _, rfl, slN_by (s36 _ _ g1) fun H7 p7 s7 hp7 => ?_⟩
        refine catA_by (s7 _ _ hp6) hp7 (by show 4 + 1 ≤ sizeLine; omega) fun H8 p8 s8 hp8 => ?_
        have s38 := (s36.trans s7).trans s8
        have hR8 : RightAt H8 p8 { y.2 with last := l } := ⟨wa, qs, ka, hp8, s38 _ _ g2, Paired.mapP g3 fun _ _ z => z.keepT (KeepT.of s38), s38 _ _ g4⟩
        refine ⟨by show 2 ≤ sizeLine; omega, fun p hp => ?_⟩
        obtain ⟨xs, e1, e2, e3⟩ := key p8 H8 s38 (by rw [if_pos ez]; exact hR8) p hp
        exact ⟨D, _, _, rfl, rfl, e1, e2, ⟨_, _, rfl⟩, e3⟩
      · rw [decide_eq_false fun e => ez (V.str.inj e)]
        refine iteF ⟨.ref r, rfl, by show 2 ≤ sizeLine; omega, fun p hp => ?_⟩
        obtain ⟨xs, e1, e2, e3⟩ := key r H' (fun _ _ e => e) (by rw [if_neg ez]; exact hr2) p hp
        exact ⟨D, _, _, rfl, rfl, e1, e2, ⟨_, _, rfl⟩, e3⟩
    · obtain ⟨⟨x4, x5, rfl⟩, sm, cs, hcs, hcc⟩ := h
      rw [List.length_map, pl, ← ll, List.take_length] at hcc
      try dsimp only
      refine iRet ⟨.ref D, rfl, D, _, rfl, .inl ⟨sqL hcs, fun p hp => ?_⟩⟩
      have s3 := same_new (o := .tup (cs.map V.ref)) hp
      exact q _ p (sm.trans s3) ⟨cs, upd_same, Paired.mapP hcc fun _ _ y => y.keep (KeepT.of s3)⟩
end
end P37
/-! AskEl: lengths of what repr shows, added up. -/
namespace AskG
open PySem PySem.Spec PyProof.Rows L2
/-- items that repr shows in at most n signs together -/
structure FineL (k n : Nat) (ds : List PyData) : Prop where
  shw : PyData.showableAll ds = true
  nod : PyData.hasDictAll ds = false
  dep : PyData.depthAll ds ≤ k
  len : ((PyData.shownAll ds).map (·.length)).sum ≤ n
  num : (PyData.shownAll ds).length = ds.length
theorem FineL.nil {k n : Nat} : FineL k n [] := ⟨rfl, rfl, Nat.zero_le _, Nat.zero_le _, rfl⟩
theorem FineL.cons {k n m : Nat} {d : PyData} {ds : List PyData} (f : Fine k m d) (h : FineL k n ds) : FineL k (m + n) (d :: ds) := by
  refine ⟨?_, ?_, ?_, ?_, ?_⟩
  · show (d.showable && PyData.showableAll ds) = true
    rw [f.shw, h.shw]
    rfl
  · show (d.hasDict || PyData.hasDictAll ds) = false
    rw [f.nod, h.nod]
    rfl
  · exact Nat.max_le.mpr ⟨f.dep, h.dep⟩
  · show ((d.shown :: PyData.shownAll ds).map (·.length)).sum ≤ _
    rw [List.map_cons, List.sum_cons]
    have := f.len
    have := h.len
    omega
  · show (d.shown :: PyData.shownAll ds).length = _
    rw [List.length_cons, List.length_cons, h.num]
theorem FineL.mono {k n k' n' : Nat} {ds : List PyData} (h : FineL k n ds) (hk : k ≤ k') (hn : n ≤ n') : FineL k' n' ds :=
  ⟨h.shw, h.nod, Nat.le_trans h.dep hk, Nat.le_trans h.len hn, h.num⟩
theorem FineL.app {k m : Nat} {es : List PyData} (g : FineL k m es) : ∀ {n : Nat} {ds : List PyData}, FineL k n ds → FineL k (n + m) (ds ++ es)
  | n, [], _ => g.mono (Nat.le_refl _) (by omega)
  | n, d :: ds, h => by
    have s1 : (d.showable && PyData.showableAll ds) = true := h.shw
    rw [Bool.and_eq_true] at s1
    have s2 : (d.hasDict || PyData.hasDictAll ds) = false := h.nod
    rw [Bool.or_eq_false_iff] at s2
    have s3 : max d.depth (PyData.depthAll ds) ≤ k := h.dep
    have s4 : ((d.shown :: PyData.shownAll ds).map (·.length)).sum ≤ n := h.len
    rw [List.map_cons, List.sum_cons] at s4
    have s5 : (d.shown :: PyData.shownAll ds).length = (d :: ds).length := h.num
    rw [List.length_cons, List.length_cons] at s5
    have t : FineL k ((PyData.shownAll ds).map (·.length)).sum ds := ⟨s1.2, s2.2, by omega, Nat.le_refl _, by omega⟩
    exact (FineL.cons (m := d.shown.length) ⟨s1.1, s2.1, by omega, Nat.le_refl _⟩ (FineL.app g t)).mono (Nat.le_refl _) (by omega)
theorem FineL.by {k n m : Nat} {ds : List PyData} (h : ∀ d ∈ ds, Fine k n d) (hm : ds.length ≤ m) : FineL k (m * n) ds := by
  obtain ⟨h1, h2, h3, h4, h5⟩ := all_fine h
  exact ⟨h1, h2, h3, Nat.le_trans h4 (Nat.mul_le_mul_right _ hm), h5⟩
theorem FineL.tup {k n m : Nat} {ds : List PyData} (h : FineL k n ds) (hm : ds.length ≤ m) : Fine (k + 1) (n + 2 * m + 3) (.tuple ds) := by
  refine ⟨h.shw, h.nod, Nat.succ_le_succ h.dep, ?_⟩
  have t := tupleText_len_le (PyData.shownAll ds)
  have := h.len
  show (tupleText (PyData.shownAll ds)).length ≤ _
  rw [h.num] at t
  omega
theorem fine_small {i : Int} (h : i.natAbs < 10 ^ 12) : Fine 0 13 (.int i) := by
  refine ⟨?_, rfl, Nat.le_refl _, ?_⟩
  · refine decide_eq_true ?_
    by_cases z : i.natAbs = 0
    · rw [z]
      decide
    · have h2 : i.natAbs < 2 ^ 40 := Nat.lt_of_lt_of_le h (by decide)
      have := (Nat.log2_lt z).mpr h2
      omega
  · show (PySem.Str.ofString (toString i)).length ≤ 13
    rw [PySem.ofString_length]
    exact PySem.int_text_length_le10 (k := 12) (by decide) h
theorem fine_text {x : Str} (h : x.length ≤ 8) (hx : ∀ c ∈ x.cps.toList, c < 16 ^ 8) : Fine 0 82 (.str x) :=
  ⟨rfl, rfl, Nat.le_refl _, by
    have := StrLaws.reprText_len x hx
    show (reprText x).length ≤ _
    omega⟩
/-- a row of at most m cells on days of at most twelve digits -/
theorem fine_days {ρ : RowD} {m : Nat} (h : RowOk ρ) (hm : ρ.length ≤ m) (hd : ∀ x ∈ ρ, x.1.2.natAbs < 10 ^ 12) : Fine 3 (m * 2030 + 2 * m + 3) (rowPD ρ) := by
  refine FineL.tup (FineL.by (k := 2) (n := 2030) (m := m) (fun d hd' => ?_) (by rw [List.length_map]; exact hm)) (by rw [List.length_map]; exact hm)
  obtain ⟨x, hx, rfl⟩ := List.mem_map.mp hd'
  have c := h.cells x hx
  have f1 : Fine 1 (82 + (13 + 0) + 2 * 2 + 3) (cellD x.1) := FineL.tup (FineL.cons (fine_text c.short c.plain) (FineL.cons (fine_small (hd x hx)) (FineL.nil (n := 0)))) (m := 2) (Nat.le_refl _)
  have f2 : Fine 2 (102 + (1921 + 0) + 2 * 2 + 3) (pairD x) := FineL.tup (FineL.cons f1 (FineL.cons ((fine_int (h.lit x hx)).mono (by decide) (Nat.le_refl _)) (FineL.nil (n := 0)))) (m := 2) (Nat.le_refl _)
  exact f2
theorem repr_fine {K : PySem.W.Frag} {H : Hp} {a : Addr} {d : PyData} {n m : Nat} {Q : VK} (h : Dp K H (.ref a) d) (f : Fine n m d) (hn : n ≤ 60) (hm : m ≤ 16777216) (q : Q (.str d.shown) H) : rRepr K [.ref a] H Q :=
  ⟨a, d, rfl, h, f.shw, f.nod, Nat.le_trans f.dep hn, by rw [sizeLine_eq]; exact Nat.le_trans f.len hm, q⟩
end AskG
/-! _law_is_priced -/
namespace P37
open PySem PySem.Spec PyProof.Rows L2 AskG Ask
abbrev sPr : Stmt := topS 57
abbrev NPr : List Str := ["_law_feed_here", "_law_claims_here", "_law_label", "_law_claim_here", "_law_end", "_law_since", "_law_wide", "_law_due", "_law_k", "_law_told"]
theorem scPr : FnScope NPr ["_law_feed_here", "_law_claims_here"] (defScope sPr) := ⟨rfl, rfl, rfl, by decide +kernel, rfl, by decide +kernel, by decide +kernel⟩
/-! the costs are small -/
theorem rk_len {ι : Type} : ∀ (xs B : List (ι → Int)), Lin.rk B xs ≤ xs.length
  | [], _ => Nat.le_refl _
  | x :: xs, B => by
    unfold Lin.rk
    have := rk_len xs (x :: B)
    rw [List.length_cons]
    split <;> omega
theorem FR_len {T : Int} {m : Nat} : ∀ {rs : List (Str × Rt)}, (∀ x ∈ rs, (x.2.last - x.2.first + 1).toNat ≤ m) → (FR rs T).length ≤ rs.length * m
  | [], _ => Nat.zero_le _
  | x :: rs, h => by
    have ih := FR_len (T := T) (rs := rs) fun y hy => h y (List.mem_cons_of_mem _ hy)
    have e : FR (x :: rs) T = futR x.2 T ++ FR rs T := rfl
    have h1 := fut_len x.2 T
    have h2 := h x List.mem_cons_self
    rw [e, List.length_append, List.length_cons, Nat.succ_mul]
    omega
theorem cst_30 {rs : List (Str × Rt)} (cr : CRs rs) (T : Int) : cst rs T ≤ 30 := by
  obtain ⟨m, ok⟩ := cr.ok
  have h1 : cst rs T ≤ (FR rs T).length := by
    have := rk_len ((FR rs T).map wt) []
    rw [List.length_map] at this
    exact this
  have h2 := FR_len (T := T) (m := m) (rs := rs) fun x hx => by
    have := (ok.all x hx).2.2.2
    omega
  have := ok.few
  omega
theorem sumC_b {rs : List (Str × Rt)} (cr : CRs rs) (t : Int) : ∀ n : Nat, 0 ≤ sumC rs t n ∧ sumC rs t n ≤ 30 * (n : Int)
  | 0 => ⟨Int.le_refl _, Int.le_refl _⟩
  | n + 1 => by
    have ih := sumC_b cr t n
    have := cst_30 cr (t + (n : Int))
    show 0 ≤ sumC rs t n + (cst rs (t + (n : Int)) : Int) ∧ sumC rs t n + (cst rs (t + (n : Int)) : Int) ≤ 30 * ((n + 1 : Nat) : Int)
    omega
/-- nothing is paid after the last day -/
theorem sumC_end {rs : List (Str × Rt)} {t m : Int} (hm : ∀ x ∈ rs, x.2.last - 1 ≤ m) (m10 : m ≤ 10) : sumC rs t (10 - t + 1).toNat = sumC rs t (m - t + 1).toNat :=
  sumC_late (by omega) fun j h1 h2 => cst_late fun x hx => by
    have := hm x hx
    omega
theorem CmsG.cl {rs : List (Str × Rt)} (h : CmsG rs) : ∀ x ∈ rs, ClG 3 x.2 := fun x hx => (h.all x hx).1
theorem CmsG.crs {rs : List (Str × Rt)} (h : CmsG rs) : CRs rs := crs_of h.cl (by have := h.few; omega)
theorem CmsG.nz {rs : List (Str × Rt)} (h : CmsG rs) : NzR rs := fun x hx c hc => (h.cl x hx).ws.nz c hc
theorem CmsG.one {rs : List (Str × Rt)} (h : CmsG rs) {x y : Str × Rt} (hx : x ∈ rs) (hy : y ∈ rs) (e : x.1 = y.1) : x = y := by
  have nd : (rs.map (·.1)).Nodup := by
    rw [h.names]
    exact List.Nodup.sublist (List.take_sublist _ _) (by unfold labs; decide +kernel)
  obtain ⟨i, hi, rfl⟩ := List.mem_iff_getElem.mp hx
  obtain ⟨j, hj, rfl⟩ := List.mem_iff_getElem.mp hy
  have e2 : (rs.map (·.1))[i]'(by rw [List.length_map]; exact hi) = (rs.map (·.1))[j]'(by rw [List.length_map]; exact hj) := by
    rw [List.getElem_map, List.getElem_map]
    exact e
  have := (List.getElem_inj nd).mp e2
  subst this
  rfl
theorem CmsG.longer {rs : List (Str × Rt)} (h : CmsG rs) {y : Str × Rt} (hy : y ∈ rs) {l : Int} (l0 : y.2.last ≤ l) (l2 : l ≤ y.2.last + 2) : CRs (longer rs y.1 l) ∧ NzR (longer rs y.1 l) ∧ ∀ m, (∀ x ∈ longer rs y.1 l, x.2.last - 1 ≤ m) → ∀ x ∈ rs, x.2.last - 1 ≤ m := by
  have cl : ∀ x ∈ P37.longer rs y.1 l, ClG 5 x.2 := fun x hx => by
    obtain ⟨z, hz, rfl⟩ := List.mem_map.mp hx
    show ClG 5 (if z.1 = y.1 then { z.2 with last := l } else z.2)
    split
    · next e =>
      rw [h.one hz hy e]
      obtain ⟨c, c6⟩ := h.all y hy
      exact ⟨c.ws, c.person, c.f0, Int.le_trans c.fl l0, by show l ≤ 9; omega, by have := c.lm; show l - y.2.first ≤ ((5 : Nat) : Int); omega, c.kind⟩
    · exact (h.cl z hz).more (by decide)
  refine ⟨crs_of cl (by unfold P37.longer; rw [List.length_map]; have := h.few; omega), fun x hx c hc => (cl x hx).ws.nz c hc, fun m hm x hx => ?_⟩
  have := hm _ (List.mem_map.mpr ⟨x, hx, rfl⟩)
  have this : (if x.1 = y.1 then { x.2 with last := l } else x.2).last - 1 ≤ m := this
  by_cases e : x.1 = y.1
  · rw [if_pos e] at this
    rw [h.one hx hy e]
    have this : l - 1 ≤ m := this
    omega
  · rw [if_neg e] at this
    exact this
section
variable {P : Program} {w : World} {K : PySem.W.Frag} {mg : Str → Option Value} {base : Heap}
variable {CU fD fO fL fE : Addr} {fdD fdO fdL fdE : FuncData}
/-- extension_price(claims, label, last) -/
theorem b_ep {f : Addr} {fd : FuncData} (F : FEP K f fd) : ∃ ds, Vals [.int 0] ds ∧ Binds K fd PSE ds := by
  refine FunD.binds0 F 3 (by simp) rfl fun D doc pm an cdv ct us ks hu hk => ?_
  match us, ks, hu, hk with
  | [a, b, c], [d], _, _ => exact ⟨_, _, _, _, _, _, rfl, rfl, rfl⟩
/-- extension_price(today=, last=, name=, rights=) -/
theorem kb_ep {f : Addr} {fd : FuncData} (F : FEP K f fd) : KBn K fd PSE 0 ["today", "last", "name", "rights"] (fun _ ws => ws.reverse) (fun _ zs => zs.reverse) := by
  obtain ⟨oc, od, dV, kV, doc, pm, an, cdv, ct, osl, rfl, lk, hcd, hD, hK⟩ := F.ex
  rcases hD with ⟨_, rfl⟩ | ⟨e, _⟩
  · rcases hK with e | ⟨D, rfl, hq⟩
    · cases e
    · refine ⟨fun s us ws _ hu hw => ?_, fun r rz => rz.reverse⟩
      match us, ws, hu, hw with
      | [], [a, b, c, d], _, _ => exact .of_eq rfl
  · exact absurd rfl e
def prEP : Pr := fun vs H Q => ∃ (a : Addr) (rs : List (Str × Rt)) (z : Str) (l t : Int), vs = [.ref a, .str z, .int l, .int t] ∧ RightsAt H a rs ∧ rs.length ≤ 20 ∧ z ∈ rs.map (·.1) ∧ CRs rs ∧ CRs (longer rs z l) ∧ 0 ≤ t ∧ t ≤ 20 ∧
  ∀ H' m, Same H H' → -1 ≤ m → m ≤ 8 → (∀ x ∈ longer rs z l, x.2.last - 1 ≤ m) → Q (.int (sumC (longer rs z l) t (m - t + 1).toNat - sumC rs t (m - t + 1).toNat)) H'
theorem ep_quiet : ∀ vs H Q, prEP vs H Q → spEP CU vs H Q E0 := by
  rintro vs H Q ⟨a, rs, z, l, t, rfl, hR, lr, hz, cr, cr2, t0, t20, q⟩
  have st : strange rs [z] = none := strange_none fun y hy => by
    rw [List.mem_singleton.mp hy]
    exact hz
  refine ⟨a, rs, z, l, t, rfl, hR, lr, fun _ => ⟨cr, cr2, t0, t20, q⟩, fun y hy => ?_⟩
  rw [st] at hy
  cases hy
def rReprI : List V → Hp → VK → Prop := fun xs H Q => ∃ i : Int, xs = [.int i] ∧ i.natAbs < 10 ^ 12 ∧ Q (.str (PyData.int i).shown) H
theorem call_reprI {X : Cx} : CallR X (.builtin "repr") rReprI := by
  intro pins s σ H xs us Q I r q
  obtain ⟨i, rfl, hi, q⟩ := q
  obtain ⟨u, rfl, rx⟩ := vals1 r
  obtain ⟨tk, rfl⟩ := rx
  exact PySem.P.repr_of_int (of_decide_eq_true (fine_small hi).shw) ⟨.str (PyData.int i).shown, H, I.tok _, ⟨_, rfl⟩, q⟩
def prPr : Pr := fun vs H Q => ∃ (F L a : Addr) (rs : List (Str × Rt)), vs = [.ref F, .ref a] ∧ FeedAt H F L ∧ RightsAt H a rs ∧ CmsG rs ∧ rs ≠ [] ∧ ∀ H', KeepF F H H' → FeedAt H' F L → Q (.bl true) H'
theorem ok_pr {f : Addr} {fd : FuncData} {k : Nat} (F : Fun K "_law_is_priced" "_law_is_priced" sPr f fd)
    (FD : Fun K "_law_draw" "_law_draw" sDraw fD fdD) (bD : Binds K fdD ["_law_feed_here", "_law_many"] []) (gD : mg "_law_draw" = some (.ref fD)) (GD : FnG P w K mg base (k + 9) fD fdD ["_law_feed_here", "_law_many"] prDraw)
    (FO : Fun K "_law_over" "_law_over" sOv fO fdO) (bO : Binds K fdO ["_law_claims_here", "_law_begin", "_law_end"] []) (gO : mg "_law_over" = some (.ref fO)) (GO : FnG P w K mg base (k + 9) fO fdO ["_law_claims_here", "_law_begin", "_law_end"] prOv)
    (FL : Fun K "_law_longer" "_law_longer" sLg fL fdL) (bL : Binds K fdL ["_law_claims_here", "_law_label", "_law_end"] []) (gL : mg "_law_longer" = some (.ref fL)) (GL : FnG P w K mg base (k + 9) fL fdL ["_law_claims_here", "_law_label", "_law_end"] prLg)
    (FE : FEP K fE fdE) (gE : mg "extension_price" = some (.ref fE)) (GE : FnG P w K mg base (k + 9) fE fdE PSE prEP)
    (ml : mg "len" = none) (mn' : mg "min" = none) (mp : mg "repr" = none) : FnG P w K mg base (k + 10) f fd ["_law_feed_here", "_law_claims_here"] prPr := by
  obtain ⟨ds, vds, bE⟩ := b_ep FE
  have kE := kb_ep FE
  refine okG F scPr (fun vs H Q h => ?_) (fun cdv A outer s H vs Q hr h => ?_)
  · obtain ⟨_, _, _, _, rfl, _⟩ := h
    rfl
  · obtain ⟨F, L, a, rs, rfl, hF, hR, cg, rne, q⟩ := h
    have big := sizeBig
    obtain ⟨ps, h1, h2⟩ := id hR
    have pl := Paired.length h2
    have r4 := cg.few
    have rpos := List.length_pos_iff.mpr rne
    refine ⟨_, pss_cons (ps_asg (pe_ix (ix_tup : IxR _ (rIxT K)) (pv 1) (pe_g GD hr (by rfl) gD FD.kp bD .nil (pa_cons (pv 0) (pa_cons (pe_callB call_len_seq (by rfl) ml PySem.boot_len (pa_cons (pv 1) pa_nil)) pa_nil))) (fun _ _ => rfl)) (pg_tup (by rfl) (pgs_cons (pg_name (i := 2) scPr.nd rfl (.inl rfl)) (pgs_cons (pg_name (i := 3) scPr.nd rfl (.inl rfl)) pgs_nil))))
      (pss_cons (ps_par (by rfl) scPr.nd (i := 4) (j := 5) rfl rfl (by decide) rfl rfl (pa_cons (pe_callB (call_min2 rfl) (by rfl) mn' (by decide +kernel) (pa_cons pe_int (pa_cons (pe_op op_add (pe_ix (ix_tup : IxR _ (rIxT K)) (pv 3) pe_int (fun _ _ => rfl)) (pe_g GD hr (by rfl) gD FD.kp bD .nil (pa_cons (pv 0) (pa_cons pe_int pa_nil)))) pa_nil))) (pa_cons (pe_g GD hr (by rfl) gD FD.kp bD .nil (pa_cons (pv 0) (pa_cons pe_int pa_nil))) pa_nil)) (by rfl))
      (pss_cons (ps_set (i := 6) scPr.nd rfl (.inr rfl) (pe_g GL hr (by rfl) gL FL.kp bL .nil (pa_cons (pv 1) (pa_cons (pv 2) (pa_cons (pv 4) pa_nil)))))
      (pss_cons (ps_setLc (i := 7) (own := [("_law_k", 8)]) (g := gName 8) (tt := tYes) rfl scPr.nd rfl rfl (sw_true rfl rfl rfl (by decide +kernel)) (pi_tup (pe_tup (pa_cons pe_int (pa_cons (pv 5) pa_nil)))) (blkOk_by (N := NPr) (sc := defScope sPr) (by decide +kernel))
          (fun _ _ _ _ _ => pg_name (i := 8) scPr.nd rfl (.inl rfl)) (fun _ _ _ _ _ => pts_nil) (fun _ _ _ _ _ => pe_op op_sub (pe_g GO hr (by rfl) gO FO.kp bO .nil (pa_cons (pv 6) (pa_cons (pv 8) (pa_cons pe_int pa_nil)))) (pe_g GO hr (by rfl) gO FO.kp bO .nil (pa_cons (pv 1) (pa_cons (pv 8) (pa_cons pe_int pa_nil))))))
      (pss_cons (ps_set (i := 9) scPr.nd rfl (.inl rfl) (pe_lst (pa_cons (pe_g GE hr (by rfl) gE FE.kp bE vds (pa_cons (pv 1) (pa_cons (pv 2) (pa_cons (pv 4) pa_nil)))) (pa_cons (pe_gn0 GE hr (by rfl) gE FE.kp kE (pk_cons (pv 5) (pk_cons (pv 4) (pk_cons (pv 2) (pk_cons (pv 1) pk_nil))))) pa_nil))))
      (pss_one (ps_ret (pe_cmpR op_eq (pe_callB (call_repr hr) (by rfl) mp (by decide +kernel) (pa_cons (pv 9) pa_nil)) (pe_callB (call_repr hr) (by rfl) mp (by decide +kernel) (pa_cons (pv 7) pa_nil)) (nomark _)))))))), ?_⟩
    refine iSeq (iAsg ⟨.ref a, rfl, .ref F, rfl, .ref a, rfl, a, _, rfl, .inr (sqT h1), F, L, _, rfl, hF, by rw [List.length_map]; omega, by rw [List.length_map]; omega, fun d H1 d0 d1 k1 hF1 => ?_⟩)
    rw [List.length_map] at d1
    obtain ⟨i, rfl⟩ : ∃ i : Nat, d = (i : Int) := ⟨d.toNat, by omega⟩
    have ip : i < ps.length := by omega
    obtain ⟨y, hy, r, hpi, hRi⟩ := paired_at' h2 (List.getElem?_eq_getElem ip)
    have ym := List.mem_of_getElem? hy
    obtain ⟨yG, y6⟩ := cg.all y ym
    have kt1 := k1.tup hF
    refine ⟨a, _, _, .ref ps[i], rfl, rfl, sqT (kt1 _ _ h1), atI_nat (j := i) (by rw [List.getElem?_map, List.getElem?_eq_getElem ip]; rfl), ?_⟩
    refine ⟨ps[i], _, rfl, sqT (kt1 _ _ hpi), rfl, .str y.1, _, rfl, .ref r, _, rfl, rfl, ?_⟩
    dsimp only
    obtain ⟨wa, qs, ka, g1, g2, g3, g4⟩ := id hRi
    refine iSeq ⟨.ref r, rfl, r, _, _, .int y.2.last, rfl, rfl, sqT (kt1 _ _ g1), atI_nat (j := 3) rfl, .ref F, rfl, F, L, 3, rfl, hF1, by decide, by decide, fun d2 H2 d20 d21 k2 hF2 => ⟨_, d2, rfl, rfl, 9, _, rfl, .ref F, rfl, F, L, 7, rfl, hF2, by decide, by decide, fun t H3 t0 t1 k3 hF3 => ⟨_, _, rfl, ?_⟩⟩⟩
    obtain ⟨l, el⟩ : ∃ l : Int, l = if y.2.last + d2 < 9 then y.2.last + d2 else 9 := ⟨_, rfl⟩
    have lb : y.2.last ≤ l ∧ l ≤ y.2.last + 2 := by
      rw [if_pos (by omega)] at el
      omega
    rw [← el]
    try dsimp only
    obtain ⟨cr2, nz2, mono⟩ := cg.longer ym lb.1 lb.2
    have k13 := (k1.trans k2).trans k3
    have kt3 := k13.tup hF
    have hR3 := hR.keep kt3
    have cr := cg.crs
    have nz := cg.nz
    refine iSeq (iAsg ⟨.ref a, rfl, .str y.1, rfl, .int l, rfl, a, rs, y.1, l, rfl, hR3, by omega, fun H4 wi s4 hW => iName ?_⟩)
    dsimp only
    have hR4 := hR3.keep (KeepT.of s4)
    obtain ⟨cA, ecA⟩ : ∃ cA : Int → Int, cA = fun t => sumC (longer rs y.1 l) t (10 - t + 1).toNat - sumC rs t (10 - t + 1).toNat := ⟨_, rfl⟩
    have small : ∀ t, 0 ≤ t → (cA t).natAbs < 10 ^ 12 := fun t t0 => by
      have b1 := sumC_b cr2 t (10 - t + 1).toNat
      have b2 := sumC_b cr t (10 - t + 1).toNat
      rw [ecA]
      dsimp only
      have : ((10 - t + 1).toNat : Int) ≤ 11 := by omega
      omega
    refine iSeq (iAsg ⟨.int t, rfl, by show 2 ≤ sizeLine; omega, fun tp htp => ⟨tp, rfl, ⟨_, sqT upd_same⟩, fun D hD => ?_⟩⟩)
    have s5 := same_new (o := .tup [.int 0, .int t]) htp
    have htp5 := upd_same (H := H4) (a := tp) (o := .tup [.int 0, .int t])
    generalize upd H4 tp (.tup [.int 0, .int t]) = H5 at s5 htp5 hD ⊢
    have hR5 := hR4.keep (KeepT.of s5)
    have hW5 := hW.keep (KeepT.of s5)
    refine loop_tup (K := K) (a := tp) (xs := [.int 0, .int t]) (fun j H' => Same H5 H' ∧ H' D = some (.lst (([cA 0, cA t].take j).map V.int))) ⟨same_new hD, upd_same⟩ (fun j H' h => sqT (h.1 _ _ htp5)) (fun j v H' hv h => ?_) (fun H6 h => ?_)
    · obtain ⟨sm, hDj⟩ := h
      have cs : ∃ u : Int, 0 ≤ u ∧ u ≤ 9 ∧ v = .int u ∧ [cA 0, cA t][j]? = some (cA u) ∧ j ≤ 1 := by
        match j, hv with
        | 0, hv =>
          cases hv
          exact ⟨0, by decide, by decide, rfl, rfl, by decide⟩
        | 1, hv =>
          cases hv
          exact ⟨t, t0, by omega, rfl, rfl, by decide⟩
      obtain ⟨u, u0, u9, rfl, ej, j1⟩ := cs
      refine ⟨wipe1, iYes (iteT ⟨.ref wi, rfl, .int u, rfl, wi, longer rs y.1 l, u, 10, rfl, hW5.keep (KeepT.of sm), cr2, nz2, u0, by omega, by decide, by decide, fun H7 s7 => ?_⟩)⟩
      refine ⟨.ref a, rfl, .int u, rfl, a, rs, u, 10, rfl, (hR5.keep (KeepT.of sm)).keep (KeepT.of s7), cr, nz, u0, by omega, by decide, by decide, fun H8 s8 => ?_⟩
      refine ⟨_, _, rfl, rfl, _, s8 _ _ (s7 _ _ hDj), by rw [List.length_map, List.length_take]; show min j 2 < sizeLine; omega, fun b o e => ?_, ?_⟩
      · rw [upd_ne (ne_of_none e hD)]
        exact s8 _ _ (s7 _ _ (sm _ _ e))
      · rw [upd_same, List.take_add_one, ej, List.map_append, ecA]
        rfl
    · obtain ⟨sm, hD6⟩ := h
      have hD6 : H6 D = some (.lst ([cA 0, cA t].map V.int)) := hD6
      refine iName ?_
      dsimp only
      have hR6 := hR5.keep (KeepT.of sm)
      have told : ∀ (u m : Int), 0 ≤ u → -1 ≤ m → m ≤ 8 → (∀ x ∈ longer rs y.1 l, x.2.last - 1 ≤ m) → sumC (longer rs y.1 l) u (m - u + 1).toNat - sumC rs u (m - u + 1).toNat = cA u := fun u m u0 m0 m8 hm => by
        rw [ecA]
        dsimp only
        rw [sumC_end hm (by omega), sumC_end (mono m hm) (by omega)]
      have yn : y.1 ∈ rs.map (·.1) := List.mem_map.mpr ⟨y, ym, rfl⟩
      refine iSeq (iAsg ⟨.ref a, rfl, .str y.1, rfl, .int l, rfl, a, rs, y.1, l, 0, rfl, hR6, by omega, yn, cr, cr2, by decide, by decide, fun H7 m s7 m0 m8 hm => ?_⟩)
      rw [told 0 m (by decide) m0 m8 hm]
      try dsimp only
      refine ⟨.int t, rfl, .int l, rfl, .str y.1, rfl, .ref a, rfl, rfl, rfl, a, rs, y.1, l, t, rfl, hR6.keep (KeepT.of s7), by omega, yn, cr, cr2, t0, by omega, fun H8 m' s8 m0' m8' hm' => ?_⟩
      rw [told t m' t0 m0' m8' hm']
      refine ⟨by show 2 ≤ sizeLine; omega, fun tl htl => iName ?_⟩
      try dsimp only
      have s9 := same_new (o := .lst [.int (cA 0), .int (cA t)]) htl
      have f : Fine 1 (2 * (13 + 2) + 3) (.list [.int (cA 0), .int (cA t)]) := Fine.lst (k := 0) (n := 13) (m := 2) (fun d hd => by
        rcases List.mem_cons.mp hd with rfl | hd
        · exact fine_small (small 0 (by decide))
        · rw [List.mem_singleton.mp hd]
          exact fine_small (small t t0)) (Nat.le_refl _)
      have fl : (PyData.list [.int (cA 0), .int (cA t)]).shown.length ≤ sizeLine := by
        rw [sizeLine_eq]
        exact Nat.le_trans f.len (by decide)
      have fd : (PyData.list [.int (cA 0), .int (cA t)]).depth ≤ 60 := Nat.le_trans f.dep (by decide)
      refine iRet ⟨.ref tl, rfl, tl, _, rfl, .lst (sqL upd_same) (.cons (.int _) (.cons (.int _) .nil)), f.shw, f.nod, fd, fl, .ref D, rfl, D, _, rfl, .lst (sqL (s9 _ _ (s8 _ _ (s7 _ _ hD6)))) (.cons (.int _) (.cons (.int _) .nil)), f.shw, f.nod, fd, fl, rfl, ?_⟩
      rw [decide_eq_true rfl]
      have sAll := ((((s4.trans s5).trans sm).trans s7).trans s8).trans s9
      exact q _ (k13.trans (KeepF.of sAll)) (hF3.same sAll)
end
end P37
/-! AskXh: defs called in an except suite with the caught thing; isinstance of it, its fields. -/
namespace AskG
open PySem PySem.Spec PyProof.Rows L2
section
variable (P : Program) (w : World) (K : PySem.W.Frag) (mg : Str → Option Value) (base : Heap)
/-- what a def promises there, p the thing that is handled -/
structure FnE (k : Nat) (f : Addr) (fd : FuncData) (ps : List Str) (sp : Addr × Obj → Pr) : Prop where
  many : ∀ p vs H Q, sp p vs H Q → vs.length = ps.length
  goes : ∀ (A : Around) (outer : List Env) (s : Shared) (H : Hp) (args : Args) (us : List Value) (vs : List V) (Q : VK) (p : Addr × Obj),
    L2H.RoomH k A → L2H.PinOk outer H s p → Env0 P w K mg base A outer s H → BindsTo s fd args (ps.zip us) → Vals vs us → sp p vs H Q →
    codeAny (model P w) A (.call (.ref f) args) (CR CX0 outer P w H s Q E0) s
end
section
variable {P : Program} {w : World} {K : PySem.W.Frag} {mg : Str → Option Value} {base : Heap}
theorem okE {x qual : Str} {st : Stmt} {f : Addr} {fd : FuncData} {N ps : List Str} {k : Nat} {sp : Addr × Obj → Pr} (F : Fun K x qual st f fd) (S : FnScope N ps (defScope st))
    (many : ∀ p vs H Q, sp p vs H Q → vs.length = ps.length)
    (body_ok : ∀ (cdv : Value) (A : Around) (outer : List Env) (s : Shared) (H : Hp) (vs : List V) (Q : VK) (p : Addr × Obj),
      L2H.RoomH k (A.deeper (envOfC qual (defScope st) s.heap.objs.size f cdv)) → sp p vs H Q →
      ∃ t, PSs (L2H.cxH CX0 P w K mg base N qual (defScope st) f cdv A outer s H E0 p).nox (defBody st) t ∧ t { nx := fun _ H' => Q .non H', rt := Q } (start N vs) H) :
    FnE P w K mg base (k + 1) f fd ps sp := by
  obtain ⟨oc, od, kV, doc, pm, an, cdv, ct, osl, rfl, lk, hcd⟩ := F.ex
  refine ⟨many, ?_⟩
  intro A outer s H args us vs Q p hr hp e0 hb hv h
  have hl := many _ _ _ _ h
  have inK : K.In s.heap := e0.mod.kin.keeps fun b o q => (e0.bs b o q).1
  have nl : s.heap.NoLimit := e0.mod.nolimit.keeps fun b o q => (e0.bs b o q).1
  have kinds : ∀ y ∈ ps.zip us, (defScope st).names.lookup y.1 = some .local ∨
      ((defScope st).names.lookup y.1 = some .cell ∧
        ((cellsFrom (s.heap.objs.size + 1) (defScope st).names []).lookup y.1).isSome = true) := by
    rintro ⟨n, v⟩ hy
    cases S.par n (List.of_mem_zip hy).1 with
    | inl q => exact Or.inl q
    | inr q => exact Or.inr ⟨q, PySem.W.cellsFrom_some _ _ _ (Or.inl q)⟩
  refine codeAny_call_function hr.depth (inK _ _ lk) rfl S.co S.gen rfl
    (PySem.W.codeRec_of inK hcd) (hb _ _ _ _ ?_)
  refine wpAny_newFunctionEnv_cells S.kind kinds fun env he s1 y => ?_
  subst he
  refine ⟨nl.keeps y.toInCall.keep, codeAny_func ?_⟩
  obtain ⟨t, ht, hq⟩ := body_ok cdv A outer s H vs Q p (hr.deeper _) h
  have I := L2H.inv_startH (CX := CX0) (E := E0) S hp e0 hl hv y
  refine wpAny_mono (ht.nox.run [] s1 (start N vs) H _ I hq) (fun fl s' hs => ?_) fun e s' hs => hs
  cases fl with
  | ret u =>
    obtain ⟨v, σ', H', J, rv, q⟩ := hs
    exact ⟨v, H', J.os, J.bare, J.base, J.hok, rv, q⟩
  | next =>
    obtain ⟨σ', H', J, q⟩ := hs
    exact ⟨.non, H', J.os, J.bare, J.base, J.hok, rfl, q⟩
  | brk =>
    obtain ⟨_, _, _, q⟩ := hs
    exact q.elim
  | cont =>
    obtain ⟨_, _, _, q⟩ := hs
    exact q.elim
end
section
variable {X : Cx} {k : Nat} {f : Addr} {fd : FuncData} {ps : List Str} {sp : Addr × Obj → Pr} {x : Str} {q pos : Pos} {e : Expr} {es : List Expr} {t : TA} {p : Addr × Obj}
/-- f(e, ..) in the suite -/
theorem pe_e (F : FnE X.prog X.w X.K X.mg X.base k f fd ps sp) (hr : L2H.RoomH k X.A) (hp : p ∈ X.pn) (hg : Gl X x) (hm : X.mg x = some (.ref f)) (hk : PySem.W.keepIn X.K (.ref f) = true) (hb : Binds X.K fd ps []) (ha : PA X (e :: es) t)
    (hdb : (x == ("__debug__" : Str)) = false := by decide) (he : starEach (e :: es) X.env = (false, eval e X.env) :: starEach es X.env := by rfl) (hpl : (backTo pos (starEach es X.env)).any (·.1) = false := by rfl) :
    PE X (.Call (.Name x q) (e :: es) [] pos) (fun σ H Q => t σ H fun vs H1 => sp p vs H1 Q) := by
  constructor
  intro pins s σ H Q I h
  refine wpAny_Call_Name_kw (ld_glob I hg hm ?_ hdb)
  refine PySem.W.callWith_K (h₀ := X.base) I.ok.mod.kin hk (thn (ha.run pos pins s σ H _ I h) ?_) he hpl
  rintro us s1 ⟨vs, H1, I1, r, q1⟩
  refine ⟨I1.kIn, ?_⟩
  have hl : us.length = ps.length := by rw [← r.length]; exact F.many _ _ _ _ q1
  have b := hb s1 us I1.kIn (by rw [List.append_nil]; exact hl)
  rw [List.append_nil] at b
  have P1 := I1.pin p (List.mem_append_left _ hp)
  have pin : L2H.PinOk X.stack H1 s1 p := ⟨P1.1, P1.2.1, fun z => (List.mem_cons.mp (I1.stkSub p.1 z)).elim P1.2.2.1 P1.2.2.2.1, P1.2.2.2.2⟩
  refine wpAny_call (codeAny_mono (F.goes X.A X.stack s1 H1 ⟨us, []⟩ us vs Q p hr pin I1.env0 b r q1) fun res s' hq => ?_)
  cases res with
  | error e => exact hq.elim
  | ok fl =>
    cases fl with
    | ret u => exact I1.after hq
    | next => exact False.elim hq
    | brk => exact False.elim hq
    | cont => exact False.elim hq
end
end AskG
/-! AskXi: isinstance of the caught thing, its fields. -/
namespace AskG
open PySem PySem.Spec PyProof.Rows L2
/-- the thing that is handled: an instance of D with these fields -/
structure Caught (X : Cx) (p : Addr × Obj) (D dd : Addr) : Prop where
  mem : p ∈ X.pn
  zc : Zc (.ref D) (some dd) p.2
  dat : ∃ vs, p.2.data = .fields vs
  cls : ExcC X.K D
theorem caught_at {X : Cx} {p : Addr × Obj} {D dd : Addr} {pins : List (Addr × Obj)} {σ : L2.St} {H : Hp} {s : Shared} {fs : List (Str × V)} (C : Caught X p D dd) (I : Inv X pins σ H s) (hd : H dd = some (.xd fs)) : ∃ od, PySem.W.InstAt s.heap p.1 p.2 D (some od) := by
  have hx : ObjOk X.prog X.w H s.heap dd (.xd fs) := I.hok dd _ hd
  obtain ⟨mA, hns, hr⟩ := hx
  obtain ⟨od, ho, hl⟩ := lookIn_ns hns
  obtain ⟨vs, hv⟩ := C.dat
  obtain ⟨ha, _⟩ := I.pin p (List.mem_append_left _ C.mem)
  refine ⟨od, ha, C.zc.1, ?_, ?_⟩
  · unfold PySem.W.notCls
    rw [hv] <;> rfl
  · rw [C.zc.2]
    exact ho
theorem kitx_caught {K : PySem.W.Frag} {x D : Addr} {ox : Obj} {od : Option Obj} (C : ExcC K D) : PySem.W.KitX K (.ref x) (.ref D) (fun h => PySem.W.InstAt h x ox D od) := by
  obtain ⟨cd, hc, _⟩ := PySem.W.any_some C.hd
  exact PySem.W.kitx_exc (by rw [hc]; rfl) C.hg C.hk C.hs C.ha C.hn C.ht C.hm
/-- isinstance(e, c) -/
def rIsX (K : PySem.W.Frag) (D dd : Addr) (p : Addr × Obj) : List V → Hp → VK → Prop := fun xs H Q => ∃ (fs : List (Str × V)) (c : V) (cv : Value) (b : Bool), H dd = some (.xd fs) ∧ xs = [.ref p.1, c] ∧ (∀ u, RelV c u → u = cv) ∧ PySem.W.kitOne K (.ref D) cv = some b ∧ Q (.bl b) H
theorem call_isX {X : Cx} {p : Addr × Obj} {D dd : Addr} (C : Caught X p D dd) : CallR X (.builtin "isinstance") (rIsX X.K D dd p) := by
  intro pins s σ H xs us Q I r h
  obtain ⟨fs, c, cv, b, hd, rfl, hcv, e, q⟩ := h
  cases r with
  | cons rx rr =>
    cases rr with
    | cons rt rr =>
      cases rr
      cases rx
      have ec := hcv _ rt
      subst ec
      obtain ⟨od, J⟩ := caught_at C I hd
      exact PySem.W.kia_one (kitx_caught C.cls) I.kIn J e (fun z => nomatch z) fun tk => ⟨.bl b, H, I.kept (t' := tk) fun _ _ z => z, rfl, q⟩
/-- isinstance(e, (c, ..)) -/
def rIsT (K : PySem.W.Frag) (D dd : Addr) (p : Addr × Obj) : List V → Hp → VK → Prop := fun xs H Q => ∃ (fs : List (Str × V)) (tp : Addr) (ys : List V) (cvs : List Value) (b : Bool), H dd = some (.xd fs) ∧ xs = [.ref p.1, .ref tp] ∧ SqT K H tp ys ∧ (∀ us, Vals ys us → us = cvs) ∧ PySem.W.kitAny K (.ref D) cvs = some b ∧ Q (.bl b) H
theorem call_isT {X : Cx} {p : Addr × Obj} {D dd : Addr} (C : Caught X p D dd) : CallR X (.builtin "isinstance") (rIsT X.K D dd p) := by
  intro pins s σ H xs us Q I r h
  obtain ⟨fs, tp, ys, cvs, b, hd, rfl, hs, hcv, e, q⟩ := h
  cases r with
  | cons rx rr =>
    cases rr with
    | cons rt rr =>
      cases rr
      cases rx
      cases rt
      obtain ⟨od, J⟩ := caught_at C I hd
      obtain ⟨its, rv, hl, hz⟩ := I.tuple hs
      obtain rfl := hcv _ rv
      obtain ⟨o, ho, hc, n, hdt⟩ := hl
      obtain ⟨oc, dd', od', sl⟩ := o
      dsimp only at hc hdt
      subst hc hdt
      exact PySem.W.kia_tup (kitx_caught C.cls) I.kIn J ho e (fun z => nomatch z) fun tk => ⟨.bl b, H, I.kept (t' := tk) fun _ _ z => z, rfl, q⟩
/-- e.n -/
def tFd (p : Addr × Obj) (dd : Addr) (n : Str) (te : TE) : TE := fun σ H Q => te σ H fun x H1 => x = .ref p.1 ∧ ∃ (fs : List (Str × V)) (v : V), H1 dd = some (.xd fs) ∧ fs.lookup n = some v ∧ Q v H1
theorem pe_fd {X : Cx} {p : Addr × Obj} {D dd : Addr} {e : Expr} {te : TE} {pos : Pos} {n : Str} (C : Caught X p D dd) (T : XfC X.K D) (hno : PySem.W.findIn X.K (.ref D) n = some none) (he : PE X e te) (hb : attributeBase e n X.env (eval e X.env) = eval e X.env := by rfl) :
    PE X (.Attribute e n pos) (tFd p dd n te) := by
  constructor
  intro pins s σ H Q I h
  refine attr_of hb (thn (he.run pins s σ H _ I h) ?_)
  rintro u s1 ⟨x, H1, I1, rx, rfl, fs, v, ea, l, q⟩
  cases rx
  have hx : ObjOk X.prog X.w H1 s1.heap dd (.xd fs) := I1.hok dd _ ea
  obtain ⟨mA, hns, hr⟩ := hx
  obtain ⟨od, ho, hl⟩ := lookIn_ns hns
  obtain ⟨u, hu, ru⟩ := RelO.some_of (v := v) (o := mA n) (by rw [← l]; exact hr n)
  obtain ⟨ha, _⟩ := I1.pin p (List.mem_append_left _ C.mem)
  obtain ⟨vs, hv⟩ := C.dat
  have J : PySem.W.InstAt s1.heap p.1 p.2 D (some od) := by
    refine ⟨ha, C.zc.1, ?_, ?_⟩
    · unfold PySem.W.notCls
      rw [hv] <;> rfl
    · rw [C.zc.2]
      exact ho
  exact HandSPX.exc_get I1.kIn J T.ga T.gg T.exC (PySem.W.findObj_own T.hdC hno rfl (by rw [hl, hu])) (handed_of ru) ⟨v, H1, I1.tok _, ru, q⟩
end AskG
/-! AskXj: list.count of a flat value in a list of flat values. -/
namespace AskG
open PySem PySem.Spec PyProof.Rows L2
theorem count_eqU {x : V} : ∀ {xs : List V} {us : List Value}, Vals xs us → xs.all flatV = true → us.countP (eqU x) = xs.countP fun y => eqV y x
  | _, _, .nil, _ => rfl
  | y :: xs, u :: us, .cons r t, f => by
    rw [List.all_cons, Bool.and_eq_true] at f
    rw [List.countP_cons, List.countP_cons, eqU_of r f.1, count_eqU t f.2]
def rCnt (K : PySem.W.Frag) : V → List V → Hp → VK → Prop := fun x xs H Q => ∃ (p : Addr) (ys : List V) (k : V), x = .ref p ∧ xs = [k] ∧ SqL K H p ys ∧ flatV k = true ∧ ys.all flatV = true ∧ Q (.int (ys.countP (fun y => eqV y k) : Nat)) H
theorem mt_cnt {X : Cx} : MtR X "list.count" (rCnt X.K) := by
  intro pins s σ H x xs v us Q I rx rxs h
  obtain ⟨p, ys, k, rfl, rfl, hs, fk, fy, q⟩ := h
  cases rx
  obtain ⟨u, rfl, ru⟩ := rxs.one
  obtain ⟨its, rv, ⟨⟨cls, dd, data, sl⟩, n, ho, hc, hdn, hd⟩, hlen⟩ := I.list hs
  dsimp only at hc hd
  subst hc hd
  refine call_meets PySem.F.slot_list_count ⟨_, ho, rfl⟩ PySem.F.entry_list_count (PySem.F.args_list_count_2 _ _)
    (SeqAt.list_countAt p its.toArray n dd sl u (eqU k)) ⟨ho, fun y hy => mem_eqAt ru fk rv fy y (by simpa using hy), ?_⟩
  refine ⟨.int (ys.countP (fun y => eqV y k) : Nat), H, I.tok _, ⟨s.toks, ?_⟩, q⟩
  rw [← count_eqU rv fy]
end AskG
/-! _law_said -/
namespace P37
open PySem PySem.Spec PyProof.Rows L2 AskG Ask
abbrev sSd : Stmt := topS 52
abbrev NSd : List Str := ["_law_ask", "_law_found", "e", "_law_kinds", "_law_sorts", "_law_others"]
theorem scSd : FnScope NSd ["_law_ask"] (defScope sSd) := ⟨rfl, rfl, rfl, by decide +kernel, rfl, by decide +kernel, by decide +kernel⟩
theorem pe_never {X : Cx} {e : Expr} : PE X e (fun _ _ _ => False) := ⟨fun _ _ _ _ _ _ h => h.elim⟩
theorem iAnd {t u : TT} {σ : L2.St} {H : Hp} {Q : Bool → Hp → Prop} (h : t σ H fun c H1 => if c = true then u σ H1 Q else Q false H1) : tAnd t u σ H Q := h
/-- what the top says of the errors' classes, as UnknownName's instances see them -/
structure ErrK (K : PySem.W.Frag) (mg : Str → Option Value) (C c1 c2 c3 c4 c5 c6 c7 : Addr) : Prop where
  exc : ExcC K C
  xf : XfC K C
  no : PySem.W.findIn K (.ref C) "name" = some none
  g0 : mg "UnknownName" = some (.ref C)
  g1 : mg "InvalidPaper" = some (.ref c1)
  g2 : mg "PaperError" = some (.ref c2)
  g3 : mg "ArchiveError" = some (.ref c3)
  g4 : mg "TextError" = some (.ref c4)
  g5 : mg "InvalidStep" = some (.ref c5)
  g6 : mg "NotAnswerable" = some (.ref c6)
  g7 : mg "NothingToUndo" = some (.ref c7)
  k0 : PySem.W.kitOne K (.ref C) (.ref C) = some true
  k1 : PySem.W.kitOne K (.ref C) (.ref c1) = some false
  k2 : PySem.W.kitOne K (.ref C) (.ref c2) = some false
  k3 : PySem.W.kitOne K (.ref C) (.ref c3) = some true
  k4 : PySem.W.kitOne K (.ref C) (.ref c4) = some false
  k6 : PySem.W.kitOne K (.ref C) (.ref c6) = some false
  k5 : PySem.W.kitAny K (.ref C) [.ref c5, .ref c7] = some false
/-- what _law_said makes of a lambda that raises -/
def TTsd (K : PySem.W.Frag) (C CA : Addr) : (XK → Hp → VK → Prop) → Hp → VK → Prop := fun tl H Q => ∀ H1, Same H H1 →
  tl (fun cls d H' => cls = .ref C ∧ PySem.W.exmOne K (.ref C) (.ref CA) = some true ∧ ∃ (dd : Addr) (z : Str), d = some dd ∧ H' dd = some (.xd [("name", .str z)]) ∧ ∀ H'' r, Same H' H'' → H'' r = some (.tup [.str "name", .str z]) → Q (.ref r) H'') H1
    (fun v H' => 2 ≤ sizeLine ∧ ∀ r, H' r = none → ∃ u : V, some (some (V.ref r)) = some (some u) ∧ Q u (upd H' r (.tup [.str "told", v])))
theorem takes_len {X : Cx} {W : WX} {n : Nat} (t : Takes X W) (hn : X.N.length = n) : Takes X (fun cls d σ H => σ.length = n → W cls d σ H) := by
  rintro u s' ⟨a, B, sI, pins, σ, H, cls, d, e, I, nb, up, sky, na, os, ag, w⟩
  exact t u s' ⟨a, B, sI, pins, σ, H, cls, d, e, I, nb, up, sky, na, os, ag, w (I.len.trans hn)⟩
/-- the suite -/
def tsSd (C a : Addr) (cls : Value) (d : Option Addr) : TS := fun D σ H => cls = .ref C ∧ ∃ (dd : Addr) (z : Str) (x0 x1 x3 x4 x5 : Option V), d = some dd ∧ H dd = some (.xd [("name", .str z)]) ∧ σ = [x0, x1, some (.ref a), x3, x4, x5] ∧
  ∀ H'' r y3 y4 y5, Same H H'' → H'' r = some (.tup [.str "name", .str z]) → D.nx [x0, some (.ref r), some (.ref a), y3, y4, y5] H''
section
variable {X : Cx} {C CA g c1 c2 c3 c4 c5 c6 c7 : Addr} {cdg : Value} {k : Nat}
theorem sd_gives (q : Str) (hA : X.mg "AskError" = some (.ref CA)) (B : ErrK X.K X.mg C c1 c2 c3 c4 c5 c6 c7) (mi : X.mg "isinstance" = none)
    (hr : Room (k + 1) X.A) : LamX.GivesTo X NSd "_law_said" (defScope sSd) g cdg (defBody sSd) "_law_ask" q (TTsd X.K C CA) := by
  intro f c' s H Q tl act hc h
  have big := sizeBig
  have hun : (X.A.deeper (envOfC "_law_said" (defScope sSd) s.heap.objs.size g cdg)).units + 64 < cLine := by
    have := (hr.deeper (envOfC "_law_said" (defScope sSd) s.heap.objs.size g cdg)).un
    omega
  refine ⟨_, pss_cons (ps_set (i := 1) scSd.nd rfl (.inl rfl) (pe_tup (pa_cons pe_str pa_nil)))
    (pss_cons (ps_try_as (X := (cxOf C8.CX0 X.prog X.w X.K X.mg X.base NSd "_law_said" (defScope sSd) g cdg X.A X.stack s H C8.E0).nox) (i := 2) (c := .ref CA)
      (tb := fun W D σ H => ∃ Ech : XK, (∀ cls d σ' H', σ'.length = 6 → Ech cls d H' → W cls d σ' H') ∧ σ[0]? = some (some (.ref f)) ∧ H c' = some (LamX.CodeO c' q) ∧ tl Ech H fun v H1 => 2 ≤ sizeLine ∧ ∀ r, H1 r = none → D.nx (σ.set 1 (some (.ref r))) (upd H1 r (.tup [.str "told", v])))
      (ts := tsSd C)
      rfl rfl scSd.nd rfl rfl ⟨by rfl, by decide, .inl hA⟩ LamX.takes0 (fun W pn xe tk _ => ?_) (fun a oe cls d pn hz hd => ?_))
    (pss_one (ps_ret (pv 1)))), ?_⟩
  · refine ⟨fun pins s' σ H' D I h' => ?_⟩
    obtain ⟨Ech, hW, h1, h2, h3⟩ := h'
    refine PSs.run (t := tAsg (tTup (tCons (tC (.str "told")) (tCons (fun σZ HZ Q => σZ[0]? = some (some (.ref f)) ∧ HZ c' = some (LamX.CodeO c' q) ∧ tl Ech HZ Q) tNil))) (gName 1)) (pss_one (ps_set (i := 1) scSd.nd rfl (.inl rfl) (pe_tup (pa_cons pe_str (pa_cons (act (fun cls d σ H => σ.length = 6 → W cls d σ H) pn xe Ech _ _ (takes_len (n := 6) tk rfl) fun cls d σ' H' e l => hW cls d σ' H' l e) pa_nil))))) pins s' σ H' D I ?_
    exact ⟨h1, h2, h3⟩
  · refine ⟨fun pins s' σ H' D I h' => ?_⟩
    obtain ⟨rfl, dd, z, x0, x1, x3, x4, x5, rfl, hdd, rfl, q1⟩ := h'
    have CG : Caught ((cxOf C8.CX0 X.prog X.w X.K X.mg X.base NSd "_law_said" (defScope sSd) g cdg X.A X.stack s H C8.E0).nox.suite a ((a, oe) :: pn)) (a, oe) C dd := ⟨List.mem_cons_self, hz, hd, B.exc⟩
    have ixl : IxR ((cxOf C8.CX0 X.prog X.w X.K X.mg X.base NSd "_law_said" (defScope sSd) g cdg X.A X.stack s H C8.E0).nox.suite a ((a, oe) :: pn)) (rIxL X.K) := ix_list
    refine PSs.run (pss_cons (ps_set (i := 3) scSd.nd rfl (.inl rfl) (pe_lst (pa_cons (pe_callB (call_isX CG) (by rfl) mi (by decide +kernel) (pa_cons (pv 2) (pa_cons (pe_glob (v := .ref c2) (by rfl) B.g2 rfl) pa_nil))) (pa_cons (pe_callB (call_isX CG) (by rfl) mi (by decide +kernel) (pa_cons (pv 2) (pa_cons (pe_glob (v := .ref c3) (by rfl) B.g3 rfl) pa_nil))) (pa_cons (pe_callB (call_isX CG) (by rfl) mi (by decide +kernel) (pa_cons (pv 2) (pa_cons (pe_glob (v := .ref c4) (by rfl) B.g4 rfl) pa_nil))) pa_nil)))))
      (pss_cons (ps_set (i := 4) scSd.nd rfl (.inl rfl) (pe_lst (pa_cons (pe_callB (call_isX CG) (by rfl) mi (by decide +kernel) (pa_cons (pv 2) (pa_cons (pe_glob (v := .ref c1) (by rfl) B.g1 rfl) pa_nil))) (pa_cons (pe_callB (call_isX CG) (by rfl) mi (by decide +kernel) (pa_cons (pv 2) (pa_cons (pe_glob (v := .ref C) (by rfl) B.g0 rfl) pa_nil))) (pa_cons (pe_callB (call_isX CG) (by rfl) mi (by decide +kernel) (pa_cons (pv 2) (pa_cons (pe_glob (v := .ref c6) (by rfl) B.g6 rfl) pa_nil))) pa_nil)))))
      (pss_cons (ps_set (i := 5) scSd.nd rfl (.inl rfl) (pe_callB (call_isT CG) (by rfl) mi (by decide +kernel) (pa_cons (pv 2) (pa_cons (pe_tup (pa_cons (pe_glob (v := .ref c5) (by rfl) B.g5 rfl) (pa_cons (pe_glob (v := .ref c7) (by rfl) B.g7 rfl) pa_nil))) pa_nil))))
      (pss_one (ps_if (PW.pt (pw_and (pt_cmpR op_eq (pe_bm PySem.F.plainAttrs_list PySem.F.slot_list_count PySem.F.type_list_count mt_cnt (pv 4) (pa_cons pe_bl pa_nil)) pe_int (nomark _)) (pw_and (pt_not (pt_val (pv 5))) (pw_and1 (pt_cmpR (op_eqD hun) (pv 3) (pe_lst (pa_cons (pe_ix ixl (pv 4) pe_int (fun _ _ => rfl)) (pa_cons (pe_not (pe_ix ixl (pv 4) pe_int (fun _ _ => rfl))) (pa_cons pe_bl pa_nil)))) (nomark _))))))
        (pss_one (ps_if (pt_val (pe_ix ixl (pv 4) pe_int (fun _ _ => rfl))) pss_never (pss_one (ps_set (i := 1) scSd.nd rfl (.inl rfl) (pe_ifExp (pt_val (pe_ix ixl (pv 4) pe_int (fun _ _ => rfl))) (pe_tup (pa_cons pe_str (pa_cons (pe_fd CG B.xf B.no (pv 2)) pa_nil))) pe_never))))) pss_nil))))) pins s' _ H' D I ?_
    refine iSeq (iAsg ⟨.ref a, rfl, _, .ref c2, .ref c2, false, hdd, rfl, fun u r => r, B.k2, ⟨.ref a, rfl, _, .ref c3, .ref c3, true, hdd, rfl, fun u r => r, B.k3, ⟨.ref a, rfl, _, .ref c4, .ref c4, false, hdd, rfl, fun u r => r, B.k4, ⟨by show 3 ≤ sizeLine; omega, fun l1 hl1 => ?_⟩⟩⟩⟩)
    have s1 := same_new (o := .lst [.bl false, .bl true, .bl false]) hl1
    have h1 := upd_same (H := H') (a := l1) (o := .lst [.bl false, .bl true, .bl false])
    have d1 := s1 _ _ hdd
    generalize upd H' l1 (.lst [.bl false, .bl true, .bl false]) = H1 at s1 h1 d1 ⊢
    refine iName ?_
    dsimp only
    refine iSeq (iAsg ⟨.ref a, rfl, _, .ref c1, .ref c1, false, d1, rfl, fun u r => r, B.k1, ⟨.ref a, rfl, _, .ref C, .ref C, true, d1, rfl, fun u r => r, B.k0, ⟨.ref a, rfl, _, .ref c6, .ref c6, false, d1, rfl, fun u r => r, B.k6, ⟨by show 3 ≤ sizeLine; omega, fun l2 hl2 => ?_⟩⟩⟩⟩)
    have s2 := same_new (o := .lst [.bl false, .bl true, .bl false]) hl2
    have h2 := upd_same (H := H1) (a := l2) (o := .lst [.bl false, .bl true, .bl false])
    have d2 := s2 _ _ d1
    have h1' := s2 _ _ h1
    generalize upd H1 l2 (.lst [.bl false, .bl true, .bl false]) = H2 at s2 h2 d2 h1' ⊢
    refine iName ?_
    dsimp only
    refine iSeq (iAsg ⟨.ref a, rfl, by show 2 ≤ sizeLine; omega, fun tp htp => ?_⟩)
    have s3 := same_new (o := .tup [.ref c5, .ref c7]) htp
    have h3 := upd_same (H := H2) (a := tp) (o := .tup [.ref c5, .ref c7])
    have d3 := s3 _ _ d2
    have h1'' := s3 _ _ h1'
    have h2' := s3 _ _ h2
    generalize upd H2 tp (.tup [.ref c5, .ref c7]) = H3 at s3 h3 d3 h1'' h2' ⊢
    refine ⟨_, tp, _, [.ref c5, .ref c7], false, d3, rfl, sqT h3, fun us r => ?_, B.k5, ?_⟩
    · cases r with
      | cons r1 r => cases r with
        | cons r2 r =>
          cases r
          cases r1
          cases r2
          rfl
    refine iName ?_
    dsimp only
    have s13 := (s1.trans s2).trans s3
    refine iIfS (iAnd ⟨.ref l2, rfl, .inl ⟨rfl, _, sqL h2'⟩, l2, _, .bl true, rfl, rfl, sqL h2', rfl, rfl, rfl, _, rfl, ?_⟩)
    refine iteT (iAnd ?_)
    refine ⟨.bl false, rfl, _, rfl, ?_⟩
    refine iteT ⟨.ref l1, rfl, .ref l2, rfl, l2, _, _, _, rfl, rfl, sqL h2', atI_nat (j := 0) rfl, .ref l2, rfl, l2, _, _, _, rfl, rfl, sqL h2', atI_nat (j := 0) rfl, false, rfl, by show 3 ≤ sizeLine; omega, fun l4 hl4 => ?_⟩
    have s4 := same_new (o := .lst [.bl false, .bl true, .bl false]) hl4
    refine ⟨.list [.bool false, .bool true, .bool false], .list [.bool false, .bool true, .bool false], .lst (sqL (s4 _ _ h1'')) (.cons (.bl _) (.cons (.bl _) (.cons (.bl _) .nil))), .lst (sqL upd_same) (.cons (.bl _) (.cons (.bl _) (.cons (.bl _) .nil))), by decide, by decide, _, rfl, ?_⟩
    refine iteT (iIfS ⟨.ref l2, rfl, l2, _, _, _, rfl, rfl, sqL (s4 _ _ h2'), atI_nat (j := 0) rfl, _, rfl, ?_⟩)
    refine iteF (iAsg ⟨.ref l2, rfl, l2, _, _, _, rfl, rfl, sqL (s4 _ _ h2'), atI_nat (j := 1) rfl, _, rfl, ?_⟩)
    refine iteT ⟨.ref a, rfl, rfl, _, .str z, s4 _ _ d3, rfl, by show 2 ≤ sizeLine; omega, fun r hr' => iName ?_⟩
    exact q1 _ r _ _ _ ((s13.trans s4).trans (same_new hr')) upd_same
  · refine iSeq (iAsg ⟨by show 1 ≤ sizeLine; omega, fun p1 hp1 => iName ?_⟩)
    dsimp only
    have s1 := same_new (o := .tup [.str "other"]) hp1
    refine iSeq ?_
    refine ⟨fun cls d H' => cls = .ref C ∧ PySem.W.exmOne X.K (.ref C) (.ref CA) = some true ∧ ∃ (dd : Addr) (z : Str), d = some dd ∧ H' dd = some (.xd [("name", .str z)]) ∧ ∀ H'' r, Same H' H'' → H'' r = some (.tup [.str "name", .str z]) → Q (.ref r) H'', fun cls d σ' H' l e => ?_, rfl, s1 _ _ hc, h _ s1⟩
    obtain ⟨rfl, ex, dd, z, rfl, hdd, q1⟩ := e
    match σ', l with
    | [x0, x1, x2, x3, x4, x5], _ =>
      refine ⟨true, ex, fun _ a na => ?_, fun z => by cases z⟩
      exact ⟨rfl, dd, z, x0, x1, x3, x4, x5, rfl, hdd, rfl, fun H'' r y3 y4 y5 s2 hr2 => ⟨.ref r, rfl, q1 H'' r s2 hr2⟩⟩
end
end P37
/-! _law_are_unknown -/
namespace P37
open PySem PySem.Spec PyProof.Rows L2 AskG Ask
abbrev sUn : Stmt := topS 58
abbrev NUn : List Str := ["_law_claims_here", "_law_labels", "_law_told"]
theorem scUn : FnScope NUn ["_law_claims_here", "_law_labels"] (defScope sUn) := ⟨rfl, rfl, rfl, by decide +kernel, rfl, by decide +kernel, by decide +kernel⟩
abbrev lamQ : Str := (envOfC "_law_are_unknown" (defScope sUn) 0 0 .none).qual ++ "<lambda>"
abbrev lamS1 : Scope := { kind := .function, names := [("_law_claims_here", .free), ("_law_labels", .free), ("increments_of", .globalImplicit)], isGenerator := false, isCoroutine := false }
abbrev lamS2 : Scope := { kind := .function, names := [("_law_claims_here", .free), ("extension_price", .globalImplicit)], isGenerator := false, isCoroutine := false }
theorem lamOk1 : LamX.LamS (defScope sUn) lamS1 := LamX.lamS_by (by decide +kernel)
theorem lamOk2 : LamX.LamS (defScope sUn) lamS2 := LamX.lamS_by (by decide +kernel)
/-- the one table -/
abbrev TL (Pt : Addr) : List (Addr × Str) := [(Pt, lamQ)]
theorem keepT_ext {H H' : Hp} (h : LamX.ExtN H H') : KeepT H H' := fun b xs e => h b _ e fun _ z => nomatch z
theorem tabs_put {Pt l : Addr} {H : Hp} {xs ys : List V} (t : LamX.Tabs (TL Pt) H) (hl : H l = some (.lst xs)) : LamX.Tabs (TL Pt) (upd H l (.lst ys)) := by
  intro p hp
  obtain ⟨ps, h1, h2, h3⟩ := t p hp
  refine ⟨ps, by rw [upd_ne (ne_of h1 hl fun z => nomatch z)]; exact h1, h2, fun pos cv hc => ?_⟩
  obtain ⟨c, e1, e2⟩ := h3 pos cv hc
  refine ⟨c, e1, ?_⟩
  rw [upd_ne (ne_of e2 hl fun z => ?_)]
  · exact e2
  · unfold LamX.CodeO at z
    cases z
theorem strange_zzz {rs : List (Str × Rt)} {zs ys : List Str} (hz : ∀ z ∈ zs, z ∈ rs.map (·.1)) (n : ("zzz" : Str) ∉ rs.map (·.1)) : strange rs (zs ++ ("zzz" : Str) :: ys) = some "zzz" := by
  unfold strange
  rw [List.find?_append, show List.find? (fun z => !inS z (rs.map (·.1))) zs = none from strange_none hz, Option.none_or, List.find?_cons, inS_dec, decide_eq_false n]
  rfl
section
variable {P : Program} {w : World} {K : PySem.W.Frag} {mg : Str → Option Value} {base : Heap}
variable {CU CA c1 c2 c3 c4 c5 c6 c7 fS fI fE : Addr} {fdS fdI fdE : FuncData}
def prUn (Pt : Addr) : Pr := fun vs H Q => ∃ (a n : Addr) (rs : List (Str × Rt)) (zs : List Str), vs = [.ref a, .ref n] ∧ RightsAt H a rs ∧ CRs rs ∧ rs.length ≤ 20 ∧ TxtAt H n zs ∧ (∀ z ∈ zs, z ∈ rs.map (·.1)) ∧ ("zzz" : Str) ∉ rs.map (·.1) ∧ LamX.Tabs (TL Pt) H ∧
  ∀ H', LamX.ExtN H H' → LamX.Tabs (TL Pt) H' → Q (.bl true) H'
theorem ok_un {f c Pt : Addr} {od an : Option Addr} {oc kV doc pm ct : Value} {osl : Array (Option Value)} {k : Nat}
    (lk : K.lookup f = some ⟨oc, od, .func (PySem.W.fnOf "_law_are_unknown" "_law_are_unknown" (defArgs sUn) (defBody sUn) (defScope sUn) .none kV doc pm an (.ref c) ct), osl⟩) (hcd : PySem.W.codeIn K (.ref c) "_law_are_unknown" = true) (TB : LamX.TabB base mg c Pt)
    (FS : Fun K "_law_said" "_law_said" sSd fS fdS) (bS : Binds K fdS ["_law_ask"] []) (gS : mg "_law_said" = some (.ref fS)) (gA : mg "AskError" = some (.ref CA)) (ex : PySem.W.exmOne K (.ref CU) (.ref CA) = some true) (B : ErrK K mg CU c1 c2 c3 c4 c5 c6 c7) (mi : mg "isinstance" = none)
    (FI : Fun K "increments_of" "increments_of" sIO fI fdI) (bI : Binds K fdI ["rights", "order", "day"] []) (gI : mg "increments_of" = some (.ref fI)) (GI : FnX P w K mg base (k + 9) fI fdI ["rights", "order", "day"] (spIO CU))
    (FE : FEP K fE fdE) (gE : mg "extension_price" = some (.ref fE)) (GE : FnX P w K mg base (k + 9) fE fdE PSE (spEP CU)) :
    FnG P w K mg base (k + 12) f (PySem.W.fnOf "_law_are_unknown" "_law_are_unknown" (defArgs sUn) (defBody sUn) (defScope sUn) .none kV doc pm an (.ref c) ct) ["_law_claims_here", "_law_labels"] (prUn Pt) := by
  obtain ⟨ocR, odR, kVR, docR, pmR, anR, cdR, ctR, oslR, rfl, lkR, hcR⟩ := FS.ex
  obtain ⟨ds, vds, bE⟩ := b_ep FE
  refine fnG_of lk hcd scUn (fun vs H Q h => ?_) (fun A outer s H vs Q hr h => ?_)
  · obtain ⟨_, _, _, _, rfl, _⟩ := h
    rfl
  · obtain ⟨a, n, rs, zs, rfl, hR, cr, lr, hN, hz, nz, hT, q⟩ := h
    have big := sizeBig
    have hun := hr.room.units
    have hu : ∀ p ∈ TL Pt, p.1 = Pt → p.2 = lamQ := fun p hp _ => by rw [List.mem_singleton.mp hp]
    have hmT : (Pt, lamQ) ∈ TL Pt := List.mem_singleton.mpr rfl
    refine ⟨_, pss_cons (ps_set (i := 2) scUn.nd rfl (.inl rfl) (pe_lst (pa_cons (LamX.pe_lamcall (T := TL Pt) (TT := TTsd K CU CA) (k := k + 9) (t := fun E => tCallX (spIO CU) (fun cls d _ H' => E cls d H') (tCons (tVar 0) (tCons (tOp (rCatA K) (tSl (rSlA K) (tVar 1) tNoPart (tPart (tC (.int 1)))) (tTup (tCons (tC (.str "zzz")) (tCons (tC (.str "zzy")) tNil)))) (tCons (tC (.int 1)) tNil)))) (by rfl) gS FS.kp lkR hcR bS scSd rfl (.inl rfl)
            (sd_gives (k := k + 10) _ gA B mi hr.room) TB rfl hmT hu hr.room lamOk1 rfl (fun _ _ _ _ _ => rfl) (fun A' outer' s' H' E f' c' hr' => pe_x GI hr' (by rfl) gI FI.kp bI (takes_of rfl rfl rfl rfl) (pa_cons (pv 0) (pa_cons (pe_op (op_catA : OpR _ _ (rCatA K)) (pe_slice (sl_tupA : SlR _ (rSlA K)) (pv 1) po_none (po_some pe_int)) (pe_tup (pa_cons pe_str (pa_cons pe_str pa_nil)))) (pa_cons pe_int pa_nil))))) pa_nil)))
      (pss_cons (ps_expr (pe_bm PySem.F.plainAttrs_list PySem.F.slot_list_append PySem.F.type_list_append mt_append (pv 2) (pa_cons (LamX.pe_lamcall (T := TL Pt) (TT := TTsd K CU CA) (k := k + 9) (t := fun E => tCallXD (spEP CU) (fun cls d _ H' => E cls d H') [.int 0] (tCons (tVar 0) (tCons (tC (.str "zzz")) (tCons (tC (.int 9)) tNil)))) (by rfl) gS FS.kp lkR hcR bS scSd rfl (.inl rfl)
            (sd_gives (k := k + 10) _ gA B mi hr.room) TB rfl hmT hu hr.room lamOk2 rfl (fun _ _ _ _ _ => rfl) (fun A' outer' s' H' E f' c' hr' => pe_xd GE hr' (by rfl) gE FE.kp bE vds (takes_of rfl rfl rfl rfl) (pa_cons (pv 0) (pa_cons pe_str (pa_cons pe_int pa_nil))))) pa_nil)))
      (pss_one (ps_ret (pe_cmpR (op_eqD hun) (pv 2) (pe_lst (pa_cons (pe_tup (pa_cons pe_str (pa_cons pe_str pa_nil))) (pa_cons (pe_tup (pa_cons pe_str (pa_cons pe_str pa_nil))) pa_nil))) (nomark _))))), ?_⟩
    refine iSeq (iAsg ⟨hT, fun H1 e1 T1 H2 s2 => ?_⟩)
    have k1 := keepT_ext e1
    have hR2 := (hR.keep k1).keep (KeepT.of s2)
    have hN2 : TxtAt H2 n zs := s2 _ _ (k1 _ _ hN)
    refine ⟨.ref a, rfl, .ref n, rfl, _, rfl, slA_by hN2 fun H3 p3 s3 hp3 => ?_⟩
    rw [show ((1 : Int)) = ((1 : Nat) : Int) from rfl, cut_take, ← List.map_take] at hp3
    refine ⟨by show 2 ≤ sizeLine; omega, fun t4 ht4 => ?_⟩
    have s4 := same_new (o := .tup [.str "zzz", .str "zzy"]) ht4
    refine catA_by (s4 _ _ hp3) upd_same (by rw [List.length_map, List.length_take]; show min 1 _ + 2 ≤ sizeLine; omega) fun H5 p5 s5 hp5 => ?_
    have s25 := (s3.trans s4).trans s5
    have st : strange rs (zs.take 1 ++ (["zzz", "zzy"] : List Str)) = some "zzz" := strange_zzz (fun z hz' => hz z (List.mem_of_mem_take hz')) nz
    refine ⟨a, p5, rs, 1, zs.take 1 ++ (["zzz", "zzy"] : List Str), rfl, hR2.keep (KeepT.of s25), cr, by omega, by decide, by decide, (by show H5 p5 = _; rw [hp5, List.map_append]; rfl), by rw [List.length_append, List.length_take]; show min 1 _ + 2 < 64; omega, (fun z => by rw [st] at z; cases z), fun z hz' H6 d s6 hd => ?_⟩
    rw [st] at hz'
    cases hz'
    refine ⟨rfl, ex, d, "zzz", rfl, hd, fun H7 r7 s7 hr7 => ?_⟩
    have s27 := (s2.trans s25).trans (s6.trans s7)
    have T7 := T1.ext s27
    have e7 := e1.trans (LamX.ExtN.of s27)
    refine ⟨by show 1 ≤ sizeLine; omega, fun l8 hl8 => iName ?_⟩
    dsimp only
    have s8 := same_new (o := .lst [.ref r7]) hl8
    have hl8' := upd_same (H := H7) (a := l8) (o := .lst [.ref r7])
    have hr8 := s8 _ _ hr7
    have T8 := T7.ext s8
    have e8 := e7.trans (LamX.ExtN.of s8)
    have n8 : ∀ b o, H b = some o → (∀ ps, o ≠ .tbl ps) → b ≠ l8 := fun b o e nt => ne_of_none (e7 b o e nt) hl8
    generalize upd H7 l8 (.lst [.ref r7]) = H8 at s8 hl8' hr8 T8 e8 ⊢
    refine iSeq (iDrop' ⟨.ref l8, rfl, .inl ⟨rfl, _, sqL hl8'⟩, T8, fun H9 e9 T9 H10 s10 => ?_⟩)
    have k9 := keepT_ext (e8.trans e9)
    have hR10 := (hR.keep k9).keep (KeepT.of s10)
    have st2 : strange rs ["zzz"] = some "zzz" := strange_zzz (zs := []) (fun z h => absurd h (by simp)) nz
    refine ⟨.ref a, rfl, a, rs, "zzz", 9, 0, rfl, hR10, lr, (fun z => by rw [st2] at z; cases z), fun z hz' H11 d11 s11 hd11 => ?_⟩
    rw [st2] at hz'
    cases hz'
    refine ⟨rfl, ex, d11, "zzz", rfl, hd11, fun H12 r12 s12 hr12 => ?_⟩
    have s912 := s10.trans (s11.trans s12)
    have hl12 := s912 _ _ (e9 _ _ hl8' fun _ z => nomatch z)
    have hr7' := s912 _ _ (e9 _ _ hr8 fun _ z => nomatch z)
    have T12 := T9.ext s912
    have e12 := (e8.trans e9).trans (LamX.ExtN.of s912)
    refine ⟨l8, _, _, rfl, rfl, hl12, by show 1 < sizeLine; omega, ?_⟩
    have T13 : LamX.Tabs (TL Pt) (upd H12 l8 (.lst ([.ref r7] ++ [.ref r12]))) := tabs_put T12 hl12
    have e13 : LamX.ExtN H (upd H12 l8 (.lst ([.ref r7] ++ [.ref r12]))) := fun b o e nt => by
      rw [upd_ne (n8 b o e nt)]
      exact e12 b o e nt
    have h13 := upd_same (H := H12) (a := l8) (o := .lst ([.ref r7] ++ [.ref r12]))
    have r13 : (upd H12 l8 (.lst ([.ref r7] ++ [.ref r12]))) r7 = some (.tup [.str "name", .str "zzz"]) := by
      rw [upd_ne (ne_of hr7' hl12 fun z => nomatch z)]
      exact hr7'
    have r13' : (upd H12 l8 (.lst ([.ref r7] ++ [.ref r12]))) r12 = some (.tup [.str "name", .str "zzz"]) := by
      rw [upd_ne (ne_of hr12 hl12 fun z => nomatch z)]
      exact hr12
    try dsimp only
    generalize upd H12 l8 (.lst ([.ref r7] ++ [.ref r12])) = H13 at T13 e13 h13 r13 r13'
    refine iRet ⟨.ref l8, rfl, by show 2 ≤ sizeLine; omega, fun q1 hq1 => ⟨by show 2 ≤ sizeLine; omega, fun q2 hq2 => ⟨by show 2 ≤ sizeLine; omega, fun q3 hq3 => ?_⟩⟩⟩
    have v1 := same_new (o := .tup [.str "name", .str "zzz"]) hq1
    have v2 := same_new (o := .tup [.str "name", .str "zzz"]) hq2
    have v3 := same_new (o := .lst [.ref q1, .ref q2]) hq3
    have v13 := (v1.trans v2).trans v3
    refine ⟨.list [.tuple [.str "name", .str "zzz"], .tuple [.str "name", .str "zzz"]], .list [.tuple [.str "name", .str "zzz"], .tuple [.str "name", .str "zzz"]], .lst (sqL (v13 _ _ h13)) (.cons (.tup (sqT (v13 _ _ r13)) (.cons (.str _) (.cons (.str _) .nil))) (.cons (.tup (sqT (v13 _ _ r13')) (.cons (.str _) (.cons (.str _) .nil))) .nil)),
      .lst (sqL upd_same) (.cons (.tup (sqT (v3 _ _ (v2 _ _ upd_same))) (.cons (.str _) (.cons (.str _) .nil))) (.cons (.tup (sqT (v3 _ _ upd_same)) (.cons (.str _) (.cons (.str _) .nil))) .nil)), by decide +kernel, by decide +kernel, ?_⟩
    exact q _ (e13.trans (LamX.ExtN.of v13)) (T13.ext v13)
end
end P37
/-! the law -/
namespace P37
open PySem PySem.Spec PyProof.Rows L2 AskG Ask
abbrev sLaw : Stmt := topS 59
abbrev NL : List Str := ["_law_script", "_law_feed_here", "_law_lap", "_law_claims_here", "_law_labels", "_law_kept", "_law_pair", "_law_begin", "_law_size", "_law_date", "_law_due", "_law_end", "_law_told", "_law_one", "_law_queue", "_law_some"]
theorem scLaw : FnScope NL ["_law_script"] (defScope sLaw) := ⟨rfl, rfl, rfl, by decide +kernel, rfl, by decide +kernel, by decide +kernel⟩
theorem fine_kind {k : KindM} (h : k.Ok) : Fine 1 200 k.data := by
  have lit : ∀ {i : Int}, 0 ≤ i → i ≤ 30 → Fine 0 13 (.int i) := fun h1 h2 => fine_small (by omega)
  have st : ∀ {x : Str}, cellB (x, 0) = true → Fine 0 82 (.str x) := fun h => fine_text (cellOk_of h).short (cellOk_of h).plain
  have nn := h.nn
  cases k with
  | tot s => exact (FineL.tup (FineL.cons (st (by decide +kernel)) (FineL.cons (lit nn.1 nn.2) (FineL.nil (n := 0)))) (m := 2) (Nat.le_refl _)).mono (Nat.le_refl _) (by decide)
  | win l => exact (FineL.tup (FineL.cons (st (by decide +kernel)) (FineL.cons (lit nn.1 nn.2) (FineL.nil (n := 0)))) (m := 2) (Nat.le_refl _)).mono (Nat.le_refl _) (by decide)
  | per b e => exact (FineL.tup (FineL.cons (st (by decide +kernel)) (FineL.cons (lit nn.1 nn.2.1) (FineL.cons (lit nn.2.2.1 nn.2.2.2) (FineL.nil (n := 0))))) (m := 3) (Nat.le_refl _)).mono (Nat.le_refl _) (by decide)
theorem fine_right {R : Rt} (h : RtOk R) : Fine 3 20000 (rightD R) := by
  have ws : Fine 2 11556 (.tuple (R.ws.map AskG.cellD)) := Fine.tup (k := 1) (n := 3849) (m := 3) (fun d hd => by
    obtain ⟨x, hx, rfl⟩ := List.mem_map.mp hd
    exact fine_cell (h.ws x hx)) (by rw [List.length_map]; exact h.many)
  have := h.f0
  have := h.f1
  have := h.l0
  have := h.l1
  exact (FineL.tup (k := 2) (FineL.cons ((fine_text h.name.short h.name.plain).mono (by decide) (Nat.le_refl _)) (FineL.cons ws (FineL.cons ((fine_small (by omega)).mono (by decide) (Nat.le_refl _)) (FineL.cons ((fine_small (by omega)).mono (by decide) (Nat.le_refl _)) (FineL.cons ((fine_kind h.kind).mono (by decide) (Nat.le_refl _)) (FineL.nil (n := 0))))))) (m := 5) (Nat.le_refl _)).mono (Nat.le_refl _) (by decide)
theorem lab_ok {z : Str} (h : z ∈ labs) : CellOk (z, 0) := by
  have all : (labs.all fun n => cellB (n, 0)) = true := by decide +kernel
  exact cellOk_of (List.all_eq_true.mp all z h)
def cmsD (rs : List (Str × Rt)) : PyData := .tuple (rs.map namedD)
theorem fine_cms {rs : List (Str × Rt)} (h : CmsG rs) : Fine 5 200000 (cmsD rs) := by
  refine (Fine.tup (k := 4) (n := 20090) (m := 4) (fun d hd => ?_) (by rw [List.length_map]; exact h.few)).mono (Nat.le_refl _) (by decide)
  obtain ⟨x, hx, rfl⟩ := List.mem_map.mp hd
  have c := lab_ok (h.lab hx)
  exact (FineL.tup (k := 3) (FineL.cons ((fine_text c.short c.plain).mono (by decide) (Nat.le_refl _)) (FineL.cons (fine_right (h.all x hx).1.ok) (FineL.nil (n := 0)))) (m := 2) (Nat.le_refl _)).mono (Nat.le_refl _) (by decide)
theorem dp_cms {K : PySem.W.Frag} {H : Hp} {a : Addr} {rs : List (Str × Rt)} (h : RightsAt H a rs) : Dp K H (.ref a) (cmsD rs) := by
  obtain ⟨ps, h1, h2⟩ := h
  exact .tup (sqT h1) (dp_all (f := namedD) (R := NamedAt H) (fun _ _ z => dp_named z) h2)
theorem eqv_cms (rs : List (Str × Rt)) : (!PyData.eqv (cmsD rs) (.tuple [])) = decide (rs ≠ []) := by
  cases rs with
  | nil => rfl
  | cons x rs =>
    rw [decide_eq_true (by intro z; cases z)]
    rfl
theorem iOr {t u : TT} {σ : L2.St} {H : Hp} {Q : Bool → Hp → Prop} (h : t σ H fun c H1 => if c = true then Q true H1 else u σ H1 Q) : tOr t u σ H Q := h
theorem tabs_keepF {F L Pt : Addr} {H H' : Hp} (t : LamX.Tabs (TL Pt) H) (f : FeedAt H F L) (k : KeepF F H H') : LamX.Tabs (TL Pt) H' := by
  intro p hp
  obtain ⟨ps, h1, h2, h3⟩ := t p hp
  obtain ⟨_, _, _, _, hF, _⟩ := f
  refine ⟨ps, k _ _ (ne_of h1 hF fun z => nomatch z) h1, h2, fun pos cv hc => ?_⟩
  obtain ⟨c, e1, e2⟩ := h3 pos cv hc
  refine ⟨c, e1, k _ _ (ne_of e2 hF fun z => ?_) e2⟩
  unfold LamX.CodeO at z
  cases z
theorem feed_ext {F L : Addr} {H H' : Hp} (f : FeedAt H F L) (e : LamX.ExtN H H') : FeedAt H' F L := by
  obtain ⟨ns, a, l, n, h1, h2⟩ := f
  exact ⟨ns, a, l, n, e _ _ h1 (fun _ z => nomatch z), e _ _ h2 (fun _ z => nomatch z)⟩
theorem kb_rev2 {K : PySem.W.Frag} {x qual : Str} {st : Stmt} {f : Addr} {fd : FuncData} {p1 p2 : Str} (F : Fun K x qual st f fd)
    (h : ∀ (kV doc pm : Value) (an : Option Addr) (cdv ct a b : Value), bindArgs (PySem.W.fnOf x qual (defArgs st) (defBody st) (defScope st) .none kV doc pm an cdv ct) ⟨[], [(p2, a), (p1, b)]⟩ = pure [(p1, b), (p2, a)]) :
    KBn K fd [p1, p2] 0 [p2, p1] (fun _ ws => ws.reverse) (fun _ zs => zs.reverse) := by
  obtain ⟨oc, od, kV, doc, pm, an, cdv, ct, osl, rfl, lk, hcd⟩ := F.ex
  refine ⟨fun s us ws _ hu hw => ?_, fun r rz => rz.reverse⟩
  match us, ws, hu, hw with
  | [], [a, b], _, _ => exact .of_eq (h kV doc pm an cdv ct a b)
theorem kb_rev3 {K : PySem.W.Frag} {x qual : Str} {st : Stmt} {f : Addr} {fd : FuncData} {p1 p2 p3 : Str} (F : Fun K x qual st f fd)
    (h : ∀ (kV doc pm : Value) (an : Option Addr) (cdv ct a b c : Value), bindArgs (PySem.W.fnOf x qual (defArgs st) (defBody st) (defScope st) .none kV doc pm an cdv ct) ⟨[], [(p3, a), (p2, b), (p1, c)]⟩ = pure [(p1, c), (p2, b), (p3, a)]) :
    KBn K fd [p1, p2, p3] 0 [p3, p2, p1] (fun _ ws => ws.reverse) (fun _ zs => zs.reverse) := by
  obtain ⟨oc, od, kV, doc, pm, an, cdv, ct, osl, rfl, lk, hcd⟩ := F.ex
  refine ⟨fun s us ws _ hu hw => ?_, fun r rz => rz.reverse⟩
  match us, ws, hu, hw with
  | [], [a, b, c], _, _ => exact .of_eq (h kV doc pm an cdv ct a b c)
theorem cst_small {rs : List (Str × Rt)} (h : CmsG rs) (T : Int) : ((cst rs T : Int)).natAbs < 10 ^ 12 := by
  have := cst_30 h.crs T
  omega
theorem incs_small {rs : List (Str × Rt)} (h : CmsG rs) (zs : List Str) (T : Int) : ∀ i ∈ incs rs zs T, i.natAbs < 10 ^ 12 := fun i hi => by
  unfold incs at hi
  obtain ⟨j, _, rfl⟩ := List.mem_map.mp hi
  have h1 := cst_30 (h.crs.within (zs.take (j + 1))) T
  have h2 := cst_30 (h.crs.within (zs.take j)) T
  unfold upTo
  omega
noncomputable def incD (rs : List (Str × Rt)) (zs : List Str) (T : Int) : PyData := .tuple ((incs rs zs T).map PyData.int)
theorem fine_inc {rs : List (Str × Rt)} (h : CmsG rs) {zs : List Str} (l : zs.length ≤ 100) (T : Int) : Fine 1 2000 (incD rs zs T) := by
  refine (Fine.tup (k := 0) (n := 13) (m := 100) (fun d hd => ?_) ?_).mono (Nat.le_refl _) (by decide)
  · obtain ⟨i, hi, rfl⟩ := List.mem_map.mp hd
    exact fine_small (incs_small h zs T i hi)
  · unfold incs
    rw [List.length_map, List.length_map, List.length_range]
    exact l
theorem dp_ints {K : PySem.W.Frag} {H : Hp} : ∀ zs : List Int, DpAll K H (zs.map V.int) (zs.map PyData.int)
  | [] => .nil
  | z :: zs => .cons (.int z) (dp_ints zs)
section
variable {P : Program} {w : World} {K : PySem.W.Frag} {mg : Str → Option Value} {base : Heap}
variable {fFd fD fCm fLc fOv fSt fSo fPr fCs fCv fIo fUn : Addr} {fdFd fdD fdCm fdLc fdOv fdSt fdSo fdPr fdCs fdCv fdIo fdUn : FuncData}
def prLaw (K : PySem.W.Frag) (cs : List (Addr × Addr)) : Pr := fun vs H Q => ∃ (a : Addr) (ns : List Int), vs = [.ref a] ∧ SqL K H a (ns.map V.int) ∧ (∀ p ∈ cs, H p.2 = some (.tbl #[])) ∧ ∀ H', Q (.bl true) H'
theorem ok_law {f c Pt : Addr} {fd : FuncData} {k : Nat} (F : Fun K "law" "law" sLaw f fd)
    (FFd : Fun K "_law_feed" "_law_feed" sFeed fFd fdFd) (bFd : Binds K fdFd ["_law_script"] []) (gFd : mg "_law_feed" = some (.ref fFd)) (GFd : FnG P w K mg base (k + 12) fFd fdFd ["_law_script"] (prFeed K))
    (FD : Fun K "_law_draw" "_law_draw" sDraw fD fdD) (bD : Binds K fdD ["_law_feed_here", "_law_many"] []) (gD : mg "_law_draw" = some (.ref fD)) (GD : FnG P w K mg base (k + 12) fD fdD ["_law_feed_here", "_law_many"] prDraw)
    (FCm : Fun K "_law_claims" "_law_claims" sCms fCm fdCm) (bCm : Binds K fdCm ["_law_feed_here", "_law_many"] []) (gCm : mg "_law_claims" = some (.ref fCm)) (GCm : FnG P w K mg base (k + 12) fCm fdCm ["_law_feed_here", "_law_many"] prCms)
    (FLc : Fun K "_law_cost" "_law_cost" sLCo fLc fdLc) (bLc : Binds K fdLc ["_law_claims_here", "_law_date"] []) (gLc : mg "_law_cost" = some (.ref fLc)) (GLc : FnG P w K mg base (k + 12) fLc fdLc ["_law_claims_here", "_law_date"] prLCo)
    (FOv : Fun K "_law_over" "_law_over" sOv fOv fdOv) (bOv : Binds K fdOv ["_law_claims_here", "_law_begin", "_law_end"] []) (gOv : mg "_law_over" = some (.ref fOv)) (GOv : FnG P w K mg base (k + 12) fOv fdOv ["_law_claims_here", "_law_begin", "_law_end"] prOv)
    (FSt : Fun K "_law_stirred" "_law_stirred" sSt fSt fdSt) (bSt : Binds K fdSt ["_law_feed_here", "_law_labels"] []) (gSt : mg "_law_stirred" = some (.ref fSt)) (GSt : FnG P w K mg base (k + 12) fSt fdSt ["_law_feed_here", "_law_labels"] prSt)
    (FSo : Fun K "_law_steps_of" "_law_steps_of" sSo fSo fdSo) (bSo : Binds K fdSo ["_law_claims_here", "_law_queue", "_law_date"] []) (gSo : mg "_law_steps_of" = some (.ref fSo)) (GSo : FnG P w K mg base (k + 12) fSo fdSo ["_law_claims_here", "_law_queue", "_law_date"] prSo)
    (FPr : Fun K "_law_is_priced" "_law_is_priced" sPr fPr fdPr) (bPr : Binds K fdPr ["_law_feed_here", "_law_claims_here"] []) (gPr : mg "_law_is_priced" = some (.ref fPr)) (GPr : FnG P w K mg base (k + 12) fPr fdPr ["_law_feed_here", "_law_claims_here"] prPr)
    (FCs : Fun K "cost_of" "cost_of" sCs fCs fdCs) (bCs : Binds K fdCs ["rights", "day"] []) (gCs : mg "cost_of" = some (.ref fCs)) (GCs : FnG P w K mg base (k + 12) fCs fdCs ["rights", "day"] prCs)
    (FCv : Fun K "cost_over" "cost_over" sCV fCv fdCv) (bCv : Binds K fdCv ["rights", "first", "last"] []) (gCv : mg "cost_over" = some (.ref fCv)) (GCv : FnG P w K mg base (k + 12) fCv fdCv ["rights", "first", "last"] prCV)
    (FIo : Fun K "increments_of" "increments_of" sIO fIo fdIo) (bIo : Binds K fdIo ["rights", "order", "day"] []) (gIo : mg "increments_of" = some (.ref fIo)) (GIo : FnG P w K mg base (k + 12) fIo fdIo ["rights", "order", "day"] prIO)
    (kUn : PySem.W.keepIn K (.ref fUn) = true) (bUn : Binds K fdUn ["_law_claims_here", "_law_labels"] []) (gUn : mg "_law_are_unknown" = some (.ref fUn)) (GUn : FnG P w K mg base (k + 12) fUn fdUn ["_law_claims_here", "_law_labels"] (prUn Pt))
    (mr : mg "range" = none) (mt : mg "tuple" = none) (mp : mg "repr" = none) (mn1 : mg "min" = none) (mx1 : mg "max" = none) : FnG P w K mg base (k + 13) f fd ["_law_script"] (prLaw K [(c, Pt)]) := by
  have kCs : KBn K fdCs ["rights", "day"] 0 ["day", "rights"] (fun _ ws => ws.reverse) (fun _ zs => zs.reverse) := kb_rev2 FCs fun _ _ _ _ _ _ _ _ => rfl
  have kCv : KBn K fdCv ["rights", "first", "last"] 0 ["last", "first", "rights"] (fun _ ws => ws.reverse) (fun _ zs => zs.reverse) := kb_rev3 FCv fun _ _ _ _ _ _ _ _ _ => rfl
  have kIo : KBn K fdIo ["rights", "order", "day"] 0 ["day", "order", "rights"] (fun _ ws => ws.reverse) (fun _ zs => zs.reverse) := kb_rev3 FIo fun _ _ _ _ _ _ _ _ _ => rfl
  refine okG F scLaw (fun vs H Q h => ?_) (fun cdv A outer s H vs Q hr h => ?_)
  · obtain ⟨_, _, rfl, _⟩ := h
    rfl
  · obtain ⟨a0, ns, rfl, hS, hP, q⟩ := h
    have big := sizeBig
    have hun := hr.room.units
    refine ⟨_, pss_cons (ps_set (i := 1) scLaw.nd rfl (.inl rfl) (pe_g GFd hr (by rfl) gFd FFd.kp bFd .nil (pa_cons (pv 0) pa_nil)))
      (pss_cons (ps_for PassesOwn.never rfl (pi_range1 (by rfl) mr (pa_cons pe_int pa_nil)) (pg_name (i := 2) scLaw.nd rfl (.inl rfl))
        (pss_cons (ps_set (i := 3) scLaw.nd rfl (.inl rfl) (pe_g GCm hr (by rfl) gCm FCm.kp bCm .nil (pa_cons (pv 1) (pa_cons pe_int pa_nil))))
        (pss_cons (ps_par (by rfl) scLaw.nd (i := 4) (j := 5) rfl rfl (by decide) rfl rfl (pa_cons (pe_callTy call_tuple_of (by rfl) mt (by decide +kernel) (pa_cons (pe_lc (own := [("_law_pair", 6)]) (g := gName 6) (tt := tYes) rfl scLaw.nd (pi_tup (pv 3)) (blkOk_by (N := NL) (sc := defScope sLaw) (by decide +kernel)) (fun _ _ _ _ _ => pg_name (i := 6) scLaw.nd rfl (.inl rfl)) (fun _ _ _ _ _ => pts_nil) (fun _ _ _ _ _ => pe_ix (ix_tup : IxR _ (rIxT K)) (pv 6) pe_int (fun _ _ => rfl))) pa_nil)) (pa_cons (pe_callB (call_repr hr) (by rfl) mp (by decide +kernel) (pa_cons (pv 3) pa_nil)) pa_nil)) (by rfl))
        (pss_cons (ps_par (by rfl) scLaw.nd (i := 7) (j := 8) rfl rfl (by decide) rfl rfl (pa_cons (pe_g GD hr (by rfl) gD FD.kp bD .nil (pa_cons (pv 1) (pa_cons pe_int pa_nil))) (pa_cons (pe_g GD hr (by rfl) gD FD.kp bD .nil (pa_cons (pv 1) (pa_cons pe_int pa_nil))) pa_nil)) (by rfl))
        (pss_cons (ps_for PassesOwn.never rfl (pi_tup (pe_tup (pa_cons pe_int (pa_cons (pv 7) (pa_cons pe_int pa_nil))))) (pg_name (i := 9) scLaw.nd rfl (.inl rfl))
        (pss_cons (ps_set (i := 10) scLaw.nd rfl (.inl rfl) (pe_callB call_reprI (by rfl) mp (by decide +kernel) (pa_cons (pe_g GLc hr (by rfl) gLc FLc.kp bLc .nil (pa_cons (pv 3) (pa_cons (pv 9) pa_nil))) pa_nil)))
        (pss_one (ps_if (PW.pt (pw_or (pt_cmpR op_ne (pe_callB call_reprI (by rfl) mp (by decide +kernel) (pa_cons (pe_g GCs hr (by rfl) gCs FCs.kp bCs .nil (pa_cons (pv 3) (pa_cons (pv 9) pa_nil))) pa_nil)) (pv 10) (nomark _)) (pw_or1 (pt_cmpR op_ne (pe_callB call_reprI (by rfl) mp (by decide +kernel) (pa_cons (pe_gn0 GCs hr (by rfl) gCs FCs.kp kCs (pk_cons (pv 9) (pk_cons (pv 3) pk_nil))) pa_nil)) (pv 10) (nomark _))))) (pss_one (ps_ret pe_bl)) pss_nil))))
        (pss_cons (ps_for PassesOwn.never rfl (pi_tup (pe_tup (pa_cons (pe_callB (call_min2 rfl) (by rfl) mn1 (by decide +kernel) (pa_cons pe_int (pa_cons (pe_op op_add (pv 7) (pv 8)) pa_nil))) (pa_cons (pv 7) (pa_cons (pe_callB (call_max2 rfl) (by rfl) mx1 (by decide +kernel) (pa_cons pe_int (pa_cons (pe_op op_sub (pv 7) pe_int) pa_nil))) pa_nil))))) (pg_name (i := 11) scLaw.nd rfl (.inl rfl))
        (pss_cons (ps_set (i := 10) scLaw.nd rfl (.inl rfl) (pe_callB call_reprI (by rfl) mp (by decide +kernel) (pa_cons (pe_g GOv hr (by rfl) gOv FOv.kp bOv .nil (pa_cons (pv 3) (pa_cons (pv 7) (pa_cons (pv 11) pa_nil)))) pa_nil)))
        (pss_cons (ps_set (i := 12) scLaw.nd rfl (.inl rfl) (pe_lst (pa_cons (pe_g GCv hr (by rfl) gCv FCv.kp bCv .nil (pa_cons (pv 3) (pa_cons (pv 7) (pa_cons (pv 11) pa_nil)))) (pa_cons (pe_gn0 GCv hr (by rfl) gCv FCv.kp kCv (pk_cons (pv 11) (pk_cons (pv 7) (pk_cons (pv 3) pk_nil)))) pa_nil))))
        (pss_one (ps_if (pt_cmpR (op_neS hun) (pe_lc (own := [("_law_one", 13)]) (g := gName 13) (tt := tYes) rfl scLaw.nd (pi_list (pv 12)) (blkOk_by (N := NL) (sc := defScope sLaw) (by decide +kernel)) (fun _ _ _ _ _ => pg_name (i := 13) scLaw.nd rfl (.inl rfl)) (fun _ _ _ _ _ => pts_nil) (fun _ _ _ _ _ => (pe_callB call_reprI (by rfl) mp (by decide +kernel) (pa_cons (pv 13) pa_nil)))) (pe_lst (pa_cons (pv 10) (pa_cons (pv 10) pa_nil))) (nomark _)) (pss_one (ps_ret pe_bl)) pss_nil)))))
        (pss_cons (ps_set (i := 14) scLaw.nd rfl (.inl rfl) (pe_g GSt hr (by rfl) gSt FSt.kp bSt .nil (pa_cons (pv 1) (pa_cons (pv 4) pa_nil))))
        (pss_cons (ps_for PassesOwn.never rfl (pi_tup (pe_tup (pa_cons (pv 14) (pa_cons (pe_slice (sl_tupA : SlR _ (rSlA K)) (pv 14) (po_some pe_int) po_none) (pa_cons (pe_tup pa_nil) pa_nil))))) (pg_name (i := 15) scLaw.nd rfl (.inl rfl))
        (pss_cons (ps_set (i := 10) scLaw.nd rfl (.inl rfl) (pe_callB (call_repr hr) (by rfl) mp (by decide +kernel) (pa_cons (pe_g GSo hr (by rfl) gSo FSo.kp bSo .nil (pa_cons (pv 3) (pa_cons (pv 15) (pa_cons (pv 7) pa_nil)))) pa_nil)))
        (pss_cons (ps_if (pt_cmpR op_ne (pe_callB (call_repr hr) (by rfl) mp (by decide +kernel) (pa_cons (pe_g GIo hr (by rfl) gIo FIo.kp bIo .nil (pa_cons (pv 3) (pa_cons (pv 15) (pa_cons (pv 7) pa_nil)))) pa_nil)) (pv 10) (nomark _)) (pss_one (ps_ret pe_bl)) pss_nil)
        (pss_one (ps_if (pt_cmpR op_ne (pe_callB (call_repr hr) (by rfl) mp (by decide +kernel) (pa_cons (pe_gn0 GIo hr (by rfl) gIo FIo.kp kIo (pk_cons (pv 7) (pk_cons (pv 15) (pk_cons (pv 3) pk_nil)))) pa_nil)) (pv 10) (nomark _)) (pss_one (ps_ret pe_bl)) pss_nil)))))
        (pss_cons (ps_if (PW.pt (pw_and (pt_cmpR (op_neD hun) (pv 3) (pe_tup pa_nil) (nomark _)) (pw_and1 (pt_not (pt_val (pe_g GPr hr (by rfl) gPr FPr.kp bPr .nil (pa_cons (pv 1) (pa_cons (pv 3) pa_nil)))))))) (pss_one (ps_ret pe_bl)) pss_nil)
        (pss_one (ps_if (PW.pt (pw_or (pt_not (pt_val (pe_g GUn hr (by rfl) gUn kUn bUn .nil (pa_cons (pv 3) (pa_cons (pv 4) pa_nil))))) (pw_or1 (pt_cmpR op_ne (pe_callB (call_repr hr) (by rfl) mp (by decide +kernel) (pa_cons (pv 3) pa_nil)) (pv 5) (nomark _))))) (pss_one (ps_ret pe_bl)) pss_nil)))))))))))
      (pss_one (ps_ret pe_bl))), ?_⟩
    have hP : H Pt = some (.tbl #[]) := hP _ (List.mem_singleton.mpr rfl)
    have hT0 : LamX.Tabs (TL Pt) H := fun p hp => by
      rw [List.mem_singleton.mp hp]
      exact LamX.TabS.nil hP
    refine iSeq (iAsg ⟨.ref a0, rfl, a0, ns, rfl, hS, fun H1 Fd L s1 hF => iName ?_⟩)
    dsimp only
    have hT1 := hT0.ext s1
    clear hT0 hP hS s1
    refine iSeq ⟨3, rfl, by decide, by decide, ?_⟩
    refine for_range (lo := 0) (n := 3) (fun i σ' H' => (∃ x2 x3 x4 x5 x6 x7 x8 x9 x10 x11 x12 x13 x14 x15, σ' = [some (.ref a0), some (.ref Fd), x2, x3, x4, x5, x6, x7, x8, x9, x10, x11, x12, x13, x14, x15]) ∧ FeedAt H' Fd L ∧ LamX.Tabs (TL Pt) H') ⟨⟨_, _, _, _, _, _, _, _, _, _, _, _, _, _, rfl⟩, hF, hT1⟩ (fun i σ' H' hi h => ?_) (fun σ' H' h => ?_)
    · obtain ⟨⟨x2, x3, x4, x5, x6, x7, x8, x9, x10, x11, x12, x13, x14, x15, rfl⟩, hF1, hT⟩ := h
      clear hF hT1
      refine iName ?_
      dsimp only
      -- the claims
      refine iSeq (iAsg ⟨.ref Fd, rfl, Fd, L, rfl, hF1, fun H2 a rs k2 hF2 hR2 cg => iName ?_⟩)
      dsimp only
      have hT2 := tabs_keepF hT hF1 k2
      clear hT hF1 k2
      have cr := cg.crs
      have nz := cg.nz
      have r4 := cg.few
      obtain ⟨ps, h1, h2⟩ := id hR2
      have pl := Paired.length h2
      obtain ⟨nm, enm⟩ : ∃ nm, nm = rs.map (·.1) := ⟨_, rfl⟩
      have nl : nm.length = rs.length := by rw [enm, List.length_map]
      have fc := fine_cms cg
      have fcl : (cmsD rs).shown.length ≤ sizeLine := by
        rw [sizeLine_eq]
        exact Nat.le_trans fc.len (by decide)
      have fcd : (cmsD rs).depth ≤ 60 := Nat.le_trans fc.dep (by decide)
      -- labels, kept
      refine iSeq ⟨.ref a, rfl, a, rfl, ⟨_, sqT h1⟩, fun D hD => ?_⟩
      refine loop_tup (K := K) (a := a) (xs := ps.map V.ref) (fun j H' => Same H2 H' ∧ H' D = some (.lst ((nm.take j).map V.str))) ⟨same_new hD, by rw [List.take_zero]; exact upd_same⟩ (fun j H' h => sqT (h.1 _ _ h1)) (fun j v H' hv h => ?_) (fun H3 h => ?_)
      · obtain ⟨sm, hcs⟩ := h
        rw [List.getElem?_map] at hv
        obtain ⟨pi, hpi, rfl⟩ := Option.map_eq_some_iff.mp hv
        obtain ⟨y, hy, r, hnm, hr'⟩ := paired_at' h2 hpi
        have il : j < rs.length := (List.getElem?_eq_some_iff.mp hy).1
        have e1 : nm[j]? = some y.1 := by
          rw [enm, List.getElem?_map, hy]
          rfl
        refine ⟨wipe1, iYes (iteT ⟨.ref pi, rfl, pi, _, _, .str y.1, rfl, rfl, sqT (sm _ _ hnm), atI_nat (j := 0) rfl, _, hcs, by rw [List.length_map, List.length_take]; omega, fun b o e => ?_, ?_⟩)⟩
        · rw [upd_ne (ne_of_none e hD)]
          exact sm _ _ e
        · rw [upd_same, List.take_add_one, e1, List.map_append]
          rfl
      obtain ⟨s3, hD3⟩ := h
      rw [List.length_map, pl, ← nl, List.take_length] at hD3
      refine ⟨D, _, rfl, .inl ⟨sqL hD3, fun lb hlb => ?_⟩⟩
      have s4 := s3.trans (same_new (o := .tup (nm.map V.str)) hlb)
      have hlb4 : TxtAt _ lb nm := upd_same (H := H3) (a := lb) (o := .tup (nm.map V.str))
      generalize upd H3 lb (.tup (nm.map V.str)) = H4 at s4 hlb4 ⊢
      have hR4 := hR2.keep (KeepT.of s4)
      have hF4 := hF2.same s4
      have hT4 := hT2.ext s4
      refine ⟨.ref a, rfl, a, _, rfl, dp_cms hR4, fc.shw, fc.nod, fcd, fcl, _, _, rfl, ?_⟩
      try dsimp only
      clear hD hD3 s3 s4 hlb h1 h2 pl hR2 hF2 hT2
      -- begin, size
      refine iSeq ⟨.ref Fd, rfl, Fd, L, 9, rfl, hF4, by decide, by decide, fun b H5 b0 b1 k5 hF5 => ⟨.ref Fd, rfl, Fd, L, 4, rfl, hF5, by decide, by decide, fun sz H6 z0 z1 k6 hF6 => ⟨_, _, rfl, ?_⟩⟩⟩
      try dsimp only
      have k46 := k5.trans k6
      have kt6 := k46.tup hF4
      have hR6 := hR4.keep kt6
      have hlb6 : TxtAt H6 lb nm := kt6 _ _ hlb4
      have hT6 := tabs_keepF hT4 hF4 k46
      clear hR4 hF4 hT4 hF5 k5 k6 k46 kt6 hlb4
      -- the costs
      refine iSeq ⟨.int b, rfl, by show 3 ≤ sizeLine; omega, fun t ht => ⟨t, rfl, ⟨_, sqT upd_same⟩, ?_⟩⟩
      have s7 := same_new (o := .tup [.int 0, .int b, .int 9]) ht
      have ht7 := upd_same (H := H6) (a := t) (o := .tup [.int 0, .int b, .int 9])
      generalize upd H6 t (.tup [.int 0, .int b, .int 9]) = H7 at s7 ht7 ⊢
      refine for_tup (xs := [.int 0, .int b, .int 9]) (fun j σ' H' => (∃ x9 x10, σ' = [some (.ref a0), some (.ref Fd), some (.int (0 + (i : Int))), some (.ref a), some (.ref lb), some (.str (cmsD rs).shown), x6, some (.int b), some (.int sz), x9, x10, x11, x12, x13, x14, x15]) ∧ Same H6 H' ∧ Same H7 H') ⟨⟨_, _, rfl⟩, s7, fun _ _ e => e⟩ (fun j σ' H' _ h => sqT (h.2.2 _ _ ht7)) (fun j x σ' H' hx h => ?_) (fun σ' H8 h => ?_)
      · obtain ⟨⟨x9, x10, rfl⟩, sm, sm7⟩ := h
        obtain ⟨T, rfl, T0, T9⟩ : ∃ T : Int, x = .int T ∧ 0 ≤ T ∧ T ≤ 9 := by
          match j, hx with
          | 0, hx => exact ⟨0, (Option.some.inj hx).symm, by decide, by decide⟩
          | 1, hx => exact ⟨b, (Option.some.inj hx).symm, b0, by omega⟩
          | 2, hx => exact ⟨9, (Option.some.inj hx).symm, by decide, by decide⟩
        refine iName ?_
        dsimp only
        have hR' := hR6.keep (KeepT.of sm)
        have small := cst_small cg T
        refine iSeq (iAsg ⟨.ref a, rfl, .int T, rfl, a, rs, T, rfl, hR', cr, nz, T0, by omega, fun H8 s8 => ⟨_, rfl, small, iName ?_⟩⟩)
        dsimp only
        have hR8 := hR'.keep (KeepT.of s8)
        refine iIfS (iOr ⟨.ref a, rfl, .int T, rfl, a, rs, T, rfl, hR8, cr, T0, T9, fun H9 s9 => ⟨_, rfl, small, .str (PyData.int (cst rs T : Int)).shown, rfl, rfl, _, rfl, ?_⟩⟩)
        rw [decide_eq_true rfl]
        refine iteF ?_
        refine ⟨.int T, rfl, .ref a, rfl, rfl, rfl, a, rs, T, rfl, hR8.keep (KeepT.of s9), cr, T0, T9, fun H10 s10 => ⟨_, rfl, small, .str (PyData.int (cst rs T : Int)).shown, rfl, rfl, _, rfl, ?_⟩⟩
        rw [decide_eq_true rfl]
        have s810 := (s8.trans s9).trans s10
        exact iteF (iNext ⟨⟨_, _, rfl⟩, sm.trans s810, sm7.trans s810⟩)
      obtain ⟨⟨x9, x10, rfl⟩, s8, _⟩ := h
      try dsimp only
      clear ht7 s7 ht
      have hR8 := hR6.keep (KeepT.of s8)
      have hlb8 : TxtAt H8 lb nm := s8 _ _ hlb6
      have hF8 := hF6.same s8
      have hT8 := hT6.ext s8
      clear hR6 hlb6 hF6 hT6 s8
      -- the sums of costs
      refine iSeq ⟨.int b, rfl, .int sz, rfl, b, sz, rfl, rfl, 9, _, rfl, .int b, rfl, .int b, rfl, b, 1, rfl, rfl, 0, _, rfl, by show 3 ≤ sizeLine; omega, fun t ht => ⟨t, rfl, ⟨_, sqT upd_same⟩, ?_⟩⟩
      obtain ⟨e1, ee1⟩ : ∃ e1 : Int, e1 = if b + sz < 9 then b + sz else 9 := ⟨_, rfl⟩
      obtain ⟨e3, ee3⟩ : ∃ e3 : Int, e3 = if b - 1 > 0 then b - 1 else 0 := ⟨_, rfl⟩
      rw [← ee1, ← ee3]
      have e1b : 0 ≤ e1 ∧ e1 ≤ 9 := by
        rw [ee1]
        split <;> omega
      have e3b : 0 ≤ e3 ∧ e3 ≤ 9 := by
        rw [ee3]
        split <;> omega
      have s9 := same_new (o := .tup [.int e1, .int b, .int e3]) ht
      have ht9 := upd_same (H := H8) (a := t) (o := .tup [.int e1, .int b, .int e3])
      generalize upd H8 t (.tup [.int e1, .int b, .int e3]) = H9 at s9 ht9 ⊢
      refine for_tup (xs := [.int e1, .int b, .int e3]) (fun j σ' H' => (∃ x10 x11 x12, σ' = [some (.ref a0), some (.ref Fd), some (.int (0 + (i : Int))), some (.ref a), some (.ref lb), some (.str (cmsD rs).shown), x6, some (.int b), some (.int sz), x9, x10, x11, x12, x13, x14, x15]) ∧ Same H8 H' ∧ Same H9 H') ⟨⟨_, _, _, rfl⟩, s9, fun _ _ e => e⟩ (fun j σ' H' _ h => sqT (h.2.2 _ _ ht9)) (fun j x σ' H' hx h => ?_) (fun σ' H10 h => ?_)
      · obtain ⟨⟨x10, x11, x12, rfl⟩, sm, sm9⟩ := h
        obtain ⟨e, rfl, E0, E9⟩ : ∃ e : Int, x = .int e ∧ 0 ≤ e ∧ e ≤ 9 := by
          match j, hx with
          | 0, hx => exact ⟨e1, (Option.some.inj hx).symm, e1b.1, e1b.2⟩
          | 1, hx => exact ⟨b, (Option.some.inj hx).symm, b0, by omega⟩
          | 2, hx => exact ⟨e3, (Option.some.inj hx).symm, e3b.1, e3b.2⟩
        refine iName ?_
        dsimp only
        have hR' := hR8.keep (KeepT.of sm)
        obtain ⟨v, ev⟩ : ∃ v, v = sumC rs b (e - b + 1).toNat := ⟨_, rfl⟩
        have small : v.natAbs < 10 ^ 12 := by
          have b1' := sumC_b cr b (e - b + 1).toNat
          rw [← ev] at b1'
          have : ((e - b + 1).toNat : Int) ≤ 10 := by omega
          omega
        refine iSeq (iAsg ⟨.ref a, rfl, .int b, rfl, .int e, rfl, a, rs, b, e, rfl, hR', cr, nz, b0, by omega, by omega, by omega, fun H10 s10 => ?_⟩)
        rw [← ev]
        refine ⟨_, rfl, small, iName ?_⟩
        dsimp only
        have hR10 := hR'.keep (KeepT.of s10)
        refine iSeq (iAsg ⟨.ref a, rfl, .int b, rfl, .int e, rfl, a, rs, b, e, rfl, hR10, cr, b0, by omega, by omega, E9, by omega, fun H11 s11 => ?_⟩)
        rw [← ev]
        try dsimp only
        refine ⟨.int e, rfl, .int b, rfl, .ref a, rfl, rfl, rfl, a, rs, b, e, rfl, hR10.keep (KeepT.of s11), cr, b0, by omega, by omega, E9, by omega, fun H12 s12 => ?_⟩
        rw [← ev]
        refine ⟨by show 2 ≤ sizeLine; omega, fun tl htl => iName ?_⟩
        try dsimp only
        have s13 := same_new (o := .lst [.int v, .int v]) htl
        have htl' := upd_same (H := H12) (a := tl) (o := .lst [.int v, .int v])
        have sAll := ((s10.trans s11).trans s12).trans s13
        generalize upd H12 tl (.lst [.int v, .int v]) = H13 at s13 htl' sAll ⊢
        refine iIfS ⟨.ref tl, rfl, tl, rfl, ⟨_, sqL htl'⟩, fun D2 hD2 => ?_⟩
        refine loop_lst (K := K) (a := tl) (xs := [.int v, .int v]) (fun m H' => Same H13 H' ∧ H' D2 = some (.lst (([(PyData.int v).shown, (PyData.int v).shown].take m).map V.str))) ⟨same_new hD2, by rw [List.take_zero]; exact upd_same⟩ (fun m H' h => sqL (h.1 _ _ htl')) (fun m u H' hu h => ?_) (fun H14 h => ?_)
        · obtain ⟨sm2, hD3⟩ := h
          obtain ⟨rfl, m2, em⟩ : u = .int v ∧ m < 2 ∧ [(PyData.int v).shown, (PyData.int v).shown][m]? = some (PyData.int v).shown := by
            match m, hu with
            | 0, hu => exact ⟨(Option.some.inj hu).symm, by decide, rfl⟩
            | 1, hu => exact ⟨(Option.some.inj hu).symm, by decide, rfl⟩
          refine ⟨wipe1, iYes (iteT ⟨.int v, rfl, v, rfl, small, _, hD3, by rw [List.length_map, List.length_take]; show min m 2 < sizeLine; omega, fun b' o e' => ?_, ?_⟩)⟩
          · rw [upd_ne (ne_of_none e' hD2)]
            exact sm2 _ _ e'
          · rw [upd_same, List.take_add_one, em, List.map_append]
            rfl
        · obtain ⟨sm2, hD3⟩ := h
          have hD3 : H14 D2 = some (.lst ([(PyData.int v).shown, (PyData.int v).shown].map V.str)) := hD3
          refine ⟨.str (PyData.int v).shown, rfl, .str (PyData.int v).shown, rfl, by show 2 ≤ sizeLine; omega, fun p hp => ?_⟩
          have s15 := same_new (o := .lst [.str (PyData.int v).shown, .str (PyData.int v).shown]) hp
          refine ⟨D2, p, [(PyData.int v).shown, (PyData.int v).shown], rfl, rfl, sqL (s15 _ _ hD3), sqL upd_same, _, rfl, ?_⟩
          have s1015 := (sAll.trans sm2).trans s15
          exact iteF (iNext ⟨⟨_, _, _, rfl⟩, sm.trans s1015, sm9.trans s1015⟩)
      obtain ⟨⟨x10, x11, x12, rfl⟩, s10, _⟩ := h
      try dsimp only
      clear ht9 s9 ht
      have hR10 := hR8.keep (KeepT.of s10)
      have hlb10 : TxtAt H10 lb nm := s10 _ _ hlb8
      have hF10 := hF8.same s10
      have hT10 := hT8.ext s10
      clear hR8 hlb8 hF8 hT8 s10
      have nlab : ∀ z ∈ nm, z ∈ labs := fun z hz => by
        rw [enm] at hz
        obtain ⟨y, hy, rfl⟩ := List.mem_map.mp hz
        exact cg.lab hy
      -- the queue
      refine iSeq (iAsg ⟨.ref Fd, rfl, .ref lb, rfl, Fd, L, lb, nm, rfl, hF10, hlb10, by omega, fun z hz => labs_ok z (nlab z hz), fun H11 qp ys k11 hF11 hq11 perm => iName ?_⟩)
      dsimp only
      have kt11 := k11.tup hF10
      have hR11 := hR10.keep kt11
      have hlb11 : TxtAt H11 lb nm := kt11 _ _ hlb10
      have hT11 := tabs_keepF hT10 hF10 k11
      clear hR10 hlb10 hF10 hT10 kt11 k11
      have yl : ys.length = rs.length := by rw [perm.length_eq, nl]
      have yn : ∀ z ∈ ys, z ∈ rs.map (·.1) := fun z hz => by
        rw [← enm]
        exact perm.mem_iff.mp hz
      refine iSeq ⟨.ref qp, rfl, .ref qp, rfl, _, rfl, slN_by hq11 fun H12 p12 s12 hp12 => ?_⟩
      rw [show ((1 : Int)) = ((1 : Nat) : Int) from rfl, cut_drop, ← List.map_drop] at hp12
      refine ⟨Nat.zero_le _, fun e0 he0 => ⟨by show 3 ≤ sizeLine; omega, fun t ht => ⟨t, rfl, ⟨_, sqT upd_same⟩, ?_⟩⟩⟩
      have s13 := same_new (o := .tup []) he0
      have s14 := same_new (o := .tup [.ref qp, .ref p12, .ref e0]) ht
      have ht14 := upd_same (H := upd H12 e0 (.tup [])) (a := t) (o := .tup [.ref qp, .ref p12, .ref e0])
      have hq14 : TxtAt _ qp ys := (s12.trans (s13.trans s14)) _ _ hq11
      have hp14 : TxtAt _ p12 (ys.drop 1) := (s13.trans s14) _ _ hp12
      have he14 : TxtAt _ e0 [] := s14 _ _ (upd_same (H := H12) (a := e0) (o := .tup []))
      have s1114 := s12.trans (s13.trans s14)
      generalize upd (upd H12 e0 (.tup [])) t (.tup [.ref qp, .ref p12, .ref e0]) = H14 at ht14 hq14 hp14 he14 s1114 ⊢
      refine for_tup (xs := [.ref qp, .ref p12, .ref e0]) (fun j σ' H' => (∃ x10 x15, σ' = [some (.ref a0), some (.ref Fd), some (.int (0 + (i : Int))), some (.ref a), some (.ref lb), some (.str (cmsD rs).shown), x6, some (.int b), some (.int sz), x9, x10, x11, x12, x13, some (.ref qp), x15]) ∧ Same H11 H' ∧ Same H14 H') ⟨⟨_, _, rfl⟩, s1114, fun _ _ e => e⟩ (fun j σ' H' _ h => sqT (h.2.2 _ _ ht14)) (fun j x σ' H' hx h => ?_) (fun σ' H15 h => ?_)
      · obtain ⟨⟨x10, x15, rfl⟩, sm, sm14⟩ := h
        obtain ⟨p, zs, rfl, hp, zn, zl⟩ : ∃ (p : Addr) (zs : List Str), x = .ref p ∧ TxtAt H14 p zs ∧ (∀ z ∈ zs, z ∈ rs.map (·.1)) ∧ zs.length ≤ 4 := by
          match j, hx with
          | 0, hx => exact ⟨qp, ys, (Option.some.inj hx).symm, hq14, yn, by omega⟩
          | 1, hx => exact ⟨p12, ys.drop 1, (Option.some.inj hx).symm, hp14, fun z hz => yn z (List.mem_of_mem_drop hz), by rw [List.length_drop]; omega⟩
          | 2, hx => exact ⟨e0, [], (Option.some.inj hx).symm, he14, fun z hz => absurd hz (by simp), Nat.zero_le _⟩
        refine iName ?_
        dsimp only
        have hR' := hR11.keep (KeepT.of sm)
        have hp' : TxtAt H' p zs := sm14 _ _ hp
        have f := fine_inc cg (zs := zs) (by omega) b
        have fl : (incD rs zs b).shown.length ≤ sizeLine := by
          rw [sizeLine_eq]
          exact Nat.le_trans f.len (by decide)
        have fd : (incD rs zs b).depth ≤ 60 := Nat.le_trans f.dep (by decide)
        refine iSeq (iAsg ⟨.ref a, rfl, .ref p, rfl, .int b, rfl, a, p, rs, zs, b, rfl, hR', cr, nz, hp', by omega, b0, by omega, fun H16 q16 s16 hq16 => ⟨q16, incD rs zs b, rfl, .tup (sqT hq16) (dp_ints _), f.shw, f.nod, fd, fl, iName ?_⟩⟩)
        dsimp only
        have hR16 := hR'.keep (KeepT.of s16)
        have hp16 : TxtAt H16 p zs := s16 _ _ hp'
        refine iSeq (iIfS ⟨.ref a, rfl, .ref p, rfl, .int b, rfl, a, p, rs, b, zs, rfl, hR16, cr, by omega, b0, by omega, hp16, by omega, zn, fun H17 q17 s17 hq17 => ⟨q17, incD rs zs b, rfl, .tup (sqT hq17) (dp_ints _), f.shw, f.nod, fd, fl, .str (incD rs zs b).shown, rfl, rfl, _, rfl, ?_⟩⟩)
        rw [decide_eq_true rfl]
        refine iteF (iNext ?_)
        try dsimp only
        refine iIfS ⟨.int b, rfl, .ref p, rfl, .ref a, rfl, rfl, rfl, a, p, rs, b, zs, rfl, hR16.keep (KeepT.of s17), cr, by omega, b0, by omega, s17 _ _ hp16, by omega, zn, fun H18 q18 s18 hq18 => ⟨q18, incD rs zs b, rfl, .tup (sqT hq18) (dp_ints _), f.shw, f.nod, fd, fl, .str (incD rs zs b).shown, rfl, rfl, _, rfl, ?_⟩⟩
        rw [decide_eq_true rfl]
        have s1618 := (s16.trans s17).trans s18
        exact iteF (iNext ⟨⟨_, _, rfl⟩, sm.trans s1618, sm14.trans s1618⟩)
      obtain ⟨⟨x10, x15, rfl⟩, s15, _⟩ := h
      try dsimp only
      clear ht14 hq14 hp14 he14 s1114 s14 s13 ht he0 hp12 s12 hq11
      have hR15 := hR11.keep (KeepT.of s15)
      have hlb15 : TxtAt H15 lb nm := s15 _ _ hlb11
      have hF15 := hF11.same s15
      have hT15 := hT11.ext s15
      clear hR11 hlb11 hF11 hT11 s15
      -- the price
      refine iSeq ?_
      refine split_s (fun σ' H' => σ' = [some (.ref a0), some (.ref Fd), some (.int (0 + (i : Int))), some (.ref a), some (.ref lb), some (.str (cmsD rs).shown), x6, some (.int b), some (.int sz), x9, x10, x11, x12, x13, some (.ref qp), x15] ∧ KeepF Fd H15 H' ∧ FeedAt H' Fd L) (fun nx hnx => ?_) (fun σ' H16 hx => ?_)
      · refine iIfS ⟨.ref a, rfl, Nat.zero_le _, fun e he => ?_⟩
        have s16 := same_new (o := .tup []) he
        refine ⟨cmsD rs, .tuple [], dp_cms (hR15.keep (KeepT.of s16)), .tup (sqT upd_same) .nil, cg.shaped, shaped_tnil, _, rfl, ?_⟩
        rw [eqv_cms]
        by_cases re : rs = []
        · rw [decide_eq_false fun z => z re]
          exact iteF (iteF (iNext (hnx _ _ ⟨rfl, KeepF.of s16, hF15.same s16⟩)))
        · rw [decide_eq_true re]
          refine iteT ⟨.ref Fd, rfl, .ref a, rfl, Fd, L, a, rs, rfl, hF15.same s16, hR15.keep (KeepT.of s16), cg, re, fun H17 k17 hF17 => ⟨true, rfl, ?_⟩⟩
          exact iteF (iNext (hnx _ _ ⟨rfl, (KeepF.of s16).trans k17, hF17⟩))
      obtain ⟨rfl, k16, hF16⟩ := hx
      try dsimp only
      have kt16 := k16.tup hF15
      have hR16 := hR15.keep kt16
      have hlb16 : TxtAt H16 lb nm := kt16 _ _ hlb15
      have hT16 := tabs_keepF hT15 hF15 k16
      have nzzz : ("zzz" : Str) ∉ rs.map (·.1) := fun h => by
        rw [← enm] at h
        exact absurd (nlab _ h) (by unfold labs; decide +kernel)
      -- unknown names
      refine iIfS (iOr ⟨.ref a, rfl, .ref lb, rfl, a, lb, rs, nm, rfl, hR16, cr, by omega, hlb16, fun z hz => enm ▸ hz, nzzz, hT16, fun H17 e17 T17 => ⟨true, rfl, ?_⟩⟩)
      refine iteF ⟨.ref a, rfl, a, _, rfl, dp_cms (hR16.keep (keepT_ext e17)), fc.shw, fc.nod, fcd, fcl, .str (cmsD rs).shown, rfl, rfl, _, rfl, ?_⟩
      rw [decide_eq_true rfl]
      exact iteF (iNext ⟨⟨_, _, _, _, _, _, _, _, _, _, _, _, _, _, rfl⟩, feed_ext hF16 e17, T17⟩)
    · obtain ⟨⟨x2, x3, x4, x5, x6, x7, x8, x9, x10, x11, x12, x13, x14, x15, rfl⟩, _, _⟩ := h
      try dsimp only
      exact iRet (q _)
end
end P37
/-! The end of a law's row, by a promise of its def that holds where nothing is being shown. -/
namespace AskG
open PySem PySem.Spec PyProof.Rows L2
/-- from an abstract heap that tracks at most the script -/
theorem lawG_core {P : Program} {w : World} {K : PySem.W.Frag} {mg mb : Str → Option Value} {k : Nat} {fa a : Addr} {fd : FuncData} {x : Str} {pr : Pr}
    {s₁ : Shared} {vs : List Value} {H : Hp}
    (inK : K.In s₁.heap) (ns1 : s₁.heap.Ns mainGlobals mg) (ns2 : s₁.heap.Ns builtinsNs mb)
    (bb : ∀ x : Str, x ≠ "__name__" → mb x = bootBuiltins x) (lim : s₁.heap.NoLimit) (gn : s₁.gens = #[])
    (ha : s₁.heap.get? a = some { cls := .type "list", data := .seq vs.toArray }) (hr : RG k callerA)
    (F : ∀ base : Heap, K.In base → base.Ns mainGlobals mg → FnG P w K mg base k fa fd [x] pr)
    (bind : ∀ (s : Shared) (u : Value), BindsTo s fd ⟨[u], []⟩ [(x, u)])
    (only : Only H) (hok : HOk P w H s₁.heap) (at_a : ∀ b, H b ≠ none → b = a) (noK : H a ≠ none → K.lookup a = none)
    (hp : pr [.ref a] H fun v _ => v = .bl true) :
    codeAny (model P w) callerA (.call (.ref fa) ⟨[.ref a], []⟩)
      (fun r s' => r = .ok (.ret (.bool true)) ∧ OldK s₁.heap s'.heap ∧ s'.os = s₁.os ∧ AllBare s'.gens) s₁ := by
  have hid : ∀ {b : Addr} {o : Obj}, s₁.heap.get? b = some o → H b = none → (hidT s₁.heap H).get? b = some o :=
    fun e n => hidT_get e n
  have notA : ∀ {b : Addr} {o : Obj} {es : Array DictEntry} {ep : Nat}, s₁.heap.get? b = some o → o.data = .dict es ep → H b = none := by
    intro b o es ep e d
    cases q : H b with
    | none => rfl
    | some u =>
      have eb : b = a := at_a b (by rw [q]; simp)
      rw [eb, ha] at e
      cases e
      cases (show Data.seq vs.toArray _ = Data.dict es ep from d)
  have nsH : ∀ {b : Addr} {m : Str → Option Value}, s₁.heap.Ns b m → (hidT s₁.heap H).Ns b m := by
    rintro b m ⟨o, es, ep, e, d, r⟩
    exact ⟨o, es, ep, hid e (notA e d), d, r⟩
  have inH : K.In (hidT s₁.heap H) := by
    intro b o e
    refine hid (inK b o e) ?_
    cases q : H b with
    | none => rfl
    | some u =>
      have eb : b = a := at_a b (by rw [q]; simp)
      rw [eb, noK (by rw [← eb, q]; simp)] at e
      cases e
  have M : Mod K mg (hidT s₁.heap H) :=
    ⟨inH, nsH ns1, ⟨mb, nsH ns2, bb⟩, lim.elim fun mc h => ⟨mc, nsH h.1, h.2⟩⟩
  have e0 : Env0 P w K mg (hidT s₁.heap H) callerA [] s₁ H :=
    ⟨rfl, M, fun b o e => of_hidT e, Nat.le_of_eq (hidT_size _ _), trivial,
      fun b hb => absurd (show b ∈ ([] : List Addr) from hb) (by simp), hok, .of_eq gn⟩
  refine codeAny_mono ((F _ inH (nsH ns1)).goes callerA [] s₁ H ⟨[.ref a], []⟩ [.ref a] [.ref a] _ hr e0
    (bind s₁ (.ref a)) (.cons rfl .nil) hp) fun r s' h => ?_
  match r, h with
  | .error e, h => exact h.elim
  | .ok .next, h => exact h.elim
  | .ok .brk, h => exact h.elim
  | .ok .cont, h => exact h.elim
  | .ok (.ret u), h =>
    obtain ⟨v, H', os, bare, un, hok', r', q⟩ := h
    have q : v = .bl true := q
    subst q
    obtain rfl : u = Value.bool true := r'
    refine ⟨rfl, OldK.of_keep fun b o e => ?_, os, bare⟩
    cases hb : H b with
    | none =>
      exact un.keep b o e hb (fun z => absurd (show b ∈ ([] : List Addr) from z) (by simp)) (by simp)
    | some u =>
      rcases only b with z | ⟨ob, xs, z⟩
      · rw [hb] at z
        cases z
      · obtain ⟨e1, _⟩ := hok b _ z
        obtain ⟨e2, _⟩ := hok' b _ (un.frzs b ob _ z)
        rw [e] at e1
        cases e1
        exact e2
theorem lawG {P : Program} {w : World} {K : PySem.W.Frag} {mg mb : Str → Option Value} {k : Nat} {fa a : Addr} {fd : FuncData} {x : Str} {pr : Pr}
    {s₁ : Shared} {vs : List Value} {ns : List Int}
    (inK : K.In s₁.heap) (ns1 : s₁.heap.Ns mainGlobals mg) (ns2 : s₁.heap.Ns builtinsNs mb)
    (bb : ∀ x : Str, x ≠ "__name__" → mb x = bootBuiltins x) (lim : s₁.heap.NoLimit) (gn : s₁.gens = #[])
    (ha : s₁.heap.get? a = some { cls := .type "list", data := .seq vs.toArray }) (hi : IntsAre vs ns) (hl : ns.length ≤ sizeLine) (hr : RG k callerA)
    (F : ∀ base : Heap, K.In base → base.Ns mainGlobals mg → FnG P w K mg base k fa fd [x] pr)
    (bind : ∀ (s : Shared) (u : Value), BindsTo s fd ⟨[u], []⟩ [(x, u)])
    (hp : ∀ H : Hp, Only H → SqL K H a (ns.map V.int) → pr [.ref a] H fun v _ => v = .bl true) :
    codeAny (model P w) callerA (.call (.ref fa) ⟨[.ref a], []⟩)
      (fun r s' => r = .ok (.ret (.bool true)) ∧ OldK s₁.heap s'.heap ∧ s'.os = s₁.os ∧ AllBare s'.gens) s₁ := by
  have rv := vals_ints hi
  cases hk : K.lookup a with
  | some o =>
    have e := inK a o hk
    rw [ha] at e
    cases e
    refine lawG_core (H := fun _ => none) inK ns1 ns2 bb lim gn ha hr F bind (fun _ => .inl rfl)
      (fun b u z => nomatch (show (none : Option HO) = some u from z)) (fun b z => absurd rfl z) (fun z => absurd rfl z) ?_
    refine hp _ (fun _ => .inl rfl) (.inr ⟨_, vs.toArray, _, hk, rfl, rfl, rfl, ?_, by simpa using rv⟩)
    rw [List.size_toArray, hi.length]
    exact hl
  | none =>
    have at1 : (fun b => if b = a then some (HO.frz { cls := .type "list", data := .seq vs.toArray } (.lst (ns.map V.int))) else none : Hp) a =
        some (.frz { cls := .type "list", data := .seq vs.toArray } (.lst (ns.map V.int))) := if_pos rfl
    have else1 : ∀ b, b ≠ a → (fun b => if b = a then some (HO.frz { cls := .type "list", data := .seq vs.toArray } (.lst (ns.map V.int))) else none : Hp) b = none :=
      fun b h => if_neg h
    generalize (fun b => if b = a then some (HO.frz { cls := .type "list", data := .seq vs.toArray } (.lst (ns.map V.int))) else none : Hp) = H at at1 else1
    have only : Only H := fun b => by
      by_cases h : b = a
      · rw [h]
        exact .inr ⟨_, _, at1⟩
      · exact .inl (else1 b h)
    refine lawG_core (H := H) inK ns1 ns2 bb lim gn ha hr F bind only (fun b u z => ?_) (fun b z => ?_) (fun _ => hk) (hp H only (.inl (.inr ⟨_, at1⟩)))
    · by_cases h : b = a
      · subst h
        rw [at1] at z
        cases z
        exact ⟨ha, by rw [List.length_map]; exact hl, vs, _, rv, ha⟩
      · rw [else1 b h] at z
        cases z
    · by_cases h : b = a
      · exact h
      · exact absurd (else1 b h) z
/-- the goal behind the head -/
theorem walkG {l : PySem.W.OpenLaw} {n k : Nat} {q : Program} {loose : List Str} {XP : (Str → Option Value) → Heap → Prop} {YP : World → Heap → Prop} {d : DefRec}
    {K : Params → PySem.W.Frag} {pr : PySem.W.Frag → Pr} {x : Str}
    (hn : l.most = some n) (hn2 : n ≤ sizeLine) (hdf : d.params.defaults = []) (hr : RG k callerA)
    (hY : ∀ (w : World) (h : Heap), YP w h → (K w.params).In h)
    (F : ∀ (w : World) (mg : Str → Option Value) (fa : Addr) (h : Heap), (K w.params).In h → h.Ns mainGlobals mg → mg d.name = some (.ref fa) →
      ∃ fd : FuncData, (∀ (s : Shared) (u : Value), BindsTo s fd ⟨[u], []⟩ [(x, u)]) ∧
        ∀ base : Heap, (K w.params).In base → base.Ns mainGlobals mg → FnG l.prog w (K w.params) mg base k fa fd [x] (pr (K w.params)))
    (hp : ∀ (K : PySem.W.Frag) (H : Hp) (a : Addr) (ns : List Int), ns.length ≤ n → SqL K H a (ns.map V.int) → pr K [.ref a] H fun v _ => v = .bl true) :
    PySem.W.WalkO q loose XP YP l.row.toRowW d [] (fun f vs => PySem.call f vs) := by
  refine Att.attach_call hn hdf ?_
  intro w s₀ s₁ mg mb fa o pm cd doc a vs ns G Y ho hd hcd hmg hobj hints hlen hg
  have inK := hY w _ Y
  obtain ⟨fd, hb, hF⟩ := F w mg fa _ inK G.T.g hmg
  exact lawG inK G.T.g G.T.b G.T.builtins G.T.nolimit hg hobj hints (Nat.le_trans hlen hn2) hr hF hb fun H _ hS => hp _ H a ns hlen hS
end AskG
/-! AskZt: the end of a law's row whose def makes lambdas, by a promise that holds where nothing is being shown. -/
namespace AskG
open PySem PySem.Spec PyProof.Rows L2
/-- the tables of these code objects are empty and no part of K -/
structure Tables (K : PySem.W.Frag) (h : Heap) (cs : List (Addr × Addr)) : Prop where
  none : ∀ p ∈ cs, h.get? p.2 = some { cls := .none, data := .fields #[] }
  out : ∀ p ∈ cs, K.lookup p.2 = Option.none
  hd : ∀ p ∈ cs, PySem.W.CodeHd h p.1 p.2
/-- the module of the builtins -/
def BMain (mg : Str → Option Value) (h : Heap) : Prop := ∃ (bm : Addr) (ob : Obj), mg "__builtins__" = some (.ref bm) ∧ bm ≠ builtinsNs ∧ h.get? bm = some ob ∧ ob.cls = .type "module" ∧ ob.dict = some builtinsNs ∧ ob.data = .plain
section
variable {P : Program} {w : World} {K : PySem.W.Frag} {mg mb : Str → Option Value} {k : Nat} {fa a : Addr} {fd : FuncData} {x : Str} {pr : Pr} {s₁ : Shared} {vs : List Value} {H : Hp} {cs : List (Addr × Addr)}
theorem Tables.mem (T : Tables K s₁.heap cs) {b : Addr} (h : b ∈ cs.map (·.2)) : s₁.heap.get? b = some { cls := .none, data := .fields #[] } ∧ K.lookup b = Option.none := by
  obtain ⟨p, hp, rfl⟩ := List.mem_map.mp h
  exact ⟨T.none p hp, T.out p hp⟩
theorem lawT_core (inK : K.In s₁.heap) (ns1 : s₁.heap.Ns mainGlobals mg) (ns2 : s₁.heap.Ns builtinsNs mb)
    (bb : ∀ x : Str, x ≠ "__name__" → mb x = bootBuiltins x) (lim : s₁.heap.NoLimit) (gn : s₁.gens = #[])
    (T : Tables K s₁.heap cs) (bmn : BMain mg s₁.heap)
    (ha : s₁.heap.get? a = some { cls := .type "list", data := .seq vs.toArray }) (hr : RG k callerA)
    (F : ∀ base : Heap, K.In base → base.Ns mainGlobals mg → (∀ p ∈ cs, LamX.TabB base mg p.1 p.2) → FnG P w K mg base k fa fd [x] pr)
    (bind : ∀ (s : Shared) (u : Value), BindsTo s fd ⟨[u], []⟩ [(x, u)])
    (only : ∀ b, b ∈ cs.map (·.2) ∨ H b = none ∨ ∃ o xs, H b = some (.frz o (.lst xs))) (hok : HOk P w H s₁.heap) (at_a : ∀ b, H b ≠ none → b ∈ cs.map (·.2) ∨ b = a)
    (noK : H a ≠ none → K.lookup a = none) (tb : ∀ p ∈ cs, H p.2 = some (.tbl #[])) (hp : pr [.ref a] H fun v _ => v = .bl true) :
    codeAny (model P w) callerA (.call (.ref fa) ⟨[.ref a], []⟩)
      (fun r s' => r = .ok (.ret (.bool true)) ∧ OldK s₁.heap s'.heap ∧ s'.os = s₁.os ∧ AllBare s'.gens) s₁ := by
  -- what is neither a sequence nor a table is not tracked
  have notT : ∀ {b : Addr} {o : Obj}, s₁.heap.get? b = some o → (∀ xs n, o.data ≠ .seq xs n) → o.data ≠ .fields #[] → H b = none := by
    intro b o e n1 n2
    cases q : H b with
    | none => rfl
    | some u =>
      rcases at_a b (by rw [q]; simp) with z | rfl
      · rw [(T.mem z).1] at e
        cases e
        exact absurd rfl n2
      · rw [ha] at e
        cases e
        exact absurd rfl (n1 _ _)
  have nsH : ∀ {b : Addr} {m : Str → Option Value}, s₁.heap.Ns b m → (hidT s₁.heap H).Ns b m := by
    rintro b m ⟨o, es, ep, e, d, r⟩
    exact ⟨o, es, ep, hidT_get e (notT e (by rw [d]; intro _ _ z; cases z) (by rw [d]; intro z; cases z)), d, r⟩
  have inH : K.In (hidT s₁.heap H) := by
    intro b o e
    refine hidT_get (inK b o e) ?_
    cases q : H b with
    | none => rfl
    | some u =>
      rcases at_a b (by rw [q]; simp) with z | rfl
      · rw [(T.mem z).2] at e
        cases e
      · rw [noK (by rw [q]; simp)] at e
        cases e
  have TB : ∀ p ∈ cs, LamX.TabB (hidT s₁.heap H) mg p.1 p.2 := by
    intro p hp
    obtain ⟨go, ges, gep, ge, gd, _⟩ := ns1
    have np := T.none p hp
    constructor
    · obtain ⟨o, us, f, tf, fl, tg, i, n, tt, e1, r1, r2, r3⟩ := T.hd p hp
      refine ⟨o, us, f, tf, fl, tg, i, n, tt, hidT_get e1 (notT e1 ?_ ?_), r1, r2, r3⟩
      · rw [r2]
        intro _ _ z
        cases z
      · rw [r2]
        intro z
        cases z
        exact absurd r3.1 (by simp)
    · obtain ⟨bm, ob, b1, b2, b3, b4, b5, b6⟩ := bmn
      refine ⟨bm, ob, b1, b2, ?_, ?_, hidT_get b3 (notT b3 ?_ ?_), b4, b5, b6⟩
      · rintro rfl
        rw [ge] at b3
        cases b3
        rw [gd] at b6
        cases b6
      · rintro rfl
        rw [np] at b3
        cases b3
        cases b6
      · rw [b6]
        intro _ _ z
        cases z
      · rw [b6]
        intro z
        cases z
    · intro z
      rw [z, np] at ge
      cases ge
      cases gd
  have M : Mod K mg (hidT s₁.heap H) :=
    ⟨inH, nsH ns1, ⟨mb, nsH ns2, bb⟩, lim.elim fun mc h => ⟨mc, nsH h.1, h.2⟩⟩
  have e0 : Env0 P w K mg (hidT s₁.heap H) callerA [] s₁ H :=
    ⟨rfl, M, fun b o e => of_hidT e, Nat.le_of_eq (hidT_size _ _), trivial,
      fun b hb => absurd (show b ∈ ([] : List Addr) from hb) (by simp), hok, .of_eq gn⟩
  refine codeAny_mono ((F _ inH (nsH ns1) TB).goes callerA [] s₁ H ⟨[.ref a], []⟩ [.ref a] [.ref a] _ hr e0
    (bind s₁ (.ref a)) (.cons rfl .nil) hp) fun r s' h => ?_
  match r, h with
  | .error e, h => exact h.elim
  | .ok .next, h => exact h.elim
  | .ok .brk, h => exact h.elim
  | .ok .cont, h => exact h.elim
  | .ok (.ret u), h =>
    obtain ⟨v, H', os, bare, un, hok', r', q⟩ := h
    have q : v = .bl true := q
    subst q
    obtain rfl : u = Value.bool true := r'
    have stays : ∀ b o, b ∉ cs.map (·.2) → s₁.heap.get? b = some o → s'.heap.get? b = some o := by
      intro b o nb e
      rcases only b with z | z | ⟨ob, xs, z⟩
      · exact absurd z nb
      · exact un.keep b o e z (fun z => absurd (show b ∈ ([] : List Addr) from z) (by simp)) (by simp)
      · obtain ⟨e1, _⟩ := hok b _ z
        obtain ⟨e2, _⟩ := hok' b _ (un.frzs b ob _ z)
        rw [e] at e1
        cases e1
        exact e2
    have grown : ∀ b, b ∈ cs.map (·.2) → ∃ (p : Addr × Addr) (more : Array Value), p ∈ cs ∧ b = p.2 ∧ s'.heap.get? b = some { cls := .none, data := .fields more } := by
      intro b hb
      obtain ⟨p, hp, rfl⟩ := List.mem_map.mp hb
      obtain ⟨more, z⟩ := un.tbls p.2 #[] (tb p hp)
      exact ⟨p, _, hp, rfl, hok' p.2 _ z⟩
    refine ⟨rfl, ⟨fun b o e => ?_, fun b o e => ?_⟩, os, bare⟩
    · by_cases hb : b ∈ cs.map (·.2)
      · obtain ⟨p, more, hp, rfl, z⟩ := grown b hb
        rw [T.none p hp] at e
        cases e
        refine .inr (.inl ⟨((T.hd p hp).tab (T.none p hp)).isCodeTable, rfl, #[], more, rfl, ?_⟩)
        rw [Array.empty_append]
        exact z
      · exact .inl (stays b o hb e)
    · by_cases hb : b ∈ cs.map (·.2)
      · obtain ⟨_, _, _, _, z⟩ := grown b hb
        exact ⟨_, z⟩
      · exact ⟨o, stays b o hb e⟩
theorem lawT {ns : List Int} (inK : K.In s₁.heap) (ns1 : s₁.heap.Ns mainGlobals mg) (ns2 : s₁.heap.Ns builtinsNs mb)
    (bb : ∀ x : Str, x ≠ "__name__" → mb x = bootBuiltins x) (lim : s₁.heap.NoLimit) (gn : s₁.gens = #[])
    (T : Tables K s₁.heap cs) (bmn : BMain mg s₁.heap)
    (ha : s₁.heap.get? a = some { cls := .type "list", data := .seq vs.toArray }) (hi : IntsAre vs ns) (hl : ns.length ≤ sizeLine) (hr : RG k callerA)
    (F : ∀ base : Heap, K.In base → base.Ns mainGlobals mg → (∀ p ∈ cs, LamX.TabB base mg p.1 p.2) → FnG P w K mg base k fa fd [x] pr)
    (bind : ∀ (s : Shared) (u : Value), BindsTo s fd ⟨[u], []⟩ [(x, u)])
    (hp : ∀ H : Hp, (∀ p ∈ cs, H p.2 = some (.tbl #[])) → SqL K H a (ns.map V.int) → pr [.ref a] H fun v _ => v = .bl true) :
    codeAny (model P w) callerA (.call (.ref fa) ⟨[.ref a], []⟩)
      (fun r s' => r = .ok (.ret (.bool true)) ∧ OldK s₁.heap s'.heap ∧ s'.os = s₁.os ∧ AllBare s'.gens) s₁ := by
  have rv := vals_ints hi
  have aT : a ∉ cs.map (·.2) := by
    intro z
    have e := (T.mem z).1
    rw [ha] at e
    have e2 : Data.seq vs.toArray _ = Data.fields #[] := congrArg Obj.data (Option.some.inj e)
    cases e2
  have mem : ∀ p ∈ cs, p.2 ∈ cs.map (·.2) := fun p hp => List.mem_map.mpr ⟨p, hp, rfl⟩
  obtain ⟨G, hG⟩ : ∃ G : Hp, G = fun b => if b ∈ cs.map (·.2) then some (.tbl #[]) else none := ⟨_, rfl⟩
  have G1 : ∀ b, b ∈ cs.map (·.2) → G b = some (.tbl #[]) := fun b h => by
    rw [hG]
    exact if_pos h
  have G0 : ∀ b, b ∉ cs.map (·.2) → G b = none := fun b h => by
    rw [hG]
    exact if_neg h
  have okG : ∀ b u, G b = some u → ObjOk P w G s₁.heap b u ∧ b ∈ cs.map (·.2) ∧ u = .tbl #[] := fun b u z => by
    by_cases h : b ∈ cs.map (·.2)
    · rw [G1 b h] at z
      cases z
      exact ⟨(T.mem h).1, h, rfl⟩
    · rw [G0 b h] at z
      cases z
  clear hG
  cases hk : K.lookup a with
  | some o =>
    have e := inK a o hk
    rw [ha] at e
    cases e
    refine lawT_core (H := G) inK ns1 ns2 bb lim gn T bmn ha hr F bind (fun b => ?_)
      (fun b u z => (okG b u z).1) (fun b z => ?_) (fun z => absurd (G0 a aT) z) (fun p hp => G1 _ (mem p hp)) ?_
    · by_cases h : b ∈ cs.map (·.2)
      · exact .inl h
      · exact .inr (.inl (G0 b h))
    · by_cases h : b ∈ cs.map (·.2)
      · exact .inl h
      · exact absurd (G0 b h) z
    · refine hp _ (fun p hp => G1 _ (mem p hp)) (.inr ⟨_, vs.toArray, _, hk, rfl, rfl, rfl, ?_, by simpa using rv⟩)
      rw [List.size_toArray, hi.length]
      exact hl
  | none =>
    obtain ⟨H, hH⟩ : ∃ H : Hp, H = upd G a (.frz { cls := .type "list", data := .seq vs.toArray } (.lst (ns.map V.int))) := ⟨_, rfl⟩
    have at1 : H a = some (.frz { cls := .type "list", data := .seq vs.toArray } (.lst (ns.map V.int))) := by
      rw [hH]
      exact upd_same
    have else1 : ∀ b, b ≠ a → H b = G b := fun b h => by
      rw [hH]
      exact upd_ne h
    have tab1 : ∀ b, b ∈ cs.map (·.2) → H b = some (.tbl #[]) := fun b h => by
      rw [else1 b (fun z => aT (z ▸ h))]
      exact G1 b h
    clear hH
    refine lawT_core (H := H) inK ns1 ns2 bb lim gn T bmn ha hr F bind (fun b => ?_) (fun b u z => ?_) (fun b z => ?_) (fun _ => hk) (fun p hp => tab1 _ (mem p hp)) (hp H (fun p hp => tab1 _ (mem p hp)) (.inl (.inr ⟨_, at1⟩)))
    · by_cases h : b ∈ cs.map (·.2)
      · exact .inl h
      · by_cases e : b = a
        · subst e
          exact .inr (.inr ⟨_, _, at1⟩)
        · exact .inr (.inl ((else1 b e).trans (G0 b h)))
    · by_cases e : b = a
      · subst e
        rw [at1] at z
        cases z
        exact ⟨ha, by rw [List.length_map]; exact hl, vs, _, rv, ha⟩
      · rw [else1 b e] at z
        obtain ⟨_, h, rfl⟩ := okG b u z
        exact (T.mem h).1
    · by_cases h : b ∈ cs.map (·.2)
      · exact .inl h
      · by_cases e : b = a
        · exact .inr e
        · exact absurd ((else1 b e).trans (G0 b h)) z
end
/-- the goal behind the head, tables of the defs `own` told -/
theorem walkT {l : PySem.W.OpenLaw} {n k : Nat} {q : Program} {loose : List Str} {XP : (Str → Option Value) → Heap → Prop} {YP : World → Heap → Prop} {d : DefRec}
    {K : Params → PySem.W.Frag} {pr : PySem.W.Frag → List (Addr × Addr) → Pr} {x : Str} {own : List Str}
    (hn : l.most = some n) (hn2 : n ≤ sizeLine) (hdf : d.params.defaults = []) (hr : RG k callerA)
    (hY : ∀ (w : World) (h : Heap), YP w h → (K w.params).In h)
    (hrec : ∀ y ∈ own, ((recsOf q).find? fun e => e.name == y).isSome = true)
    (F : ∀ (w : World) (mg : Str → Option Value) (fa : Addr) (h : Heap), (K w.params).In h → h.Ns mainGlobals mg → mg d.name = some (.ref fa) →
      ∃ (fd : FuncData) (cs : List (Addr × Addr)), (∀ (s : Shared) (u : Value), BindsTo s fd ⟨[u], []⟩ [(x, u)]) ∧
        (∀ p ∈ cs, (K w.params).lookup p.2 = none ∧ ∃ y ∈ own, PySem.W.tabIn (K w.params) y = some p) ∧
        ∀ base : Heap, (K w.params).In base → base.Ns mainGlobals mg → (∀ p ∈ cs, LamX.TabB base mg p.1 p.2) → FnG l.prog w (K w.params) mg base k fa fd [x] (pr (K w.params) cs))
    (hp : ∀ (K : PySem.W.Frag) (cs : List (Addr × Addr)) (H : Hp) (a : Addr) (ns : List Int), ns.length ≤ n → (∀ p ∈ cs, H p.2 = some (.tbl #[])) → SqL K H a (ns.map V.int) → pr K cs [.ref a] H fun v _ => v = .bl true) :
    PySem.W.WalkO q loose XP YP l.row.toRowW d [] (fun f vs => PySem.call f vs) := by
  refine Att.attach_call hn hdf ?_
  intro w s₀ s₁ mg mb fa o pm cd doc a vs ns G Y ho hd hcd hmg hobj hints hlen hg
  have inK := hY w _ Y
  obtain ⟨fd, cs, hb, hT, hF⟩ := F w mg fa _ inK G.T.g hmg
  have T : Tables (K w.params) s₁.heap cs := by
    have key : ∀ p ∈ cs, PySem.W.CodeHd s₁.heap p.1 p.2 ∧ s₁.heap.get? p.2 = some (PySem.W.tabObj #[]) := by
      rintro ⟨c, P⟩ hp
      obtain ⟨_, y, hy, ht⟩ := hT _ hp
      obtain ⟨dr, hdr⟩ := Option.isSome_iff_exists.mp (hrec y hy)
      exact PySem.W.tab_of G.T inK hdr ht
    exact ⟨fun p hp => (key p hp).2, fun p hp => (hT p hp).1, fun p hp => (key p hp).1⟩
  exact lawT inK G.T.g G.T.b G.T.builtins G.T.nolimit hg T G.T.bmain hobj hints (Nat.le_trans hlen hn2) hr hF hb fun H hH hS => hp _ cs H a ns hlen hH hS
end AskG
namespace P37
open PySem PySem.Spec PyProof.Rows L2 AskG Ask
theorem io_quiet {CU : Addr} : ∀ vs H Q, prIO vs H Q → spIO CU vs H Q E0 := by
  rintro vs H Q ⟨a, n, rs, T, zs, rfl, hR, cr, lr, t0, t9, hN, lz, kn, q⟩
  have st := strange_none kn
  refine ⟨a, n, rs, T, zs, rfl, hR, cr, lr, t0, t9, hN, lz, fun _ => q, fun y hy => ?_⟩
  rw [st] at hy
  cases hy
/-- what the top has written -/
theorem all_mk {l : PySem.W.OpenLaw} {w : World} {K : PySem.W.Frag} {h : Heap} {mg : Str → Option Value} {fa : Addr} (X : K.In h) (G : h.Ns mainGlobals mg) (hfa : mg "law" = some (.ref fa))
    {f1 f2 f3 f4 f5 f6 f7 f8 f9 f10 f11 f12 f13 f14 f15 f16 f17 f18 f19 f20 f21 f22 f23 f24 f25 f26 f27 f28 f29 f30 f31 f32 f33 f34 f35 f36 f37 f38 f39 fRI fTI fTC fTN fU CR CT C CA cc Pt D4 c1e c2e c3e c4e c5e c6e c7e : Addr} {od1 an1 od2 an2 od3 an3 od4 an4 od5 an5 od6 an6 od7 an7 od8 an8 od9 an9 od10 an10 od11 an11 od12 an12 od13 an13 od14 an14 od15 an15 od16 an16 od17 an17 od18 an18 od19 an19 od20 an20 od21 an21 od22 an22 od23 an23 od24 an24 od25 an25 od26 an26 od27 an27 od28 an28 od29 an29 od30 an30 od31 an31 od32 an32 od33 an33 od34 an34 od35 an35 od36 an36 od37 an37 od38 an38 od39 an39 odRI anRI odTI anTI odTC anTC odTN anTN odU anU : Option Addr} {sl1 sl2 sl3 sl4 sl5 sl6 sl7 sl8 sl9 sl10 sl11 sl12 sl13 sl14 sl15 sl16 sl17 sl18 sl19 sl20 sl21 sl22 sl23 sl24 sl25 sl26 sl27 sl28 sl29 sl30 sl31 sl32 sl33 sl34 sl35 sl36 sl37 sl38 sl39 slRI slTI slTC slTN slU : Array (Option Value)} {oc1 kV1 dc1 pm1 cd1 ct1 oc2 kV2 dc2 pm2 cd2 ct2 oc3 kV3 dc3 pm3 cd3 ct3 oc4 kV4 dc4 pm4 cd4 ct4 oc5 kV5 dc5 pm5 cd5 ct5 oc6 kV6 dc6 pm6 cd6 ct6 oc7 kV7 dc7 pm7 cd7 ct7 oc8 kV8 dc8 pm8 cd8 ct8 oc9 kV9 dc9 pm9 cd9 ct9 oc10 kV10 dc10 pm10 cd10 ct10 oc11 kV11 dc11 pm11 cd11 ct11 oc12 kV12 dc12 pm12 cd12 ct12 oc13 kV13 dc13 pm13 cd13 ct13 oc14 kV14 dc14 pm14 cd14 ct14 oc15 kV15 dc15 pm15 cd15 ct15 oc16 kV16 dc16 pm16 cd16 ct16 oc17 kV17 dc17 pm17 cd17 ct17 oc18 kV18 dc18 pm18 cd18 ct18 oc19 dc19 pm19 cd19 ct19 oc20 kV20 dc20 pm20 cd20 ct20 oc21 kV21 dc21 pm21 cd21 ct21 oc22 kV22 dc22 pm22 cd22 ct22 oc23 kV23 dc23 pm23 cd23 ct23 oc24 kV24 dc24 pm24 cd24 ct24 oc25 kV25 dc25 pm25 cd25 ct25 oc26 kV26 dc26 pm26 cd26 ct26 oc27 kV27 dc27 pm27 cd27 ct27 oc28 kV28 dc28 pm28 cd28 ct28 oc29 kV29 dc29 pm29 cd29 ct29 oc30 kV30 dc30 pm30 cd30 ct30 oc31 kV31 dc31 pm31 cd31 ct31 oc32 kV32 dc32 pm32 cd32 ct32 oc33 kV33 dc33 pm33 cd33 ct33 oc34 kV34 dc34 pm34 cd34 ct34 oc35 kV35 dc35 pm35 cd35 ct35 oc36 kV36 dc36 pm36 cd36 ct36 oc37 kV37 dc37 pm37 cd37 ct37 oc38 kV38 dc38 pm38 ct38 oc39 kV39 dc39 pm39 cd39 ct39 ocRI kVRI dcRI pmRI cdRI ctRI ocTI kVTI dcTI pmTI cdTI ctTI ocTC kVTC dcTC pmTC cdTC ctTC ocTN kVTN dcTN pmTN cdTN ctTN ocU kVU dcU pmU cdU ctU : Value} {tk0 : Tok}
    {nm q : Str} {ecc : Value} {ddc : Option Addr} {vsc : Array Value} {slc : Array (Option Value)} {Nn : Addr} {bs bm : List Value} {sn : List Str} {sub : List Value} {ab : Bool} {col : Option Bool} {dd : Option Addr} {k0 k1 k2 k3 k5 : Option Value}
    (a1 : PySem.W.nsIn K mainGlobals "asked_days" = some (some (.ref f1)))
    (l1 : K.lookup f1 = some ⟨oc1, od1, .func (PySem.W.fnOf "asked_days" "asked_days" (defArgs sAsked) (defBody sAsked) (defScope sAsked) .none kV1 dc1 pm1 an1 cd1 ct1), sl1⟩)
    (c1 : PySem.W.codeIn K cd1 "asked_days" = true)
    (k1f : PySem.W.keepIn K (.ref f1) = true)
    (a2 : PySem.W.nsIn K mainGlobals "row_on_days" = some (some (.ref f2)))
    (l2 : K.lookup f2 = some ⟨oc2, od2, .func (PySem.W.fnOf "row_on_days" "row_on_days" (defArgs sOnDays) (defBody sOnDays) (defScope sOnDays) .none kV2 dc2 pm2 an2 cd2 ct2), sl2⟩)
    (c2 : PySem.W.codeIn K cd2 "row_on_days" = true)
    (k2f : PySem.W.keepIn K (.ref f2) = true)
    (a3 : PySem.W.nsIn K mainGlobals "future_spans" = some (some (.ref f3)))
    (l3 : K.lookup f3 = some ⟨oc3, od3, .func (PySem.W.fnOf "future_spans" "future_spans" (defArgs sFS) (defBody sFS) (defScope sFS) .none kV3 dc3 pm3 an3 cd3 ct3), sl3⟩)
    (c3 : PySem.W.codeIn K cd3 "future_spans" = true)
    (k3f : PySem.W.keepIn K (.ref f3) = true)
    (a4 : PySem.W.nsIn K mainGlobals "rows_of_spans" = some (some (.ref f4)))
    (l4 : K.lookup f4 = some ⟨oc4, od4, .func (PySem.W.fnOf "rows_of_spans" "rows_of_spans" (defArgs sRS) (defBody sRS) (defScope sRS) .none kV4 dc4 pm4 an4 cd4 ct4), sl4⟩)
    (c4 : PySem.W.codeIn K cd4 "rows_of_spans" = true)
    (k4f : PySem.W.keepIn K (.ref f4) = true)
    (a5 : PySem.W.nsIn K mainGlobals "future_rows" = some (some (.ref f5)))
    (l5 : K.lookup f5 = some ⟨oc5, od5, .func (PySem.W.fnOf "future_rows" "future_rows" (defArgs sFR) (defBody sFR) (defScope sFR) .none kV5 dc5 pm5 an5 cd5 ct5), sl5⟩)
    (c5 : PySem.W.codeIn K cd5 "future_rows" = true)
    (k5f : PySem.W.keepIn K (.ref f5) = true)
    (a6 : PySem.W.nsIn K mainGlobals "cells_of" = some (some (.ref f6)))
    (l6 : K.lookup f6 = some ⟨oc6, od6, .func (PySem.W.fnOf "cells_of" "cells_of" (defArgs sCO) (defBody sCO) (defScope sCO) .none kV6 dc6 pm6 an6 cd6 ct6), sl6⟩)
    (c6 : PySem.W.codeIn K cd6 "cells_of" = true)
    (k6f : PySem.W.keepIn K (.ref f6) = true)
    (a7 : PySem.W.nsIn K mainGlobals "line_of" = some (some (.ref f7)))
    (l7 : K.lookup f7 = some ⟨oc7, od7, .func (PySem.W.fnOf "line_of" "line_of" (defArgs sLO) (defBody sLO) (defScope sLO) .none kV7 dc7 pm7 an7 cd7 ct7), sl7⟩)
    (c7 : PySem.W.codeIn K cd7 "line_of" = true)
    (k7f : PySem.W.keepIn K (.ref f7) = true)
    (a8 : PySem.W.nsIn K mainGlobals "pivot_index" = some (some (.ref f8)))
    (l8 : K.lookup f8 = some ⟨oc8, od8, .func (PySem.W.fnOf "pivot_index" "pivot_index" (defArgs sPI) (defBody sPI) (defScope sPI) .none kV8 dc8 pm8 an8 cd8 ct8), sl8⟩)
    (c8 : PySem.W.codeIn K cd8 "pivot_index" = true)
    (k8f : PySem.W.keepIn K (.ref f8) = true)
    (a9 : PySem.W.nsIn K mainGlobals "cleared" = some (some (.ref f9)))
    (l9 : K.lookup f9 = some ⟨oc9, od9, .func (PySem.W.fnOf "cleared" "cleared" (defArgs sCl) (defBody sCl) (defScope sCl) .none kV9 dc9 pm9 an9 cd9 ct9), sl9⟩)
    (c9 : PySem.W.codeIn K cd9 "cleared" = true)
    (k9f : PySem.W.keepIn K (.ref f9) = true)
    (a10 : PySem.W.nsIn K mainGlobals "eliminated" = some (some (.ref f10)))
    (l10 : K.lookup f10 = some ⟨oc10, od10, .func (PySem.W.fnOf "eliminated" "eliminated" (defArgs sEl) (defBody sEl) (defScope sEl) .none kV10 dc10 pm10 an10 cd10 ct10), sl10⟩)
    (c10 : PySem.W.codeIn K cd10 "eliminated" = true)
    (k10f : PySem.W.keepIn K (.ref f10) = true)
    (a11 : PySem.W.nsIn K mainGlobals "reduced" = some (some (.ref f11)))
    (l11 : K.lookup f11 = some ⟨oc11, od11, .func (PySem.W.fnOf "reduced" "reduced" (defArgs sRd) (defBody sRd) (defScope sRd) .none kV11 dc11 pm11 an11 cd11 ct11), sl11⟩)
    (c11 : PySem.W.codeIn K cd11 "reduced" = true)
    (k11f : PySem.W.keepIn K (.ref f11) = true)
    (a12 : PySem.W.nsIn K mainGlobals "rank_of" = some (some (.ref f12)))
    (l12 : K.lookup f12 = some ⟨oc12, od12, .func (PySem.W.fnOf "rank_of" "rank_of" (defArgs sRk) (defBody sRk) (defScope sRk) .none kV12 dc12 pm12 an12 cd12 ct12), sl12⟩)
    (c12 : PySem.W.codeIn K cd12 "rank_of" = true)
    (k12f : PySem.W.keepIn K (.ref f12) = true)
    (a13 : PySem.W.nsIn K mainGlobals "cost_of" = some (some (.ref f13)))
    (l13 : K.lookup f13 = some ⟨oc13, od13, .func (PySem.W.fnOf "cost_of" "cost_of" (defArgs sCs) (defBody sCs) (defScope sCs) .none kV13 dc13 pm13 an13 cd13 ct13), sl13⟩)
    (c13 : PySem.W.codeIn K cd13 "cost_of" = true)
    (k13f : PySem.W.keepIn K (.ref f13) = true)
    (a14 : PySem.W.nsIn K mainGlobals "last_costly_day" = some (some (.ref f14)))
    (l14 : K.lookup f14 = some ⟨oc14, od14, .func (PySem.W.fnOf "last_costly_day" "last_costly_day" (defArgs sLC) (defBody sLC) (defScope sLC) .none kV14 dc14 pm14 an14 cd14 ct14), sl14⟩)
    (c14 : PySem.W.codeIn K cd14 "last_costly_day" = true)
    (k14f : PySem.W.keepIn K (.ref f14) = true)
    (a15 : PySem.W.nsIn K mainGlobals "cost_over" = some (some (.ref f15)))
    (l15 : K.lookup f15 = some ⟨oc15, od15, .func (PySem.W.fnOf "cost_over" "cost_over" (defArgs sCV) (defBody sCV) (defScope sCV) .none kV15 dc15 pm15 an15 cd15 ct15), sl15⟩)
    (c15 : PySem.W.codeIn K cd15 "cost_over" = true)
    (k15f : PySem.W.keepIn K (.ref f15) = true)
    (a16 : PySem.W.nsIn K mainGlobals "check_names" = some (some (.ref f16)))
    (l16 : K.lookup f16 = some ⟨oc16, od16, .func (PySem.W.fnOf "check_names" "check_names" (defArgs sKN) (defBody sKN) (defScope sKN) .none kV16 dc16 pm16 an16 cd16 ct16), sl16⟩)
    (c16 : PySem.W.codeIn K cd16 "check_names" = true)
    (k16f : PySem.W.keepIn K (.ref f16) = true)
    (a17 : PySem.W.nsIn K mainGlobals "increments_of" = some (some (.ref f17)))
    (l17 : K.lookup f17 = some ⟨oc17, od17, .func (PySem.W.fnOf "increments_of" "increments_of" (defArgs sIO) (defBody sIO) (defScope sIO) .none kV17 dc17 pm17 an17 cd17 ct17), sl17⟩)
    (c17 : PySem.W.codeIn K cd17 "increments_of" = true)
    (k17f : PySem.W.keepIn K (.ref f17) = true)
    (a18 : PySem.W.nsIn K mainGlobals "with_last" = some (some (.ref f18)))
    (l18 : K.lookup f18 = some ⟨oc18, od18, .func (PySem.W.fnOf "with_last" "with_last" (defArgs sWL) (defBody sWL) (defScope sWL) .none kV18 dc18 pm18 an18 cd18 ct18), sl18⟩)
    (c18 : PySem.W.codeIn K cd18 "with_last" = true)
    (k18f : PySem.W.keepIn K (.ref f18) = true)
    (a19 : PySem.W.nsIn K mainGlobals "extension_price" = some (some (.ref f19)))
    (l19 : K.lookup f19 = some ⟨oc19, od19, .func (PySem.W.fnOf "extension_price" "extension_price" (defArgs sEP) (defBody sEP) (defScope sEP) .none (.ref D4) dc19 pm19 an19 cd19 ct19), sl19⟩)
    (c19 : PySem.W.codeIn K cd19 "extension_price" = true)
    (k19f : PySem.W.keepIn K (.ref f19) = true)
    (a20 : PySem.W.nsIn K mainGlobals "_law_feed" = some (some (.ref f20)))
    (l20 : K.lookup f20 = some ⟨oc20, od20, .func (PySem.W.fnOf "_law_feed" "_law_feed" (defArgs sFeed) (defBody sFeed) (defScope sFeed) .none kV20 dc20 pm20 an20 cd20 ct20), sl20⟩)
    (c20 : PySem.W.codeIn K cd20 "_law_feed" = true)
    (k20f : PySem.W.keepIn K (.ref f20) = true)
    (a21 : PySem.W.nsIn K mainGlobals "_law_draw" = some (some (.ref f21)))
    (l21 : K.lookup f21 = some ⟨oc21, od21, .func (PySem.W.fnOf "_law_draw" "_law_draw" (defArgs sDraw) (defBody sDraw) (defScope sDraw) .none kV21 dc21 pm21 an21 cd21 ct21), sl21⟩)
    (c21 : PySem.W.codeIn K cd21 "_law_draw" = true)
    (k21f : PySem.W.keepIn K (.ref f21) = true)
    (a22 : PySem.W.nsIn K mainGlobals "_law_gcd" = some (some (.ref f22)))
    (l22 : K.lookup f22 = some ⟨oc22, od22, .func (PySem.W.fnOf "_law_gcd" "_law_gcd" (defArgs sGcd) (defBody sGcd) (defScope sGcd) .none kV22 dc22 pm22 an22 cd22 ct22), sl22⟩)
    (c22 : PySem.W.codeIn K cd22 "_law_gcd" = true)
    (k22f : PySem.W.keepIn K (.ref f22) = true)
    (a23 : PySem.W.nsIn K mainGlobals "_law_cleared" = some (some (.ref f23)))
    (l23 : K.lookup f23 = some ⟨oc23, od23, .func (PySem.W.fnOf "_law_cleared" "_law_cleared" (defArgs sLCl) (defBody sLCl) (defScope sLCl) .none kV23 dc23 pm23 an23 cd23 ct23), sl23⟩)
    (c23 : PySem.W.codeIn K cd23 "_law_cleared" = true)
    (k23f : PySem.W.keepIn K (.ref f23) = true)
    (a24 : PySem.W.nsIn K mainGlobals "_law_reduced" = some (some (.ref f24)))
    (l24 : K.lookup f24 = some ⟨oc24, od24, .func (PySem.W.fnOf "_law_reduced" "_law_reduced" (defArgs sLRd) (defBody sLRd) (defScope sLRd) .none kV24 dc24 pm24 an24 cd24 ct24), sl24⟩)
    (c24 : PySem.W.codeIn K cd24 "_law_reduced" = true)
    (k24f : PySem.W.keepIn K (.ref f24) = true)
    (a25 : PySem.W.nsIn K mainGlobals "_law_bases" = some (some (.ref f25)))
    (l25 : K.lookup f25 = some ⟨oc25, od25, .func (PySem.W.fnOf "_law_bases" "_law_bases" (defArgs sLB) (defBody sLB) (defScope sLB) .none kV25 dc25 pm25 an25 cd25 ct25), sl25⟩)
    (c25 : PySem.W.codeIn K cd25 "_law_bases" = true)
    (k25f : PySem.W.keepIn K (.ref f25) = true)
    (a26 : PySem.W.nsIn K mainGlobals "_law_part" = some (some (.ref f26)))
    (l26 : K.lookup f26 = some ⟨oc26, od26, .func (PySem.W.fnOf "_law_part" "_law_part" (defArgs sLP) (defBody sLP) (defScope sLP) .none kV26 dc26 pm26 an26 cd26 ct26), sl26⟩)
    (c26 : PySem.W.codeIn K cd26 "_law_part" = true)
    (k26f : PySem.W.keepIn K (.ref f26) = true)
    (a27 : PySem.W.nsIn K mainGlobals "_law_future" = some (some (.ref f27)))
    (l27 : K.lookup f27 = some ⟨oc27, od27, .func (PySem.W.fnOf "_law_future" "_law_future" (defArgs sLF) (defBody sLF) (defScope sLF) .none kV27 dc27 pm27 an27 cd27 ct27), sl27⟩)
    (c27 : PySem.W.codeIn K cd27 "_law_future" = true)
    (k27f : PySem.W.keepIn K (.ref f27) = true)
    (a28 : PySem.W.nsIn K mainGlobals "_law_cost" = some (some (.ref f28)))
    (l28 : K.lookup f28 = some ⟨oc28, od28, .func (PySem.W.fnOf "_law_cost" "_law_cost" (defArgs sLCo) (defBody sLCo) (defScope sLCo) .none kV28 dc28 pm28 an28 cd28 ct28), sl28⟩)
    (c28 : PySem.W.codeIn K cd28 "_law_cost" = true)
    (k28f : PySem.W.keepIn K (.ref f28) = true)
    (a29 : PySem.W.nsIn K mainGlobals "_law_claim" = some (some (.ref f29)))
    (l29 : K.lookup f29 = some ⟨oc29, od29, .func (PySem.W.fnOf "_law_claim" "_law_claim" (defArgs sClm) (defBody sClm) (defScope sClm) .none kV29 dc29 pm29 an29 cd29 ct29), sl29⟩)
    (c29 : PySem.W.codeIn K cd29 "_law_claim" = true)
    (k29f : PySem.W.keepIn K (.ref f29) = true)
    (a30 : PySem.W.nsIn K mainGlobals "_law_claims" = some (some (.ref f30)))
    (l30 : K.lookup f30 = some ⟨oc30, od30, .func (PySem.W.fnOf "_law_claims" "_law_claims" (defArgs sCms) (defBody sCms) (defScope sCms) .none kV30 dc30 pm30 an30 cd30 ct30), sl30⟩)
    (c30 : PySem.W.codeIn K cd30 "_law_claims" = true)
    (k30f : PySem.W.keepIn K (.ref f30) = true)
    (a31 : PySem.W.nsIn K mainGlobals "_law_within" = some (some (.ref f31)))
    (l31 : K.lookup f31 = some ⟨oc31, od31, .func (PySem.W.fnOf "_law_within" "_law_within" (defArgs sWi) (defBody sWi) (defScope sWi) .none kV31 dc31 pm31 an31 cd31 ct31), sl31⟩)
    (c31 : PySem.W.codeIn K cd31 "_law_within" = true)
    (k31f : PySem.W.keepIn K (.ref f31) = true)
    (a32 : PySem.W.nsIn K mainGlobals "_law_said" = some (some (.ref f32)))
    (l32 : K.lookup f32 = some ⟨oc32, od32, .func (PySem.W.fnOf "_law_said" "_law_said" (defArgs sSd) (defBody sSd) (defScope sSd) .none kV32 dc32 pm32 an32 cd32 ct32), sl32⟩)
    (c32 : PySem.W.codeIn K cd32 "_law_said" = true)
    (k32f : PySem.W.keepIn K (.ref f32) = true)
    (a33 : PySem.W.nsIn K mainGlobals "_law_stirred" = some (some (.ref f33)))
    (l33 : K.lookup f33 = some ⟨oc33, od33, .func (PySem.W.fnOf "_law_stirred" "_law_stirred" (defArgs sSt) (defBody sSt) (defScope sSt) .none kV33 dc33 pm33 an33 cd33 ct33), sl33⟩)
    (c33 : PySem.W.codeIn K cd33 "_law_stirred" = true)
    (k33f : PySem.W.keepIn K (.ref f33) = true)
    (a34 : PySem.W.nsIn K mainGlobals "_law_steps_of" = some (some (.ref f34)))
    (l34 : K.lookup f34 = some ⟨oc34, od34, .func (PySem.W.fnOf "_law_steps_of" "_law_steps_of" (defArgs sSo) (defBody sSo) (defScope sSo) .none kV34 dc34 pm34 an34 cd34 ct34), sl34⟩)
    (c34 : PySem.W.codeIn K cd34 "_law_steps_of" = true)
    (k34f : PySem.W.keepIn K (.ref f34) = true)
    (a35 : PySem.W.nsIn K mainGlobals "_law_over" = some (some (.ref f35)))
    (l35 : K.lookup f35 = some ⟨oc35, od35, .func (PySem.W.fnOf "_law_over" "_law_over" (defArgs sOv) (defBody sOv) (defScope sOv) .none kV35 dc35 pm35 an35 cd35 ct35), sl35⟩)
    (c35 : PySem.W.codeIn K cd35 "_law_over" = true)
    (k35f : PySem.W.keepIn K (.ref f35) = true)
    (a36 : PySem.W.nsIn K mainGlobals "_law_longer" = some (some (.ref f36)))
    (l36 : K.lookup f36 = some ⟨oc36, od36, .func (PySem.W.fnOf "_law_longer" "_law_longer" (defArgs sLg) (defBody sLg) (defScope sLg) .none kV36 dc36 pm36 an36 cd36 ct36), sl36⟩)
    (c36 : PySem.W.codeIn K cd36 "_law_longer" = true)
    (k36f : PySem.W.keepIn K (.ref f36) = true)
    (a37 : PySem.W.nsIn K mainGlobals "_law_is_priced" = some (some (.ref f37)))
    (l37 : K.lookup f37 = some ⟨oc37, od37, .func (PySem.W.fnOf "_law_is_priced" "_law_is_priced" (defArgs sPr) (defBody sPr) (defScope sPr) .none kV37 dc37 pm37 an37 cd37 ct37), sl37⟩)
    (c37 : PySem.W.codeIn K cd37 "_law_is_priced" = true)
    (k37f : PySem.W.keepIn K (.ref f37) = true)
    (a38 : PySem.W.nsIn K mainGlobals "_law_are_unknown" = some (some (.ref f38)))
    (l38 : K.lookup f38 = some ⟨oc38, od38, .func (PySem.W.fnOf "_law_are_unknown" "_law_are_unknown" (defArgs sUn) (defBody sUn) (defScope sUn) .none kV38 dc38 pm38 an38 (.ref cc) ct38), sl38⟩)
    (c38 : PySem.W.codeIn K (.ref cc) "_law_are_unknown" = true)
    (k38f : PySem.W.keepIn K (.ref f38) = true)
    (a39 : PySem.W.nsIn K mainGlobals "law" = some (some (.ref f39)))
    (l39 : K.lookup f39 = some ⟨oc39, od39, .func (PySem.W.fnOf "law" "law" (defArgs sLaw) (defBody sLaw) (defScope sLaw) .none kV39 dc39 pm39 an39 cd39 ct39), sl39⟩)
    (c39 : PySem.W.codeIn K cd39 "law" = true)
    (k39f : PySem.W.keepIn K (.ref f39) = true)
    (z1 : PySem.W.nsIn K mainGlobals "sorted" = some none)
    (z2 : PySem.W.nsIn K mainGlobals "tuple" = some none)
    (z3 : PySem.W.nsIn K mainGlobals "list" = some none)
    (z4 : PySem.W.nsIn K mainGlobals "len" = some none)
    (z5 : PySem.W.nsIn K mainGlobals "range" = some none)
    (z6 : PySem.W.nsIn K mainGlobals "max" = some none)
    (z7 : PySem.W.nsIn K mainGlobals "min" = some none)
    (z8 : PySem.W.nsIn K mainGlobals "enumerate" = some none)
    (z9 : PySem.W.nsIn K mainGlobals "zip" = some none)
    (z10 : PySem.W.nsIn K mainGlobals "sum" = some none)
    (z11 : PySem.W.nsIn K mainGlobals "abs" = some none)
    (z12 : PySem.W.nsIn K mainGlobals "set" = some none)
    (z13 : PySem.W.nsIn K mainGlobals "dict" = some none)
    (z14 : PySem.W.nsIn K mainGlobals "repr" = some none)
    (z15 : PySem.W.nsIn K mainGlobals "isinstance" = some none)
    (w1 : PySem.W.nsIn K D4 "today" = some (some (.int 0 tk0)))
    (aCR : PySem.W.nsIn K mainGlobals "Reduced" = some (some (.ref CR)))
    (aCT : PySem.W.nsIn K mainGlobals "CostTable" = some (some (.ref CT)))
    (iRI : PySem.W.findIn K (.ref CR) "__init__" = some (some (.ref fRI)))
    (jRI : PySem.W.isFn K (.ref fRI) = true)
    (p1CR : PySem.W.makesIn K CR = true)
    (p2CR : PySem.W.keepIn K (.ref CR) = true)
    (p3CR : PySem.W.plainGet K CR Str.empty = true)
    (p4CR : PySem.W.hasDictIn K CR = true)
    (p5CR : PySem.W.plainOver K CR = true)
    (p6CR : PySem.W.findIn K (.ref CR) "__setattr__" = some (some (.builtin "object.__setattr__")))
    (q0CR : PySem.W.findIn K (.ref CR) "cells" = some none)
    (q1CR : PySem.W.findIn K (.ref CR) "many" = some none)
    (q2CR : PySem.W.findIn K (.ref CR) "pivots" = some none)
    (q3CR : PySem.W.findIn K (.ref CR) "free" = some none)
    (q4CR : PySem.W.findIn K (.ref CR) "divisor" = some none)
    (q5CR : PySem.W.findIn K (.ref CR) "lines" = some none)
    (q6CR : PySem.W.findIn K (.ref CR) "behind" = some none)
    (q7CR : PySem.W.findIn K (.ref CR) "ties" = some none)
    (iTI : PySem.W.findIn K (.ref CT) "__init__" = some (some (.ref fTI)))
    (jTI : PySem.W.isFn K (.ref fTI) = true)
    (iTC : PySem.W.findIn K (.ref CT) "cost" = some (some (.ref fTC)))
    (jTC : PySem.W.isFn K (.ref fTC) = true)
    (iTN : PySem.W.findIn K (.ref CT) "increments" = some (some (.ref fTN)))
    (jTN : PySem.W.isFn K (.ref fTN) = true)
    (p1CT : PySem.W.makesIn K CT = true)
    (p2CT : PySem.W.keepIn K (.ref CT) = true)
    (p3CT : PySem.W.plainGet K CT Str.empty = true)
    (p4CT : PySem.W.hasDictIn K CT = true)
    (p5CT : PySem.W.plainOver K CT = true)
    (p6CT : PySem.W.findIn K (.ref CT) "__setattr__" = some (some (.builtin "object.__setattr__")))
    (q0CT : PySem.W.findIn K (.ref CT) "rights" = some none)
    (q1CT : PySem.W.findIn K (.ref CT) "day" = some none)
    (q2CT : PySem.W.findIn K (.ref CT) "found" = some none)
    (lRI : K.lookup fRI = some ⟨ocRI, odRI, .func (PySem.W.fnOf "__init__" "Reduced.__init__" (defArgs sRI) (defBody sRI) (defScope sRI) .none kVRI dcRI pmRI anRI cdRI ctRI), slRI⟩)
    (cRI : PySem.W.codeIn K cdRI "Reduced.__init__" = true)
    (kRI : PySem.W.keepIn K (.ref fRI) = true)
    (lTI : K.lookup fTI = some ⟨ocTI, odTI, .func (PySem.W.fnOf "__init__" "CostTable.__init__" (defArgs sTI) (defBody sTI) (defScope sTI) .none kVTI dcTI pmTI anTI cdTI ctTI), slTI⟩)
    (cTI : PySem.W.codeIn K cdTI "CostTable.__init__" = true)
    (kTI : PySem.W.keepIn K (.ref fTI) = true)
    (lTC : K.lookup fTC = some ⟨ocTC, odTC, .func (PySem.W.fnOf "cost" "CostTable.cost" (defArgs sTC) (defBody sTC) (defScope sTC) .none kVTC dcTC pmTC anTC cdTC ctTC), slTC⟩)
    (cTC : PySem.W.codeIn K cdTC "CostTable.cost" = true)
    (kTC : PySem.W.keepIn K (.ref fTC) = true)
    (lTN : K.lookup fTN = some ⟨ocTN, odTN, .func (PySem.W.fnOf "increments" "CostTable.increments" (defArgs sTN) (defBody sTN) (defScope sTN) .none kVTN dcTN pmTN anTN cdTN ctTN), slTN⟩)
    (cTN : PySem.W.codeIn K cdTN "CostTable.increments" = true)
    (kTN : PySem.W.keepIn K (.ref fTN) = true)
    (aC : PySem.W.nsIn K mainGlobals "UnknownName" = some (some (.ref C)))
    (aA : PySem.W.nsIn K mainGlobals "AskError" = some (some (.ref CA)))
    (b1c : PySem.W.nsIn K mainGlobals "InvalidPaper" = some (some (.ref c1e)))
    (b2c : PySem.W.nsIn K mainGlobals "PaperError" = some (some (.ref c2e)))
    (b3c : PySem.W.nsIn K mainGlobals "ArchiveError" = some (some (.ref c3e)))
    (b4c : PySem.W.nsIn K mainGlobals "TextError" = some (some (.ref c4e)))
    (b5c : PySem.W.nsIn K mainGlobals "InvalidStep" = some (some (.ref c5e)))
    (b6c : PySem.W.nsIn K mainGlobals "NotAnswerable" = some (some (.ref c6e)))
    (b7c : PySem.W.nsIn K mainGlobals "NothingToUndo" = some (some (.ref c7e)))
    (i1 : PySem.W.findIn K (.ref C) "__init__" = some (some (.ref fU)))
    (i2 : PySem.W.typeIn K (.ref fU) = some (.type "function"))
    (i3 : PySem.W.findIn K (.ref C) "name" = some none)
    (lU : K.lookup fU = some ⟨ocU, odU, .func (PySem.W.fnOf "__init__" "UnknownName.__init__" (defArgs sUnk) (defBody sUnk) (defScope sUnk) .none kVU dcU pmU anU cdU ctU), slU⟩)
    (cU : PySem.W.codeIn K cdU "UnknownName.__init__" = true)
    (kU : PySem.W.keepIn K (.ref fU) = true)
    (hC : K.lookup C = some (excClassObj nm q C Nn bs bm true sn sub ab col dd k0 k1 k2 k3 k5 "ValueError.__new__"))
    (hv : PySem.HandSPX.refsVE bm = true)
    (e1 : PySem.W.findIn K (.ref C) "__setattr__" = some (some (.builtin "object.__setattr__")))
    (e2 : PySem.W.subIn K (.ref C) (.type "BaseException") = some true)
    (e3 : PySem.W.typeIn K (.ref C) = some (.type "type"))
    (e4 : PySem.W.keepIn K (.ref C) = true)
    (x1 : PySem.W.findIn K (.ref C) "__getattribute__" = some (some (.builtin "BaseException.__getattribute__")))
    (x2 : PySem.W.findIn K (.ref C) "__getattr__" = some none)
    (x4 : PySem.W.hasDictIn K C = true)
    (x5 : PySem.W.findIn K (.ref C) "__class__" = some (some (.builtin "object.__class__")))
    (x6 : PySem.W.specialIn K (.builtin "object.__class__") "__get__" = some (some (.builtin "getset_descriptor.__get__")))
    (x7 : PySem.W.takesIn K (.builtin "object.__class__") = some true)
    (x8 : PySem.W.mroIn K C (.type "object") = some true)
    (y0 : PySem.W.kitOne K (.ref C) (.ref C) = some true)
    (y1 : PySem.W.kitOne K (.ref C) (.ref c1e) = some false)
    (y2 : PySem.W.kitOne K (.ref C) (.ref c2e) = some false)
    (y3 : PySem.W.kitOne K (.ref C) (.ref c3e) = some true)
    (y4 : PySem.W.kitOne K (.ref C) (.ref c4e) = some false)
    (y6 : PySem.W.kitOne K (.ref C) (.ref c6e) = some false)
    (y5 : PySem.W.kitAny K (.ref C) [.ref c5e, .ref c7e] = some false)
    (ex : PySem.W.exmOne K (.ref C) (.ref CA) = some true)
    (lc : K.lookup cc = some ⟨ecc, ddc, .fields vsc, slc⟩)
    (vc : (vsc[11]? : Option Value) = some (.ref Pt))
    (tn : K.lookup Pt = none) :
    ∃ (fd : FuncData) (cs : List (Addr × Addr)), (∀ (s : Shared) (v : Value), BindsTo s fd ⟨[v], []⟩ [("_law_script", v)]) ∧ (∀ p ∈ cs, K.lookup p.2 = none ∧ ∃ y ∈ (["_law_are_unknown"] : List Str), PySem.W.tabIn K y = some p) ∧ ∀ base : Heap, K.In base → base.Ns mainGlobals mg → (∀ p ∈ cs, LamX.TabB base mg p.1 p.2) → FnG l.prog w K mg base 13 fa fd ["_law_script"] (prLaw K cs) := by
  have e := hfa.symm.trans (PySem.W.mg_of X G a39)
  cases e
  have F1 := fun_mk (st := sAsked) l1 c1 k1f
  have b1 := F1.binds (ps := ["right", "day"]) fun _ _ _ _ _ _ us hl => match us, hl with | [_, _], _ => rfl
  have g1 := PySem.W.mg_of X G a1
  have F2 := fun_mk (st := sOnDays) l2 c2 k2f
  have b2 := F2.binds (ps := ["right", "low", "high"]) fun _ _ _ _ _ _ us hl => match us, hl with | [_, _, _], _ => rfl
  have g2 := PySem.W.mg_of X G a2
  have F3 := fun_mk (st := sFS) l3 c3 k3f
  have b3 := F3.binds (ps := ["right", "day"]) fun _ _ _ _ _ _ us hl => match us, hl with | [_, _], _ => rfl
  have g3 := PySem.W.mg_of X G a3
  have F4 := fun_mk (st := sRS) l4 c4 k4f
  have b4 := F4.binds (ps := ["right", "spans"]) fun _ _ _ _ _ _ us hl => match us, hl with | [_, _], _ => rfl
  have g4 := PySem.W.mg_of X G a4
  have F5 := fun_mk (st := sFR) l5 c5 k5f
  have b5 := F5.binds (ps := ["rights", "day"]) fun _ _ _ _ _ _ us hl => match us, hl with | [_, _], _ => rfl
  have g5 := PySem.W.mg_of X G a5
  have F6 := fun_mk (st := sCO) l6 c6 k6f
  have b6 := F6.binds (ps := ["rows"]) fun _ _ _ _ _ _ us hl => match us, hl with | [_], _ => rfl
  have g6 := PySem.W.mg_of X G a6
  have F7 := fun_mk (st := sLO) l7 c7 k7f
  have b7 := F7.binds (ps := ["row", "cells"]) fun _ _ _ _ _ _ us hl => match us, hl with | [_, _], _ => rfl
  have g7 := PySem.W.mg_of X G a7
  have F8 := fun_mk (st := sPI) l8 c8 k8f
  have b8 := F8.binds (ps := ["lines", "start", "column"]) fun _ _ _ _ _ _ us hl => match us, hl with | [_, _, _], _ => rfl
  have g8 := PySem.W.mg_of X G a8
  have F9 := fun_mk (st := sCl) l9 c9 k9f
  have b9 := F9.binds (ps := ["lines", "at", "column", "divisor"]) fun _ _ _ _ _ _ us hl => match us, hl with | [_, _, _, _], _ => rfl
  have g9 := PySem.W.mg_of X G a9
  have F10 := fun_mk (st := sEl) l10 c10 k10f
  have b10 := F10.binds (ps := ["matrix", "width"]) fun _ _ _ _ _ _ us hl => match us, hl with | [_, _], _ => rfl
  have g10 := PySem.W.mg_of X G a10
  have F11 := fun_mk (st := sRd) l11 c11 k11f
  have b11 := F11.binds (ps := ["rows", "cells"]) fun _ _ _ _ _ _ us hl => match us, hl with | [_, _], _ => rfl
  have g11 := PySem.W.mg_of X G a11
  have F12 := fun_mk (st := sRk) l12 c12 k12f
  have b12 := F12.binds (ps := ["rows"]) fun _ _ _ _ _ _ us hl => match us, hl with | [_], _ => rfl
  have g12 := PySem.W.mg_of X G a12
  have F13 := fun_mk (st := sCs) l13 c13 k13f
  have b13 := F13.binds (ps := ["rights", "day"]) fun _ _ _ _ _ _ us hl => match us, hl with | [_, _], _ => rfl
  have g13 := PySem.W.mg_of X G a13
  have F14 := fun_mk (st := sLC) l14 c14 k14f
  have b14 := F14.binds (ps := ["rights"]) fun _ _ _ _ _ _ us hl => match us, hl with | [_], _ => rfl
  have g14 := PySem.W.mg_of X G a14
  have F15 := fun_mk (st := sCV) l15 c15 k15f
  have b15 := F15.binds (ps := ["rights", "first", "last"]) fun _ _ _ _ _ _ us hl => match us, hl with | [_, _, _], _ => rfl
  have g15 := PySem.W.mg_of X G a15
  have F16 := fun_mk (st := sKN) l16 c16 k16f
  have b16 := F16.binds (ps := ["rights", "names"]) fun _ _ _ _ _ _ us hl => match us, hl with | [_, _], _ => rfl
  have g16 := PySem.W.mg_of X G a16
  have F17 := fun_mk (st := sIO) l17 c17 k17f
  have b17 := F17.binds (ps := ["rights", "order", "day"]) fun _ _ _ _ _ _ us hl => match us, hl with | [_, _, _], _ => rfl
  have g17 := PySem.W.mg_of X G a17
  have F18 := fun_mk (st := sWL) l18 c18 k18f
  have b18 := F18.binds (ps := ["right", "last"]) fun _ _ _ _ _ _ us hl => match us, hl with | [_, _], _ => rfl
  have g18 := PySem.W.mg_of X G a18
  have F19 : FEP K f19 (PySem.W.fnOf "extension_price" "extension_price" (defArgs sEP) (defBody sEP) (defScope sEP) .none (.ref D4) dc19 pm19 an19 cd19 ct19) :=
    ⟨⟨oc19, od19, .none, .ref D4, dc19, pm19, an19, cd19, ct19, sl19, rfl, l19, c19, .inl ⟨rfl, rfl⟩, .inr ⟨D4, rfl, fun q hq => by
      rw [List.mem_singleton.mp hq]
      exact ⟨_, w1, ⟨_, rfl⟩⟩⟩⟩, k19f⟩
  have g19 := PySem.W.mg_of X G a19
  have F20 := fun_mk (st := sFeed) l20 c20 k20f
  have b20 := F20.binds (ps := ["_law_script"]) fun _ _ _ _ _ _ us hl => match us, hl with | [_], _ => rfl
  have g20 := PySem.W.mg_of X G a20
  have F21 := fun_mk (st := sDraw) l21 c21 k21f
  have b21 := F21.binds (ps := ["_law_feed_here", "_law_many"]) fun _ _ _ _ _ _ us hl => match us, hl with | [_, _], _ => rfl
  have g21 := PySem.W.mg_of X G a21
  have F22 := fun_mk (st := sGcd) l22 c22 k22f
  have b22 := F22.binds (ps := ["_law_one", "_law_other"]) fun _ _ _ _ _ _ us hl => match us, hl with | [_, _], _ => rfl
  have g22 := PySem.W.mg_of X G a22
  have F23 := fun_mk (st := sLCl) l23 c23 k23f
  have b23 := F23.binds (ps := ["_law_rest", "_law_base", "_law_cell"]) fun _ _ _ _ _ _ us hl => match us, hl with | [_, _, _], _ => rfl
  have g23 := PySem.W.mg_of X G a23
  have F24 := fun_mk (st := sLRd) l24 c24 k24f
  have b24 := F24.binds (ps := ["_law_bases_here", "_law_line"]) fun _ _ _ _ _ _ us hl => match us, hl with | [_, _], _ => rfl
  have g24 := PySem.W.mg_of X G a24
  have F25 := fun_mk (st := sLB) l25 c25 k25f
  have b25 := F25.binds (ps := ["_law_lines"]) fun _ _ _ _ _ _ us hl => match us, hl with | [_], _ => rfl
  have g25 := PySem.W.mg_of X G a25
  have F26 := fun_mk (st := sLP) l26 c26 k26f
  have b26 := F26.binds (ps := ["_law_claim_here", "_law_date", "_law_top"]) fun _ _ _ _ _ _ us hl => match us, hl with | [_, _, _], _ => rfl
  have g26 := PySem.W.mg_of X G a26
  have F27 := fun_mk (st := sLF) l27 c27 k27f
  have b27 := F27.binds (ps := ["_law_claims_here", "_law_date"]) fun _ _ _ _ _ _ us hl => match us, hl with | [_, _], _ => rfl
  have g27 := PySem.W.mg_of X G a27
  have F28 := fun_mk (st := sLCo) l28 c28 k28f
  have b28 := F28.binds (ps := ["_law_claims_here", "_law_date"]) fun _ _ _ _ _ _ us hl => match us, hl with | [_, _], _ => rfl
  have g28 := PySem.W.mg_of X G a28
  have F29 := fun_mk (st := sClm) l29 c29 k29f
  have b29 := F29.binds (ps := ["_law_feed_here", "_law_early"]) fun _ _ _ _ _ _ us hl => match us, hl with | [_, _], _ => rfl
  have g29 := PySem.W.mg_of X G a29
  have F30 := fun_mk (st := sCms) l30 c30 k30f
  have b30 := F30.binds (ps := ["_law_feed_here", "_law_many"]) fun _ _ _ _ _ _ us hl => match us, hl with | [_, _], _ => rfl
  have g30 := PySem.W.mg_of X G a30
  have F31 := fun_mk (st := sWi) l31 c31 k31f
  have b31 := F31.binds (ps := ["_law_claims_here", "_law_labels"]) fun _ _ _ _ _ _ us hl => match us, hl with | [_, _], _ => rfl
  have g31 := PySem.W.mg_of X G a31
  have F32 := fun_mk (st := sSd) l32 c32 k32f
  have b32 := F32.binds (ps := ["_law_ask"]) fun _ _ _ _ _ _ us hl => match us, hl with | [_], _ => rfl
  have g32 := PySem.W.mg_of X G a32
  have F33 := fun_mk (st := sSt) l33 c33 k33f
  have b33 := F33.binds (ps := ["_law_feed_here", "_law_labels"]) fun _ _ _ _ _ _ us hl => match us, hl with | [_, _], _ => rfl
  have g33 := PySem.W.mg_of X G a33
  have F34 := fun_mk (st := sSo) l34 c34 k34f
  have b34 := F34.binds (ps := ["_law_claims_here", "_law_queue", "_law_date"]) fun _ _ _ _ _ _ us hl => match us, hl with | [_, _, _], _ => rfl
  have g34 := PySem.W.mg_of X G a34
  have F35 := fun_mk (st := sOv) l35 c35 k35f
  have b35 := F35.binds (ps := ["_law_claims_here", "_law_begin", "_law_end"]) fun _ _ _ _ _ _ us hl => match us, hl with | [_, _, _], _ => rfl
  have g35 := PySem.W.mg_of X G a35
  have F36 := fun_mk (st := sLg) l36 c36 k36f
  have b36 := F36.binds (ps := ["_law_claims_here", "_law_label", "_law_end"]) fun _ _ _ _ _ _ us hl => match us, hl with | [_, _, _], _ => rfl
  have g36 := PySem.W.mg_of X G a36
  have F37 := fun_mk (st := sPr) l37 c37 k37f
  have b37 := F37.binds (ps := ["_law_feed_here", "_law_claims_here"]) fun _ _ _ _ _ _ us hl => match us, hl with | [_, _], _ => rfl
  have g37 := PySem.W.mg_of X G a37
  have F38 := fun_mk (st := sUn) l38 c38 k38f
  have b38 := F38.binds (ps := ["_law_claims_here", "_law_labels"]) fun _ _ _ _ _ _ us hl => match us, hl with | [_, _], _ => rfl
  have g38 := PySem.W.mg_of X G a38
  have F39 := fun_mk (st := sLaw) l39 c39 k39f
  have FRI := fun_mk (st := sRI) lRI cRI kRI
  have bRI := FRI.binds (ps := ["self", "matrix", "cells"]) fun _ _ _ _ _ _ us hl => match us, hl with | [_, _, _], _ => rfl
  have FTI := fun_mk (st := sTI) lTI cTI kTI
  have bTI := FTI.binds (ps := ["self", "rights", "day"]) fun _ _ _ _ _ _ us hl => match us, hl with | [_, _, _], _ => rfl
  have FTC := fun_mk (st := sTC) lTC cTC kTC
  have bTC := FTC.binds (ps := ["self", "names"]) fun _ _ _ _ _ _ us hl => match us, hl with | [_, _], _ => rfl
  have FTN := fun_mk (st := sTN) lTN cTN kTN
  have bTN := FTN.binds (ps := ["self", "order"]) fun _ _ _ _ _ _ us hl => match us, hl with | [_, _], _ => rfl
  have FU := fun_mk (st := sUnk) lU cU kU
  have bU := FU.binds (ps := ["self", "name"]) fun _ _ _ _ _ _ us hl => match us, hl with | [_, _], _ => rfl
  have m1 := PySem.W.mg_none_of X G z1
  have m2 := PySem.W.mg_none_of X G z2
  have m3 := PySem.W.mg_none_of X G z3
  have m4 := PySem.W.mg_none_of X G z4
  have m5 := PySem.W.mg_none_of X G z5
  have m6 := PySem.W.mg_none_of X G z6
  have m7 := PySem.W.mg_none_of X G z7
  have m8 := PySem.W.mg_none_of X G z8
  have m9 := PySem.W.mg_none_of X G z9
  have m10 := PySem.W.mg_none_of X G z10
  have m11 := PySem.W.mg_none_of X G z11
  have m12 := PySem.W.mg_none_of X G z12
  have m13 := PySem.W.mg_none_of X G z13
  have m14 := PySem.W.mg_none_of X G z14
  have m15 := PySem.W.mg_none_of X G z15
  have UR : RedC K mg CR fRI := ⟨⟨p1CR, iRI, jRI, p2CR⟩, ⟨p3CR, p4CR, p5CR, p6CR⟩, q0CR, q1CR, q2CR, q3CR, q4CR, q5CR, q6CR, q7CR, PySem.W.mg_of X G aCR⟩
  have UT : CtC K mg CT fTI fTC fTN := ⟨⟨p1CT, iTI, jTI, p2CT⟩, ⟨p3CT, p4CT, p5CT, p6CT⟩, q0CT, q1CT, q2CT, ⟨iTC, jTC, kTC⟩, ⟨iTN, jTN, kTN⟩, PySem.W.mg_of X G aCT⟩
  have U : UnkC K mg C fU := ⟨⟨⟨_, _, _, _, _, _, _, _, _, _, _, _, _, _, _, hC, hv⟩, e1, e2, e3, e4⟩, i1, i2, i3, PySem.W.mg_of X G aC⟩
  have B : ErrK K mg C c1e c2e c3e c4e c5e c6e c7e := ⟨⟨x1, x2, e2, x4, x5, x6, x7, x8⟩, ⟨x1, x2, e2, x4⟩, i3, PySem.W.mg_of X G aC, PySem.W.mg_of X G b1c, PySem.W.mg_of X G b2c, PySem.W.mg_of X G b3c, PySem.W.mg_of X G b4c, PySem.W.mg_of X G b5c, PySem.W.mg_of X G b6c, PySem.W.mg_of X G b7c, y0, y1, y2, y3, y4, y6, y5⟩
  refine ⟨PySem.W.fnOf "law" "law" (defArgs sLaw) (defBody sLaw) (defScope sLaw) .none kV39 dc39 pm39 an39 cd39 ct39, [(cc, Pt)], fun s v => .of_eq rfl, fun p hp => ?_, fun base _ _ TB => ?_⟩
  · rw [List.mem_singleton.mp hp]
    refine ⟨tn, "_law_are_unknown", List.mem_singleton.mpr rfl, ?_⟩
    unfold PySem.W.tabIn
    rw [a38]
    dsimp only
    rw [l38]
    dsimp only
    rw [lc]
    dsimp only
    rw [vc]
  · have XFS : FnX l.prog w K mg base 2 f3 _ ["right", "day"] (quiet (prSpans futS)) := ok_fs (k := 0) F3 F1 b1 g1 m6 m7
    have XRS : FnX l.prog w K mg base 2 f4 _ ["right", "spans"] (quiet prRS) := ok_rs (k := 0) F4 F2 b2 g2 m2 m5 m7
    have XFR : FnX l.prog w K mg base 4 f5 _ ["rights", "day"] (quiet (prRows futR)) := ok_fr (k := 0) F5 F3 b3 g3 (FnX.mono XFS (by decide)) F4 b4 g4 (FnX.mono XRS (by decide)) m2 m1
    have XCO : FnX l.prog w K mg base 1 f6 _ ["rows"] (quiet prCO) := ok_co (k := 0) F6 m1
    have XLO : FnX l.prog w K mg base 1 f7 _ ["row", "cells"] (quiet prLO) := ok_lo (k := 0) F7
    have XPI : FnX l.prog w K mg base 1 f8 _ ["lines", "start", "column"] (quiet prPI) := ok_pi (k := 0) F8 m5 m4
    have XCl : FnX l.prog w K mg base 1 f9 _ ["lines", "at", "column", "divisor"] (quiet prCl) := ok_cl (k := 0) F9 m8 m9
    have XEl : FnX l.prog w K mg base 2 f10 _ ["matrix", "width"] (quiet prEl) := ok_el (k := 0) F10 F8 b8 g8 XPI F9 b9 g9 XCl m3 m5 m4
    have XRI : FnX l.prog w K mg base 3 fRI _ ["self", "matrix", "cells"] (quiet (prRI CR)) := ok_ri (k := 0) UR FRI F10 b10 g10 XEl m5 m4
    have XRd : FnX l.prog w K mg base 5 f11 _ ["rows", "cells"] (quiet (prRd CR)) := ok_rd (k := 0) F11 UR bRI XRI F7 b7 g7 (FnX.mono XLO (by decide))
    have XRk : FnX l.prog w K mg base 6 f12 _ ["rows"] (quiet prRk) := ok_rk (k := 0) F12 UR F11 b11 g11 XRd F6 b6 g6 (FnX.mono XCO (by decide)) m4
    have XCs : FnX l.prog w K mg base 7 f13 _ ["rights", "day"] (quiet prCs) := ok_cs (k := 0) F13 F12 b12 g12 XRk F5 b5 g5 (FnX.mono XFR (by decide))
    have XLC : FnX l.prog w K mg base 1 f14 _ ["rights"] (quiet prLC) := ok_lc (k := 0) F14 m6
    have XCV : FnX l.prog w K mg base 8 f15 _ ["rights", "first", "last"] (quiet prCV) := ok_cv (k := 0) F15 F13 b13 g13 XCs F14 b14 g14 (FnX.mono XLC (by decide)) m10 m5 m7
    have XKN : FnX l.prog w K mg base 3 f16 _ ["rights", "names"] (spCN C) := ok_cn (k := 0) F16 U FU bU
    have XTI : FnX l.prog w K mg base 1 fTI _ ["self", "rights", "day"] (quiet (prTI CT)) := ok_ti (k := 0) UT FTI
    have XTC : FnX l.prog w K mg base 7 fTC _ ["self", "names"] (quiet (prTC CT)) := ok_tc (k := 0) UT FTC F12 b12 g12 XRk F5 b5 g5 (FnX.mono XFR (by decide)) m1 m2
    have XTN : FnX l.prog w K mg base 8 fTN _ ["self", "order"] (quiet (prTN CT)) := ok_tn (k := 0) UT FTN bTC XTC m5 m4 m9 m2
    have XIO : FnX l.prog w K mg base 9 f17 _ ["rights", "order", "day"] (spIO C) := ok_iox (k := 0) UT F17 bTI (FnX.mono XTI (by decide)) bTN XTN F16 b16 g16 (FnX.mono XKN (by decide))
    have XWL : FnX l.prog w K mg base 1 f18 _ ["right", "last"] (quiet prWL) := ok_wl (k := 0) F18
    have XEP : FnX l.prog w K mg base 9 f19 _ ["rights", "name", "last", "today"] (spEP C) := ok_ep (k := 0) F19 F16 b16 g16 (FnX.mono XKN (by decide)) F18 b18 g18 (FnX.mono XWL (by decide)) F14 b14 g14 (FnX.mono XLC (by decide)) F15 b15 g15 XCV m2
    have GEP : FnG l.prog w K mg base 9 f19 _ ["rights", "name", "last", "today"] prEP := FnX.toG XEP ep_quiet
    have GIO : FnG l.prog w K mg base 9 f17 _ ["rights", "order", "day"] prIO := FnX.toG XIO io_quiet
    have GF : FnG l.prog w K mg base 1 f20 _ ["_law_script"] (prFeed K) := ok_feed (k := 0) F20 m3
    have GD : FnG l.prog w K mg base 1 f21 _ ["_law_feed_here", "_law_many"] prDraw := ok_draw (k := 0) F21 m4
    have GG : FnG l.prog w K mg base 1 f22 _ ["_law_one", "_law_other"] prGcd := ok_gcd (k := 0) F22 m11
    have GLl : FnG l.prog w K mg base 2 f23 _ ["_law_rest", "_law_base", "_law_cell"] prLCl := ok_lcl (k := 0) F23 F22 b22 g22 GG m1 m12 m3
    have GLR : FnG l.prog w K mg base 3 f24 _ ["_law_bases_here", "_law_line"] prLRd := ok_lrd (k := 0) F24 F23 b23 g23 GLl m13 m3
    have GLB : FnG l.prog w K mg base 4 f25 _ ["_law_lines"] prLB := ok_lb (k := 0) F25 F24 b24 g24 GLR m7
    have GLP : FnG l.prog w K mg base 1 f26 _ ["_law_claim_here", "_law_date", "_law_top"] prLP := ok_lp (k := 0) F26 m6 m7 m5 m2
    have GLF : FnG l.prog w K mg base 2 f27 _ ["_law_claims_here", "_law_date"] prLF := ok_lf (k := 0) F27 F26 b26 g26 GLP m6 m5 m1
    have GLC : FnG l.prog w K mg base 5 f28 _ ["_law_claims_here", "_law_date"] prLCo := ok_lco (k := 0) F28 F25 b25 g25 GLB F27 b27 g27 (GLF.mono (by decide)) m4
    have GCl : FnG l.prog w K mg base 2 f29 _ ["_law_feed_here", "_law_early"] prClm := ok_clm (k := 0) F29 F21 b21 g21 GD m2 m7
    have GCm : FnG l.prog w K mg base 3 f30 _ ["_law_feed_here", "_law_many"] prCms := ok_cms (k := 0) F30 F21 b21 g21 (GD.mono (by decide)) F29 b29 g29 GCl m2 m5 m4
    have GWi : FnG l.prog w K mg base 1 f31 _ ["_law_claims_here", "_law_labels"] prWi := ok_wi (k := 0) F31 m2
    have GSt : FnG l.prog w K mg base 2 f33 _ ["_law_feed_here", "_law_labels"] prSt := ok_st (k := 0) F33 F21 b21 g21 GD m3 m4 m2
    have GSo : FnG l.prog w K mg base 6 f34 _ ["_law_claims_here", "_law_queue", "_law_date"] prSo := ok_so (k := 0) F34 F28 b28 g28 GLC F31 b31 g31 (GWi.mono (by decide)) m5 m4 m2
    have GOv : FnG l.prog w K mg base 6 f35 _ ["_law_claims_here", "_law_begin", "_law_end"] prOv := ok_ov (k := 0) F35 F28 b28 g28 GLC m10 m5
    have GLg : FnG l.prog w K mg base 1 f36 _ ["_law_claims_here", "_law_label", "_law_end"] prLg := ok_lg (k := 0) F36 m2
    have GPr : FnG l.prog w K mg base 10 f37 _ ["_law_feed_here", "_law_claims_here"] prPr := ok_pr (k := 0) F37 F21 b21 g21 (GD.mono (by decide)) F35 b35 g35 (GOv.mono (by decide)) F36 b36 g36 (GLg.mono (by decide)) F19 g19 GEP m4 m7 m14
    have GUn : FnG l.prog w K mg base 12 f38 _ ["_law_claims_here", "_law_labels"] (prUn Pt) := ok_un (k := 0) l38 c38 (TB _ (List.mem_singleton.mpr rfl)) F32 b32 g32 (PySem.W.mg_of X G aA) ex B m15 F17 b17 g17 XIO F19 g19 XEP
    exact ok_law (k := 0) F39 F20 b20 g20 (GF.mono (by decide)) F21 b21 g21 (GD.mono (by decide)) F30 b30 g30 (GCm.mono (by decide)) F28 b28 g28 (GLC.mono (by decide)) F35 b35 g35 (GOv.mono (by decide)) F33 b33 g33 (GSt.mono (by decide)) F34 b34 g34 (GSo.mono (by decide)) F37 b37 g37 (GPr.mono (by decide)) F13 b13 g13 ((FnX.toG XCs fun _ _ _ h => h).mono (by decide)) F15 b15 g15 ((FnX.toG XCV fun _ _ _ h => h).mono (by decide)) F17 b17 g17 (GIO.mono (by decide)) k38f b38 g38 GUn m5 m2 m14 m7 m6
end P37
open PySem PySem.W PyProof.Rows
set_option maxHeartbeats 0 in
theorem PySem.Challenge.cw_askrights_k37_costs_told_holds : PySem.Challenge.rw_askrights_k37_costs_told.Holds := by
  w_on; o_law; k_head; (case hw => w_witness2)
  k_fill
  refine AskG.walkT (l := PySem.Challenge.rw_askrights_k37_costs_told) (n := 63) (k := 13) (x := "_law_script") (own := ["_law_are_unknown"]) (pr := P37.prLaw) rfl (by decide) rfl ⟨⟨rfl, by decide, by decide⟩, rfl⟩ (fun w h Y => PySem.W.km_in_of Y) ?R ?F (fun _ _ _ a ns _ hT hS => ⟨a, ns, rfl, hS, hT, fun _ => rfl⟩)
  case R =>
    intro y hy
    rw [List.mem_singleton.mp hy]
    rfl
  case F =>
    intro w mg fa h KX G hmg
    refine' P37.all_mk KX G hmg ?a1 ?l1 ?c1 ?k1f ?a2 ?l2 ?c2 ?k2f ?a3 ?l3 ?c3 ?k3f ?a4 ?l4 ?c4 ?k4f ?a5 ?l5 ?c5 ?k5f ?a6 ?l6 ?c6 ?k6f ?a7 ?l7 ?c7 ?k7f ?a8 ?l8 ?c8 ?k8f ?a9 ?l9 ?c9 ?k9f ?a10 ?l10 ?c10 ?k10f ?a11 ?l11 ?c11 ?k11f ?a12 ?l12 ?c12 ?k12f ?a13 ?l13 ?c13 ?k13f ?a14 ?l14 ?c14 ?k14f ?a15 ?l15 ?c15 ?k15f ?a16 ?l16 ?c16 ?k16f ?a17 ?l17 ?c17 ?k17f ?a18 ?l18 ?c18 ?k18f ?a19 ?l19 ?c19 ?k19f ?a20 ?l20 ?c20 ?k20f ?a21 ?l21 ?c21 ?k21f ?a22 ?l22 ?c22 ?k22f ?a23 ?l23 ?c23 ?k23f ?a24 ?l24 ?c24 ?k24f ?a25 ?l25 ?c25 ?k25f ?a26 ?l26 ?c26 ?k26f ?a27 ?l27 ?c27 ?k27f ?a28 ?l28 ?c28 ?k28f ?a29 ?l29 ?c29 ?k29f ?a30 ?l30 ?c30 ?k30f ?a31 ?l31 ?c31 ?k31f ?a32 ?l32 ?c32 ?k32f ?a33 ?l33 ?c33 ?k33f ?a34 ?l34 ?c34 ?k34f ?a35 ?l35 ?c35 ?k35f ?a36 ?l36 ?c36 ?k36f ?a37 ?l37 ?c37 ?k37f ?a38 ?l38 ?c38 ?k38f ?a39 ?l39 ?c39 ?k39f ?z1 ?z2 ?z3 ?z4 ?z5 ?z6 ?z7 ?z8 ?z9 ?z10 ?z11 ?z12 ?z13 ?z14 ?z15 ?w1 ?aCR ?aCT ?iRI ?jRI ?p1CR ?p2CR ?p3CR ?p4CR ?p5CR ?p6CR ?q0CR ?q1CR ?q2CR ?q3CR ?q4CR ?q5CR ?q6CR ?q7CR ?iTI ?jTI ?iTC ?jTC ?iTN ?jTN ?p1CT ?p2CT ?p3CT ?p4CT ?p5CT ?p6CT ?q0CT ?q1CT ?q2CT ?lRI ?cRI ?kRI ?lTI ?cTI ?kTI ?lTC ?cTC ?kTC ?lTN ?cTN ?kTN ?aC ?aA ?b1c ?b2c ?b3c ?b4c ?b5c ?b6c ?b7c ?i1 ?i2 ?i3 ?lU ?cU ?kU ?hC ?hv ?e1 ?e2 ?e3 ?e4 ?x1 ?x2 ?x4 ?x5 ?x6 ?x7 ?x8 ?y0 ?y1 ?y2 ?y3 ?y4 ?y6 ?y5 ?ex ?lc ?vc ?tn
    (case a1 => k_is)
    (case l1 => k_is)
    (case c1 => k_is)
    (case k1f => k_is)
    (case a2 => k_is)
    (case l2 => k_is)
    (case c2 => k_is)
    (case k2f => k_is)
    (case a3 => k_is)
    (case l3 => k_is)
    (case c3 => k_is)
    (case k3f => k_is)
    (case a4 => k_is)
    (case l4 => k_is)
    (case c4 => k_is)
    (case k4f => k_is)
    (case a5 => k_is)
    (case l5 => k_is)
    (case c5 => k_is)
    (case k5f => k_is)
    (case a6 => k_is)
    (case l6 => k_is)
    (case c6 => k_is)
    (case k6f => k_is)
    (case a7 => k_is)
    (case l7 => k_is)
    (case c7 => k_is)
    (case k7f => k_is)
    (case a8 => k_is)
    (case l8 => k_is)
    (case c8 => k_is)
    (case k8f => k_is)
    (case a9 => k_is)
    (case l9 => k_is)
    (case c9 => k_is)
    (case k9f => k_is)
    (case a10 => k_is)
    (case l10 => k_is)
    (case c10 => k_is)
    (case k10f => k_is)
    (case a11 => k_is)
    (case l11 => k_is)
    (case c11 => k_is)
    (case k11f => k_is)
    (case a12 => k_is)
    (case l12 => k_is)
    (case c12 => k_is)
    (case k12f => k_is)
    (case a13 => k_is)
    (case l13 => k_is)
    (case c13 => k_is)
    (case k13f => k_is)
    (case a14 => k_is)
    (case l14 => k_is)
    (case c14 => k_is)
    (case k14f => k_is)
    (case a15 => k_is)
    (case l15 => k_is)
    (case c15 => k_is)
    (case k15f => k_is)
    (case a16 => k_is)
    (case l16 => k_is)
    (case c16 => k_is)
    (case k16f => k_is)
    (case a17 => k_is)
    (case l17 => k_is)
    (case c17 => k_is)
    (case k17f => k_is)
    (case a18 => k_is)
    (case l18 => k_is)
    (case c18 => k_is)
    (case k18f => k_is)
    (case a19 => k_is)
    (case l19 => k_is)
    (case c19 => k_is)
    (case k19f => k_is)
    (case a20 => k_is)
    (case l20 => k_is)
    (case c20 => k_is)
    (case k20f => k_is)
    (case a21 => k_is)
    (case l21 => k_is)
    (case c21 => k_is)
    (case k21f => k_is)
    (case a22 => k_is)
    (case l22 => k_is)
    (case c22 => k_is)
    (case k22f => k_is)
    (case a23 => k_is)
    (case l23 => k_is)
    (case c23 => k_is)
    (case k23f => k_is)
    (case a24 => k_is)
    (case l24 => k_is)
    (case c24 => k_is)
    (case k24f => k_is)
    (case a25 => k_is)
    (case l25 => k_is)
    (case c25 => k_is)
    (case k25f => k_is)
    (case a26 => k_is)
    (case l26 => k_is)
    (case c26 => k_is)
    (case k26f => k_is)
    (case a27 => k_is)
    (case l27 => k_is)
    (case c27 => k_is)
    (case k27f => k_is)
    (case a28 => k_is)
    (case l28 => k_is)
    (case c28 => k_is)
    (case k28f => k_is)
    (case a29 => k_is)
    (case l29 => k_is)
    (case c29 => k_is)
    (case k29f => k_is)
    (case a30 => k_is)
    (case l30 => k_is)
    (case c30 => k_is)
    (case k30f => k_is)
    (case a31 => k_is)
    (case l31 => k_is)
    (case c31 => k_is)
    (case k31f => k_is)
    (case a32 => k_is)
    (case l32 => k_is)
    (case c32 => k_is)
    (case k32f => k_is)
    (case a33 => k_is)
    (case l33 => k_is)
    (case c33 => k_is)
    (case k33f => k_is)
    (case a34 => k_is)
    (case l34 => k_is)
    (case c34 => k_is)
    (case k34f => k_is)
    (case a35 => k_is)
    (case l35 => k_is)
    (case c35 => k_is)
    (case k35f => k_is)
    (case a36 => k_is)
    (case l36 => k_is)
    (case c36 => k_is)
    (case k36f => k_is)
    (case a37 => k_is)
    (case l37 => k_is)
    (case c37 => k_is)
    (case k37f => k_is)
    (case a38 => k_is)
    (case l38 => k_is)
    (case c38 => k_is)
    (case k38f => k_is)
    (case a39 => k_is)
    (case l39 => k_is)
    (case c39 => k_is)
    (case k39f => k_is)
    (case z1 => k_is)
    (case z2 => k_is)
    (case z3 => k_is)
    (case z4 => k_is)
    (case z5 => k_is)
    (case z6 => k_is)
    (case z7 => k_is)
    (case z8 => k_is)
    (case z9 => k_is)
    (case z10 => k_is)
    (case z11 => k_is)
    (case z12 => k_is)
    (case z13 => k_is)
    (case z14 => k_is)
    (case z15 => k_is)
    (case w1 => k_is)
    (case aCR => k_is)
    (case aCT => k_is)
    (case iRI => k_is)
    (case jRI => k_is)
    (case p1CR => k_is)
    (case p2CR => k_is)
    (case p3CR => k_is)
    (case p4CR => k_is)
    (case p5CR => k_is)
    (case p6CR => k_is)
    (case q0CR => k_is)
    (case q1CR => k_is)
    (case q2CR => k_is)
    (case q3CR => k_is)
    (case q4CR => k_is)
    (case q5CR => k_is)
    (case q6CR => k_is)
    (case q7CR => k_is)
    (case iTI => k_is)
    (case jTI => k_is)
    (case iTC => k_is)
    (case jTC => k_is)
    (case iTN => k_is)
    (case jTN => k_is)
    (case p1CT => k_is)
    (case p2CT => k_is)
    (case p3CT => k_is)
    (case p4CT => k_is)
    (case p5CT => k_is)
    (case p6CT => k_is)
    (case q0CT => k_is)
    (case q1CT => k_is)
    (case q2CT => k_is)
    (case lRI => k_is)
    (case cRI => k_is)
    (case kRI => k_is)
    (case lTI => k_is)
    (case cTI => k_is)
    (case kTI => k_is)
    (case lTC => k_is)
    (case cTC => k_is)
    (case kTC => k_is)
    (case lTN => k_is)
    (case cTN => k_is)
    (case kTN => k_is)
    (case aC => k_is)
    (case aA => k_is)
    (case b1c => k_is)
    (case b2c => k_is)
    (case b3c => k_is)
    (case b4c => k_is)
    (case b5c => k_is)
    (case b6c => k_is)
    (case b7c => k_is)
    (case i1 => k_is)
    (case i2 => k_is)
    (case i3 => k_is)
    (case lU => k_is)
    (case cU => k_is)
    (case kU => k_is)
    (case hC => k_is)
    (case hv => rfl)
    (case e1 => k_is)
    (case e2 => k_is)
    (case e3 => k_is)
    (case e4 => k_is)
    (case x1 => k_is)
    (case x2 => k_is)
    (case x4 => k_is)
    (case x5 => k_is)
    (case x6 => k_is)
    (case x7 => k_is)
    (case x8 => k_is)
    (case y0 => kit_is)
    (case y1 => kit_is)
    (case y2 => kit_is)
    (case y3 => kit_is)
    (case y4 => kit_is)
    (case y6 => kit_is)
    (case y5 => kit_is)
    (case ex => kts_exm)
    (case lc => k_is)
    (case vc => rfl)
    (case tn => first | k_is | rfl)
