import PyProof.Rows.All
import Wide.All
import OpenK.AllK
import Wide.FinOn
import HandS.Words
import HandS.List
import PyProof.Rows.ReprR
import HandS.SortRule
import HandS.Conv
import KE.KDictPairs
import HandS.More
import HandS.TupLe
import HandS.DictComp
import HandS.Defaults
import PyProof.ReprLen
import PyProof.FitsInt
import HandS.Comp
import HandS.ForMost
import HandS.IsInst
import HandS.Walk
import HandS.Style
import HandS.TupAny
import PyProof.Rows.IntBool
import PyProof.Rows.EqBoolInt
import PyProof.CallStr
import HandS.Text
import HandS.TupMul
import HandS.NoneIn
import HandS.TupSets
import KE.KeyNested
import HandS.SortOrd
import HandS.SetBool
import KE.GoesSet
import PyProof.NeKinds
import HandS.Ends
import PySem.Challenge.RW_askrights_k20_rows_needed_told
set_option Elab.async false
set_option linter.all false
set_option maxRecDepth 100000
set_option maxHeartbeats 8000000
/-! Defs that are only called while nothing is being shown: calls whose surroundings hold no guard, so that repr gives the plain text. -/
namespace AskG
open PySem PySem.Spec PyProof.Rows L2

/-- what a def promises, nothing being raised -/
abbrev Pr := List V → Hp → VK → Prop

/-- room for k calls, and no guard around -/
structure RG (k : Nat) (A : Around) : Prop where
  room : Room k A
  still : A.guards = some []
theorem RG.mono {j k : Nat} {A : Around} (r : RG k A) (h : j ≤ k) : RG j A :=
  ⟨r.room.mono h, r.still⟩
theorem RG.deeper {k : Nat} {A : Around} (r : RG (k + 1) A) (env : Env) : RG k (A.deeper env) :=
  ⟨r.room.deeper env, r.still⟩

section
variable (P : Program) (w : World) (K : PySem.W.Frag) (mg : Str → Option Value) (base : Heap)
structure FnG (k : Nat) (f : Addr) (fd : FuncData) (ps : List Str) (pr : Pr) : Prop where
  many : ∀ vs H Q, pr vs H Q → vs.length = ps.length
  goes : ∀ (A : Around) (outer : List Env) (s : Shared) (H : Hp) (args : Args)
    (us : List Value) (vs : List V) (Q : VK), RG k A → Env0 P w K mg base A outer s H →
    BindsTo s fd args (ps.zip us) → Vals vs us → pr vs H Q →
    codeAny (model P w) A (.call (.ref f) args) (CR CX0 outer P w H s Q E0) s
end

section
variable {P : Program} {w : World} {K : PySem.W.Frag} {mg : Str → Option Value} {base : Heap}
theorem FnG.mono {j k : Nat} {f : Addr} {fd : FuncData} {ps : List Str} {pr : Pr}
    (F : FnG P w K mg base j f fd ps pr) (h : j ≤ k) : FnG P w K mg base k f fd ps pr :=
  ⟨F.many, fun A outer s H args us vs Q hr => F.goes A outer s H args us vs Q (hr.mono h)⟩

/-- a def of the text, by its body -/
theorem fnG_of {k : Nat} {f : Addr} {name qual : Str} {params : Arguments} {body : List Stmt}
    {scope : Scope} {dV kV doc pm cdv ct oc : Value} {an od : Option Addr}
    {osl : Array (Option Value)} {N ps : List Str} {pr : Pr}
    (at_f : K.lookup f = some ⟨oc, od, .func (PySem.W.fnOf name qual params body scope dV kV doc pm an cdv ct), osl⟩)
    (code : PySem.W.codeIn K cdv qual = true) (S : FnScope N ps scope)
    (many : ∀ vs H Q, pr vs H Q → vs.length = ps.length)
    (body_ok : ∀ (A : Around) (outer : List Env) (s : Shared) (H : Hp) (vs : List V) (Q : VK),
      RG k (A.deeper (envOfC qual scope s.heap.objs.size f cdv)) → pr vs H Q →
      ∃ t, PSs (cxOf CX0 P w K mg base N qual scope f cdv A outer s H E0).nox body t ∧
        t { nx := fun _ H' => Q .non H', rt := Q } (start N vs) H) :
    FnG P w K mg base (k + 1) f
      (PySem.W.fnOf name qual params body scope dV kV doc pm an cdv ct) ps pr := by
  constructor
  · exact many
  intro A outer s H args us vs Q hr e0 hb hv hp
  have hl := many _ _ _ hp
  have inK : K.In s.heap := e0.mod.kin.keeps fun b o q => (e0.bs b o q).1
  have nl : s.heap.NoLimit := e0.mod.nolimit.keeps fun b o q => (e0.bs b o q).1
  have kinds : ∀ y ∈ ps.zip us, scope.names.lookup y.1 = some .local ∨
      (scope.names.lookup y.1 = some .cell ∧
        ((cellsFrom (s.heap.objs.size + 1) scope.names []).lookup y.1).isSome = true) := by
    rintro ⟨n, v⟩ hy
    cases S.par n (List.of_mem_zip hy).1 with
    | inl q => exact Or.inl q
    | inr q => exact Or.inr ⟨q, PySem.W.cellsFrom_some _ _ _ (Or.inl q)⟩
  refine codeAny_call_function hr.room.depth (inK _ _ at_f) rfl S.co S.gen rfl
    (PySem.W.codeRec_of inK code) (hb _ _ _ _ ?_)
  refine wpAny_newFunctionEnv_cells S.kind kinds fun env he s1 x => ?_
  subst he
  refine ⟨nl.keeps x.toInCall.keep, codeAny_func ?_⟩
  obtain ⟨t, ht, hq⟩ := body_ok A outer s H vs Q (hr.deeper _) hp
  have I : Inv (cxOf CX0 P w K mg base N qual scope f cdv A outer s H E0) [] (start N vs) H s1 :=
    inv_start S hr.room.hd e0 hl hv x
  refine wpAny_mono (ht.nox.run [] s1 (start N vs) H _ I hq) (fun fl s' hs => ?_)
    fun e s' hs => hs
  cases fl with
  | ret u =>
    obtain ⟨v, σ', H', J, rv, q⟩ := hs
    exact ⟨v, H', J.os, J.bare, J.base, J.hok, rv, q⟩
  | next =>
    obtain ⟨σ', H', J, q⟩ := hs
    exact ⟨V.non, H', J.os, J.bare, J.base, J.hok, rfl, q⟩
  | brk => exact hs.elim fun _ z => z.elim fun _ z => False.elim z.2
  | cont => exact hs.elim fun _ z => z.elim fun _ z => False.elim z.2

theorem okG {x qual : Str} {st : Stmt} {f : Addr} {fd : FuncData} {N ps : List Str} {k : Nat} {pr : Pr}
    (F : Fun K x qual st f fd) (S : FnScope N ps (defScope st))
    (many : ∀ vs H Q, pr vs H Q → vs.length = ps.length)
    (body_ok : ∀ (cdv : Value) (A : Around) (outer : List Env) (s : Shared) (H : Hp) (vs : List V) (Q : VK),
      RG k (A.deeper (envOfC qual (defScope st) s.heap.objs.size f cdv)) → pr vs H Q →
      ∃ t, PSs (cxOf CX0 P w K mg base N qual (defScope st) f cdv A outer s H E0).nox (defBody st) t ∧
        t { nx := fun _ H' => Q .non H', rt := Q } (start N vs) H) :
    FnG P w K mg base (k + 1) f fd ps pr := by
  obtain ⟨oc, od, kV, doc, pm, an, cdv, ct, osl, rfl, lk, hcd⟩ := F.ex
  exact fnG_of lk hcd S many fun A outer s H vs Q hr hp => body_ok cdv A outer s H vs Q hr hp
end

/-! ### calls -/
/-- f(..): the written arguments, then the defaults -/
def tCallG (pr : Pr) (dvs : List V) (t : TA) : TE := fun σ H Q => t σ H fun vs H1 => pr (vs ++ dvs) H1 Q
/-- f(.., k = ..) -/
def tCallKG (pr : Pr) (gV : List V → List V → List V) (t tk : TA) : TE := fun σ H Q =>
  t σ H fun vs H1 => tk σ H1 fun zs H2 => pr (gV vs zs) H2 Q

section
variable {X : Cx} {k : Nat} {f : Addr} {fd : FuncData} {ps : List Str} {pr : Pr}
theorem goG {pins : List (Addr × Obj)} {σ : L2.St} {H : Hp} {s : Shared} {Q : VK} {args : Args}
    {us : List Value} {vs : List V} (F : FnG X.prog X.w X.K X.mg X.base k f fd ps pr)
    (hr : RG k X.A) (I : Inv X pins σ H s) (hb : BindsTo s fd args (ps.zip us)) (r : Vals vs us)
    (h : pr vs H Q) : wpAny (model X.prog X.w) X.A (call (.ref f) args.pos args.kw) (EP X pins σ Q) X.xe s := by
  refine wpAny_call (codeAny_mono (F.goes X.A X.stack s H args us vs Q hr I.env0 hb r h)
    fun r s' hq => ?_)
  match r, hq with
  | .error e, hq => exact hq.elim
  | .ok (.ret u), hq => exact I.after hq
  | .ok .next, hq => exact hq.elim
  | .ok .brk, hq => exact hq.elim
  | .ok .cont, hq => exact hq.elim
end
section
variable {X : Cx} {k : Nat} {f : Addr} {fd : FuncData} {ps : List Str} {pr : Pr} {dvs : List V} {ds : List Value}
  {x : Str} {p pos : Pos} {e : Expr} {es : List Expr} {t : TA}
theorem goP {pins : List (Addr × Obj)} {σ : L2.St} {H : Hp} {s : Shared} {Q : VK} {us : List Value} {vs : List V}
    (F : FnG X.prog X.w X.K X.mg X.base k f fd ps pr) (hr : RG k X.A) (hb : Binds X.K fd ps ds) (hd : Vals dvs ds)
    (I : Inv X pins σ H s) (r : Vals vs us) (h : pr (vs ++ dvs) H Q) :
    wpAny (model X.prog X.w) X.A (call (.ref f) us) (EP X pins σ Q) X.xe s := by
  have r2 : Vals (vs ++ dvs) (us ++ ds) := r.append hd
  have hl : (us ++ ds).length = ps.length := r2.length.symm.trans (F.many _ _ _ h)
  exact goG (args := ⟨us, []⟩) F hr I (hb s us I.kIn hl) r2 h

/-- f(e, ..) -/
theorem pe_g (F : FnG X.prog X.w X.K X.mg X.base k f fd ps pr) (hr : RG k X.A) (hg : Gl X x)
    (hm : X.mg x = some (.ref f)) (hk : PySem.W.keepIn X.K (.ref f) = true) (hb : Binds X.K fd ps ds) (hd : Vals dvs ds)
    (ha : PA X (e :: es) t) (hdb : (x == ("__debug__" : Str)) = false := by decide)
    (he : starEach (e :: es) X.env = (false, eval e X.env) :: starEach es X.env := by rfl)
    (hpl : (backTo pos (starEach es X.env)).any (·.1) = false := by rfl) :
    PE X (.Call (.Name x p) (e :: es) [] pos) (tCallG pr dvs t) := by
  constructor
  intro pins s σ H Q I h
  refine wpAny_Call_Name_kw (ld_glob I hg hm ?_ hdb)
  refine PySem.W.callWith_K (h₀ := X.base) I.ok.mod.kin hk (thn (ha.run pos pins s σ H _ I h) ?_) he hpl
  rintro us s1 ⟨vs, H1, I1, r, q⟩
  exact ⟨I1.kIn, goP F hr hb hd I1 r q⟩
/-- f() -/
theorem pe_g0 (F : FnG X.prog X.w X.K X.mg X.base k f fd ps pr) (hr : RG k X.A) (hg : Gl X x)
    (hm : X.mg x = some (.ref f)) (hk : PySem.W.keepIn X.K (.ref f) = true) (hb : Binds X.K fd ps ds) (hd : Vals dvs ds)
    (hdb : (x == ("__debug__" : Str)) = false := by decide) : PE X (.Call (.Name x p) [] [] pos) (tCallG pr dvs tNil) := by
  constructor
  intro pins s σ H Q I h
  refine wpAny_Call_Name_kw (ld_glob I hg hm ?_ hdb)
  exact PySem.W.callWith_K0 I.kIn hk (goP (us := []) F hr hb hd I .nil h)
variable {ks : List Str} {g : List Value → List Value → List Value} {gV : List V → List V → List V} {kws : List Keyword} {tk : TA}
theorem goK {pins : List (Addr × Obj)} {σ : L2.St} {H : Hp} {s : Shared} {Q : VK} {us ws : List Value} {vs zs : List V}
    (F : FnG X.prog X.w X.K X.mg X.base k f fd ps pr) (hr : RG k X.A) (hb : KBinds X.K fd ps ks g gV)
    (I : Inv X pins σ H s) (r : Vals vs us) (rz : Vals zs ws) (h : pr (gV vs zs) H Q) :
    wpAny (model X.prog X.w) X.A (call (.ref f) us (ks.zip ws)) (EP X pins σ Q) X.xe s := by
  have r2 := hb.rel r rz
  have hl : (g us ws).length = ps.length := r2.length.symm.trans (F.many _ _ _ h)
  exact goG (args := ⟨us, ks.zip ws⟩) F hr I (hb.to s us ws I.kIn hl) r2 h
/-- f(e, .., k = v, ..) -/
theorem pe_gk (F : FnG X.prog X.w X.K X.mg X.base k f fd ps pr) (hr : RG k X.A) (hg : Gl X x)
    (hm : X.mg x = some (.ref f)) (hk : PySem.W.keepIn X.K (.ref f) = true) (hb : KBinds X.K fd ps ks g gV)
    (ha : PA X (e :: es) t) (hkw : PK X kws tk)
    (hall : (backToKw pos (keywordEach kws X.env)).all (·.1.isSome) = true := by rfl)
    (hks : (backToKw pos (keywordEach kws X.env)).filterMap (·.1) = ks := by rfl)
    (hdb : (x == ("__debug__" : Str)) = false := by decide)
    (he : starEach (e :: es) X.env = (false, eval e X.env) :: starEach es X.env := by rfl)
    (hpl : ((backTo pos (starEach (e :: es) X.env)).any (·.1) || (backToKw pos (keywordEach kws X.env)).any (·.1.isNone)) = false := by rfl) :
    PE X (.Call (.Name x p) (e :: es) kws pos) (tCallKG pr gV t tk) := by
  constructor
  intro pins s σ H Q I h
  refine wpAny_Call_Name_kw (ld_glob I hg hm ?_ hdb)
  refine PySem.W.callWith_KW (h₀ := X.base) I.ok.mod.kin hk hall (thn (ha.run pos pins s σ H _ I h) ?_) hpl he
  rintro us s1 ⟨vs, H1, I1, r, q⟩
  refine thn (hkw.run pos pins s1 σ H1 _ I1 q) ?_
  rintro ws s2 ⟨zs, H2, I2, rz, q2⟩
  refine ⟨I2.kIn, ?_⟩
  rw [hks]
  exact goK F hr hb I2 r rz q2
end

/-! ### repr of data -/
section
variable {X : Cx}
def rRepr (K : PySem.W.Frag) : List V → Hp → VK → Prop := fun xs H Q => ∃ (a : Addr) (d : PyData), xs = [.ref a] ∧
  Dp K H (.ref a) d ∧ d.showable = true ∧ d.hasDict = false ∧ d.depth ≤ 60 ∧ d.shown.length ≤ sizeLine ∧ Q (.str d.shown) H
theorem call_repr {k : Nat} (hr : RG k X.A) : CallR X (.builtin "repr") (rRepr X.K) := by
  intro pins s σ H xs us Q I r q
  obtain ⟨a, d, ex, hD, hs, hnd, hdp, hsz, q⟩ := q
  subst ex
  obtain ⟨u, eu, rx⟩ := vals1 r
  subst eu
  cases rx
  obtain ⟨as, rd⟩ := Dp.reads I d (.ref a) (.ref a) hD rfl
  have hu := hr.room.units
  exact repr_of_reads' rd hs (PyData.noDict_hsm hnd) hr.still (by omega) (fun _ _ z => z)
    (fun h' u tk hk => ⟨.str d.shown, H, I.kept hk, ⟨u, rfl⟩, q⟩) hsz
end
end AskG
/-! Cells (a text, an int) as keys of dicts: their order, sorted(d). -/
namespace AskG
open PySem PySem.Spec PyProof.Rows L2

abbrev Cell := Str × Int
/-- a cell as a key -/
abbrev ck (c : Cell) : List Key := [Sum.inr c.1, Sum.inl c.2]
/-- the order of cells -/
def ltC (p q : Cell) : Bool := if p.1 = q.1 then decide (p.2 < q.2) else decide (p.1.cps.toList < q.1.cps.toList)

theorem str_ext {x y : Str} (h : x.cps.toList = y.cps.toList) : x = y := by
  obtain ⟨⟨a⟩⟩ := x
  obtain ⟨⟨b⟩⟩ := y
  have h : a = b := h
  rw [h]
theorem ltC_iff {p q : Cell} : ltC p q = true ↔ (p.1.cps.toList < q.1.cps.toList) ∨ (p.1 = q.1 ∧ p.2 < q.2) := by
  unfold ltC
  by_cases e : p.1 = q.1
  · rw [if_pos e, decide_eq_true_eq]
    constructor
    · intro h
      exact Or.inr ⟨e, h⟩
    · rintro (h | h)
      · rw [e] at h
        exact absurd h (List.lt_irrefl _)
      · exact h.2
  · rw [if_neg e, decide_eq_true_eq]
    constructor
    · intro h
      exact Or.inl h
    · rintro (h | h)
      · exact h
      · exact absurd h.1 e
theorem codes_tri (x y : List Nat) : x < y ∨ x = y ∨ y < x := by
  by_cases h1 : x < y
  · exact Or.inl h1
  · by_cases h2 : y < x
    · exact Or.inr (Or.inr h2)
    · exact Or.inr (Or.inl (List.le_antisymm (List.not_lt.mp h2) (List.not_lt.mp h1)))
theorem ltC_tri (p q : Cell) : ltC p q = true ∨ p = q ∨ ltC q p = true := by
  rcases codes_tri p.1.cps.toList q.1.cps.toList with h | h | h
  · exact Or.inl (ltC_iff.mpr (Or.inl h))
  · have e := str_ext h
    rcases Int.lt_trichotomy p.2 q.2 with g | g | g
    · exact Or.inl (ltC_iff.mpr (Or.inr ⟨e, g⟩))
    · exact Or.inr (Or.inl (Prod.ext e g))
    · exact Or.inr (Or.inr (ltC_iff.mpr (Or.inr ⟨e.symm, g⟩)))
  · exact Or.inr (Or.inr (ltC_iff.mpr (Or.inl h)))
theorem ltC_trans {p q r : Cell} (h1 : ltC p q = true) (h2 : ltC q r = true) : ltC p r = true := by
  refine ltC_iff.mpr ?_
  rcases ltC_iff.mp h1 with a | ⟨a, a'⟩ <;> rcases ltC_iff.mp h2 with b | ⟨b, b'⟩
  · exact Or.inl (List.lt_trans a b)
  · exact Or.inl (b ▸ a)
  · exact Or.inl (a ▸ b)
  · exact Or.inr ⟨a.trans b, Int.lt_trans a' b'⟩
theorem ltC_irr (p : Cell) : ltC p p = false := by
  cases h : ltC p p with
  | false => rfl
  | true =>
    rcases ltC_iff.mp h with a | ⟨_, a⟩
    · exact absurd a (List.lt_irrefl _)
    · exact absurd a (Int.lt_irrefl _)
theorem ltC_asym {p q : Cell} (h : ltC p q = true) : ltC q p = false := by
  cases g : ltC q p with
  | false => rfl
  | true =>
    have := ltC_trans h g
    rw [ltC_irr] at this
    cases this
theorem swo_cells {α : Type} (k : α → Cell) : SrtO.Swo fun v u => ltC (k v) (k u) := by
  refine ⟨fun x y h => ltC_asym h, fun x y z h1 h2 => ?_⟩
  cases g : ltC (k z) (k x) with
  | false => rfl
  | true =>
    rcases ltC_tri (k x) (k y) with a | a | a
    · have := ltC_trans g a
      rw [h2] at this
      cases this
    · rw [← a, g] at h2
      cases h2
    · rw [h1] at a
      cases a

/-- the value is a tuple of a text and an int -/
def IsCl (h : Heap) (v : Value) (c : Cell) : Prop := ∃ (a : Addr) (t u : Tok), v = .ref a ∧ IsTup h a #[.str c.1 t, .int c.2 u]
section
variable {prog : Program} {w : World} {A : Around} {E : Value → Shared → Prop} {s : Shared}
theorem cell_cmp {vs : List Value} {k : Value → Cell} (hp : ∀ v ∈ vs, IsCl s.heap v (k v)) :
    SrtO.Cmp prog w A s (tuples' true) (fun p => p.1 ∈ vs) (SrtO.lt2 fun v u => ltC (k v) (k u)) := by
  intro p q hm hm'
  have h1 := hp _ hm
  have h2 := hp _ hm'
  show wpAny (model prog w) A (keyLt' (tuples' true) p.1 q.1) (fun r s' => s' = s ∧ r = ltC (k p.1) (k q.1)) (fun _ _ => False) s
  generalize k p.1 = c at h1 ⊢
  generalize k q.1 = d at h2 ⊢
  obtain ⟨a, t, u, e, o, ho, hc, n, hd⟩ := h1
  obtain ⟨a', t', u', e', o', ho', hc', n', hd'⟩ := h2
  rw [e, e']
  refine PySem.W.kat_lt ho hd ho' hd' ?_
  show PySem.W.KatLex prog w A true (decide (2 < 2)) _ [(.str c.1 t, .str d.1 t'), (.int c.2 u, .int d.2 u')] 0 s
  refine PySem.W.kat_cons (SeqAt.EqAt.str_str c.1 t d.1 t' prog w _ _ ?_)
  refine PySem.W.kat_go (fun e1 => ?_) (fun e1 => ?_)
  · have ex : c.1 = d.1 := by simpa using e1
    refine PySem.W.kat_yes (PySem.W.kat_cons (SeqAt.EqAt.int_int c.2 u d.2 u' prog w _ _ ?_))
    refine PySem.W.kat_go (fun e2 => ?_) (fun e2 => ?_)
    · have ey : c.2 = d.2 := by simpa using e2
      have e3 : ltC c d = false := by
        rw [show c = d from Prod.ext ex ey]
        exact ltC_irr d
      exact PySem.W.kat_yes (PySem.W.kat_nil ⟨rfl, e3.symm⟩)
    · have e3 : ltC c d = decide (c.2 < d.2) := if_pos ex
      refine PySem.W.kat_no (PySem.W.kat_one _ _ (PyProof.Rows.lt_int ?_))
      exact (show s = s ∧ decide (c.2 < d.2) = ltC c d from ⟨rfl, e3.symm⟩)
  · have ex : ¬ c.1 = d.1 := by simpa using e1
    have e3 : ltC c d = decide (c.1.cps.toList < d.1.cps.toList) := if_neg ex
    exact PySem.W.kat_no (oneLt_str ⟨rfl, e3.symm⟩)
theorem cell_firsts {h : Heap} : ∀ {vs : List Value}, (∀ v ∈ vs, ∃ c, IsCl h v c) →
    ∃ fs : List Value, PySem.W.KatTups h vs fs ∧ fs.length = vs.length ∧ ∀ f ∈ fs, ∃ x t, f = Value.str x t
  | [], _ => ⟨[], .nil, rfl, fun f hf => absurd hf (by simp)⟩
  | v :: vs, x => by
    obtain ⟨fs, k, hl, hi⟩ := cell_firsts (vs := vs) fun u hu => x u (List.mem_cons_of_mem _ hu)
    obtain ⟨c, a, t, u, rfl, o, ho, hc, n, hd⟩ := x v List.mem_cons_self
    refine ⟨.str c.1 t :: fs, .cons ho hc hd rfl k, congrArg (· + 1) hl, fun f hf => ?_⟩
    rcases List.mem_cons.mp hf with rfl | hf
    · exact ⟨_, _, rfl⟩
    · exact hi f hf
theorem IsCl.keeps {h h' : Heap} {v : Value} {c : Cell} (x : IsCl h v c) (k : ∀ b o, h.get? b = some o → o.cls = .type "tuple" → h'.get? b = some o) : IsCl h' v c := by
  obtain ⟨a, t, u, e, o, ho, hc, r⟩ := x
  exact ⟨a, t, u, e, o, k _ _ ho hc, hc, r⟩
theorem cells_sortable {a : Addr} {vs : List Value} {k : Value → Cell} (h0 : 0 < vs.length) (hp : ∀ v ∈ vs, IsCl s.heap v (k v))
    (ha : ∀ o, s.heap.get? a = some o → o.cls ≠ .type "tuple") : SrtO.SortableO prog w A s a vs fun v u => ltC (k v) (k u) := by
  intro h' keep
  have hp' : ∀ v ∈ vs, IsCl h' v (k v) := fun v hm => (hp v hm).keeps fun b o e c => keep b o (fun z => by subst z; exact ha o e c) e
  obtain ⟨fs, h1, h2, h3⟩ := cell_firsts fun v hm => ⟨_, hp' v hm⟩
  refine ⟨tuples' true, fun Q E hq => ?_, cell_cmp hp'⟩
  refine PySem.W.kat_kind (T := .type "str") h1 (by omega) (fun f hm => ?_) (by rfl) ?_
  · obtain ⟨x, t, rfl⟩ := h3 f hm
    exact PySem.W.Looks.now
  · have e : (Value.type "str" != Value.type "tuple") = true := by first | decide +kernel | rfl | decide
    rw [e]
    exact hq
end
end AskG
/-! sorted(d), dict(pairs) of dicts whose keys are cells. -/
namespace AskG
open PySem PySem.Spec PyProof.Rows L2

/-- a tracked tuple of a text and an int -/
def CellAt (H : Hp) (b : Addr) (c : Cell) : Prop := H b = some (.tup [.str c.1, .int c.2])
/-- the cell that stands behind a value -/
def cellOf (H : Hp) : Value → Cell
  | .ref a => match H a with
    | some (.tup [.str x, .int y]) => (x, y)
    | _ => (⟨#[]⟩, 0)
  | _ => (⟨#[]⟩, 0)
theorem cellOf_at {H : Hp} {b : Addr} {c : Cell} (h : CellAt H b c) : cellOf H (.ref b) = c := by
  unfold CellAt at h
  show (match H b with
    | some (.tup [.str x, .int y]) => (x, y)
    | _ => ((⟨#[]⟩, 0) : Cell)) = c
  rw [h]
theorem isCl_of {P : Program} {w : World} {H : Hp} {h : Heap} {b : Addr} {c : Cell} (ok : HOk P w H h) (e : CellAt H b c) : IsCl h (.ref b) c := by
  obtain ⟨_, its, r, ht⟩ := (show ObjOk P w H h b (.tup [.str c.1, .int c.2]) from ok b _ e)
  obtain ⟨x, y, ei, rx, ry⟩ := vals2 r
  obtain ⟨t, rfl⟩ := rx
  obtain ⟨u, rfl⟩ := ry
  subst ei
  exact ⟨b, t, u, rfl, ht⟩
theorem ck_inj {c d : Cell} (h : ck c = ck d) : c = d := by
  injection h with h1 h2
  injection h1 with h1
  injection h2 with h2 _
  injection h2 with h2
  exact Prod.ext h1 h2

/-- sorted(d), d a dict whose keys are the cells cs -/
def rSortT : List V → Hp → VK → Prop := fun xs H Q => ∃ (d : Addr) (kvs : List (List Key × V)) (cs : List Cell),
  xs = [.ref d] ∧ Rd H d (.dT kvs) ∧ kvs.map (·.1) = cs.map ck ∧
  ∀ (ys : List Cell) (bs : List Addr) (p : Addr), ys.Perm cs → ys.Pairwise (fun a b => ltC a b = true) →
    Paired (CellAt H) bs ys → H p = none → Q (.ref p) (upd H p (.lst (bs.map V.ref)))
theorem paired_of {α β : Type} {R : α → β → Prop} (f : α → β) : ∀ {l : List α}, (∀ x ∈ l, R x (f x)) → Paired R l (l.map f)
  | [], _ => .nil
  | x :: l, h => .cons (h x List.mem_cons_self) (paired_of f fun y hy => h y (List.mem_cons_of_mem _ hy))
theorem strict_of : ∀ {ys : List Cell}, ys.Pairwise (fun a b => ltC b a = false) → ys.Nodup → ys.Pairwise (fun a b => ltC a b = true) := by
  intro ys h n
  refine (h.and n).imp ?_
  rintro a b ⟨h1, h2⟩
  rcases ltC_tri a b with g | g | g
  · exact g
  · exact absurd g h2
  · rw [h1] at g
    cases g
section
variable {X : Cx}
theorem cr_sortT (hc : X.calm = true) : CallR X (.builtin "sorted") rSortT := by
  intro pins s σ H xs us Q I r q
  obtain ⟨d, kvs, cs, ex, hd, hks, q⟩ := q
  subst ex
  obtain ⟨u, eu, rx⟩ := vals1 r
  subst eu
  cases rx
  obtain ⟨z, hs, ks, pr, o, es, ep, ho, hx, hdt, he, hn⟩ :=
    (show ObjOk X.prog X.w H s.heap d (.dT kvs) from hd.ok I.hok)
  have l1 : es.size = ks.length := size_of_entries he
  have l2 : kvs.length = ks.length := Paired.length pr
  have hkk : ks.map (·.1) = cs.map ck := by
    rw [← hks]
    clear q he hn hd l1 l2 hks z
    induction pr with
    | nil => rfl
    | cons h t ih => rw [List.map_cons, List.map_cons, ih, h.1]
  have atK : ∀ x ∈ ks, H x.2.1 = some (.tup (x.1.map kV)) := by
    clear q he hn hd l1 l2 hks z hkk
    induction pr with
    | nil => exact fun x hx => absurd hx (by simp)
    | cons h t ih =>
      intro x hx
      rcases List.mem_cons.mp hx with e | hx
      · subst e
        rw [← h.1]
        exact h.2.1
      · exact ih x hx
  have atC : ∀ x ∈ ks, ∃ c, x.1 = ck c ∧ CellAt H x.2.1 c := by
    intro x hx
    have : x.1 ∈ cs.map ck := by
      rw [← hkk]
      exact List.mem_map_of_mem hx
    obtain ⟨c, _, ec⟩ := List.mem_map.mp this
    refine ⟨c, ec.symm, ?_⟩
    have := atK x hx
    rw [← ec] at this
    exact this
  refine Calls.call_function_entry PyProof.Rows.kind_sorted PyProof.Rows.plain_sorted
    PyProof.Rows.entry_sorted (PyProof.Rows.args_sorted1 _) ?_
  unfold Builtin.«sorted»
  refine wpAny_bind (m := checkCount "sorted" 1 1 _) (wpAny_pure ?_)
  refine wpAny_bind (PySem.W.kdu_collect (A := X.A.in1) (kdl_raw hs hx hdt) (I.ok.hd hc) ho (by omega) ?_)
  intro h' tk acc hk it
  have ea : acc.toList = ks.map fun x => Value.ref x.2.1 := by
    have hl : acc.toList.length = ks.length := by
      rw [Array.length_toList, it.1]
      exact l1
    apply List.ext_getElem?
    intro j
    rw [List.getElem?_map]
    cases hj : acc.toList[j]? with
    | none =>
      have h1 := List.getElem?_eq_none_iff.mp hj
      rw [List.getElem?_eq_none (by omega)]
      all_goals rfl
    | some v =>
      obtain ⟨en, hen, hv⟩ := it.2 j v (by rw [← Array.getElem?_toList]; exact hj)
      have qe := entry_at he j
      rw [hen] at qe
      cases hb : ks[j]? with
      | none =>
        rw [hb] at qe
        exact nomatch (show some en = none from qe)
      | some b =>
        rw [hb] at qe
        have e2 : en = entryOfKey (tupleKind (mixKind X.prog X.w)) b := Option.some.inj qe
        rw [hv, e2]
        all_goals rfl
  generalize acc.toList = vs at ea ⊢
  subst ea
  have hz : (ks.map fun x => Value.ref x.2.1).length ≤ sizeLine := by
    rw [List.length_map]
    omega
  have I1 : Inv X pins σ H { s with heap := h', toks := tk } := I.kept hk
  refine wpAny_bind (wpAny_newList ?_ hz)
  generalize hvs : (ks.map fun x => Value.ref x.2.1) = vs at hz ⊢
  have hoL : (h'.push (seqObj "list" vs.toArray 0)).get? h'.objs.size = some (seqObj "list" vs.toArray 0) :=
    Heap.get?_push_size _ rfl
  have hcl : ∀ v ∈ vs, ∃ b c, v = .ref b ∧ CellAt H b c := by
    intro v hv
    rw [← hvs] at hv
    obtain ⟨x, hx, rfl⟩ := List.mem_map.mp hv
    obtain ⟨c, _, hc⟩ := atC x hx
    exact ⟨_, c, rfl, hc⟩
  show wpAny _ _ _ _ _ { s with heap := h'.push (seqObj "list" vs.toArray 0), toks := tk }
  refine wpAny_bind (wpAny_holding (wpAny_call_entry PyProof.Rows.slot_list_sort ⟨_, hoL, rfl⟩ PyProof.Rows.entry_list_sort
    (SrtO.list_sort_ord (ltv := fun v u => ltC (cellOf H v) (cellOf H u)) (swo_cells _) hoL hz (fun h2 => ?_) (fun out hs hb => ⟨_, rfl, ?_⟩))
    (PyProof.Rows.args_list_sort _)))
  · refine cells_sortable (by omega) (fun v hv => ?_) fun o' eo => ?_
    · obtain ⟨b, c, rfl, hc⟩ := hcl v hv
      rw [cellOf_at hc]
      exact (isCl_of I1.hok hc).keeps fun b o e _ => Heap.get?_push_of_some _ e
    · have e' : some o' = some (seqObj "list" vs.toArray 0) := eo.symm.trans hoL
      cases e'
      intro c
      exact absurd (Value.type.inj c) (by decide)
  · obtain ⟨e', he'⟩ := PyProof.Rows.sortedHeap_at (vs := vs) (out := out.toArray) hoL
    have hout : ∀ v ∈ out, ∃ b c, v = .ref b ∧ CellAt H b c := fun v hv => hcl v (hb.perm.mem_iff.mp hv)
    have hbs : ∃ bs : List Addr, out = bs.map Value.ref := by
      clear hb hs he'
      induction out with
      | nil => exact ⟨[], rfl⟩
      | cons v l ih =>
        obtain ⟨bs, rfl⟩ := ih fun u hu => hout u (List.mem_cons_of_mem _ hu)
        obtain ⟨b, c, rfl, _⟩ := hout v List.mem_cons_self
        exact ⟨b :: bs, rfl⟩
    obtain ⟨bs, rfl⟩ := hbs
    have hcs : (vs.map (cellOf H)) = cs := by
      rw [← hvs, List.map_map]
      have inj : ∀ {a b : List Cell}, a.map ck = b.map ck → a = b := by
        intro a
        induction a with
        | nil =>
          intro b h
          cases b with
          | nil => rfl
          | cons _ _ => cases h
        | cons x a ih =>
          intro b h
          cases b with
          | nil => cases h
          | cons y b =>
            rw [List.map_cons, List.map_cons] at h
            injection h with h1 h2
            rw [ck_inj h1, ih h2]
      refine inj ?_
      rw [List.map_map, ← hkk]
      refine List.map_congr_left fun x hx => ?_
      obtain ⟨c, ec, hc⟩ := atC x hx
      show ck (cellOf H (.ref x.2.1)) = x.1
      rw [cellOf_at hc, ec]
    have perm : ((bs.map Value.ref).map (cellOf H)).Perm cs := by
      rw [← hcs]
      exact hb.perm.map _
    have hcn : cs.Nodup := by
      have := hn
      rw [hkk] at this
      exact (List.pairwise_map.mp this).imp fun h e => h (congrArg ck e)
    have hst := strict_of (List.pairwise_map.mpr hs) (perm.nodup_iff.mpr hcn)
    have hlen : (bs.map V.ref).length ≤ sizeLine := by
      have := hb.perm.length_eq
      rw [List.length_map] at this ⊢
      omega
    refine wpAny_pure ⟨_, rfl, .ref h'.objs.size, upd H h'.objs.size (.lst (bs.map V.ref)), I1.laid (t' := tk) (fun b u e => ?_) (Nat.le_refl _)
      (show ObjOk X.prog X.w _ _ _ (.lst (bs.map V.ref)) from ⟨hlen, bs.map Value.ref, e', vals_refs _, he'⟩), rfl,
      q _ bs _ perm hst ?_ (I1.hok.fresh (Nat.le_refl _))⟩
    · have hb : b < h'.objs.size := Heap.lt_size e
      rw [PyProof.Rows.sortedHeap_old (Nat.ne_of_lt hb) (by rw [size_push']; exact Nat.lt_succ_of_lt hb)]
      exact Heap.get?_push_of_some _ e
    · rw [List.map_map]
      refine paired_of _ fun b hb' => ?_
      obtain ⟨b2, c, e2, hc⟩ := hout (.ref b) (List.mem_map_of_mem hb')
      cases e2
      show CellAt H b (cellOf H (.ref b))
      rw [cellOf_at hc]
      exact hc

/-! ### dict(pairs) -/
/-- one after another, later ones win -/
def putAll (kvs more : List (List Key × V)) : List (List Key × V) := more.foldl (fun acc kv => putK acc kv.1 kv.2) kvs
theorem length_putAll : ∀ (more kvs : List (List Key × V)), (putAll kvs more).length ≤ kvs.length + more.length
  | [], kvs => Nat.le_refl _
  | m :: more, kvs => by
    have h1 := length_putAll more (putK kvs m.1 m.2)
    have h2 := length_putK kvs m.1 m.2
    rw [List.length_cons]
    show (putAll (putK kvs m.1 m.2) more).length ≤ _
    omega
theorem ktAll {H : Hp} {more : List (List Key × V)} {ms : List (List Key × Addr × Value)} (r : KT H more ms) :
    ∀ {kvs : List (List Key × V)} {xs : List (List Key × Addr × Value)}, KT H kvs xs → KT H (putAll kvs more) (storedAllH xs ms) := by
  induction r with
  | nil => exact fun h => h
  | @cons p q _ _ h t ih =>
    intro kvs xs g
    show KT H (putAll (putK kvs p.1 p.2) _) (storedAllH (storedH xs q.1 q.2.1 q.2.2) _)
    refine ih ?_
    have := KT.put g p.1 (b := q.2.1) h.2.1 h.2.2
    rw [h.1] at this ⊢
    exact this
/-- a tracked pair: a key tuple and a value -/
def PairAt' (K : PySem.W.Frag) (H : Hp) (p : Addr) (kv : List Key × V) : Prop := ∃ b, SqT K H p [.ref b, kv.2] ∧ H b = some (.tup (kv.1.map kV))
theorem pairsT_of {pins : List (Addr × Obj)} {σ : L2.St} {H : Hp} {s : Shared} (I : Inv X pins σ H s) : ∀ {ps : List Addr} {kvs : List (List Key × V)}, Paired (PairAt' X.K H) ps kvs →
    ∃ ms : List (List Key × Addr × Value), KT H kvs ms ∧ ms.length = ps.length ∧ ∀ (j : Nat) (q : List Key × Addr × Value), ms[j]? = some q → ∃ b : Addr, ps[j]? = some b ∧ IsTup s.heap b #[.ref q.2.1, q.2.2]
  | _, _, .nil => ⟨[], .nil, rfl, fun j q e => by simp at e⟩
  | _, _, .cons (a := p) (b := kv) h t => by
    obtain ⟨ms, r, hl, hp⟩ := pairsT_of I t
    obtain ⟨b, hb, hk⟩ := h
    obtain ⟨its, rv, ht, _⟩ := I.tuple hb
    obtain ⟨u, y, ei, ru, ry⟩ := vals2 rv
    subst ei
    cases ru
    refine ⟨(kv.1, b, y) :: ms, .cons ⟨rfl, hk, ry⟩ r, congrArg (· + 1) hl, fun j q e => ?_⟩
    cases j with
    | zero =>
      have e' : (kv.1, b, y) = q := Option.some.inj e
      subst e'
      exact ⟨p, rfl, ht⟩
    | succ j =>
      obtain ⟨b', e1, e2⟩ := hp j q (by simpa using e)
      exact ⟨b', by simpa using e1, e2⟩
/-- dict(xs), xs a list of pairs whose keys are tuples -/
theorem call_dictT {k : Nat} (hc : X.calm = true) (hr : Room k X.A) : CallR X (.type "dict") (fun xs H Q => ∃ (a : Addr) (ps : List Addr) (kvs : List (List Key × V)), xs = [.ref a] ∧ SqL X.K H a (ps.map V.ref) ∧ Paired (PairAt' X.K H) ps kvs ∧
    ∀ p, H p = none → Q (.ref p) (upd H p (.dT (putAll [] kvs)))) := by
  intro pins s σ H xs us Q I r q
  obtain ⟨a, ps, kvs, ex, hq, hp, q⟩ := q
  subst ex
  obtain ⟨u, eu, rx⟩ := vals1 r
  subst eu
  cases rx
  obtain ⟨its, rv, pl, hz⟩ := I.list hq
  have ei := refs_at rv
  subst ei
  rw [List.length_map] at hz
  obtain ⟨ms, rel, hl, hpr⟩ := pairsT_of I hp
  obtain ⟨o, n, ho, hcl, hd, hdat⟩ := pl
  have hu := hr.units
  have isK : ∀ (h' : Heap), (∀ b o, s.heap.get? b = some o → h'.get? b = some o) → ∀ x ∈ ms, (tupleKind (mixKind X.prog X.w)).is h' x.1 x.2.1 := by
    intro h' kp x hx
    have ok' : HOk X.prog X.w H h' := (I.kept (t' := s.toks) kp).hok
    have all : ∀ {l : List (List Key × V)} {m : List (List Key × Addr × Value)}, KT H l m → ∀ x ∈ m, H x.2.1 = some (.tup (x.1.map kV)) := by
      intro l m q
      induction q with
      | nil => exact fun x hx => absurd hx (by simp)
      | cons h t ih =>
        intro x hx
        rcases List.mem_cons.mp hx with e | hx
        · subst e
          rw [← h.1]
          exact h.2.1
        · exact ih x hx
    exact key_of ok' (all rel x hx)
  have pit : PairItems s.heap (ps.map Value.ref).toArray (fun j => ps.getD j 0) (ms.map fun q => (Value.ref q.2.1, q.2.2)) := by
    refine ⟨by simp [hl], fun j k' v e => ?_⟩
    rw [List.getElem?_map] at e
    cases em : ms[j]? with
    | none =>
      rw [em] at e
      cases e
    | some q' =>
      rw [em] at e
      obtain ⟨b, e1, e2⟩ := hpr j q' em
      have e3 : (Value.ref q'.2.1, q'.2.2) = (k', v) := Option.some.inj e
      injection e3 with e4 e5
      have eg : ps.getD j 0 = b := by rw [List.getD_eq_getElem?_getD, e1]; rfl
      refine ⟨?_, ?_⟩
      · show _ = some (Value.ref (ps.getD j 0))
        rw [eg]
        simp [e1]
      · show PairAt s.heap (ps.getD j 0) k' v
        rw [eg, ← e4, ← e5]
        exact .inl e2
  have hsz : ms.length ≤ sizeLine := by rw [hl]; exact hz
  have P := PairArg.list (prog := X.prog) (w := X.w) a (ps.map Value.ref).toArray (fun j => ps.getD j 0) (ms.map fun q => (Value.ref q.2.1, q.2.2))
  refine call_dict_pairsH (knd := tupleKind (mixKind X.prog X.w)) (ps := ms) P (I.ok.hd hc) (tupleKind_room_in1 (A := X.A.in1) (by show X.A.units + 1 + 1 < _; omega)) ⟨⟨o, n, ho, hcl, hd, hdat⟩, pit⟩ ⟨by rw [List.length_map], fun i key v e => ?_⟩ (fun h' hk' x hx => ?_) (by rw [List.length_map]; exact hsz) fun h' tk hd' kp => ?_
  · have e : (ms.map fun q => (Value.ref q.2.1, q.2.2))[i]? = some (key, v) := e
    rw [List.getElem?_map] at e
    cases em : ms[i]? with
    | none =>
      rw [em] at e
      cases e
    | some q' =>
      rw [em] at e
      have e3 : (Value.ref q'.2.1, q'.2.2) = (key, v) := Option.some.inj e
      injection e3 with e4 e5
      exact ⟨q'.1, q'.2.1, by rw [← e5], e4.symm⟩
  · exact isK h' (fun b o e => hk' b o (Nat.ne_of_lt (Heap.lt_size e)) (by simp) e) x hx
  · have kp' : ∀ b o, s.heap.get? b = some o → h'.get? b = some o := fun b o e => kp b o (by simp) e
    have hm : (s.heap.objs.size == sysModules) = false := beq_eq_false_iff_ne.mpr (Nat.ne_of_gt I.big)
    have hfr : H s.heap.objs.size = none := I.hok.fresh (Nat.le_refl _)
    have hlen : (putAll [] kvs).length ≤ sizeLine := by
      refine Nat.le_trans (length_putAll kvs []) ?_
      rw [List.length_nil, Nat.zero_add, Paired.length rel]
      exact hsz
    obtain ⟨q1, es, ep, h1, h2, h3, h4, _, h5⟩ := hd'
    refine ⟨.ref s.heap.objs.size, upd H s.heap.objs.size (.dT (putAll [] kvs)), I.laid (t' := tk) kp' (Nat.le_refl _)
      (show ObjOk X.prog X.w _ _ _ (.dT (putAll [] kvs)) from ⟨hlen, hm, storedAllH [] ms, (ktAll rel .nil).keeps fun c ys ec => ?_, q1, es, ep, h1, h2, h3, h4, h5⟩), rfl, q _ hfr⟩
    rw [upd_ne (ne_of_none ec hfr)]
    exact ec
end
end AskG
/-! cell < cell -/
namespace AskG
open PySem PySem.Spec PyProof.Rows L2
def rLtC : R2 := fun x y H Q => ∃ (a b : Addr) (c d : Cell), x = .ref a ∧ y = .ref b ∧ CellAt H a c ∧ CellAt H b d ∧ Q (.bl (ltC c d)) H
theorem op_ltC {X : Cx} (hu : X.A.units < cLine) : OpR X (compareOp .Lt) rLtC := by
  intro pins s σ H x y v u Q I rx ry h
  obtain ⟨a, b, c, d, rfl, rfl, ha, hb, q⟩ := h
  cases rx
  cases ry
  obtain ⟨a', t, t', e, ht⟩ := isCl_of I.hok ha
  cases e
  obtain ⟨b', u, u', e, hu2⟩ := isCl_of I.hok hb
  cases e
  have R := Ob.RcOp.tuples_lt (A := X.A) (s := s) (e := fun j => if j = 0 then c.1 == d.1 else c.2 == d.2)
    (r := fun j => if j = 0 then decide (c.1.cps.toList < d.1.cps.toList) else decide (c.2 < d.2)) ht hu2 hu
    (fun j h1 h2 => by
      have h1 : j < 2 := h1
      match j, h1 with
      | 0, _ => exact SeqAt.EqAt.str_str c.1 t d.1 u
      | 1, _ => exact SeqAt.EqAt.int_int c.2 t' d.2 u')
    (fun j h1 h2 _ => by
      have h1 : j < 2 := h1
      match j, h1 with
      | 0, _ => exact fun _ _ _ _ h => PyProof.Rows.lt_str h
      | 1, _ => exact fun _ _ _ _ h => PyProof.Rows.lt_int h)
  have e : Ob.lexAt (fun j => if j = 0 then c.1 == d.1 else c.2 == d.2) (fun j => if j = 0 then decide (c.1.cps.toList < d.1.cps.toList) else decide (c.2 < d.2)) (decide (2 < 2)) 0 (min 2 2) = ltC c d := by
    show (if (c.1 == d.1) = true then (if (c.2 == d.2) = true then decide (2 < 2) else decide (c.2 < d.2)) else decide (c.1.cps.toList < d.1.cps.toList)) = ltC c d
    unfold ltC
    by_cases e1 : c.1 = d.1
    · rw [if_pos (beq_iff_eq.mpr e1), if_pos e1]
      by_cases e2 : c.2 = d.2
      · rw [if_pos (beq_iff_eq.mpr e2), e2, decide_eq_false (Int.lt_irrefl _)]
        rfl
      · rw [if_neg fun z => e2 (beq_iff_eq.mp z)]
    · rw [if_neg fun z => e1 (beq_iff_eq.mp z), if_neg e1]
  have R2 : Ob.RcOp .Lt X.A s (.ref a) (.ref b) (ltC c d) := by
    rw [← e]
    exact R
  have z : wpAny (model X.prog X.w) X.A (compareOp .Lt (.ref a) (.ref b)) (EP X pins σ Q) X.xe s :=
    R2 X.prog X.w X.xe (EP X pins σ Q) ⟨.bl _, H, I, rfl, q⟩
  exact z
end AskG
/-! {k: v for .. in ..}, the keys tuples. -/
namespace AskG
open PySem PySem.Spec PyProof.Rows L2

theorem setT {X : Cx} {pins : List (Addr × Obj)} {σ : L2.St} {H : Hp} {s : Shared} {E : Value → Shared → Prop} {D b : Addr}
    {kvs : List (List Key × V)} {k : List Key} {v : V} {r : Value} {Q : Unit → Shared → Prop} (hu : X.A.units + 1 < cLine)
    (I : Inv X pins σ H s) (hD : H D = some (.dT kvs)) (hb : H b = some (.tup (k.map kV))) (hz : kvs.length < sizeLine)
    (rv : RelV v r) (h : ∀ s', Inv X pins σ (upd H D (.dT (putK kvs k v))) s' → Q () s') :
    wpAny (model X.prog X.w) X.A (dictSet D (.ref b) r) Q E s := by
  obtain ⟨z, hd, xs, rel, dd⟩ := dt_of I.hok hD
  have hx : xs.length ≤ sizeLine := by
    rw [← Paired.length rel]
    exact z
  have hl : (putK kvs k v).length ≤ sizeLine := by
    have := length_putK kvs k v
    omega
  refine wpAny_dictSet_heap (hsz := hx) (knd := tupleKind (mixKind X.prog X.w)) (show X.A.units < cLine by omega)
    (key_of I.hok hb) dd fun h' dd' hs => h _ ?_
  obtain ⟨q, es, ep, hq, h2, h3, h4, _, h5⟩ := dd'
  refine d_write I (by rw [hD]; exact True.intro) hs ⟨q, hq⟩
    ⟨hl, hd, _, (rel.put k hb rv).keeps fun c ys ec => ?_, q, es, ep, hq, h2, h3, h4, h5⟩
  rw [upd_ne (ne_of ec hD (fun z => nomatch z))]
  exact ec

/-- the reading: D the new dict -/
def tDcT (wi : TI) (g : TG) (tk tv : TE) (vs : List Nat) : TE := fun σ H Q => wi σ H fun J H1 => ∀ D, H1 D = none →
  ∃ W : Nat → Nat → Hp → Prop, (∃ m, W 0 m (upd H1 D (.dT []))) ∧ ∀ i m H, W i m H →
    (J.stop i H ∧ Q (.ref D) H) ∨ (J.go i H ∧ ∃ Nx : Hp → Prop, (∀ H', Nx H' → ∃ m', m' < m ∧ W (i + 1) m' H') ∧
      ∀ x H', J.yld i H x H' → g x (wipe σ vs) H' fun σ2 H2 => wipe σ2 vs = wipe σ vs ∧
        tk σ2 H2 fun y H4 => tv σ2 H4 fun z H5 => ∃ b kvs k, y = .ref b ∧ H5 b = some (.tup (k.map kV)) ∧
          H5 D = some (.dT kvs) ∧ kvs.length < sizeLine ∧ Nx (upd H5 D (.dT (putK kvs k z))))

section
variable {X : Cx}
theorem pe_dcT {kx vx tg iter : Expr} {scope : Scope} {own : List (Str × Nat)} {pos : Pos} {wi : TI} {g : TG} {tk tv : TE}
    (hu : X.A.units + 1 < cLine) (hc : X.calm = true) (hN : X.N.Nodup) (hi : PI X tg iter wi) (ok : BlkOk X.N X.env.scope scope own)
    (hg : ∀ (s : Shared) (H : Hp) (C : Addr) (cl : List (Str × Addr)) (fp : List Addr),
      PG (X.blk s H scope (compEnvC scope cl C X.env) fp) tg g)
    (hk : ∀ (s : Shared) (H : Hp) (C : Addr) (cl : List (Str × Addr)) (fp : List Addr),
      PE (X.blk s H scope (compEnvC scope cl C X.env) fp) kx tk)
    (he : ∀ (s : Shared) (H : Hp) (C : Addr) (cl : List (Str × Addr)) (fp : List Addr),
      PE (X.blk s H scope (compEnvC scope cl C X.env) fp) vx tv)
    (hs : ∀ x, foldedSetIterable iter X.env x = pure x := by intro _; rfl) :
    PE X (.DictComp kx vx [⟨tg, iter, [], 0⟩] scope pos) (tDcT wi g tk tv (own.map (·.2))) := by
  constructor
  intro pins s σ H Q I h
  rw [arm_eval_DictComp]
  have hfree : ∀ y ∈ scope.names, y.2 = .free → ∃ c, X.env.cells.lookup y.1 = some c := by
    intro y hy e
    exact (ok.free y hy e).elim (fun k => I.ok.has _ (.inl k)) fun k => I.ok.has _ (.inr k)
  refine wpAny_comprehension_free rfl hs (closure_ok hfree) ok.kind (fun y hy e => by rw [ok.uniq y hy, e])
    (thn (hi.run pins s σ H _ I h) fun xv s1 hx => thn hx ?_)
  rintro itv s2 ⟨it, fp, tn, J, H2, e, I2, T, st2, f2, q⟩
  subst e
  refine wpAny_newObj_type (newEnv_comp ?_)
  generalize hD : s2.heap.objs.size = D
  have hDn : H2 D = none := I2.hok.fresh (Nat.le_of_eq hD)
  obtain ⟨W, ⟨m0, w0⟩, turn⟩ := q D hDn
  generalize hs3 : ({ s2 with heap := s2.heap.push { cls := .type "dict", data := .dict #[] } } : Shared) = s3
  have I3 : Inv X pins σ (upd H2 D (.dT [])) s3 := by
    rw [← hs3]
    refine I2.laid (t' := s2.toks) (fun b o e => Heap.get?_push_of_some _ e) (Nat.le_of_eq hD) ?_
    rw [← hD]
    exact dt_empty s2.heap I2.big
  have h3 : s3.heap = s2.heap.push { cls := .type "dict", data := .dict #[] } := by rw [← hs3]
  have sz : ∀ b ∈ fp, b < s2.heap.objs.size := fun b hb => (T.obj _ _ st2 b hb).elim fun o e => Heap.lt_size e.1
  have f3 : ∀ b ∈ fp, FpOk X pins (upd H2 D (.dT [])) b ∧ b < s3.heap.objs.size := by
    intro b hb
    have hlt := sz b hb
    refine ⟨⟨?_, (f2 b hb).2⟩, by rw [h3, Heap.size_push]; exact Nat.lt_succ_of_lt hlt⟩
    rw [upd_ne (by rw [← hD]; exact Nat.ne_of_lt hlt)]
    exact (f2 b hb).1
  have st3 : tn 0 s3.heap := T.keep _ _ _ st2 fun b _ o e => by
    rw [h3]
    exact Heap.get?_push_of_some _ e
  have I4 := block_start I3 ok hN f3
  have pg := hg s3 (upd H2 D (.dT [])) s3.heap.objs.size
    (cellsFrom (s3.heap.objs.size + 1) scope.names (cloFrom X.env.cells scope.names [])) fp
  have pk := hk s3 (upd H2 D (.dT [])) s3.heap.objs.size
    (cellsFrom (s3.heap.objs.size + 1) scope.names (cloFrom X.env.cells scope.names [])) fp
  have pe := he s3 (upd H2 D (.dT [])) s3.heap.objs.size
    (cellsFrom (s3.heap.objs.size + 1) scope.names (cloFrom X.env.cells scope.names [])) fp
  have nfp : ∀ b ∈ fp, (upd H2 D (.dT [])) b = none := fun b hb => (f3 b hb).1.1
  show codeAny _ _ (.compStart (.DictComp kx vx [⟨tg, iter, [], 0⟩] scope pos) 0 (.ref it) (.ref D)
    (compEnvC scope (cellsFrom (s3.heap.objs.size + 1) scope.names (cloFrom X.env.cells scope.names [])) s3.heap.objs.size X.env)) _
    { s3 with heap := pushCells (s3.heap.push { cls := .type "dict", data := .dict #[] }) scope.names }
  generalize hce : compEnvC scope (cellsFrom (s3.heap.objs.size + 1) scope.names (cloFrom X.env.cells scope.names [])) s3.heap.objs.size X.env = ce at I4 pg pk pe ⊢
  have cL : ce.locals = s3.heap.objs.size := by
    subst hce
    rfl
  generalize hH3 : upd H2 D (.dT []) = H3 at I3 I4 pg pk pe w0 nfp f3
  generalize hs4 : ({ s3 with heap := pushCells (s3.heap.push { cls := .type "dict", data := .dict #[] }) scope.names } : Shared) = s4 at I4 ⊢
  have st4 : tn 0 s4.heap := T.keep _ _ _ st3 fun b _ o e => by
    rw [← hs4]
    exact pushCells_keeps _ _ _ _ (Heap.get?_push_of_some _ e)
  have stat : ∀ {σ' : L2.St} {H' : Hp} {s' : Shared}, Inv (X.blk s3 H3 scope ce fp) [] σ' H' s' → (∀ b ∈ fp, H' b = none) →
      ∀ b ∈ fp, FpOk (X.blk s3 H3 scope ce fp) [] H' b := by
    intro σ' H' s' I' hn b hb
    exact ⟨hn b hb, (I'.ok.exf b hb).1, I'.ok.exfs b hb, .inl hb, fun x c e => (I'.ok.exf b hb).2 x c e,
      fun p hp => absurd (show p ∈ ([] : List (Addr × Obj)) ++ [] from hp) (by simp)⟩
  refine codeAny_compStart_dict ?loop (T.self X.A 0 _ _ _ st4 ?loop)
  refine compLoop_anyD (fun n s' => ∃ i H', Inv (X.blk s3 H3 scope ce fp) [] (wipe σ (own.map (·.2))) H' s' ∧ tn i s'.heap ∧
    (∀ b ∈ fp, H' b = none) ∧ W i n H') ?_ m0 ⟨0, H3, I4, st4, nfp, w0⟩
  rintro n s5 ⟨i, H5, I5, st5, n5, w5⟩
  rcases turn i n H5 w5 with ⟨stop, qq⟩ | ⟨go, Nx, hNx, step⟩
  · have td := T.done (X.blk s3 H3 scope ce fp) rfl rfl rfl hc i [] s5 _ H5 (fun _ _ => False) I5 (stat I5 n5) st5 stop
    refine thnF td ?_
    rintro r s6 ⟨hr, I6⟩
    subst hr
    have I7 : Inv X pins σ H5 s6 := I3.call' (ch := fp) I6.os I6.base I6.hok I6.bare fun b hb =>
      ⟨(f3 b hb).1.2.2.2.1, (f3 b hb).1.2.1, (f3 b hb).1.2.2.2.2.1, (f3 b hb).1.2.2.2.2.2⟩
    have nC : H5 s3.heap.objs.size = none := by
      have z : H5 ce.locals = none := I6.free
      rw [cL] at z
      exact z
    obtain ⟨m, hn, _⟩ := I6.loc
    have hn : s6.heap.Ns ce.locals m := hn
    rw [cL] at hn
    obtain ⟨f0, f1, f2, f3, f4, f5⟩ := I3.fpOk (Nat.le_refl _) nC
    refine ⟨m, hn, fun h'' sb => ?_⟩
    exact ⟨.ref D, H5, I7.turned (t' := s6.toks) (fun b o hb e => (sb.2 b hb).trans e) f0 f1 f3 f4 f5, rfl, qq⟩
  · have ti := T.item (X.blk s3 H3 scope ce fp) rfl rfl rfl hc i [] s5 _ H5 (fun _ _ => False) I5 (stat I5 n5) st5 go
    refine thnF ti ?_
    rintro r s6 ⟨u, hr, h6⟩
    subst hr
    refine thnF h6 ?_
    rintro _ s7 ⟨x, H7, I7, r7, y7, st7, n7⟩
    have I7' := I7.pinned (stat I7 n7) (T.obj _ _ st7)
    refine thnF (pg.run _ s7 _ H7 x u _ I7' r7 (step x H7 y7)) ?_
    rintro _ s8 ⟨σ8, H8, I8, hw8, q8⟩
    refine wpAny_pure ?_
    have fin : ∀ {s' : Shared} {H' : Hp}, Inv (X.blk s3 H3 scope ce fp) ([] ++ pinsAt fp s7.heap) σ8 H' s' → Nx H' →
        ∃ m, m < n ∧ ∃ i H', Inv (X.blk s3 H3 scope ce fp) [] (wipe σ (own.map (·.2))) H' s' ∧ tn i s'.heap ∧ (∀ b ∈ fp, H' b = none) ∧ W i m H' := by
      intro s' H' I' nx
      obtain ⟨m', hm, w'⟩ := hNx H' nx
      have pin' : ∀ b ∈ fp, ∀ o, s7.heap.get? b = some o → s'.heap.get? b = some o ∧ H' b = none := by
        intro b hb o e
        have z := I'.pin (b, o) (List.mem_append_right _ (List.mem_append_right _ (mem_pinsAt hb e)))
        exact ⟨z.1, z.2.1⟩
      have hl : (wipe σ (own.map (·.2))).length = σ8.length := by rw [← hw8, wipe_length]
      refine ⟨m', hm, i + 1, H', (I'.unpinned (pins := [])).weak hl (fun j v e => ?_),
        T.keep _ _ _ st7 fun b hb o e => (pin' b hb o e).1, fun b hb => ?_, w'⟩
      · rw [← hw8] at e
        exact (wipe_some e).1
      · obtain ⟨o, e, _⟩ := T.obj _ _ st7 b hb
        exact (pin' b hb o e).2
    show wpAny _ _ (eval kx ce) _ _ _
    refine thnF (pk.run _ s8 σ8 H8 _ I8 q8) ?_
    rintro z s10 ⟨yk, H10, I10, r10, q10⟩
    refine thnF (pe.run _ s10 σ8 H10 _ I10 q10) ?_
    rintro z2 s11 ⟨yv, H11, I11, r11, b, kvs, k, ek, hb, hD11, hz11, nx⟩
    subst ek
    cases r10
    exact setT (X := X.blk s3 H3 scope ce fp) hu I11 hD11 hb hz11 r11 fun s12 I12 => fin I12 nx
end
end AskG
/-! The mathematics of rows: sums, multiples, parts, effects. -/
namespace AskG
open PySem PySem.Spec PyProof.Rows L2

abbrev RowD := List (Cell × Int)
def getO (m : RowD) (c : Cell) : Option Int := (m.find? fun x => decide (x.1 = c)).map (·.2)
def get0 (m : RowD) (c : Cell) : Int := (getO m c).getD 0
def putC (m : RowD) (c : Cell) (w : Int) : RowD :=
  if m.any (fun x => decide (x.1 = c)) then m.map (fun x => if x.1 = c then (x.1, w) else x) else m ++ [(c, w)]
def keys (m : RowD) : List Cell := m.map (·.1)
/-- as the dict holds it -/
def dk (m : RowD) : List (List Key × V) := m.map fun x => (ck x.1, .int x.2)

theorem dk_keys (m : RowD) : (dk m).map (·.1) = (keys m).map ck := by
  unfold dk keys
  rw [List.map_map, List.map_map]
  rfl
theorem dk_length (m : RowD) : (dk m).length = m.length := List.length_map _
theorem getO_cons (x : Cell × Int) (m : RowD) (c : Cell) : getO (x :: m) c = if x.1 = c then some x.2 else getO m c := by
  unfold getO
  rw [List.find?_cons]
  by_cases h : x.1 = c <;> simp [h]
theorem get0_cons (x : Cell × Int) (m : RowD) (c : Cell) : get0 (x :: m) c = if x.1 = c then x.2 else get0 m c := by
  unfold get0
  rw [getO_cons]
  by_cases h : x.1 = c <;> simp [h]
theorem get0_nil (c : Cell) : get0 [] c = 0 := rfl
theorem dk_val : ∀ (m : RowD) (c : Cell), valV (dk m) (ck c) = (getO m c).map V.int
  | [], _ => rfl
  | x :: m, c => by
    rw [getO_cons]
    by_cases h : x.1 = c
    · rw [if_pos h]
      exact valV_pos (p := (ck x.1, V.int x.2)) (congrArg ck h)
    · rw [if_neg h]
      exact (valV_neg (p := (ck x.1, V.int x.2)) (fun e => h (ck_inj e))).trans (dk_val m c)
theorem dk_any (m : RowD) (c : Cell) : ((dk m).any fun kv => decide (kv.1 = ck c)) = m.any fun x => decide (x.1 = c) := by
  unfold dk
  rw [List.any_map]
  congr 1
  funext x
  show decide (ck x.1 = ck c) = decide (x.1 = c)
  by_cases h : x.1 = c
  · rw [h, decide_eq_true rfl, decide_eq_true rfl]
  · rw [decide_eq_false h, decide_eq_false fun e => h (ck_inj e)]
theorem dk_put (m : RowD) (c : Cell) (w : Int) : putK (dk m) (ck c) (.int w) = dk (putC m c w) := by
  unfold putK putC
  rw [dk_any]
  by_cases h : (m.any fun x => decide (x.1 = c)) = true
  · rw [if_pos h, if_pos h]
    unfold dk
    rw [List.map_map, List.map_map]
    refine List.map_congr_left fun x _ => ?_
    show (if ck x.1 = ck c then (ck x.1, V.int w) else (ck x.1, V.int x.2)) = _
    by_cases g : x.1 = c
    · rw [if_pos (congrArg ck g)]
      show _ = (fun x : Cell × Int => (ck x.1, V.int x.2)) (if x.1 = c then (x.1, w) else x)
      rw [if_pos g]
    · rw [if_neg fun e => g (ck_inj e)]
      show _ = (fun x : Cell × Int => (ck x.1, V.int x.2)) (if x.1 = c then (x.1, w) else x)
      rw [if_neg g]
  · rw [if_neg h, if_neg h]
    unfold dk
    rw [List.map_append]
    rfl
theorem mem_any {m : RowD} {c : Cell} : (m.any fun x => decide (x.1 = c)) = true ↔ c ∈ keys m := by
  rw [List.any_eq_true]
  unfold keys
  constructor
  · rintro ⟨x, hx, e⟩
    exact List.mem_map.mpr ⟨x, hx, of_decide_eq_true e⟩
  · intro h
    obtain ⟨x, hx, e⟩ := List.mem_map.mp h
    exact ⟨x, hx, decide_eq_true e⟩
theorem keys_put (m : RowD) (c : Cell) (w : Int) : keys (putC m c w) = if c ∈ keys m then keys m else keys m ++ [c] := by
  unfold putC
  by_cases h : (m.any fun x => decide (x.1 = c)) = true
  · rw [if_pos h, if_pos (mem_any.mp h)]
    unfold keys
    rw [List.map_map]
    refine List.map_congr_left fun x _ => ?_
    show (if x.1 = c then (x.1, w) else x).1 = x.1
    by_cases g : x.1 = c
    · rw [if_pos g]
    · rw [if_neg g]
  · rw [if_neg h, if_neg fun z => h (mem_any.mpr z)]
    unfold keys
    rw [List.map_append]
    rfl
theorem nodup_put {m : RowD} (n : (keys m).Nodup) (c : Cell) (w : Int) : (keys (putC m c w)).Nodup := by
  rw [keys_put]
  by_cases h : c ∈ keys m
  · rw [if_pos h]
    exact n
  · rw [if_neg h]
    refine List.nodup_append.mpr ⟨n, List.nodup_cons.mpr ⟨by simp, List.nodup_nil⟩, fun a ha b hb e => ?_⟩
    rw [List.mem_singleton.mp hb] at e
    exact h (e ▸ ha)
theorem length_put (m : RowD) (c : Cell) (w : Int) : (putC m c w).length ≤ m.length + 1 := by
  unfold putC
  split
  · rw [List.length_map]
    omega
  · rw [List.length_append]
    exact Nat.le_refl _
theorem mem_put {m : RowD} {c : Cell} {w : Int} {x : Cell × Int} (h : x ∈ putC m c w) : x ∈ m ∨ x = (c, w) := by
  unfold putC at h
  split at h
  · obtain ⟨y, hy, e⟩ := List.mem_map.mp h
    by_cases g : y.1 = c
    · rw [if_pos g] at e
      rw [← e, g]
      exact Or.inr rfl
    · rw [if_neg g] at e
      rw [← e]
      exact Or.inl hy
  · rcases List.mem_append.mp h with h | h
    · exact Or.inl h
    · exact Or.inr (List.mem_singleton.mp h)
theorem put_new {m : RowD} {c : Cell} {w : Int} (h : c ∉ keys m) : putC m c w = m ++ [(c, w)] := by
  unfold putC
  rw [if_neg fun z => h (mem_any.mp z)]
theorem getO_none {m : RowD} {c : Cell} (h : c ∉ keys m) : getO m c = none := by
  induction m with
  | nil => rfl
  | cons x m ih =>
    rw [getO_cons, if_neg fun e => h (by rw [← e]; exact List.mem_cons_self)]
    exact ih fun z => h (List.mem_cons_of_mem _ z)
theorem get0_none {m : RowD} {c : Cell} (h : c ∉ keys m) : get0 m c = 0 := by
  unfold get0
  rw [getO_none h]
  rfl
theorem getO_some {m : RowD} {c : Cell} (h : c ∈ keys m) : ∃ w, getO m c = some w ∧ (c, w) ∈ m := by
  induction m with
  | nil => cases h
  | cons x m ih =>
    rw [getO_cons]
    by_cases e : x.1 = c
    · rw [if_pos e]
      exact ⟨x.2, rfl, by rw [← e]; exact List.mem_cons_self⟩
    · rw [if_neg e]
      rcases List.mem_cons.mp h with g | g
      · exact absurd g.symm e
      · obtain ⟨w, h1, h2⟩ := ih g
        exact ⟨w, h1, List.mem_cons_of_mem _ h2⟩
theorem getO_mem {m : RowD} (n : (keys m).Nodup) {x : Cell × Int} (h : x ∈ m) : getO m x.1 = some x.2 := by
  induction m with
  | nil => cases h
  | cons y m ih =>
    rw [getO_cons]
    have n' := List.nodup_cons.mp n
    rcases List.mem_cons.mp h with e | h
    · rw [e, if_pos rfl]
    · rw [if_neg, ih n'.2 h]
      intro e
      refine n'.1 ?_
      show y.1 ∈ keys m
      rw [e]
      exact List.mem_map_of_mem h
theorem get0_mem {m : RowD} (n : (keys m).Nodup) {x : Cell × Int} (h : x ∈ m) : get0 m x.1 = x.2 := by
  unfold get0
  rw [getO_mem n h]
  rfl

/-! ### the dicts that are made -/
def ofRow (r : RowD) : RowD := r.foldl (fun m x => putC m x.1 x.2) []
def addF (m : RowD) (r : RowD) (t : Int) : RowD := r.foldl (fun m x => putC m x.1 (get0 m x.1 + t * x.2)) m
theorem nodup_fold (f : RowD → Cell × Int → Int) : ∀ (r m : RowD), (keys m).Nodup → (keys (r.foldl (fun m x => putC m x.1 (f m x)) m)).Nodup
  | [], _, h => h
  | x :: r, m, h => nodup_fold f r _ (nodup_put h _ _)
theorem length_fold (f : RowD → Cell × Int → Int) : ∀ (r m : RowD), (r.foldl (fun m x => putC m x.1 (f m x)) m).length ≤ m.length + r.length
  | [], m => Nat.le_refl _
  | x :: r, m => by
    have h1 := length_fold f r (putC m x.1 (f m x))
    have h2 := length_put m x.1 (f m x)
    rw [List.length_cons]
    show (r.foldl (fun m x => putC m x.1 (f m x)) (putC m x.1 (f m x))).length ≤ _
    omega
theorem ofRow_nodup (r : RowD) : (keys (ofRow r)).Nodup := nodup_fold (fun _ x => x.2) r [] List.nodup_nil
theorem addF_nodup {m : RowD} (h : (keys m).Nodup) (r : RowD) (t : Int) : (keys (addF m r t)).Nodup := nodup_fold (fun m x => get0 m x.1 + t * x.2) r m h
theorem ofRow_length (r : RowD) : (ofRow r).length ≤ r.length := by
  have := length_fold (fun _ x => x.2) r []
  rw [List.length_nil, Nat.zero_add] at this
  exact this
theorem addF_length (m r : RowD) (t : Int) : (addF m r t).length ≤ m.length + r.length := length_fold (fun m x => get0 m x.1 + t * x.2) r m
theorem fold_app : ∀ (r m : RowD), (keys (m ++ r)).Nodup → r.foldl (fun m x => putC m x.1 x.2) m = m ++ r
  | [], m, _ => (List.append_nil m).symm
  | x :: r, m, h => by
    have e : m ++ x :: r = (m ++ [x]) ++ r := by simp
    have hx : x.1 ∉ keys m := by
      unfold keys at h ⊢
      rw [List.map_append, List.map_cons] at h
      intro hm
      exact (List.nodup_append.mp h).2.2 _ hm _ List.mem_cons_self rfl
    show r.foldl _ (putC m x.1 x.2) = _
    rw [put_new hx, e]
    rw [e] at h
    exact fold_app r _ h
theorem ofRow_self {r : RowD} (h : (keys r).Nodup) : ofRow r = r := fold_app r [] h
theorem addF_app (t : Int) : ∀ (r m : RowD), (keys (m ++ r)).Nodup → addF m r t = m ++ r.map fun x => (x.1, t * x.2)
  | [], m, _ => (List.append_nil m).symm
  | x :: r, m, h => by
    have hx : x.1 ∉ keys m := by
      unfold keys at h ⊢
      rw [List.map_append, List.map_cons] at h
      intro hm
      exact (List.nodup_append.mp h).2.2 _ hm _ List.mem_cons_self rfl
    show addF (putC m x.1 (get0 m x.1 + t * x.2)) r t = _
    rw [put_new hx, get0_none hx, Int.zero_add]
    have e : (m ++ [(x.1, t * x.2)]) ++ r.map (fun x => (x.1, t * x.2)) = m ++ (x :: r).map fun x => (x.1, t * x.2) := by simp
    rw [← e]
    refine addF_app t r _ ?_
    unfold keys at h ⊢
    rw [show (m ++ [(x.1, t * x.2)] ++ r).map (·.1) = (m ++ x :: r).map (·.1) by simp]
    exact h

/-! ### sorted cells -/
def insC (c : Cell) : List Cell → List Cell
  | [] => [c]
  | d :: l => if ltC c d = true then c :: d :: l else d :: insC c l
def sortC (l : List Cell) : List Cell := l.foldr insC []
theorem insC_perm (c : Cell) : ∀ l, (insC c l).Perm (c :: l)
  | [] => List.Perm.refl _
  | d :: l => by
    unfold insC
    split
    · exact List.Perm.refl _
    · exact ((insC_perm c l).cons d).trans (List.Perm.swap c d l)
theorem sortC_perm : ∀ l, (sortC l).Perm l
  | [] => List.Perm.refl _
  | c :: l => (insC_perm c (sortC l)).trans ((sortC_perm l).cons c)
abbrev Rising (l : List Cell) : Prop := l.Pairwise fun a b => ltC a b = true
theorem insC_rising {c : Cell} : ∀ {l : List Cell}, Rising l → c ∉ l → Rising (insC c l)
  | [], _, _ => List.pairwise_singleton _ _
  | d :: l, h, n => by
    have hd := List.pairwise_cons.mp h
    unfold insC
    split
    · rename_i hc
      refine List.pairwise_cons.mpr ⟨fun a ha => ?_, h⟩
      rcases List.mem_cons.mp ha with e | ha
      · rw [e]
        exact hc
      · exact ltC_trans hc (hd.1 a ha)
    · rename_i hc
      have hdc : ltC d c = true := by
        rcases ltC_tri d c with g | g | g
        · exact g
        · exact absurd (g ▸ List.mem_cons_self) n
        · exact absurd g hc
      refine List.pairwise_cons.mpr ⟨fun a ha => ?_, insC_rising hd.2 fun z => n (List.mem_cons_of_mem _ z)⟩
      rcases List.mem_cons.mp ((insC_perm c l).mem_iff.mp ha) with e | ha
      · rw [e]
        exact hdc
      · exact hd.1 a ha
theorem sortC_rising : ∀ {l : List Cell}, l.Nodup → Rising (sortC l)
  | [], _ => List.Pairwise.nil
  | c :: l, n => insC_rising (sortC_rising (List.nodup_cons.mp n).2) fun z => (List.nodup_cons.mp n).1 ((sortC_perm l).mem_iff.mp z)
theorem rising_uniq : ∀ {a b : List Cell}, a.Perm b → Rising a → Rising b → a = b
  | [], b, p, _, _ => by
    cases b with
    | nil => rfl
    | cons y b => exact absurd (p.mem_iff.mpr List.mem_cons_self) (by simp)
  | x :: a, [], p, _, _ => absurd (p.mem_iff.mp List.mem_cons_self) (by simp)
  | x :: a, y :: b, p, ha, hb => by
    have hx := List.pairwise_cons.mp ha
    have hy := List.pairwise_cons.mp hb
    have e : x = y := by
      rcases List.mem_cons.mp (p.mem_iff.mp List.mem_cons_self) with e | h1
      · exact e
      · rcases List.mem_cons.mp (p.mem_iff.mpr List.mem_cons_self) with e | h2
        · exact e.symm
        · have := ltC_trans (hx.1 _ h2) (hy.1 _ h1)
          rw [ltC_irr] at this
          cases this
    subst e
    rw [rising_uniq (List.Perm.cons_inv p) hx.2 hy.2]
theorem rising_nodup {l : List Cell} (h : Rising l) : l.Nodup := h.imp fun h e => by
  rw [e, ltC_irr] at h
  cases h
theorem sortC_self {l : List Cell} (h : Rising l) : sortC l = l := rising_uniq (sortC_perm l) (sortC_rising (rising_nodup h)) h

/-! ### tidy rows -/
def pick (m : RowD) (ys : List Cell) : RowD := (ys.map fun c => (c, get0 m c)).filter fun x => decide (x.2 ≠ 0)
def tidy (m : RowD) : RowD := pick m (sortC (keys m))
structure OkRow (r : RowD) : Prop where
  up : Rising (keys r)
  nz : ∀ x ∈ r, x.2 ≠ 0
theorem keys_pick (m : RowD) (ys : List Cell) : (keys (pick m ys)).Sublist ys := by
  unfold pick keys
  have h := (List.filter_sublist (l := ys.map fun c => (c, get0 m c)) (p := fun x => decide (x.2 ≠ 0))).map (·.1)
  rw [List.map_map] at h
  have e : ys.map ((fun x : Cell × Int => x.1) ∘ fun c => (c, get0 m c)) = ys := by
    rw [show ((fun x : Cell × Int => x.1) ∘ fun c => (c, get0 m c)) = id from rfl]
    exact List.map_id _
  rw [e] at h
  exact h
theorem ok_tidy {m : RowD} (n : (keys m).Nodup) : OkRow (tidy m) :=
  ⟨(sortC_rising n).sublist (keys_pick m _), fun x hx => of_decide_eq_true (List.mem_filter.mp hx).2⟩
theorem tidy_length (m : RowD) : (tidy m).length ≤ m.length := by
  have h := (keys_pick m (sortC (keys m))).length_le
  rw [(sortC_perm (keys m)).length_eq] at h
  unfold keys at h
  rw [List.length_map, List.length_map] at h
  exact h
theorem tidy_mem {m : RowD} (n : (keys m).Nodup) {x : Cell × Int} (h : x ∈ tidy m) : x ∈ m := by
  have h := (List.mem_filter.mp h).1
  obtain ⟨c, hc, e⟩ := List.mem_map.mp h
  obtain ⟨w, h1, h2⟩ := getO_some ((sortC_perm (keys m)).mem_iff.mp hc)
  rw [← e]
  have : get0 m c = w := by
    unfold get0
    rw [h1]
    rfl
  rw [this]
  exact h2
def addR (a b : RowD) (t : Int) : RowD := tidy (addF (ofRow a) b t)
def scaleR (r : RowD) (t : Int) : RowD := if t = 0 then [] else r.map fun x => (x.1, x.2 * t)
theorem tidy_self {r : RowD} (h : Rising (keys r)) : tidy r = r.filter fun x => decide (x.2 ≠ 0) := by
  unfold tidy pick
  rw [sortC_self h]
  have n := rising_nodup h
  have e : (keys r).map (fun c => (c, get0 r c)) = r := by
    unfold keys
    rw [List.map_map]
    have : ∀ x ∈ r, ((fun c => (c, get0 r c)) ∘ fun x : Cell × Int => x.1) x = id x := by
      intro x hx
      show (x.1, get0 r x.1) = x
      rw [get0_mem n hx]
    rw [List.map_congr_left this]
    exact List.map_id _
  rw [e]
theorem addR_nil {r : RowD} (h : OkRow r) (t : Int) : addR [] r t = scaleR r t := by
  unfold addR
  have e0 : ofRow [] = [] := rfl
  rw [e0, addF_app t r [] (rising_nodup h.up), List.nil_append]
  have hk : keys (r.map fun x => (x.1, t * x.2)) = keys r := by
    unfold keys
    rw [List.map_map]
    rfl
  rw [tidy_self (by rw [hk]; exact h.up)]
  unfold scaleR
  by_cases ht : t = 0
  · rw [if_pos ht]
    refine List.filter_eq_nil_iff.mpr fun x hx => ?_
    obtain ⟨y, _, e⟩ := List.mem_map.mp hx
    rw [← e, ht]
    simp
  · rw [if_neg ht, List.filter_eq_self.mpr fun x hx => ?_]
    · refine List.map_congr_left fun x _ => ?_
      rw [Int.mul_comm]
    · obtain ⟨y, hy, e⟩ := List.mem_map.mp hx
      rw [← e]
      exact decide_eq_true (Int.mul_ne_zero ht (h.nz y hy))

/-! ### effects -/
def effR (a b : RowD) : Int := (a.map fun x => x.2 * get0 (ofRow b) x.1).sum
theorem sum_at (c : Cell) (v : Int) : ∀ {b : RowD}, (keys b).Nodup → (b.map fun y => y.2 * (if c = y.1 then v else 0)).sum = v * get0 b c
  | [], _ => by simp [get0_nil]
  | y :: b, n => by
    have n' := List.nodup_cons.mp n
    rw [List.map_cons, List.sum_cons, sum_at c v n'.2, get0_cons]
    by_cases e : c = y.1
    · rw [if_pos e, if_pos e.symm, get0_none (by rw [e]; exact n'.1)]
      rw [Int.mul_comm]
      omega
    · rw [if_neg e, if_neg fun z => e z.symm]
      omega
theorem sum_split (f g h : Cell × Int → Int) : ∀ b : RowD, (∀ y ∈ b, f y = g y + h y) → (b.map f).sum = (b.map g).sum + (b.map h).sum
  | [], _ => rfl
  | y :: b, e => by
    rw [List.map_cons, List.map_cons, List.map_cons, List.sum_cons, List.sum_cons, List.sum_cons,
      sum_split f g h b fun z hz => e z (List.mem_cons_of_mem _ hz), e y List.mem_cons_self]
    omega
theorem sum_sym : ∀ {a b : RowD}, (keys a).Nodup → (keys b).Nodup →
    (a.map fun x => x.2 * get0 b x.1).sum = (b.map fun y => y.2 * get0 a y.1).sum
  | [], b, _, _ => by
    have : ∀ b : RowD, (b.map fun y : Cell × Int => y.2 * get0 [] y.1).sum = 0 := by
      intro b
      induction b with
      | nil => rfl
      | cons y b ih =>
        rw [List.map_cons, List.sum_cons, ih, get0_nil]
        omega
    rw [this]
    rfl
  | x :: a, b, na, nb => by
    have n' := List.nodup_cons.mp na
    rw [List.map_cons, List.sum_cons, sum_sym n'.2 nb]
    rw [sum_split (fun y => y.2 * get0 (x :: a) y.1) (fun y => y.2 * (if x.1 = y.1 then x.2 else 0)) (fun y => y.2 * get0 a y.1) b]
    · rw [sum_at x.1 x.2 nb]
    · intro y _
      show y.2 * get0 (x :: a) y.1 = y.2 * (if x.1 = y.1 then x.2 else 0) + y.2 * get0 a y.1
      rw [get0_cons]
      by_cases e : x.1 = y.1
      · rw [if_pos e, if_pos e, get0_none (by rw [← e]; exact n'.1)]
        omega
      · rw [if_neg e, if_neg e]
        omega
theorem effR_sym {a b : RowD} (ha : OkRow a) (hb : OkRow b) : effR a b = effR b a := by
  unfold effR
  rw [ofRow_self (rising_nodup ha.up), ofRow_self (rising_nodup hb.up)]
  exact sum_sym (rising_nodup ha.up) (rising_nodup hb.up)

/-! ### what a sum holds -/
theorem getO_map {m : RowD} {c d : Cell} {w : Int} : getO (m.map fun x => if x.1 = c then (x.1, w) else x) d = if d = c then (getO m d).map (fun _ => w) else getO m d := by
  induction m with
  | nil => by_cases h : d = c <;> simp [getO, h]
  | cons x m ih =>
    rw [List.map_cons, getO_cons, getO_cons, ih]
    by_cases h1 : x.1 = c
    · rw [if_pos h1]
      by_cases h2 : d = c
      · simp [h1, h2]
      · have h3 : ¬ c = d := fun e => h2 e.symm
        simp [h1, h2, h3]
    · rw [if_neg h1]
      by_cases h2 : d = c
      · have h3 : ¬ x.1 = d := fun e => h1 (e.trans h2)
        simp [h1, h2]
      · simp [h2]
theorem getO_app {m : RowD} {x : Cell × Int} {d : Cell} : getO (m ++ [x]) d = (getO m d).or (if x.1 = d then some x.2 else none) := by
  induction m with
  | nil =>
    rw [List.nil_append, getO_cons]
    rfl
  | cons y m ih =>
    rw [List.cons_append, getO_cons, getO_cons, ih]
    by_cases h : y.1 = d <;> simp [h]
theorem get0_put (m : RowD) (c d : Cell) (w : Int) : get0 (putC m c w) d = if d = c then w else get0 m d := by
  unfold putC get0
  by_cases h : (m.any fun x => decide (x.1 = c)) = true
  · rw [if_pos h, getO_map]
    by_cases e : d = c
    · rw [if_pos e, if_pos e]
      obtain ⟨v, hv, _⟩ := getO_some (mem_any.mp h)
      rw [e, hv]
      rfl
    · rw [if_neg e, if_neg e]
  · rw [if_neg h, getO_app]
    by_cases e : d = c
    · rw [if_pos e, if_pos e.symm, e, getO_none fun z => h (mem_any.mpr z)]
      rfl
    · rw [if_neg e, if_neg fun z => e z.symm]
      cases getO m d <;> rfl
theorem addF_get (t : Int) (d : Cell) : ∀ (r m : RowD), (keys r).Nodup → get0 (addF m r t) d = get0 m d + t * get0 r d
  | [], m, _ => by
    rw [get0_nil, Int.mul_zero, Int.add_zero]
    rfl
  | x :: r, m, n => by
    have n' := List.nodup_cons.mp n
    show get0 (addF (putC m x.1 (get0 m x.1 + t * x.2)) r t) d = _
    rw [addF_get t d r _ n'.2, get0_put, get0_cons]
    by_cases e : d = x.1
    · rw [if_pos e, if_pos e.symm, e, get0_none n'.1, Int.mul_zero, Int.add_zero]
    · rw [if_neg e, if_neg fun z => e z.symm]
theorem addF_keys (t : Int) (d : Cell) : ∀ (r m : RowD), d ∈ keys (addF m r t) → d ∈ keys m ∨ d ∈ keys r
  | [], m, h => Or.inl h
  | x :: r, m, h => by
    rcases addF_keys t d r _ h with h | h
    · rw [keys_put] at h
      by_cases e : x.1 ∈ keys m
      · rw [if_pos e] at h
        exact Or.inl h
      · rw [if_neg e] at h
        rcases List.mem_append.mp h with h | h
        · exact Or.inl h
        · rw [List.mem_singleton.mp h]
          exact Or.inr List.mem_cons_self
    · exact Or.inr (List.mem_cons_of_mem _ h)
theorem sub_length : ∀ {l m : List Cell}, l.Nodup → (∀ x ∈ l, x ∈ m) → l.length ≤ m.length
  | [], _, _, _ => Nat.zero_le _
  | x :: l, m, n, h => by
    have n' := List.nodup_cons.mp n
    have hx := h x List.mem_cons_self
    have := sub_length (l := l) (m := m.erase x) n'.2 fun y hy => (List.mem_erase_of_ne (a := y) (b := x) fun e => n'.1 (by rw [← e]; exact hy)).mpr (h y (List.mem_cons_of_mem _ hy))
    rw [List.length_erase_of_mem hx] at this
    have : 0 < m.length := List.length_pos_of_mem hx
    rw [List.length_cons]
    omega
/-- rows on some cells, with bounded weights -/
structure DrawnR (cs : List Cell) (B : Int) (r : RowD) : Prop where
  ok : OkRow r
  on : ∀ c ∈ keys r, c ∈ cs
  lit : ∀ c, -B ≤ get0 r c ∧ get0 r c ≤ B
theorem DrawnR.mono {cs : List Cell} {B C : Int} {r : RowD} (h : DrawnR cs B r) (e : B ≤ C) : DrawnR cs C r := ⟨h.ok, h.on, fun c => by have := h.lit c; omega⟩
theorem DrawnR.many {cs : List Cell} {B : Int} {r : RowD} (h : DrawnR cs B r) : r.length ≤ cs.length := by
  have := sub_length (rising_nodup h.ok.up) h.on
  unfold keys at this
  rw [List.length_map] at this
  exact this
theorem DrawnR.at' {cs : List Cell} {B : Int} {r : RowD} (h : DrawnR cs B r) {x : Cell × Int} (hx : x ∈ r) : -B ≤ x.2 ∧ x.2 ≤ B := by
  have := h.lit x.1
  rw [get0_mem (rising_nodup h.ok.up) hx] at this
  exact this
theorem get0_tidy {m : RowD} (n : (keys m).Nodup) (c : Cell) : get0 (tidy m) c = get0 m c := by
  by_cases h : c ∈ keys (tidy m)
  · obtain ⟨w, h1, h2⟩ := getO_some h
    have e1 : get0 (tidy m) c = w := by
      unfold get0
      rw [h1]
      rfl
    have e2 := get0_mem n (tidy_mem n h2)
    rw [e1]
    exact e2.symm
  · rw [get0_none h]
    by_cases hm : c ∈ keys m
    · by_cases h0 : get0 m c = 0
      · exact h0.symm
      · exfalso
        refine h ?_
        have : (c, get0 m c) ∈ tidy m := List.mem_filter.mpr ⟨List.mem_map.mpr ⟨c, (sortC_perm (keys m)).mem_iff.mpr hm, rfl⟩, decide_eq_true h0⟩
        exact List.mem_map_of_mem (f := fun x : Cell × Int => x.1) this
    · exact (get0_none hm).symm
theorem get0_ofRow {a : RowD} (h : OkRow a) (c : Cell) : get0 (ofRow a) c = get0 a c := by rw [ofRow_self (rising_nodup h.up)]
theorem get0_addR {a b : RowD} (ha : OkRow a) (hb : OkRow b) (t : Int) (c : Cell) : get0 (addR a b t) c = get0 a c + t * get0 b c := by
  unfold addR
  rw [get0_tidy (addF_nodup (ofRow_nodup a) b t), addF_get t c b _ (rising_nodup hb.up), get0_ofRow ha]
theorem DrawnR.sum {cs : List Cell} {B C : Int} {a b : RowD} (ha : DrawnR cs B a) (hb : DrawnR cs C b) : DrawnR cs (B + C) (addR a b 1) := by
  have n := addF_nodup (ofRow_nodup a) b 1
  refine ⟨ok_tidy n, fun c hc => ?_, fun c => ?_⟩
  · have h1 : c ∈ keys (addF (ofRow a) b 1) := by
      obtain ⟨x, hx, e⟩ := List.mem_map.mp hc
      rw [← e]
      exact List.mem_map_of_mem (tidy_mem n hx)
    rcases addF_keys 1 c b _ h1 with h | h
    · rw [ofRow_self (rising_nodup ha.ok.up)] at h
      exact ha.on c h
    · exact hb.on c h
  · rw [get0_addR ha.ok hb.ok, Int.one_mul]
    have h1 := ha.lit c
    have h2 := hb.lit c
    omega
theorem ok_nil : OkRow [] := ⟨List.Pairwise.nil, fun x hx => absurd hx (by simp)⟩
theorem drawn_nil {cs : List Cell} {B : Int} (h : 0 ≤ B) : DrawnR cs B [] := ⟨ok_nil, fun c hc => absurd hc (by simp [keys]), fun c => by rw [get0_nil]; omega⟩
theorem drawn_tidy {m : RowD} {cs : List Cell} {B : Int} (hm : keys m = cs) (n : cs.Nodup) (h0 : 0 ≤ B) (hB : ∀ x ∈ m, -B ≤ x.2 ∧ x.2 ≤ B) : DrawnR cs B (tidy m) := by
  have nm : (keys m).Nodup := by
    rw [hm]
    exact n
  refine ⟨ok_tidy nm, fun c hc => ?_, fun c => ?_⟩
  · rw [← hm]
    obtain ⟨x, hx, e⟩ := List.mem_map.mp hc
    rw [← e]
    exact List.mem_map_of_mem (tidy_mem nm hx)
  · rw [get0_tidy nm]
    by_cases h : c ∈ keys m
    · obtain ⟨w, h1, h2⟩ := getO_some h
      have : get0 m c = w := by
        unfold get0
        rw [h1]
        rfl
      rw [this]
      exact hB _ h2
    · rw [get0_none h]
      omega
end AskG
/-! Rows in the heap. -/
namespace AskG
open PySem PySem.Spec PyProof.Rows L2

def PairRow (H : Hp) (p : Addr) (x : Cell × Int) : Prop := ∃ b, H p = some (.tup [.ref b, .int x.2]) ∧ CellAt H b x.1
def RowAt (H : Hp) (r : Addr) (ρ : RowD) : Prop := ∃ ps : List Addr, H r = some (.tup (ps.map V.ref)) ∧ Paired (PairRow H) ps ρ
/-- the tuples stay -/
def KeepT (H H' : Hp) : Prop := ∀ b xs, H b = some (.tup xs) → H' b = some (.tup xs)
theorem KeepT.of {H H' : Hp} (h : Same H H') : KeepT H H' := fun b xs e => h b _ e
theorem KeepT.trans {H H1 H2 : Hp} (h : KeepT H H1) (g : KeepT H1 H2) : KeepT H H2 := fun b xs e => g b xs (h b xs e)
theorem KeepT.refl (H : Hp) : KeepT H H := fun _ _ e => e
theorem KeepT.new {H : Hp} {p : Addr} {o : HO} (h : H p = none) : KeepT H (upd H p o) := fun b xs e => by
  rw [upd_ne (ne_of_none e h)]
  exact e
theorem KeepT.put {H : Hp} {p : Addr} {o u : HO} (h : H p = some u) (n : ∀ xs, u ≠ .tup xs) : KeepT H (upd H p o) := fun b xs e => by
  rw [upd_ne (ne_of e h fun z => n xs z.symm)]
  exact e
theorem CellAt.keep {H H' : Hp} {b : Addr} {c : Cell} (h : CellAt H b c) (k : KeepT H H') : CellAt H' b c := k _ _ h
theorem PairRow.keep {H H' : Hp} {p : Addr} {x : Cell × Int} (h : PairRow H p x) (k : KeepT H H') : PairRow H' p x := by
  obtain ⟨b, h1, h2⟩ := h
  exact ⟨b, k _ _ h1, h2.keep k⟩
theorem RowAt.keep {H H' : Hp} {r : Addr} {ρ : RowD} (h : RowAt H r ρ) (k : KeepT H H') : RowAt H' r ρ := by
  obtain ⟨ps, h1, h2⟩ := h
  exact ⟨ps, k _ _ h1, Paired.mapP h2 fun _ _ z => z.keep k⟩
theorem same_new {H : Hp} {p : Addr} {o : HO} (h : H p = none) : Same H (upd H p o) := fun b x e => by
  rw [upd_ne (ne_of_none e h)]
  exact e
theorem paired_at {α β : Type} {R : α → β → Prop} : ∀ {l : List α} {m : List β}, Paired R l m → ∀ {i : Nat} {y : β}, m[i]? = some y → ∃ x, l[i]? = some x ∧ R x y
  | _, _, .nil, i, y, e => by simp at e
  | _, _, .cons (a := a) h t, 0, y, e => ⟨a, rfl, by rw [← Option.some.inj e]; exact h⟩
  | _, _, .cons h t, i + 1, y, e => by
    obtain ⟨x, h1, h2⟩ := paired_at t (i := i) (by simpa using e)
    exact ⟨x, by simpa using h1, h2⟩
theorem paired_at' {α β : Type} {R : α → β → Prop} : ∀ {l : List α} {m : List β}, Paired R l m → ∀ {i : Nat} {x : α}, l[i]? = some x → ∃ y, m[i]? = some y ∧ R x y
  | _, _, .nil, i, y, e => by simp at e
  | _, _, .cons (b := b) h t, 0, y, e => ⟨b, rfl, by rw [← Option.some.inj e]; exact h⟩
  | _, _, .cons h t, i + 1, y, e => by
    obtain ⟨x, h1, h2⟩ := paired_at' t (i := i) (by simpa using e)
    exact ⟨x, by simpa using h1, h2⟩
theorem sqT {K : PySem.W.Frag} {H : Hp} {a : Addr} {xs : List V} (h : H a = some (.tup xs)) : SqT K H a xs := .inl (.inl h)
theorem sqL {K : PySem.W.Frag} {H : Hp} {a : Addr} {xs : List V} (h : H a = some (.lst xs)) : SqL K H a xs := .inl (.inl h)

/-! ### comprehensions of dicts over a tuple -/
theorem dcT_tup {K : PySem.W.Frag} {a : Addr} {xs : List V} {g : TG} {tk tv : TE} {vs : List Nat} {σ : L2.St} {H1 : Hp} {D : Addr} {Qd : Hp → Prop}
    (Pv : Nat → Hp → Prop) (h0 : Pv 0 (upd H1 D (.dT []))) (hl : ∀ i H, i ≤ xs.length → Pv i H → SqT K H a xs)
    (hs : ∀ i x H, xs[i]? = some x → Pv i H → g x (wipe σ vs) H fun σ2 H2 => wipe σ2 vs = wipe σ vs ∧ tk σ2 H2 fun y H4 => tv σ2 H4 fun z H5 =>
      ∃ b kvs k, y = .ref b ∧ H5 b = some (.tup (k.map kV)) ∧ H5 D = some (.dT kvs) ∧ kvs.length < sizeLine ∧ Pv (i + 1) (upd H5 D (.dT (putK kvs k z))))
    (hd : ∀ H, Pv xs.length H → Qd H) :
    ∃ W : Nat → Nat → Hp → Prop, (∃ m, W 0 m (upd H1 D (.dT []))) ∧ ∀ i m H, W i m H →
      ((Itt K a).stop i H ∧ Qd H) ∨ ((Itt K a).go i H ∧ ∃ Nx : Hp → Prop, (∀ H', Nx H' → ∃ m', m' < m ∧ W (i + 1) m' H') ∧
        ∀ x H', (Itt K a).yld i H x H' → g x (wipe σ vs) H' fun σ2 H2 => wipe σ2 vs = wipe σ vs ∧ tk σ2 H2 fun y H4 => tv σ2 H4 fun z H5 =>
          ∃ b kvs k, y = .ref b ∧ H5 b = some (.tup (k.map kV)) ∧ H5 D = some (.dT kvs) ∧ kvs.length < sizeLine ∧ Nx (upd H5 D (.dT (putK kvs k z)))) := by
  refine ⟨fun i m H => m = xs.length - i ∧ i ≤ xs.length ∧ Pv i H, ⟨xs.length, by simp, Nat.zero_le _, h0⟩, ?_⟩
  rintro i m H ⟨rfl, hi, p⟩
  have q := hl i H hi p
  by_cases hlt : i < xs.length
  · refine .inr ⟨⟨xs, xs[i], q, by simp [hlt]⟩, Pv (i + 1), fun H' p' => ⟨xs.length - (i + 1), by omega, rfl, hlt, p'⟩, ?_⟩
    rintro x H' ⟨e, y⟩
    subst e
    exact hs i x _ (y xs q) p
  · obtain rfl : i = xs.length := by omega
    exact .inl ⟨⟨xs, q, Nat.le_refl _⟩, hd H p⟩

theorem set2 {σ : L2.St} {a b : Nat} {v w : V} (ha : a < σ.length) (hb : b < σ.length) (hab : a ≠ b) :
    ((σ.set a (some v)).set b (some w))[a]? = some (some v) ∧ ((σ.set a (some v)).set b (some w))[b]? = some (some w) := by
  constructor
  · rw [List.getElem?_set_ne (fun e => hab e.symm), List.getElem?_set_self ha]
  · rw [List.getElem?_set_self (by rw [List.length_set]; exact hb)]
theorem set_over {σ : L2.St} (i : Nat) (x : Option V) : (σ.set i x).set i none = σ.set i none := List.set_set ..
theorem wipe2 {σ : L2.St} {a b : Nat} {v w : V} (hab : a ≠ b) : wipe (((wipe σ [a, b]).set a (some v)).set b (some w)) [a, b] = wipe σ [a, b] := by
  show ((((((σ.set b none).set a none)).set a (some v)).set b (some w)).set b none).set a none = (σ.set b none).set a none
  rw [List.set_set, List.set_set, List.set_comm _ _ hab, List.set_set, List.set_set]
theorem sizeBig : 100000 < sizeLine := by decide

/-- {cell: weight for cell, weight in row} -/
theorem dc_row {K : PySem.W.Frag} {i a b : Nat} {σ : L2.St} {H : Hp} {Q : VK} {r : Addr} {ρ : RowD} (hi : σ[i]? = some (some (.ref r))) (R : RowAt H r ρ)
    (ha : a < σ.length) (hb : b < σ.length) (hab : a ≠ b) (hz : ρ.length ≤ 1000)
    (q : ∀ D, H D = none → Q (.ref D) (upd H D (.dT (dk (ofRow ρ))))) :
    tDcT (iTup K (tVar i)) (gTup K 2 (gCons (gName a) (gCons (gName b) gNil))) (tVar a) (tVar b) [a, b] σ H Q := by
  obtain ⟨ps, hr, hp⟩ := R
  refine ⟨.ref r, hi, r, rfl, ⟨_, sqT hr⟩, fun D hD => ?_⟩
  refine dcT_tup (xs := ps.map V.ref) (fun i H' => H' = upd H D (.dT (dk (ofRow (ρ.take i))))) rfl (fun i H' _ e => ?_) (fun i x H' hx e => ?_) (fun H' e => ?_)
  · rw [e]
    refine sqT ?_
    rw [upd_ne (ne_of_none hr hD)]
    exact hr
  · subst e
    rw [List.getElem?_map] at hx
    cases hpi : ps[i]? with
    | none =>
      rw [hpi] at hx
      cases hx
    | some p =>
      rw [hpi] at hx
      have ex : V.ref p = x := Option.some.inj hx
      subst ex
      obtain ⟨y, hy, bb, h1, h2⟩ := paired_at' hp hpi
      have kp : KeepT H (upd H D (.dT (dk (ofRow (ρ.take i))))) := KeepT.new hD
      refine ⟨p, [.ref bb, .int y.2], rfl, sqT (kp _ _ h1), rfl, .ref bb, [.int y.2], rfl, .int y.2, [], rfl, rfl, ?_⟩
      refine ⟨wipe2 hab, .ref bb, (set2 (by rw [wipe_length]; exact ha) (by rw [wipe_length]; exact hb) hab).1, .int y.2, (set2 (by rw [wipe_length]; exact ha) (by rw [wipe_length]; exact hb) hab).2, bb, dk (ofRow (ρ.take i)), ck y.1, rfl, kp _ _ h2, upd_same, ?_, ?_⟩
      · rw [dk_length]
        have h1 := ofRow_length (ρ.take i)
        have h2 := List.length_take_le i ρ
        have := sizeBig
        have h3 : (ρ.take i).length ≤ ρ.length := by
          rw [List.length_take]
          omega
        omega
      · rw [upd_upd, dk_put, List.take_add_one, hy]
        show _ = upd H D (.dT (dk ((ρ.take i ++ [y]).foldl _ [])))
        rw [List.foldl_append]
        rfl
  · have : (ps.map V.ref).length = ρ.length := by rw [List.length_map, Paired.length hp]
    rw [e, this, List.take_length]
    exact q D hD

theorem ck_kV (c : Cell) : (ck c).map kV = [V.str c.1, V.int c.2] := rfl
theorem wipe1 {σ : L2.St} {a : Nat} {v : V} : wipe ((wipe σ [a]).set a (some v)) [a] = wipe σ [a] := by
  show (((σ.set a none).set a (some v)).set a none) = σ.set a none
  rw [List.set_set, List.set_set]
theorem wipe_at {σ : L2.St} {a i : Nat} (h : i ≠ a) : (wipe σ [a])[i]? = σ[i]? := by
  show (σ.set a none)[i]? = σ[i]?
  exact List.getElem?_set_ne (fun e => h e.symm)
theorem dget_of {H : Hp} {D b : Addr} {m : RowD} {c : Cell} (hD : H D = some (.dT (dk m))) (hb : CellAt H b c) : DGet H D (.ref b) ((getO m c).map V.int) := by
  have := DGet.t (k := ck c) hD (by rw [ck_kV]; exact hb)
  rw [dk_val] at this
  exact this
/-- [(cell, weights[cell]) for cell in sorted(weights) if weights[cell] != 0] -/
theorem lc_tidy {K : PySem.W.Frag} {iw ic : Nat} {σ : L2.St} {H : Hp} {Q : VK} {D : Addr} {m : RowD} (hw : σ[iw]? = some (some (.ref D))) (hne : iw ≠ ic) (hic : ic < σ.length)
    (hD : H D = some (.dT (dk m))) (n : (keys m).Nodup) (hz : m.length ≤ 1000)
    (q : ∀ H' L ps, Same H H' → H L = none → H' L = some (.lst (ps.map V.ref)) → Paired (PairRow H') ps (tidy m) → Q (.ref L) H') :
    tLc (iList K (tCB rSortT (tCons (tVar iw) tNil))) (gName ic) (tTest (tOp rNe (tDGet (tVar iw) (tVar ic)) (tC (V.int 0))))
      (tTup (tCons (tVar ic) (tCons (tDGet (tVar iw) (tVar ic)) tNil))) [ic] σ H Q := by
  refine ⟨.ref D, hw, D, dk m, keys m, rfl, .inl hD, dk_keys m, fun ys bs p hp hup hbs hpn => ?_⟩
  have ey : ys = sortC (keys m) := rising_uniq (hp.trans (sortC_perm (keys m)).symm) hup (sortC_rising n)
  have s1 : Same H (upd H p (.lst (bs.map V.ref))) := same_new hpn
  refine ⟨p, rfl, ⟨_, sqL upd_same⟩, fun L hL => ?_⟩
  have hLH : H L = none := s1.free hL
  refine lc_list (xs := bs.map V.ref) (fun i H' => Same (upd H p (.lst (bs.map V.ref))) H' ∧ ∃ ps, H' L = some (.lst (ps.map V.ref)) ∧ Paired (PairRow H') ps (pick m (ys.take i)) ∧ ps.length ≤ i)
    ⟨same_new hL, [], upd_same, .nil, Nat.le_refl _⟩ (fun i H' _ h => sqL (h.1 _ _ upd_same)) (fun i x H' hx h => ?_) (fun H' h => ?_)
  · obtain ⟨sm, ps, hps, hpp, hpl⟩ := h
    have smH : Same H H' := s1.trans sm
    rw [List.getElem?_map] at hx
    cases hbi : bs[i]? with
    | none =>
      rw [hbi] at hx
      cases hx
    | some b =>
      rw [hbi] at hx
      have ex : V.ref b = x := Option.some.inj hx
      subst ex
      obtain ⟨c, hc, hcb⟩ := paired_at' hbs hbi
      have hcm : c ∈ keys m := hp.mem_iff.mp (List.mem_of_getElem? hc)
      obtain ⟨w, hw1, hw2⟩ := getO_some hcm
      have hcb' : CellAt H' b c := hcb.keep (KeepT.of smH)
      have dg : DGet H' D (.ref b) (some (.int w)) := by
        have := dget_of (smH _ _ hD) hcb'
        rw [hw1] at this
        exact this
      have g0 : get0 m c = w := by
        unfold get0
        rw [hw1]
        rfl
      have bl : i < bs.length := (List.getElem?_eq_some_iff.mp hbi).1
      have ysl : bs.length = ys.length := Paired.length hbs
      have yml : ys.length = m.length := by
        rw [hp.length_eq]
        exact List.length_map _
      have big := sizeBig
      have aw : ((wipe σ [ic]).set ic (some (.ref b)))[iw]? = some (some (.ref D)) := by
        rw [List.getElem?_set_ne (fun e => hne e.symm), wipe_at hne]
        exact hw
      have ac : ((wipe σ [ic]).set ic (some (.ref b)))[ic]? = some (some (.ref b)) := List.getElem?_set_self (by rw [wipe_length]; exact hic)
      have pk : pick m (ys.take (i + 1)) = pick m (ys.take i) ++ (if w ≠ 0 then [(c, w)] else []) := by
        rw [List.take_add_one, hc]
        unfold pick
        rw [List.map_append, List.filter_append]
        congr 1
        show List.filter _ [(c, get0 m c)] = _
        rw [g0]
        by_cases h0 : w = 0
        · simp [h0]
        · simp [h0]
      refine ⟨wipe1, .ref D, aw, .ref b, ac, D, .int w, rfl, dg, rfl, _, rfl, ?_⟩
      by_cases h0 : w = 0
      · rw [h0]
        refine iteF ?_
        refine ⟨sm, ps, hps, ?_, by omega⟩
        rw [pk, if_neg (by simp [h0]), List.append_nil]
        exact hpp
      · have e0 : (!decide (V.int w = V.int 0)) = true := by
          rw [decide_eq_false fun z => h0 (V.int.inj z)]
          rfl
        rw [e0]
        refine iteT ?_
        refine ⟨.ref b, ac, .ref D, aw, .ref b, ac, D, .int w, rfl, dg, by show 2 ≤ sizeLine; decide, fun t ht => ?_⟩
        have nLt : L ≠ t := ne_of_none hps ht
        refine ⟨ps.map V.ref, by rw [upd_ne nLt]; exact hps, by rw [List.length_map]; omega, ?_, ps ++ [t], ?_, ?_, ?_⟩
        · intro b' o' e'
          have nb : b' ≠ L := ne_of_none e' hL
          rw [upd_ne nb, upd_ne (ne_of_none (sm _ _ e') ht)]
          exact sm _ _ e'
        · rw [upd_same, List.map_append]
          rfl
        · have kp : KeepT H' (upd (upd H' t (.tup [.ref b, .int w])) L (.lst (ps.map V.ref ++ [.ref t]))) :=
            (KeepT.new ht).trans (KeepT.put (u := .lst (ps.map V.ref)) (by rw [upd_ne nLt]; exact hps) (fun _ z => nomatch z))
          rw [pk, if_pos h0]
          refine Paired.snoc (Paired.mapP hpp fun _ _ z => z.keep kp) ⟨b, ?_, hcb'.keep kp⟩
          rw [upd_ne nLt.symm, upd_same]
        · rw [List.length_append]
          show ps.length + 1 ≤ i + 1
          omega
  · obtain ⟨sm, ps, hps, hpp, _⟩ := h
    have e : ys.take (bs.map V.ref).length = ys := List.take_of_length_le (by rw [List.length_map, Paired.length hbs]; exact Nat.le_refl _)
    rw [e, ey] at hpp
    exact q H' L ps (s1.trans sm) hLH hps hpp

/-- the row of a made list of pairs -/
theorem row_of_list {H : Hp} {L p : Addr} {ps : List Addr} {ρ : RowD} (hp : H p = none) (h : Paired (PairRow H) ps ρ) : RowAt (upd H p (.tup (ps.map V.ref))) p ρ :=
  ⟨ps, upd_same, Paired.mapP h fun _ _ z => z.keep (KeepT.new hp)⟩

/-- for cell, weight in row: weights[cell] = weights.get(cell, 0) + t * weight -/
theorem for_add {K : PySem.W.Frag} {io iw a b : Nat} {σ : L2.St} {H : Hp} {Dn : Ends} {Dd r : Addr} {π m : RowD} {t : Int} {tv : TE}
    (hio : σ[io]? = some (some (.ref r))) (hiw : σ[iw]? = some (some (.ref Dd))) (wa : iw ≠ a) (wb : iw ≠ b) (ha : a < σ.length) (hb : b < σ.length) (hab : a ≠ b)
    (R : RowAt H r π) (hD : H Dd = some (.dT (dk m))) (hz : m.length + π.length ≤ 1000)
    (htv : ∀ (σ' : L2.St) (H' : Hp) (c : Cell) (w : Int) (m' : RowD) (bb : Addr) (Q : VK), (c, w) ∈ π → (∀ j, j ≠ a → j ≠ b → σ'[j]? = σ[j]?) → σ'[a]? = some (some (.ref bb)) → σ'[b]? = some (some (.int w)) →
      H' Dd = some (.dT (dk m')) → CellAt H' bb c → Q (.int (get0 m' c + t * w)) H' → tv σ' H' Q)
    (q : ∀ σ', (∀ j, j ≠ a → j ≠ b → σ'[j]? = σ[j]?) → σ'.length = σ.length → Dn.nx σ' (upd H Dd (.dT (dk (addF m π t))))) :
    tFor (iTup K (tVar io)) (gTup K 2 (gCons (gName a) (gCons (gName b) gNil))) (sDPut (tVar iw) (tVar a) tv) Dn σ H := by
  obtain ⟨ps, hr, hp⟩ := R
  refine ⟨.ref r, hio, r, rfl, ⟨_, sqT hr⟩, ?_⟩
  refine for_tup (xs := ps.map V.ref) (fun i σ' H' => (∀ j, j ≠ a → j ≠ b → σ'[j]? = σ[j]?) ∧ σ'.length = σ.length ∧ H' = upd H Dd (.dT (dk (addF m (π.take i) t))))
    ⟨fun _ _ _ => rfl, rfl, ?_⟩ (fun i σ' H' _ h => ?_) (fun i x σ' H' hx h => ?_) (fun σ' H' h => ?_)
  · funext c
    show H c = upd H Dd (.dT (dk m)) c
    by_cases e : c = Dd
    · rw [e, upd_same, hD]
    · rw [upd_ne e]
  · rw [h.2.2]
    refine sqT ?_
    rw [upd_ne (ne_of hr hD fun z => nomatch z)]
    exact hr
  · obtain ⟨hj, hl, rfl⟩ := h
    rw [List.getElem?_map] at hx
    cases hpi : ps[i]? with
    | none =>
      rw [hpi] at hx
      cases hx
    | some p =>
      rw [hpi] at hx
      have ex : V.ref p = x := Option.some.inj hx
      subst ex
      obtain ⟨y, hy, bb, h1, h2⟩ := paired_at' hp hpi
      have kp : KeepT H (upd H Dd (.dT (dk (addF m (π.take i) t)))) := KeepT.put hD fun _ z => nomatch z
      have s2 := set2 (v := .ref bb) (w := .int y.2) (by rw [hl]; exact ha) (by rw [hl]; exact hb) hab
      have hj' : ∀ j, j ≠ a → j ≠ b → ((σ'.set a (some (.ref bb))).set b (some (.int y.2)))[j]? = σ[j]? := fun j h1 h2 => by
        rw [List.getElem?_set_ne (fun e => h2 e.symm), List.getElem?_set_ne (fun e => h1 e.symm)]
        exact hj j h1 h2
      refine ⟨p, [.ref bb, .int y.2], rfl, sqT (kp _ _ h1), rfl, .ref bb, [.int y.2], rfl, .int y.2, [], rfl, rfl, ?_⟩
      refine htv _ _ y.1 y.2 (addF m (π.take i) t) bb _ (List.mem_of_getElem? hy) hj' s2.1 s2.2 upd_same (kp _ _ h2) ?_
      have pl : (π.take i).length ≤ π.length := by
        rw [List.length_take]
        omega
      have al := addF_length m (π.take i) t
      have big := sizeBig
      refine ⟨.ref Dd, by rw [hj' iw wa wb]; exact hiw, .ref bb, s2.1, Dd, _, rfl, DPut.t (k := ck y.1) upd_same (by rw [ck_kV]; exact kp _ _ h2) (by rw [dk_length]; omega), ?_⟩
      refine ⟨hj', by rw [List.length_set, List.length_set]; exact hl, ?_⟩
      rw [upd_upd, dk_put, List.take_add_one, hy]
      show _ = upd H Dd (.dT (dk ((π.take i ++ [y]).foldl _ m)))
      rw [List.foldl_append]
      rfl
  · obtain ⟨hj, hl, rfl⟩ := h
    have e : π.take (ps.map V.ref).length = π := List.take_of_length_le (by rw [List.length_map, Paired.length hp]; exact Nat.le_refl _)
    rw [e]
    exact q σ' hj hl

/-! ### readings, opened one at a time -/
theorem iSeq {t u : TS} {D : Ends} {σ : L2.St} {H : Hp} (h : t { D with nx := u D } σ H) : tSeq t u D σ H := h
theorem iAsg {te : TE} {g : TG} {D : Ends} {σ : L2.St} {H : Hp} (h : te σ H fun x H1 => g x σ H1 D.nx) : tAsg te g D σ H := h
theorem iRet {te : TE} {D : Ends} {σ : L2.St} {H : Hp} (h : te σ H D.rt) : tRet te D σ H := h
theorem iCB {r : List V → Hp → VK → Prop} {t : TA} {σ : L2.St} {H : Hp} {Q : VK} (h : t σ H fun vs H1 => r vs H1 Q) : tCB r t σ H Q := h
theorem iCons {ta : TE} {tr : TA} {σ : L2.St} {H : Hp} {Q : List V → Hp → Prop} (h : ta σ H fun x H1 => tr σ H1 fun xs H2 => Q (x :: xs) H2) : tCons ta tr σ H Q := h
theorem iOp {r : R2} {ta tb : TE} {σ : L2.St} {H : Hp} {Q : VK} (h : ta σ H fun x H1 => tb σ H1 fun y H2 => r x y H2 Q) : tOp r ta tb σ H Q := h
theorem iTest {t : TE} {σ : L2.St} {H : Hp} {Q : Bool → Hp → Prop} (h : t σ H fun x H' => ∃ k, x = .bl k ∧ Q k H') : tTest t σ H Q := h
theorem iNext {D : Ends} {σ : L2.St} {H : Hp} (h : D.nx σ H) : tNext D σ H := h
theorem iName {i : Nat} {v : V} {σ : L2.St} {H : Hp} {Q : L2.St → Hp → Prop} (h : Q (σ.set i (some v)) H) : gName i v σ H Q := h
/-- a value by what holds of it -/
theorem split_k {t : TE} {σ : L2.St} {H : Hp} {Q : VK} (R : V → Hp → Prop) (h1 : ∀ Q' : VK, (∀ v H', R v H' → Q' v H') → t σ H Q') (h2 : ∀ v H', R v H' → Q v H') : t σ H Q := h1 Q h2
/-- a block by what holds behind it -/
theorem split_s {t : TS} {D : Ends} {σ : L2.St} {H : Hp} (R : L2.St → Hp → Prop) (h1 : ∀ nx : L2.St → Hp → Prop, (∀ σ' H', R σ' H' → nx σ' H') → t { D with nx := nx } σ H) (h2 : ∀ σ' H', R σ' H' → D.nx σ' H') : t D σ H := h1 D.nx h2
theorem iNil {σ : L2.St} {H : Hp} {Q : List V → Hp → Prop} (h : Q [] H) : tNil σ H Q := h
end AskG
/-! sorted(..) of a list of pairs of a cell and a weight. -/
namespace AskG
open PySem PySem.Spec PyProof.Rows L2
def ltX (x y : Cell × Int) : Bool := if x.1 = y.1 then decide (x.2 < y.2) else ltC x.1 y.1
theorem ltX_iff {x y : Cell × Int} : ltX x y = true ↔ ltC x.1 y.1 = true ∨ (x.1 = y.1 ∧ x.2 < y.2) := by
  unfold ltX
  by_cases e : x.1 = y.1
  · rw [if_pos e, decide_eq_true_eq]
    constructor
    · exact fun h => .inr ⟨e, h⟩
    · rintro (h | h)
      · rw [e, ltC_irr] at h
        cases h
      · exact h.2
  · rw [if_neg e]
    constructor
    · exact fun h => .inl h
    · rintro (h | h)
      · exact h
      · exact absurd h.1 e
theorem ltX_tri (x y : Cell × Int) : ltX x y = true ∨ x = y ∨ ltX y x = true := by
  rcases ltC_tri x.1 y.1 with h | h | h
  · exact .inl (ltX_iff.mpr (.inl h))
  · rcases Int.lt_trichotomy x.2 y.2 with g | g | g
    · exact .inl (ltX_iff.mpr (.inr ⟨h, g⟩))
    · exact .inr (.inl (Prod.ext h g))
    · exact .inr (.inr (ltX_iff.mpr (.inr ⟨h.symm, g⟩)))
  · exact .inr (.inr (ltX_iff.mpr (.inl h)))
theorem ltX_trans {x y z : Cell × Int} (h1 : ltX x y = true) (h2 : ltX y z = true) : ltX x z = true := by
  refine ltX_iff.mpr ?_
  rcases ltX_iff.mp h1 with a | ⟨a, a'⟩ <;> rcases ltX_iff.mp h2 with b | ⟨b, b'⟩
  · exact .inl (ltC_trans a b)
  · exact .inl (b ▸ a)
  · exact .inl (a ▸ b)
  · exact .inr ⟨a.trans b, Int.lt_trans a' b'⟩
theorem ltX_irr (x : Cell × Int) : ltX x x = false := by
  cases h : ltX x x with
  | false => rfl
  | true =>
    rcases ltX_iff.mp h with a | ⟨_, a⟩
    · rw [ltC_irr] at a
      cases a
    · exact absurd a (Int.lt_irrefl _)
theorem ltX_asym {x y : Cell × Int} (h : ltX x y = true) : ltX y x = false := by
  cases g : ltX y x with
  | false => rfl
  | true =>
    have := ltX_trans h g
    rw [ltX_irr] at this
    cases this
theorem swo_X {α : Type} (k : α → Cell × Int) : SrtO.Swo fun v u => ltX (k v) (k u) := by
  refine ⟨fun x y h => ltX_asym h, fun x y z h1 h2 => ?_⟩
  cases g : ltX (k z) (k x) with
  | false => rfl
  | true =>
    rcases ltX_tri (k x) (k y) with a | a | a
    · have := ltX_trans g a
      rw [h2] at this
      cases this
    · rw [← a, g] at h2
      cases h2
    · rw [h1] at a
      cases a
/-- the value is a tuple of a cell and an int -/
def IsPr (h : Heap) (v : Value) (x : Cell × Int) : Prop := ∃ (a b : Addr) (t : Tok), v = .ref a ∧ IsTup h a #[.ref b, .int x.2 t] ∧ IsCl h (.ref b) x.1
theorem IsPr.keeps {h h' : Heap} {v : Value} {x : Cell × Int} (p : IsPr h v x) (k : ∀ b o, h.get? b = some o → o.cls = .type "tuple" → h'.get? b = some o) : IsPr h' v x := by
  obtain ⟨a, b, t, e, ⟨o, ho, hc, r⟩, c⟩ := p
  exact ⟨a, b, t, e, ⟨o, k _ _ ho hc, hc, r⟩, c.keeps k⟩
section
variable {prog : Program} {w : World} {A : Around} {E : Value → Shared → Prop} {s : Shared}
theorem cells_lt {a b : Addr} {c d : Cell} (ha : IsCl s.heap (.ref a) c) (hb : IsCl s.heap (.ref b) d) (hu : A.units < cLine) : Ob.RcOp .Lt A s (.ref a) (.ref b) (ltC c d) := by
  obtain ⟨a', t, t', e, ht⟩ := ha
  cases e
  obtain ⟨b', u, u', e, hu2⟩ := hb
  cases e
  have R := Ob.RcOp.tuples_lt (A := A) (s := s) (e := fun j => if j = 0 then c.1 == d.1 else c.2 == d.2)
    (r := fun j => if j = 0 then decide (c.1.cps.toList < d.1.cps.toList) else decide (c.2 < d.2)) ht hu2 hu
    (fun j h1 h2 => by
      have h1 : j < 2 := h1
      match j, h1 with
      | 0, _ => exact SeqAt.EqAt.str_str c.1 t d.1 u
      | 1, _ => exact SeqAt.EqAt.int_int c.2 t' d.2 u')
    (fun j h1 h2 _ => by
      have h1 : j < 2 := h1
      match j, h1 with
      | 0, _ => exact fun _ _ _ _ h => PyProof.Rows.lt_str h
      | 1, _ => exact fun _ _ _ _ h => PyProof.Rows.lt_int h)
  have e : Ob.lexAt (fun j => if j = 0 then c.1 == d.1 else c.2 == d.2) (fun j => if j = 0 then decide (c.1.cps.toList < d.1.cps.toList) else decide (c.2 < d.2)) (decide (2 < 2)) 0 (min 2 2) = ltC c d := by
    show (if (c.1 == d.1) = true then (if (c.2 == d.2) = true then decide (2 < 2) else decide (c.2 < d.2)) else decide (c.1.cps.toList < d.1.cps.toList)) = ltC c d
    unfold ltC
    by_cases e1 : c.1 = d.1
    · rw [if_pos (beq_iff_eq.mpr e1), if_pos e1]
      by_cases e2 : c.2 = d.2
      · rw [if_pos (beq_iff_eq.mpr e2), e2, decide_eq_false (Int.lt_irrefl _)]
        rfl
      · rw [if_neg fun z => e2 (beq_iff_eq.mp z)]
    · rw [if_neg fun z => e1 (beq_iff_eq.mp z), if_neg e1]
  rw [← e]
  exact R
theorem cells_eq {a b : Addr} {c d : Cell} (ha : IsCl s.heap (.ref a) c) (hb : IsCl s.heap (.ref b) d) (hu : A.units < cLine) : SeqAt.EqAt A s (.ref a) (.ref b) (decide (c = d)) := by
  obtain ⟨a', t, t', e, ht⟩ := ha
  cases e
  obtain ⟨b', u, u', e, hu2⟩ := hb
  cases e
  by_cases z : a = b
  · subst z
    obtain ⟨o, ho, _, n, hd⟩ := ht
    obtain ⟨o', ho', _, n', hd'⟩ := hu2
    rw [ho] at ho'
    cases ho'
    rw [hd] at hd'
    have e : c = d := by
      injection hd' with e1 _
      have e1 := congrArg Array.toList e1
      simp only [List.cons.injEq, Value.str.injEq, Value.int.injEq] at e1
      exact Prod.ext e1.1.1 e1.2.1.1
    rw [decide_eq_true e]
    exact SeqAt.EqAt.same _
  · have R := SeqAt.RcAt.tuples (A := A) (s := s) (e := fun j => if j = 0 then c.1 == d.1 else c.2 == d.2) ht hu2 hu
      (fun j h1 h2 => by
        have h1 : j < 2 := h1
        match j, h1 with
        | 0, _ => exact SeqAt.EqAt.str_str c.1 t d.1 u
        | 1, _ => exact SeqAt.EqAt.int_int c.2 t' d.2 u')
    have e : ((List.range (min 2 2)).all (fun j => if j = 0 then c.1 == d.1 else c.2 == d.2) && (2 : Nat) == 2) = decide (c = d) := by
      show ((c.1 == d.1 && (c.2 == d.2 && true)) && true) = decide (c = d)
      by_cases q : c = d
      · rw [q, decide_eq_true rfl]
        simp
      · rw [decide_eq_false q]
        by_cases q1 : c.1 = d.1
        · have q2 : ¬ c.2 = d.2 := fun q2 => q (Prod.ext q1 q2)
          simp [q2]
        · simp [q1]
    rw [← e]
    exact SeqAt.EqAt.of_refs z R
theorem pr_cmp {vs : List Value} {k : Value → Cell × Int} (hu : A.units < cLine) (hp : ∀ v ∈ vs, IsPr s.heap v (k v)) :
    SrtO.Cmp prog w A s (tuples' false) (fun p => p.1 ∈ vs) (SrtO.lt2 fun v u => ltX (k v) (k u)) := by
  intro p q hm hm'
  have h1 := hp _ hm
  have h2 := hp _ hm'
  show wpAny (model prog w) A (keyLt' (tuples' false) p.1 q.1) (fun r s' => s' = s ∧ r = ltX (k p.1) (k q.1)) (fun _ _ => False) s
  generalize k p.1 = x at h1 ⊢
  generalize k q.1 = y at h2 ⊢
  obtain ⟨a, b, t, e, ⟨o, ho, hc, n, hd⟩, cb⟩ := h1
  obtain ⟨a', b', t', e', ⟨o', ho', hc', n', hd'⟩, cb'⟩ := h2
  rw [e, e']
  refine PySem.W.kat_lt ho hd ho' hd' ?_
  show PySem.W.KatLex prog w A false (decide (2 < 2)) _ [(.ref b, .ref b'), (.int x.2 t, .int y.2 t')] 0 s
  refine PySem.W.kat_cons (cells_eq cb cb' hu prog w _ _ ?_)
  refine PySem.W.kat_go (fun e1 => ?_) (fun e1 => ?_)
  · have ex : x.1 = y.1 := of_decide_eq_true e1
    refine PySem.W.kat_yes (PySem.W.kat_cons (SeqAt.EqAt.int_int x.2 t y.2 t' prog w _ _ ?_))
    refine PySem.W.kat_go (fun e2 => ?_) (fun e2 => ?_)
    · have ey : x.2 = y.2 := by simpa using e2
      have e3 : ltX x y = false := by
        rw [show x = y from Prod.ext ex ey]
        exact ltX_irr y
      exact PySem.W.kat_yes (PySem.W.kat_nil ⟨rfl, e3.symm⟩)
    · have e3 : ltX x y = decide (x.2 < y.2) := if_pos ex
      refine PySem.W.kat_no (PySem.W.kat_one _ _ (PyProof.Rows.lt_int ?_))
      exact (show s = s ∧ decide (x.2 < y.2) = ltX x y from ⟨rfl, e3.symm⟩)
  · have ex : ¬ x.1 = y.1 := of_decide_eq_false e1
    have e3 : ltX x y = ltC x.1 y.1 := if_neg ex
    refine PySem.W.kat_no (PySem.W.kat_one _ _ (cells_lt cb cb' hu prog w _ _ ?_))
    exact (show s = s ∧ ltC x.1 y.1 = ltX x y from ⟨rfl, e3.symm⟩)
theorem pr_firsts {h : Heap} : ∀ {vs : List Value}, (∀ v ∈ vs, ∃ c, IsPr h v c) →
    ∃ fs : List Value, PySem.W.KatTups h vs fs ∧ fs.length = vs.length ∧ ∀ f ∈ fs, ∃ b c, f = Value.ref b ∧ IsCl h (.ref b) c
  | [], _ => ⟨[], .nil, rfl, fun f hf => absurd hf (by simp)⟩
  | v :: vs, x => by
    obtain ⟨fs, k, hl, hi⟩ := pr_firsts (vs := vs) fun u hu => x u (List.mem_cons_of_mem _ hu)
    obtain ⟨c, a, b, t, rfl, ⟨o, ho, hc, n, hd⟩, hb⟩ := x v List.mem_cons_self
    refine ⟨.ref b :: fs, .cons ho hc hd rfl k, congrArg (· + 1) hl, fun f hf => ?_⟩
    rcases List.mem_cons.mp hf with rfl | hf
    · exact ⟨_, _, rfl, hb⟩
    · exact hi f hf
theorem pr_sortable {a : Addr} {vs : List Value} {k : Value → Cell × Int} (hu : A.units < cLine) (h0 : 0 < vs.length) (hp : ∀ v ∈ vs, IsPr s.heap v (k v))
    (ha : ∀ o, s.heap.get? a = some o → o.cls ≠ .type "tuple") : SrtO.SortableO prog w A s a vs fun v u => ltX (k v) (k u) := by
  intro h' keep
  have hp' : ∀ v ∈ vs, IsPr h' v (k v) := fun v hm => (hp v hm).keeps fun b o e c => keep b o (fun z => by subst z; exact ha o e c) e
  obtain ⟨fs, h1, h2, h3⟩ := pr_firsts fun v hm => ⟨_, hp' v hm⟩
  refine ⟨tuples' false, fun Q E hq => ?_, pr_cmp hu hp'⟩
  refine PySem.W.kat_kind (T := .type "tuple") h1 (by omega) (fun f hm => ?_) (by rfl) ?_
  · obtain ⟨b, c, rfl, b', _, _, e, o, ho, hc, _⟩ := h3 f hm
    cases e
    exact fun A Q E s k q => wpAny_typeOf ⟨o, k _ _ ho, hc⟩ q
  · have e : (Value.type "tuple" != Value.type "tuple") = false := by first | decide +kernel | rfl | decide
    rw [e]
    exact hq
end
/-- the pair that stands behind a value -/
def pairOf (H : Hp) : Value → Cell × Int
  | .ref a => match H a with
    | some (.tup [.ref b, .int w]) => (cellOf H (.ref b), w)
    | _ => ((⟨#[]⟩, 0), 0)
  | _ => ((⟨#[]⟩, 0), 0)
theorem pairOf_at {H : Hp} {p : Addr} {x : Cell × Int} (h : PairRow H p x) : pairOf H (.ref p) = x := by
  obtain ⟨b, h1, h2⟩ := h
  show (match H p with
    | some (.tup [.ref b, .int w]) => (cellOf H (.ref b), w)
    | _ => (((⟨#[]⟩, 0), 0) : Cell × Int)) = x
  rw [h1]
  show (cellOf H (.ref b), x.2) = x
  rw [cellOf_at h2]
theorem isPr_of {P : Program} {w : World} {H : Hp} {h : Heap} {p : Addr} {x : Cell × Int} (ok : HOk P w H h) (e : PairRow H p x) : IsPr h (.ref p) x := by
  obtain ⟨b, h1, h2⟩ := e
  obtain ⟨_, its, r, ht⟩ := (show ObjOk P w H h p (.tup [.ref b, .int x.2]) from ok p _ h1)
  obtain ⟨u, v, ei, ru, rv⟩ := vals2 r
  obtain ⟨t, rfl⟩ := rv
  cases ru
  subst ei
  exact ⟨p, b, t, rfl, ht, isCl_of ok h2⟩
/-- sorted(l), l a list of pairs of a cell and a weight -/
def rSortX (K : PySem.W.Frag) : List V → Hp → VK → Prop := fun xs H Q => ∃ (a : Addr) (ps : List Addr) (ρ : RowD), xs = [.ref a] ∧ SqL K H a (ps.map V.ref) ∧ Paired (PairRow H) ps ρ ∧
  ∀ (ys : List Addr) (π : RowD) (p : Addr), π.Perm ρ → π.Pairwise (fun a b => ltX b a = false) → Paired (PairRow H) ys π → H p = none → Q (.ref p) (upd H p (.lst (ys.map V.ref)))
theorem paired_map {α β : Type} {R : α → β → Prop} (f : α → β) (h : ∀ a b, R a b → f a = b) : ∀ {l : List α} {m : List β}, Paired R l m → l.map f = m
  | _, _, .nil => rfl
  | _, _, .cons h1 t => by rw [List.map_cons, h _ _ h1, paired_map f h t]
theorem paired_mem {α β : Type} {R : α → β → Prop} : ∀ {l : List α} {m : List β}, Paired R l m → ∀ a ∈ l, ∃ b, R a b
  | _, _, .nil, a, h => absurd h (by simp)
  | _, _, .cons h1 t, a, h => by
    rcases List.mem_cons.mp h with rfl | h
    · exact ⟨_, h1⟩
    · exact paired_mem t a h
section
variable {X : Cx}
theorem cr_sortX (hu : X.A.units + 64 < cLine) : CallR X (.builtin "sorted") (rSortX X.K) := by
  intro pins s σ H vs us Q I r h
  obtain ⟨a, ps, ρ, rfl, hs, hx, q⟩ := h
  obtain ⟨its, rv, hl, hz⟩ := I.list hs
  obtain ⟨u, rfl, ru⟩ := vals1 r
  obtain rfl : u = Value.ref a := ru
  have ei : its = ps.map Value.ref := by
    clear hl hz q hx hs
    induction ps generalizing its with
    | nil =>
      cases rv
      rfl
    | cons p ps ih =>
      cases rv with
      | cons h1 t =>
        cases h1
        rw [List.map_cons, ih _ t]
  subst ei
  have hp : ∀ v ∈ ps.map Value.ref, ∃ p x, v = .ref p ∧ PairRow H p x := fun v hv => by
    obtain ⟨p, hp, rfl⟩ := List.mem_map.mp hv
    obtain ⟨x, hx'⟩ := paired_mem hx p hp
    exact ⟨p, x, rfl, hx'⟩
  refine SrtO.sorted_ord (ltv := fun v u => ltX (pairOf H v) (pairOf H u)) (swo_X _) hl.isList (by rw [← rv.length]; exact hz) (fun h2 h₁ a' ha kk => ?_) fun out h1 h2 => ?_
  · refine pr_sortable (s := { s with heap := h₁ }) (by show X.A.units + 1 + 1 < cLine; omega) (by omega) (fun v hv => ?_) fun o e => ?_
    · obtain ⟨p, x, rfl, hx'⟩ := hp v hv
      rw [pairOf_at hx']
      exact (isPr_of I.hok hx').keeps fun b o e _ => (kk b o e).2
    · have e' : some o = some (seqObj "list" (ps.map Value.ref).toArray 0) := e.symm.trans ha
      cases e'
      intro c
      exact absurd (Value.type.inj c) (by decide)
  · have hout : ∀ v ∈ out, ∃ p x, v = .ref p ∧ PairRow H p x := fun v hv => hp v (h2.perm.mem_iff.mp hv)
    have hys : ∃ ys : List Addr, out = ys.map Value.ref := by
      clear h1 h2
      induction out with
      | nil => exact ⟨[], rfl⟩
      | cons v l ih =>
        obtain ⟨ys, rfl⟩ := ih fun u hu => hout u (List.mem_cons_of_mem _ hu)
        obtain ⟨p, x, rfl, _⟩ := hout v List.mem_cons_self
        exact ⟨p :: ys, rfl⟩
    obtain ⟨ys, rfl⟩ := hys
    obtain ⟨n, hn⟩ := PyProof.Rows.sortedAll_at s.heap (ps.map Value.ref) (ys.map Value.ref).toArray
    have hlen : (ys.map V.ref).length ≤ sizeLine := by
      have := h2.perm.length_eq
      rw [List.length_map, List.length_map] at this
      rw [List.length_map] at hz ⊢
      omega
    have em : (ps.map Value.ref).map (pairOf H) = ρ := by
      rw [List.map_map]
      exact paired_map (R := PairRow H) _ (fun p x h => pairOf_at h) hx
    refine ⟨.ref (s.heap.objs.size + 1), upd H (s.heap.objs.size + 1) (.lst (ys.map V.ref)), I.laid (t' := s.toks) (fun b o e => PyProof.Rows.sortedAll_old e) (Nat.le_succ _) ⟨hlen, ys.map Value.ref, n, vals_refs _, hn⟩, rfl, q ys ((ys.map Value.ref).map (pairOf H)) _ ?_ (List.pairwise_map.mpr h1) ?_ (I.hok.fresh (Nat.le_succ _))⟩
    · rw [← em]
      exact h2.perm.map _
    · rw [List.map_map]
      refine paired_of _ fun p hp' => ?_
      obtain ⟨p2, x, e2, hx'⟩ := hout (.ref p) (List.mem_map_of_mem hp')
      cases e2
      show PairRow H p (pairOf H (.ref p))
      rw [pairOf_at hx']
      exact hx'
end
end AskG
/-! Comprehensions over rows. -/
namespace AskG
open PySem PySem.Spec PyProof.Rows L2
abbrev g2 (K : PySem.W.Frag) (a b : Nat) : TG := gTup K 2 (gCons (gName a) (gCons (gName b) gNil))
/-- the slots at a turn: the two targets, all else as it was -/
structure Turn2 (σ σ' : L2.St) (a b : Nat) (v w : V) : Prop where
  fst : σ'[a]? = some (some v)
  snd : σ'[b]? = some (some w)
  old : ∀ j, j ≠ a → j ≠ b → σ'[j]? = σ[j]?
theorem turn2 {σ : L2.St} {a b : Nat} {v w : V} (ha : a < σ.length) (hb : b < σ.length) (hab : a ≠ b) :
    Turn2 σ (((wipe σ [a, b]).set a (some v)).set b (some w)) a b v w := by
  have s2 := set2 (σ := wipe σ [a, b]) (v := v) (w := w) (by rw [wipe_length]; exact ha) (by rw [wipe_length]; exact hb) hab
  refine ⟨s2.1, s2.2, fun j h1 h2 => ?_⟩
  rw [List.getElem?_set_ne (fun e => h2 e.symm), List.getElem?_set_ne (fun e => h1 e.symm)]
  show ((σ.set b none).set a none)[j]? = _
  rw [List.getElem?_set_ne (fun e => h1 e.symm), List.getElem?_set_ne (fun e => h2 e.symm)]

/-- [(cell, g weight) for cell, weight in row if ..] -/
theorem lc_rows {K : PySem.W.Frag} {i a b : Nat} {σ : L2.St} {H : Hp} {Q : VK} {r : Addr} {ρ : RowD} {tt : TT} {tw : TE} (keep : Cell × Int → Bool) (g : Cell × Int → Int)
    (hi : σ[i]? = some (some (.ref r))) (R : RowAt H r ρ) (ha : a < σ.length) (hb : b < σ.length) (hab : a ≠ b) (hz : ρ.length ≤ 1000)
    (htt : ∀ σ' H' bb x (Q : Bool → Hp → Prop), x ∈ ρ → Same H H' → Turn2 σ σ' a b (.ref bb) (.int x.2) → CellAt H' bb x.1 → (∀ H'', Same H' H'' → Q (keep x) H'') → tt σ' H' Q)
    (htw : ∀ σ' H' bb x (Q : VK), x ∈ ρ → Same H H' → Turn2 σ σ' a b (.ref bb) (.int x.2) → CellAt H' bb x.1 → Q (.int (g x)) H' → tw σ' H' Q)
    (q : ∀ H' L ps, Same H H' → H L = none → H' L = some (.lst (ps.map V.ref)) → Paired (PairRow H') ps ((ρ.filter keep).map fun x => (x.1, g x)) → Q (.ref L) H') :
    tLc (iTup K (tVar i)) (g2 K a b) tt (tTup (tCons (tVar a) (tCons tw tNil))) [a, b] σ H Q := by
  obtain ⟨qs, hr, hp⟩ := R
  refine ⟨.ref r, hi, r, rfl, ⟨_, sqT hr⟩, fun L hL => ?_⟩
  refine lc_tup (xs := qs.map V.ref) (fun i H' => Same H H' ∧ ∃ ps, H' L = some (.lst (ps.map V.ref)) ∧ Paired (PairRow H') ps (((ρ.take i).filter keep).map fun x => (x.1, g x)) ∧ ps.length ≤ i)
    ⟨same_new hL, [], upd_same, .nil, Nat.le_refl _⟩ (fun i H' _ h => sqT (h.1 _ _ hr)) (fun i x H' hx h => ?_) (fun H' h => ?_)
  · obtain ⟨sm, ps, hps, hpp, hpl⟩ := h
    rw [List.getElem?_map] at hx
    cases hqi : qs[i]? with
    | none =>
      rw [hqi] at hx
      cases hx
    | some p =>
      rw [hqi] at hx
      have ex : V.ref p = x := Option.some.inj hx
      subst ex
      obtain ⟨y, hy, bb, h1, h2⟩ := paired_at' hp hqi
      have hym := List.mem_of_getElem? hy
      have kp := KeepT.of sm
      have il : i < qs.length := (List.getElem?_eq_some_iff.mp hqi).1
      have ql : qs.length = ρ.length := Paired.length hp
      have big := sizeBig
      have T := turn2 (v := .ref bb) (w := .int y.2) ha hb hab
      refine ⟨p, [.ref bb, .int y.2], rfl, sqT (kp _ _ h1), rfl, .ref bb, [.int y.2], rfl, .int y.2, [], rfl, rfl, ?_⟩
      refine ⟨wipe2 hab, htt _ _ bb y _ hym sm T (h2.keep kp) fun H2 sm2 => ?_⟩
      have kp2 := KeepT.of sm2
      have pk : ((ρ.take (i + 1)).filter keep).map (fun x => (x.1, g x)) = ((ρ.take i).filter keep).map (fun x => (x.1, g x)) ++ (if keep y = true then [(y.1, g y)] else []) := by
        rw [List.take_add_one, hy, List.filter_append, List.map_append]
        congr 1
        show List.map _ (List.filter keep [y]) = _
        cases hk : keep y with
        | true => simp [hk]
        | false => simp [hk]
      cases hk : keep y with
      | false =>
        refine iteF ⟨sm.trans sm2, ps, sm2 _ _ hps, ?_, by omega⟩
        rw [pk, hk, if_neg (by decide), List.append_nil]
        exact Paired.mapP hpp fun _ _ z => z.keep kp2
      | true =>
        refine iteT ⟨.ref bb, T.fst, htw _ _ bb y _ hym (sm.trans sm2) T ((h2.keep kp).keep kp2) ⟨by show 2 ≤ sizeLine; decide, fun t ht => ?_⟩⟩
        have hps2 := sm2 _ _ hps
        have nLt : L ≠ t := ne_of_none hps2 ht
        refine ⟨ps.map V.ref, by rw [upd_ne nLt]; exact hps2, by rw [List.length_map]; omega, ?_, ps ++ [t], ?_, ?_, ?_⟩
        · intro b' o' e'
          have e2 := sm2 _ _ (sm _ _ e')
          rw [upd_ne (ne_of_none e' hL), upd_ne (ne_of_none e2 ht)]
          exact e2
        · rw [upd_same, List.map_append]
          rfl
        · have kp3 : KeepT H2 (upd (upd H2 t (.tup [.ref bb, .int (g y)])) L (.lst (ps.map V.ref ++ [.ref t]))) :=
            (KeepT.new ht).trans (KeepT.put (u := .lst (ps.map V.ref)) (by rw [upd_ne nLt]; exact hps2) (fun _ z => nomatch z))
          rw [pk, hk, if_pos rfl]
          refine Paired.snoc (Paired.mapP hpp fun _ _ z => (z.keep kp2).keep kp3) ⟨bb, ?_, ((h2.keep kp).keep kp2).keep kp3⟩
          rw [upd_ne nLt.symm, upd_same]
        · rw [List.length_append]
          show ps.length + 1 ≤ i + 1
          omega
  · obtain ⟨sm, ps, hps, hpp, _⟩ := h
    have e : ρ.take (qs.map V.ref).length = ρ := List.take_of_length_le (by rw [List.length_map, Paired.length hp]; exact Nat.le_refl _)
    rw [e] at hpp
    exact q H' L ps sm hL hps hpp

theorem iYes {σ : L2.St} {H : Hp} {Q : Bool → Hp → Prop} (h : Q true H) : tYes σ H Q := h
/-- [g of cell, weight for cell, weight in row] -/
theorem lc_ints {K : PySem.W.Frag} {i a b : Nat} {σ : L2.St} {H : Hp} {Q : VK} {r : Addr} {ρ : RowD} {tw : TE} (g : Cell × Int → Int)
    (hi : σ[i]? = some (some (.ref r))) (R : RowAt H r ρ) (ha : a < σ.length) (hb : b < σ.length) (hab : a ≠ b) (hz : ρ.length ≤ 1000)
    (htw : ∀ σ' H' bb x (Q : VK), x ∈ ρ → Same H H' → Turn2 σ σ' a b (.ref bb) (.int x.2) → CellAt H' bb x.1 → Q (.int (g x)) H' → tw σ' H' Q)
    (q : ∀ H' L, Same H H' → H L = none → H' L = some (.lst ((ρ.map g).map V.int)) → Q (.ref L) H') :
    tLc (iTup K (tVar i)) (g2 K a b) tYes tw [a, b] σ H Q := by
  obtain ⟨qs, hr, hp⟩ := R
  refine ⟨.ref r, hi, r, rfl, ⟨_, sqT hr⟩, fun L hL => ?_⟩
  refine lc_tup (xs := qs.map V.ref) (fun i H' => Same H H' ∧ H' L = some (.lst (((ρ.take i).map g).map V.int)))
    ⟨same_new hL, upd_same⟩ (fun i H' _ h => sqT (h.1 _ _ hr)) (fun i x H' hx h => ?_) (fun H' h => ?_)
  · obtain ⟨sm, hps⟩ := h
    rw [List.getElem?_map] at hx
    cases hqi : qs[i]? with
    | none =>
      rw [hqi] at hx
      cases hx
    | some p =>
      rw [hqi] at hx
      have ex : V.ref p = x := Option.some.inj hx
      subst ex
      obtain ⟨y, hy, bb, h1, h2⟩ := paired_at' hp hqi
      have kp := KeepT.of sm
      have big := sizeBig
      have T := turn2 (v := .ref bb) (w := .int y.2) ha hb hab
      refine ⟨p, [.ref bb, .int y.2], rfl, sqT (kp _ _ h1), rfl, .ref bb, [.int y.2], rfl, .int y.2, [], rfl, rfl, ?_⟩
      refine ⟨wipe2 hab, iYes (iteT (htw _ _ bb y _ (List.mem_of_getElem? hy) sm T (h2.keep kp) ⟨_, hps, ?_, ?_, ?_⟩))⟩
      · rw [List.length_map, List.length_map, List.length_take]
        omega
      · intro b' o' e'
        rw [upd_ne (ne_of_none e' hL)]
        exact sm _ _ e'
      · rw [upd_same, List.take_add_one, hy]
        show _ = some (HO.lst (((ρ.take i ++ [y]).map g).map V.int))
        rw [List.map_append, List.map_append]
        rfl
  · obtain ⟨sm, hps⟩ := h
    have e : ρ.take (qs.map V.ref).length = ρ := List.take_of_length_le (by rw [List.length_map, Paired.length hp]; exact Nat.le_refl _)
    rw [e] at hps
    exact q H' L sm hL hps

theorem set1_at {σ : L2.St} {a : Nat} {v : V} (ha : a < σ.length) : ((wipe σ [a]).set a (some v))[a]? = some (some v) := List.getElem?_set_self (by rw [wipe_length]; exact ha)
theorem set1_old {σ : L2.St} {a j : Nat} {v : V} (h : j ≠ a) : ((wipe σ [a]).set a (some v))[j]? = σ[j]? := by
  rw [List.getElem?_set_ne (fun e => h e.symm), wipe_at h]
/-- one turn of [pair for pair in pairs if ..] -/
theorem pairs_turn {a : Nat} {σ : L2.St} {H H' : Hp} {L : Addr} {qs : List Addr} {ρ : RowD} {tt : TT} (keep : Cell × Int → Bool)
    (ha : a < σ.length) (hp : Paired (PairRow H) qs ρ) (hz : ρ.length ≤ 1000) (hL : H L = none)
    (htt : ∀ σ' H' p x (Q : Bool → Hp → Prop), x ∈ ρ → Same H H' → σ'[a]? = some (some (.ref p)) → (∀ j, j ≠ a → σ'[j]? = σ[j]?) → PairRow H' p x → (∀ H'', Same H' H'' → Q (keep x) H'') → tt σ' H' Q)
    {i : Nat} {x : V} (hx : (qs.map V.ref)[i]? = some x) (h : Same H H' ∧ ∃ ps, H' L = some (.lst (ps.map V.ref)) ∧ Paired (PairRow H') ps ((ρ.take i).filter keep) ∧ ps.length ≤ i) :
    gName a x (wipe σ [a]) H' fun σ2 H2 => wipe σ2 [a] = wipe σ [a] ∧ tt σ2 H2 fun b H3 => if b = true then tVar a σ2 H3 fun y H4 => ∃ acc, H4 L = some (.lst acc) ∧ acc.length < sizeLine ∧
      (Same H (upd H4 L (.lst (acc ++ [y]))) ∧ ∃ ps, (upd H4 L (.lst (acc ++ [y]))) L = some (.lst (ps.map V.ref)) ∧ Paired (PairRow (upd H4 L (.lst (acc ++ [y])))) ps ((ρ.take (i + 1)).filter keep) ∧ ps.length ≤ i + 1)
      else (Same H H3 ∧ ∃ ps, H3 L = some (.lst (ps.map V.ref)) ∧ Paired (PairRow H3) ps ((ρ.take (i + 1)).filter keep) ∧ ps.length ≤ i + 1) := by
  obtain ⟨sm, ps, hps, hpp, hpl⟩ := h
  rw [List.getElem?_map] at hx
  cases hqi : qs[i]? with
  | none =>
    rw [hqi] at hx
    cases hx
  | some p =>
    rw [hqi] at hx
    have ex : V.ref p = x := Option.some.inj hx
    subst ex
    obtain ⟨y, hy, hpy⟩ := paired_at' hp hqi
    have kp := KeepT.of sm
    have il : i < qs.length := (List.getElem?_eq_some_iff.mp hqi).1
    have ql : qs.length = ρ.length := Paired.length hp
    have big := sizeBig
    refine ⟨wipe1, htt _ _ p y _ (List.mem_of_getElem? hy) sm (set1_at ha) (fun j hj => set1_old hj) (hpy.keep kp) fun H2 sm2 => ?_⟩
    have kp2 := KeepT.of sm2
    have pk : (ρ.take (i + 1)).filter keep = (ρ.take i).filter keep ++ (if keep y = true then [y] else []) := by
      rw [List.take_add_one, hy, List.filter_append]
      congr 1
      show List.filter keep [y] = _
      cases hk : keep y with
      | true => simp [hk]
      | false => simp [hk]
    cases hk : keep y with
    | false =>
      refine iteF ⟨sm.trans sm2, ps, sm2 _ _ hps, ?_, by omega⟩
      rw [pk, hk, if_neg (by decide), List.append_nil]
      exact Paired.mapP hpp fun _ _ z => z.keep kp2
    | true =>
      have hps2 := sm2 _ _ hps
      refine iteT ⟨.ref p, set1_at ha, ps.map V.ref, hps2, by rw [List.length_map]; omega, ?_, ps ++ [p], ?_, ?_, ?_⟩
      · intro b' o' e'
        rw [upd_ne (ne_of_none e' hL)]
        exact sm2 _ _ (sm _ _ e')
      · rw [upd_same, List.map_append]
        rfl
      · have kp3 : KeepT H2 (upd H2 L (.lst (ps.map V.ref ++ [.ref p]))) := KeepT.put (u := .lst (ps.map V.ref)) hps2 (fun _ z => nomatch z)
        rw [pk, hk, if_pos rfl]
        exact Paired.snoc (Paired.mapP hpp fun _ _ z => (z.keep kp2).keep kp3) (((hpy.keep kp).keep kp2).keep kp3)
      · rw [List.length_append]
        show ps.length + 1 ≤ i + 1
        omega
/-- [pair for pair in row if ..] -/
theorem lc_pairsT {K : PySem.W.Frag} {i a : Nat} {σ : L2.St} {H : Hp} {Q : VK} {r : Addr} {qs : List Addr} {ρ : RowD} {tt : TT} (keep : Cell × Int → Bool)
    (hi : σ[i]? = some (some (.ref r))) (hr : H r = some (.tup (qs.map V.ref))) (hp : Paired (PairRow H) qs ρ) (ha : a < σ.length) (hz : ρ.length ≤ 1000)
    (htt : ∀ σ' H' p x (Q : Bool → Hp → Prop), x ∈ ρ → Same H H' → σ'[a]? = some (some (.ref p)) → (∀ j, j ≠ a → σ'[j]? = σ[j]?) → PairRow H' p x → (∀ H'', Same H' H'' → Q (keep x) H'') → tt σ' H' Q)
    (q : ∀ H' L ps, Same H H' → H L = none → H' L = some (.lst (ps.map V.ref)) → Paired (PairRow H') ps (ρ.filter keep) → Q (.ref L) H') :
    tLc (iTup K (tVar i)) (gName a) tt (tVar a) [a] σ H Q := by
  refine ⟨.ref r, hi, r, rfl, ⟨_, sqT hr⟩, fun L hL => ?_⟩
  refine lc_tup (xs := qs.map V.ref) (fun i H' => Same H H' ∧ ∃ ps, H' L = some (.lst (ps.map V.ref)) ∧ Paired (PairRow H') ps ((ρ.take i).filter keep) ∧ ps.length ≤ i)
    ⟨same_new hL, [], upd_same, .nil, Nat.le_refl _⟩ (fun i H' _ h => sqT (h.1 _ _ hr)) (fun i x H' hx h => pairs_turn keep ha hp hz hL htt hx h) (fun H' h => ?_)
  obtain ⟨sm, ps, hps, hpp, _⟩ := h
  have e : ρ.take (qs.map V.ref).length = ρ := List.take_of_length_le (by rw [List.length_map, Paired.length hp]; exact Nat.le_refl _)
  rw [e] at hpp
  exact q H' L ps sm hL hps hpp
theorem lc_pairsL {K : PySem.W.Frag} {i a : Nat} {σ : L2.St} {H : Hp} {Q : VK} {r : Addr} {qs : List Addr} {ρ : RowD} {tt : TT} (keep : Cell × Int → Bool)
    (hi : σ[i]? = some (some (.ref r))) (hr : H r = some (.lst (qs.map V.ref))) (hp : Paired (PairRow H) qs ρ) (ha : a < σ.length) (hz : ρ.length ≤ 1000)
    (htt : ∀ σ' H' p x (Q : Bool → Hp → Prop), x ∈ ρ → Same H H' → σ'[a]? = some (some (.ref p)) → (∀ j, j ≠ a → σ'[j]? = σ[j]?) → PairRow H' p x → (∀ H'', Same H' H'' → Q (keep x) H'') → tt σ' H' Q)
    (q : ∀ H' L ps, Same H H' → H L = none → H' L = some (.lst (ps.map V.ref)) → Paired (PairRow H') ps (ρ.filter keep) → Q (.ref L) H') :
    tLc (iList K (tVar i)) (gName a) tt (tVar a) [a] σ H Q := by
  refine ⟨.ref r, hi, r, rfl, ⟨_, sqL hr⟩, fun L hL => ?_⟩
  refine lc_list (xs := qs.map V.ref) (fun i H' => Same H H' ∧ ∃ ps, H' L = some (.lst (ps.map V.ref)) ∧ Paired (PairRow H') ps ((ρ.take i).filter keep) ∧ ps.length ≤ i)
    ⟨same_new hL, [], upd_same, .nil, Nat.le_refl _⟩ (fun i H' _ h => sqL (h.1 _ _ hr)) (fun i x H' hx h => pairs_turn keep ha hp hz hL htt hx h) (fun H' h => ?_)
  obtain ⟨sm, ps, hps, hpp, _⟩ := h
  have e : ρ.take (qs.map V.ref).length = ρ := List.take_of_length_le (by rw [List.length_map, Paired.length hp]; exact Nat.le_refl _)
  rw [e] at hpp
  exact q H' L ps sm hL hps hpp
end AskG
/-! Calls with keywords. -/
namespace AskG
open PySem PySem.Spec PyProof.Rows L2
section
variable {P : Program} {w : World} {K : PySem.W.Frag} {mg : Str → Option Value} {base : Heap}
theorem okGD {x qual : Str} {params : Arguments} {body : List Stmt} {scope : Scope} {dvs : List V} {kws : List (Str × V)} {f : Addr} {fd : FuncData} {N ps : List Str} {k : Nat} {pr : Pr}
    (F : FunD K x qual params body scope dvs kws f fd) (S : FnScope N ps scope) (many : ∀ vs H Q, pr vs H Q → vs.length = ps.length)
    (body_ok : ∀ (cdv : Value) (A : Around) (outer : List Env) (s : Shared) (H : Hp) (vs : List V) (Q : VK),
      RG k (A.deeper (envOfC qual scope s.heap.objs.size f cdv)) → pr vs H Q →
      ∃ t, PSs (cxOf CX0 P w K mg base N qual scope f cdv A outer s H E0).nox body t ∧
        t { nx := fun _ H' => Q .non H', rt := Q } (start N vs) H) : FnG P w K mg base (k + 1) f fd ps pr := by
  obtain ⟨oc, od, dV, kV, doc, pm, an, cdv, ct, osl, rfl, lk, hcd, _, _⟩ := F.ex
  exact fnG_of lk hcd S many fun A outer s H vs Q hr hp => body_ok cdv A outer s H vs Q hr hp
end
def tCallNG (n m : Nat) (pr : Pr) (gV : List V → List V → List V) (t tk : TA) : TE := fun σ H Q =>
  t σ H fun vs H1 => tk σ H1 fun zs H2 => vs.length = n ∧ zs.length = m ∧ pr (gV vs zs) H2 Q
section
variable {X : Cx} {k n : Nat} {f : Addr} {fd : FuncData} {ps ks : List Str} {pr : Pr} {x : Str} {p pos : Pos} {e : Expr} {es : List Expr} {kws : List Keyword}
  {t tk : TA} {g : List Value → List Value → List Value} {gV : List V → List V → List V}
theorem goN {pins : List (Addr × Obj)} {σ : L2.St} {H : Hp} {s : Shared} {Q : VK} {us ws : List Value} {vs zs : List V}
    (F : FnG X.prog X.w X.K X.mg X.base k f fd ps pr) (hr : RG k X.A) (hb : KBn X.K fd ps n ks g gV)
    (I : Inv X pins σ H s) (r : Vals vs us) (rz : Vals zs ws) (l1 : vs.length = n) (l2 : zs.length = ks.length) (h : pr (gV vs zs) H Q) :
    wpAny (model X.prog X.w) X.A (call (.ref f) us (ks.zip ws)) (EP X pins σ Q) X.xe s :=
  goG (args := ⟨us, ks.zip ws⟩) F hr I (hb.to s us ws I.kIn (r.length.symm.trans l1) (rz.length.symm.trans l2)) (hb.rel r rz) h
/-- f(e, .., k = v, ..) -/
theorem pe_gn (F : FnG X.prog X.w X.K X.mg X.base k f fd ps pr) (hr : RG k X.A) (hg : Gl X x)
    (hm : X.mg x = some (.ref f)) (hk : PySem.W.keepIn X.K (.ref f) = true) (hb : KBn X.K fd ps n ks g gV)
    (ha : PA X (e :: es) t) (hkw : PK X kws tk)
    (hall : (backToKw pos (keywordEach kws X.env)).all (·.1.isSome) = true := by rfl)
    (hks : (backToKw pos (keywordEach kws X.env)).filterMap (·.1) = ks := by rfl)
    (hdb : (x == ("__debug__" : Str)) = false := by decide)
    (he : starEach (e :: es) X.env = (false, eval e X.env) :: starEach es X.env := by rfl)
    (hpl : ((backTo pos (starEach (e :: es) X.env)).any (·.1) || (backToKw pos (keywordEach kws X.env)).any (·.1.isNone)) = false := by rfl) :
    PE X (.Call (.Name x p) (e :: es) kws pos) (tCallNG n ks.length pr gV t tk) := by
  constructor
  intro pins s σ H Q I h
  refine wpAny_Call_Name_kw (ld_glob I hg hm ?_ hdb)
  refine PySem.W.callWith_KW (h₀ := X.base) I.ok.mod.kin hk hall (thn (ha.run pos pins s σ H _ I h) ?_) hpl he
  rintro us s1 ⟨vs, H1, I1, r, q⟩
  refine thn (hkw.run pos pins s1 σ H1 _ I1 q) ?_
  rintro ws s2 ⟨zs, H2, I2, rz, l1, l2, q2⟩
  refine ⟨I2.kIn, ?_⟩
  rw [hks]
  exact goN F hr hb I2 r rz l1 l2 q2
/-- f(k = v, ..) -/
theorem pe_gn0 (F : FnG X.prog X.w X.K X.mg X.base k f fd ps pr) (hr : RG k X.A) (hg : Gl X x)
    (hm : X.mg x = some (.ref f)) (hk : PySem.W.keepIn X.K (.ref f) = true) (hb : KBn X.K fd ps 0 ks g gV)
    (hkw : PK X kws tk)
    (hall : (backToKw pos (keywordEach kws X.env)).all (·.1.isSome) = true := by rfl)
    (hks : (backToKw pos (keywordEach kws X.env)).filterMap (·.1) = ks := by rfl)
    (hdb : (x == ("__debug__" : Str)) = false := by decide)
    (hpl : ((backTo pos (starEach [] X.env)).any (·.1) || (backToKw pos (keywordEach kws X.env)).any (·.1.isNone)) = false := by rfl) :
    PE X (.Call (.Name x p) [] kws pos) (tCallNG 0 ks.length pr gV tNil tk) := by
  constructor
  intro pins s σ H Q I h
  refine wpAny_Call_Name_kw (ld_glob I hg hm ?_ hdb)
  refine PySem.W.callWith_KW0 (h₀ := X.base) I.ok.mod.kin hk hall ?_ hpl
  refine thn (hkw.run pos pins s σ H _ I h) ?_
  rintro ws s2 ⟨zs, H2, I2, rz, l1, l2, q2⟩
  refine ⟨I2.kIn, ?_⟩
  rw [hks]
  exact goN (us := []) F hr hb I2 .nil rz l1 l2 q2
end
end AskG
/-! Rows as data: what repr shows of them, == with []. -/
namespace AskG
open PySem PySem.Spec PyProof.Rows L2
/-- data that repr shows in at most n signs -/
structure Fine (k n : Nat) (d : PyData) : Prop where
  shw : d.showable = true
  nod : d.hasDict = false
  dep : d.depth ≤ k
  len : d.shown.length ≤ n
theorem Fine.mono {k n k' n' : Nat} {d : PyData} (h : Fine k n d) (hk : k ≤ k') (hn : n ≤ n') : Fine k' n' d :=
  ⟨h.shw, h.nod, Nat.le_trans h.dep hk, Nat.le_trans h.len hn⟩
theorem all_fine {k n : Nat} : ∀ {ds : List PyData}, (∀ d ∈ ds, Fine k n d) →
    PyData.showableAll ds = true ∧ PyData.hasDictAll ds = false ∧ PyData.depthAll ds ≤ k ∧ ((PyData.shownAll ds).map (·.length)).sum ≤ ds.length * n ∧ (PyData.shownAll ds).length = ds.length
  | [], _ => ⟨rfl, rfl, Nat.zero_le _, Nat.zero_le _, rfl⟩
  | d :: ds, h => by
    obtain ⟨h1, h2, h3, h4, h5⟩ := all_fine (ds := ds) fun e he => h e (List.mem_cons_of_mem _ he)
    have f := h d List.mem_cons_self
    refine ⟨?_, ?_, ?_, ?_, ?_⟩
    · show (d.showable && PyData.showableAll ds) = true
      rw [f.shw, h1]
      rfl
    · show (d.hasDict || PyData.hasDictAll ds) = false
      rw [f.nod, h2]
      rfl
    · show max d.depth (PyData.depthAll ds) ≤ k
      exact Nat.max_le.mpr ⟨f.dep, h3⟩
    · show ((d.shown :: PyData.shownAll ds).map (·.length)).sum ≤ _
      rw [List.map_cons, List.sum_cons, List.length_cons, Nat.succ_mul]
      have := f.len
      omega
    · show (d.shown :: PyData.shownAll ds).length = _
      rw [List.length_cons, List.length_cons, h5]
theorem Fine.tup {k n m : Nat} {ds : List PyData} (h : ∀ d ∈ ds, Fine k n d) (hm : ds.length ≤ m) : Fine (k + 1) (m * (n + 2) + 3) (.tuple ds) := by
  obtain ⟨h1, h2, h3, h4, h5⟩ := all_fine h
  refine ⟨h1, h2, Nat.succ_le_succ h3, ?_⟩
  have := tupleText_len_le (PyData.shownAll ds)
  show (tupleText (PyData.shownAll ds)).length ≤ _
  have e : ds.length * (n + 2) ≤ m * (n + 2) := Nat.mul_le_mul_right _ hm
  have e2 : ds.length * (n + 2) = ds.length * n + 2 * ds.length := by rw [Nat.mul_add, Nat.mul_comm ds.length 2]
  rw [h5] at this
  omega
theorem Fine.lst {k n m : Nat} {ds : List PyData} (h : ∀ d ∈ ds, Fine k n d) (hm : ds.length ≤ m) : Fine (k + 1) (m * (n + 2) + 3) (.list ds) := by
  obtain ⟨h1, h2, h3, h4, h5⟩ := all_fine h
  refine ⟨h1, h2, Nat.succ_le_succ h3, ?_⟩
  have := listText_len_le (PyData.shownAll ds)
  show (listText (PyData.shownAll ds)).length ≤ _
  have e : ds.length * (n + 2) ≤ m * (n + 2) := Nat.mul_le_mul_right _ hm
  have e2 : ds.length * (n + 2) = ds.length * n + 2 * ds.length := by rw [Nat.mul_add, Nat.mul_comm ds.length 2]
  rw [h5] at this
  omega
theorem fine_int {i : Int} (h : i.natAbs.log2 < 1920) : Fine 0 1921 (.int i) :=
  ⟨decide_eq_true h, rfl, Nat.le_refl _, int_text_len_1921 h⟩
theorem fine_str {x : Str} (h : x.length ≤ 8) (hx : ∀ c ∈ x.cps.toList, c < 16 ^ 8) : Fine 0 1921 (.str x) :=
  ⟨rfl, rfl, Nat.le_refl _, by
    have := StrLaws.reprText_len x hx
    show (reprText x).length ≤ _
    omega⟩

/-- sizes of what rows hold -/
structure CellOk (c : Cell) : Prop where
  short : c.1.length ≤ 8
  plain : ∀ n ∈ c.1.cps.toList, n < 16 ^ 8
  ok : PyData.strOk c.1 = true
  lit : c.2.natAbs.log2 < 1920
def cellD (c : Cell) : PyData := .tuple [.str c.1, .int c.2]
def pairD (x : Cell × Int) : PyData := .tuple [cellD x.1, .int x.2]
def rowPD (ρ : RowD) : PyData := .tuple (ρ.map pairD)
structure RowOk (ρ : RowD) : Prop where
  many : ρ.length ≤ 100
  cells : ∀ x ∈ ρ, CellOk x.1
  lit : ∀ x ∈ ρ, x.2.natAbs.log2 < 1920
theorem fine_cell {c : Cell} (h : CellOk c) : Fine 1 3849 (cellD c) := by
  refine Fine.tup (k := 0) (n := 1921) (m := 2) (fun d hd => ?_) (Nat.le_refl _)
  rcases List.mem_cons.mp hd with e | hd
  · rw [e]
    exact fine_str h.short h.plain
  · rw [List.mem_singleton.mp hd]
    exact fine_int h.lit
theorem fine_pair {x : Cell × Int} (h : CellOk x.1) (hw : x.2.natAbs.log2 < 1920) : Fine 2 7705 (pairD x) := by
  refine Fine.tup (k := 1) (n := 3849) (m := 2) (fun d hd => ?_) (Nat.le_refl _)
  rcases List.mem_cons.mp hd with e | hd
  · rw [e]
    exact fine_cell h
  · rw [List.mem_singleton.mp hd]
    exact (fine_int hw).mono (by decide) (by decide)
theorem fine_row {ρ : RowD} (h : RowOk ρ) : Fine 3 770703 (rowPD ρ) := by
  refine Fine.tup (k := 2) (n := 7705) (m := 100) (fun d hd => ?_) (by rw [List.length_map]; exact h.many)
  obtain ⟨x, hx, rfl⟩ := List.mem_map.mp hd
  exact fine_pair (h.cells x hx) (h.lit x hx)

section
variable {K : PySem.W.Frag} {H : Hp}
theorem dp_cell {b : Addr} {c : Cell} (h : CellAt H b c) : Dp K H (.ref b) (cellD c) := .tup (sqT h) (.cons (.str _) (.cons (.int _) .nil))
theorem dp_pair {p : Addr} {x : Cell × Int} (h : PairRow H p x) : Dp K H (.ref p) (pairD x) := by
  obtain ⟨b, h1, h2⟩ := h
  exact .tup (sqT h1) (.cons (dp_cell h2) (.cons (.int _) .nil))
theorem dp_all {R : Addr → α → Prop} {f : α → PyData} (h : ∀ p x, R p x → Dp K H (.ref p) (f x)) : ∀ {ps : List Addr} {l : List α}, Paired R ps l → DpAll K H (ps.map V.ref) (l.map f)
  | _, _, .nil => .nil
  | _, _, .cons h1 t => .cons (h _ _ h1) (dp_all h t)
theorem dp_row {r : Addr} {ρ : RowD} (h : RowAt H r ρ) : Dp K H (.ref r) (rowPD ρ) := by
  obtain ⟨ps, h1, h2⟩ := h
  exact .tup (sqT h1) (dp_all (f := pairD) (R := PairRow H) (fun _ _ z => dp_pair z) h2)
end
/-! ### == of lists -/
theorem shaped_nil : SeqAt.shaped (.list []) = true := by decide
theorem can_all {f : α → PyData} : ∀ {l : List α}, (∀ x ∈ l, (f x).canLay0 = true) → PyData.canLayAll0 (l.map f) = true
  | [], _ => rfl
  | x :: l, h => by
    show ((f x).canLay0 && PyData.canLayAll0 (l.map f)) = true
    rw [h x List.mem_cons_self, can_all fun y hy => h y (List.mem_cons_of_mem _ hy)]
    rfl
theorem depth_all {f : α → PyData} {k : Nat} : ∀ {l : List α}, (∀ x ∈ l, (f x).depth ≤ k) → PyData.depthAll (l.map f) ≤ k
  | [], _ => Nat.zero_le _
  | x :: l, h => by
    show max (f x).depth (PyData.depthAll (l.map f)) ≤ k
    exact Nat.max_le.mpr ⟨h x List.mem_cons_self, depth_all fun y hy => h y (List.mem_cons_of_mem _ hy)⟩
theorem shaped_ints (ns : List Int) : SeqAt.shaped (.list (ns.map PyData.int)) = true := by
  have h1 : PyData.canLayAll0 (ns.map PyData.int) = true := can_all fun _ _ => rfl
  have h2 : PyData.depthAll (ns.map PyData.int) ≤ 0 := depth_all fun _ _ => Nat.le_refl _
  show (PyData.canLayAll0 (ns.map PyData.int) && decide (PyData.depthAll (ns.map PyData.int) + 1 ≤ 64)) = true
  rw [h1, decide_eq_true (by omega)]
  rfl
theorem shaped_pairs {ρ : RowD} (h : ∀ x ∈ ρ, CellOk x.1) : SeqAt.shaped (.list (ρ.map pairD)) = true := by
  have h1 : PyData.canLayAll0 (ρ.map pairD) = true := can_all fun x hx => by
    show (((PyData.strOk x.1.1) && (true && true)) && (true && true)) = true
    rw [(h x hx).ok]
    rfl
  have h2 : PyData.depthAll (ρ.map pairD) ≤ 2 := depth_all fun x _ => by
    show max (max 0 (max 0 0) + 1) (max 0 0) + 1 ≤ 2
    decide
  show (PyData.canLayAll0 (ρ.map pairD) && decide (PyData.depthAll (ρ.map pairD) + 1 ≤ 64)) = true
  rw [h1, decide_eq_true (by omega)]
  rfl
theorem dp_ints {K : PySem.W.Frag} {H : Hp} : ∀ ns : List Int, DpAll K H (ns.map V.int) (ns.map PyData.int)
  | [] => .nil
  | n :: ns => .cons (.int n) (dp_ints ns)
/-- the same by computation -/
def cellB (c : Cell) : Bool := decide (c.1.length ≤ 8) && c.1.cps.toList.all (fun n => decide (n < 16 ^ 8)) && PyData.strOk c.1 && decide (c.2.natAbs.log2 < 1920)
theorem cellOk_of {c : Cell} (h : cellB c = true) : CellOk c := by
  unfold cellB at h
  rw [Bool.and_eq_true, Bool.and_eq_true, Bool.and_eq_true] at h
  obtain ⟨⟨⟨h1, h2⟩, h3⟩, h4⟩ := h
  exact ⟨of_decide_eq_true h1, fun n hn => of_decide_eq_true (List.all_eq_true.mp h2 n hn), h3, of_decide_eq_true h4⟩
end AskG
/-! Rights: their kinds, their questions; a comprehension with two fors. -/
namespace AskG
open PySem PySem.Spec PyProof.Rows L2
inductive KindM
  | tot (s : Int)
  | win (l : Int)
  | per (b e : Int)
def KindM.vals : KindM → List V
  | .tot s => [.str "total", .int s]
  | .win l => [.str "window", .int l]
  | .per b e => [.str "period", .int b, .int e]
def KindM.data : KindM → PyData
  | .tot s => .tuple [.str "total", .int s]
  | .win l => .tuple [.str "window", .int l]
  | .per b e => .tuple [.str "period", .int b, .int e]
def KindM.lo (t : Int) : KindM → Int
  | .tot s => s
  | .win l => if t - l + 1 > 0 then t - l + 1 else 0
  | .per b _ => b
def KindM.hi (t : Int) : KindM → Int
  | .tot _ => t
  | .win _ => t
  | .per _ e => if t < e then t else e
structure KindM.Ok (k : KindM) : Prop where
  nn : match k with
    | .tot s => 0 ≤ s ∧ s ≤ 30
    | .win l => 0 ≤ l ∧ l ≤ 30
    | .per b e => 0 ≤ b ∧ b ≤ 30 ∧ 0 ≤ e ∧ e ≤ 30
structure Rt where
  person : Str
  ws : List Cell
  first : Int
  last : Int
  kind : KindM
def RightAt (H : Hp) (a : Addr) (R : Rt) : Prop := ∃ (wa : Addr) (ps : List Addr) (ka : Addr), H a = some (.tup [.str R.person, .ref wa, .int R.first, .int R.last, .ref ka]) ∧
  H wa = some (.tup (ps.map V.ref)) ∧ Paired (CellAt H) ps R.ws ∧ H ka = some (.tup R.kind.vals)
theorem CellAt.keepT {H H' : Hp} {b : Addr} {c : Cell} (h : CellAt H b c) (k : KeepT H H') : CellAt H' b c := k _ _ h
theorem RightAt.keep {H H' : Hp} {a : Addr} {R : Rt} (h : RightAt H a R) (k : KeepT H H') : RightAt H' a R := by
  obtain ⟨wa, ps, ka, h1, h2, h3, h4⟩ := h
  exact ⟨wa, ps, ka, k _ _ h1, k _ _ h2, Paired.mapP h3 fun _ _ z => z.keepT k, k _ _ h4⟩
def rightD (R : Rt) : PyData := .tuple [.str R.person, .tuple (R.ws.map cellD), .int R.first, .int R.last, R.kind.data]
theorem dp_kind {K : PySem.W.Frag} {H : Hp} {a : Addr} {k : KindM} (h : H a = some (.tup k.vals)) : Dp K H (.ref a) k.data := by
  cases k with
  | tot s => exact .tup (sqT h) (.cons (.str _) (.cons (.int _) .nil))
  | win l => exact .tup (sqT h) (.cons (.str _) (.cons (.int _) .nil))
  | per b e => exact .tup (sqT h) (.cons (.str _) (.cons (.int _) (.cons (.int _) .nil)))
theorem dp_right {K : PySem.W.Frag} {H : Hp} {a : Addr} {R : Rt} (h : RightAt H a R) : Dp K H (.ref a) (rightD R) := by
  obtain ⟨wa, ps, ka, h1, h2, h3, h4⟩ := h
  exact .tup (sqT h1) (.cons (.str _) (.cons (.tup (sqT h2) (dp_all (f := cellD) (R := CellAt H) (fun _ _ z => dp_cell z) h3)) (.cons (.int _) (.cons (.int _) (.cons (dp_kind h4) .nil)))))
structure RtOk (R : Rt) : Prop where
  name : CellOk (R.person, 0)
  many : R.ws.length ≤ 3
  ws : ∀ x ∈ R.ws, CellOk x
  f0 : 0 ≤ R.first
  f1 : R.first ≤ 30
  l0 : 0 ≤ R.last
  l1 : R.last ≤ 30
  kind : R.kind.Ok
def daysOf (lo hi : Int) : List Int := (List.range (hi + 1 - lo).toNat).map fun (i : Nat) => lo + (i : Int)
def rowOn (ws : List Cell) (lo hi : Int) : RowD := ws.flatMap fun x => (daysOf lo hi).map fun d => ((x.1, d), x.2)
def usedB (R : Rt) (t : Int) : Bool := decide (R.first ≤ t) && decide (t ≤ R.last)
def rowQ (R : Rt) (t : Int) : RowD := rowOn R.ws (R.kind.lo t) (R.kind.hi t)
theorem kind_bounds {k : KindM} (h : k.Ok) {t : Int} (t0 : 0 ≤ t) (t9 : t ≤ 9) : 0 ≤ k.lo t ∧ k.lo t ≤ 30 ∧ k.hi t ≤ 9 ∧ 0 ≤ k.hi t := by
  have h := h.nn
  cases k with
  | tot s =>
    refine ⟨h.1, h.2, t9, t0⟩
  | win l =>
    have h : 0 ≤ l ∧ l ≤ 30 := h
    show 0 ≤ (if t - l + 1 > 0 then t - l + 1 else 0) ∧ (if t - l + 1 > 0 then t - l + 1 else 0) ≤ 30 ∧ t ≤ 9 ∧ 0 ≤ t
    split <;> omega
  | per b e =>
    have h : 0 ≤ b ∧ b ≤ 30 ∧ 0 ≤ e ∧ e ≤ 30 := h
    show 0 ≤ b ∧ b ≤ 30 ∧ (if t < e then t else e) ≤ 9 ∧ 0 ≤ (if t < e then t else e)
    split <;> omega
theorem days_len (lo hi : Int) : (daysOf lo hi).length = (hi + 1 - lo).toNat := by
  unfold daysOf
  rw [List.length_map, List.length_range]
theorem rowOn_len : ∀ (ws : List Cell) (lo hi : Int), (rowOn ws lo hi).length = ws.length * (hi + 1 - lo).toNat
  | [], _, _ => by
    rw [List.length_nil, Nat.zero_mul]
    rfl
  | x :: ws, lo, hi => by
    show ((daysOf lo hi).map (fun d => ((x.1, d), x.2)) ++ rowOn ws lo hi).length = _
    rw [List.length_append, List.length_map, days_len, rowOn_len ws lo hi, List.length_cons, Nat.succ_mul]
    omega
/-! ### [.. for x in t for d in range(..)] -/
section
variable {K : PySem.W.Frag} {a : Addr} {xs : List V} {g : TG} {wi1 : TI} {g1 : TG} {te : TE} {vs vs1 : List Nat} {σ : L2.St} {H1 : Hp} {D : Addr} {Qd : Hp → Prop} {lo : Int} {n : Nat}
theorem lc2_go (P : Nat → Nat → Hp → Prop) (h0 : P 0 0 (upd H1 D (.lst []))) (hl : ∀ i H, P i 0 H → SqT K H a xs)
    (hg : ∀ x σ H (Q Q' : L2.St → Hp → Prop), (∀ σ2 H2, Q σ2 H2 → Q' σ2 H2) → g x σ H Q → g x σ H Q')
    (hg1 : ∀ x σ H (Q Q' : L2.St → Hp → Prop), (∀ σ2 H2, Q σ2 H2 → Q' σ2 H2) → g1 x σ H Q → g1 x σ H Q')
    (hte : ∀ σ H (Q Q' : VK), (∀ v H2, Q v H2 → Q' v H2) → te σ H Q → te σ H Q')
    (hs : ∀ i x H, xs[i]? = some x → P i 0 H → g x (wipe σ vs) H fun σ2 H2 => wipe σ2 vs = wipe σ vs ∧ P i 0 H2 ∧ (∀ R : It → Hp → Prop, R (Itr lo n) H2 → wi1 σ2 H2 R) ∧
      ∀ j H', j < n → P i j H' → g1 (.int (lo + j)) (wipe σ2 vs1) H' fun σ3 H5 => wipe σ3 vs1 = wipe σ2 vs1 ∧ te σ3 H5 fun y H7 => ∃ acc, H7 D = some (.lst acc) ∧ acc.length < sizeLine ∧ P i (j + 1) (upd H7 D (.lst (acc ++ [y]))))
    (hn : ∀ i H, P i n H → P (i + 1) 0 H) (hd : ∀ H, P xs.length 0 H → Qd H) :
    ∃ W : Nat → Nat → Hp → Prop, (∃ m, W 0 m (upd H1 D (.lst []))) ∧ ∀ i m H, W i m H →
      ((Itt K a).stop i H ∧ Qd H) ∨ ((Itt K a).go i H ∧ ∃ Nx : Hp → Prop, (∀ H', Nx H' → ∃ m', m' < m ∧ W (i + 1) m' H') ∧ ∀ x H', (Itt K a).yld i H x H' → g x (wipe σ vs) H' fun σ2 H2 => wipe σ2 vs = wipe σ vs ∧ tYes σ2 H2 fun b H3 =>
        if b = true then wi1 σ2 H3 fun J1 H4 => ∃ W1 : Nat → Nat → Hp → Prop, (∃ m, W1 0 m H4) ∧ ∀ j k H, W1 j k H →
          (J1.stop j H ∧ Nx H) ∨ (J1.go j H ∧ ∃ Nx1 : Hp → Prop, (∀ H', Nx1 H' → ∃ k', k' < k ∧ W1 (j + 1) k' H') ∧ ∀ x H', J1.yld j H x H' → g1 x (wipe σ2 vs1) H' fun σ3 H5 => wipe σ3 vs1 = wipe σ2 vs1 ∧ tYes σ3 H5 fun b H6 =>
            if b = true then te σ3 H6 fun y H7 => ∃ acc, H7 D = some (.lst acc) ∧ acc.length < sizeLine ∧ Nx1 (upd H7 D (.lst (acc ++ [y]))) else Nx1 H6)
        else Nx H3) := by
  refine ⟨fun i m H => m = xs.length - i ∧ i ≤ xs.length ∧ P i 0 H, ⟨xs.length, by simp, Nat.zero_le _, h0⟩, ?_⟩
  rintro i m H ⟨rfl, hi, p⟩
  have q := hl i H p
  by_cases hlt : i < xs.length
  · refine .inr ⟨⟨xs, xs[i], q, by simp [hlt]⟩, fun H' => P (i + 1) 0 H', fun H' p' => ⟨xs.length - (i + 1), by omega, rfl, hlt, p'⟩, fun x H' y => ?_⟩
    obtain ⟨e, y⟩ := y
    subst e
    refine hg _ _ _ _ _ (fun σ2 H2 z => ?_) (hs i x _ (y xs q) p)
    obtain ⟨z1, z2, z3, z4⟩ := z
    refine ⟨z1, iYes (iteT (z3 _ ?_))⟩
    refine ⟨fun j k H => k = n - j ∧ j ≤ n ∧ P i j H, ⟨n, by simp, Nat.zero_le _, z2⟩, ?_⟩
    rintro j k H5 ⟨rfl, hj, pj⟩
    by_cases hjn : j < n
    · refine .inr ⟨hjn, fun H' => P i (j + 1) H', fun H' p' => ⟨n - (j + 1), by omega, rfl, hjn, p'⟩, fun x H' y => ?_⟩
      obtain ⟨rfl, rfl⟩ := y
      refine hg1 _ _ _ _ _ (fun σ3 H6 u => ?_) (z4 j _ hjn pj)
      exact ⟨u.1, iYes (iteT u.2)⟩
    · have e : j = n := by omega
      subst e
      exact .inl ⟨Nat.le_refl _, hn i _ pj⟩
  · have e : i = xs.length := by omega
    subst e
    exact .inl ⟨⟨xs, q, Nat.le_refl _⟩, hd H p⟩
end
end AskG
namespace P20
open PySem PySem.Spec PyProof.Rows L2 AskG
def topS (i : Nat) : Stmt := PySem.Challenge.pw_askrights_k20_rows_needed_told.main.body.getD i (.Pass ⟨0, 0, 0, 0⟩)
abbrev sUsed : Stmt := topS 1
abbrev sAsked : Stmt := topS 2
abbrev sOnDays : Stmt := topS 3
theorem scUsed : FnScope ["right", "day"] ["right", "day"] (defScope sUsed) := ⟨rfl, rfl, rfl, by decide +kernel, rfl, by decide +kernel, by decide +kernel⟩
theorem scAsked : FnScope ["right", "day", "kind"] ["right", "day"] (defScope sAsked) := ⟨rfl, rfl, rfl, by decide +kernel, rfl, by decide +kernel, by decide +kernel⟩
theorem scOnDays : FnScope ["right", "low", "high", "account", "weight", "day"] ["right", "low", "high"] (defScope sOnDays) := ⟨rfl, rfl, rfl, by decide +kernel, rfl, by decide +kernel, by decide +kernel⟩
/-- the days j of the account at i -/
def rowPart (ws : List Cell) (lo hi : Int) (i j : Nat) : RowD := match ws[i]? with
  | some x => ((daysOf lo hi).take j).map fun d => ((x.1, d), x.2)
  | none => []
theorem part_zero (ws : List Cell) (lo hi : Int) (i : Nat) : rowPart ws lo hi i 0 = [] := by
  unfold rowPart
  cases ws[i]? <;> rfl
theorem part_len (ws : List Cell) (lo hi : Int) (i j : Nat) : (rowPart ws lo hi i j).length ≤ (hi + 1 - lo).toNat := by
  unfold rowPart
  cases ws[i]? with
  | none => exact Nat.zero_le _
  | some x =>
    show (((daysOf lo hi).take j).map _).length ≤ _
    rw [List.length_map, List.length_take, days_len]
    omega
theorem rowOn_app (a b : List Cell) (lo hi : Int) : rowOn (a ++ b) lo hi = rowOn a lo hi ++ rowOn b lo hi := List.flatMap_append
theorem part_n (ws : List Cell) (lo hi : Int) (i : Nat) : rowOn (ws.take i) lo hi ++ rowPart ws lo hi i (hi + 1 - lo).toNat = rowOn (ws.take (i + 1)) lo hi := by
  rw [List.take_add_one, rowOn_app]
  congr 1
  unfold rowPart
  cases ws[i]? with
  | none => rfl
  | some x =>
    show ((daysOf lo hi).take _).map _ = (daysOf lo hi).map _ ++ []
    rw [List.append_nil, List.take_of_length_le (by rw [days_len]; exact Nat.le_refl _)]
theorem part_succ {ws : List Cell} {lo hi : Int} {i j : Nat} {c : Cell} (h : ws[i]? = some c) (hj : j < (hi + 1 - lo).toNat) : rowPart ws lo hi i (j + 1) = rowPart ws lo hi i j ++ [((c.1, lo + (j : Int)), c.2)] := by
  unfold rowPart
  rw [h]
  show ((daysOf lo hi).take (j + 1)).map _ = ((daysOf lo hi).take j).map _ ++ _
  have : (daysOf lo hi)[j]? = some (lo + (j : Int)) := by
    unfold daysOf
    rw [List.getElem?_map, List.getElem?_range hj]
    rfl
  rw [List.take_add_one, this, List.map_append]
  rfl
section
variable {P : Program} {w : World} {K : PySem.W.Frag} {mg : Str → Option Value} {base : Heap}
def prUsed : Pr := fun vs H Q => ∃ (a : Addr) (R : Rt) (t : Int), vs = [.ref a, .int t] ∧ RightAt H a R ∧ Q (.bl (usedB R t)) H
theorem ok_used {f : Addr} {fd : FuncData} {k : Nat} (F : Fun K "is_used_on" "is_used_on" sUsed f fd) : FnG P w K mg base (k + 1) f fd ["right", "day"] prUsed := by
  refine okG F scUsed (fun vs H Q h => ?_) (fun cdv A outer s H vs Q hr h => ?_)
  · obtain ⟨_, _, _, rfl, _⟩ := h
    rfl
  · obtain ⟨a, R, t, rfl, hR, q⟩ := h
    obtain ⟨wa, ps, ka, h1, h2, h3, h4⟩ := hR
    refine ⟨_, pss_one (ps_ret (pe_chain op_le op_le (pe_ix (ix_tup : IxR _ (rIxT K)) (pv 0) pe_int (fun _ _ => rfl)) (pv 1) (pe_ix (ix_tup : IxR _ (rIxT K)) (pv 0) pe_int (fun _ _ => rfl)))), ?_⟩
    refine iRet ⟨.ref a, rfl, a, _, _, _, rfl, rfl, sqT h1, atI_nat (j := 2) rfl, .int t, rfl, R.first, t, rfl, rfl, _, rfl, ?_⟩
    unfold usedB at q
    by_cases e : R.first ≤ t
    · rw [decide_eq_true e] at q ⊢
      refine iteT ⟨.ref a, rfl, a, _, _, _, rfl, rfl, sqT h1, atI_nat (j := 3) rfl, t, R.last, rfl, rfl, ?_⟩
      rw [Bool.true_and] at q
      exact q
    · rw [decide_eq_false e] at q ⊢
      exact iteF q
def prAsked : Pr := fun vs H Q => ∃ (a : Addr) (R : Rt) (t : Int), vs = [.ref a, .int t] ∧ RightAt H a R ∧ ∀ p, H p = none → Q (.ref p) (upd H p (.tup [.int (R.kind.lo t), .int (R.kind.hi t)]))
theorem ok_asked {f : Addr} {fd : FuncData} {k : Nat} (F : Fun K "asked_days" "asked_days" sAsked f fd) (mx : mg "max" = none) (mn : mg "min" = none) : FnG P w K mg base (k + 1) f fd ["right", "day"] prAsked := by
  refine okG F scAsked (fun vs H Q h => ?_) (fun cdv A outer s H vs Q hr h => ?_)
  · obtain ⟨_, _, _, rfl, _⟩ := h
    rfl
  · obtain ⟨a, ⟨pn, ws, fi, la, kd⟩, t, rfl, hR, q⟩ := h
    obtain ⟨wa, ps, ka, h1, h2, h3, h4⟩ := hR
    refine ⟨_, pss_cons (ps_set (i := 2) scAsked.nd rfl (.inl rfl) (pe_ix (ix_tup : IxR _ (rIxT K)) (pv 0) pe_int (fun _ _ => rfl)))
      (pss_cons (ps_if (pt_cmpR op_eq (pe_ix (ix_tup : IxR _ (rIxT K)) (pv 2) pe_int (fun _ _ => rfl)) pe_str (nomark _)) (pss_one (ps_ret (pe_tup (pa_cons (pe_ix (ix_tup : IxR _ (rIxT K)) (pv 2) pe_int (fun _ _ => rfl)) (pa_cons (pv 1) pa_nil))))) pss_nil)
      (pss_cons (ps_if (pt_cmpR op_eq (pe_ix (ix_tup : IxR _ (rIxT K)) (pv 2) pe_int (fun _ _ => rfl)) pe_str (nomark _)) (pss_one (ps_ret (pe_tup (pa_cons (pe_callB (call_max2 rfl) (by rfl) mx (by decide +kernel) (pa_cons pe_int (pa_cons (pe_op op_add (pe_op op_sub (pv 1) (pe_ix (ix_tup : IxR _ (rIxT K)) (pv 2) pe_int (fun _ _ => rfl))) pe_int) pa_nil))) (pa_cons (pv 1) pa_nil))))) pss_nil)
      (pss_one (ps_ret (pe_tup (pa_cons (pe_ix (ix_tup : IxR _ (rIxT K)) (pv 2) pe_int (fun _ _ => rfl)) (pa_cons (pe_callB (call_min2 rfl) (by rfl) mn (by decide +kernel) (pa_cons (pe_ix (ix_tup : IxR _ (rIxT K)) (pv 2) pe_int (fun _ _ => rfl)) (pa_cons (pv 1) pa_nil))) pa_nil)))))))  , ?_⟩
    refine iSeq (iAsg ⟨.ref a, rfl, a, _, _, _, rfl, rfl, sqT h1, atI_nat (j := 4) rfl, ?_⟩)
    refine iName ?_
    dsimp only
    refine iSeq ?_
    cases kd with
    | tot s0 =>
      refine ⟨.ref ka, rfl, ka, _, _, _, rfl, rfl, sqT h4, atI_nat (j := 0) rfl, rfl, _, rfl, ?_⟩
      refine iteT (iRet ⟨.ref ka, rfl, ka, _, _, _, rfl, rfl, sqT h4, atI_nat (j := 1) rfl, .int t, rfl, by show 2 ≤ sizeLine; decide, fun p hp => q p hp⟩)
    | win l =>
      refine ⟨.ref ka, rfl, ka, _, _, _, rfl, rfl, sqT h4, atI_nat (j := 0) rfl, rfl, _, rfl, ?_⟩
      refine iteF (iNext ?_)
      dsimp only
      refine iSeq ⟨.ref ka, rfl, ka, _, _, _, rfl, rfl, sqT h4, atI_nat (j := 0) rfl, rfl, _, rfl, ?_⟩
      refine iteT (iRet ⟨.int t, rfl, .ref ka, rfl, ka, _, _, _, rfl, rfl, sqT h4, atI_nat (j := 1) rfl, t, l, rfl, rfl, t - l, 1, rfl, rfl, 0, t - l + 1, rfl, .int t, rfl, by show 2 ≤ sizeLine; decide, fun p hp => q p hp⟩)
    | per b e =>
      refine ⟨.ref ka, rfl, ka, _, _, _, rfl, rfl, sqT h4, atI_nat (j := 0) rfl, rfl, _, rfl, ?_⟩
      refine iteF (iNext ?_)
      dsimp only
      refine iSeq ⟨.ref ka, rfl, ka, _, _, _, rfl, rfl, sqT h4, atI_nat (j := 0) rfl, rfl, _, rfl, ?_⟩
      refine iteF (iNext ?_)
      dsimp only
      refine iRet ⟨.ref ka, rfl, ka, _, _, _, rfl, rfl, sqT h4, atI_nat (j := 1) rfl, .ref ka, rfl, ka, _, _, _, rfl, rfl, sqT h4, atI_nat (j := 2) rfl, .int t, rfl, e, t, rfl, by show 2 ≤ sizeLine; decide, fun p hp => q p hp⟩
def prOnDays : Pr := fun vs H Q => ∃ (a : Addr) (R : Rt) (lo hi : Int), vs = [.ref a, .int lo, .int hi] ∧ RightAt H a R ∧ R.ws.length ≤ 3 ∧ 0 ≤ lo ∧ lo ≤ 100 ∧ -1 ≤ hi ∧ hi ≤ 100 ∧
  ∀ H' p, Same H H' → RowAt H' p (rowOn R.ws lo hi) → Q (.ref p) H'
theorem g2_mono {i j : Nat} : ∀ (x : V) (σ : L2.St) (H : Hp) (Q Q' : L2.St → Hp → Prop), (∀ σ2 H2, Q σ2 H2 → Q' σ2 H2) → g2 K i j x σ H Q → g2 K i j x σ H Q' := by
  rintro x σ H Q Q' m ⟨a, xs, e, hs, hl, v, r, e1, v2, r2, e2, e3, q⟩
  exact ⟨a, xs, e, hs, hl, v, r, e1, v2, r2, e2, e3, m _ _ q⟩
theorem ok_onDays {f : Addr} {fd : FuncData} {k : Nat} (F : Fun K "row_on_days" "row_on_days" sOnDays f fd) (mt : mg "tuple" = none) (mr : mg "range" = none) : FnG P w K mg base (k + 1) f fd ["right", "low", "high"] prOnDays := by
  refine okG F scOnDays (fun vs H Q h => ?_) (fun cdv A outer s H vs Q hr h => ?_)
  · obtain ⟨_, _, _, _, rfl, _⟩ := h
    rfl
  · obtain ⟨a, R, lo, hi, rfl, hR, l3, lo0, lo1, hi0, hi1, q⟩ := h
    obtain ⟨wa, ps, ka, h1, h2, h3, h4⟩ := hR
    have big := sizeBig
    refine ⟨_, pss_one (ps_ret (pe_callTy call_tuple_of (by rfl) mt (by decide +kernel) (pa_cons (pe_lc2 (own := [("account", 3), ("weight", 4), ("day", 5)]) (vs1 := [5]) (g := g2 K 3 4) (g1 := gName 5) (tt := tYes) (tt1 := tYes) rfl scOnDays.nd (pi_tup (pe_ix (ix_tup : IxR _ (rIxT K)) (pv 0) pe_int (fun _ _ => rfl)))
      (blkOk_by (N := ["right", "low", "high", "account", "weight", "day"]) (sc := defScope sOnDays) (by decide +kernel)) (by decide)
      (fun _ _ _ _ _ => pg_tup rfl (pgs_cons (pg_name (i := 3) scOnDays.nd rfl (.inl rfl)) (pgs_cons (pg_name (i := 4) scOnDays.nd rfl (.inl rfl)) pgs_nil)))
      (fun _ _ _ _ _ => pts_nil)
      (fun _ _ _ _ _ => pi_range2 (by rfl) mr (pa_cons (pv 1) (pa_cons (pe_op op_add (pv 2) pe_int) pa_nil)))
      (fun _ _ _ _ _ => pg_name (i := 5) scOnDays.nd rfl (.inl rfl))
      (fun _ _ _ _ _ => pts_nil)
      (fun _ _ _ _ _ => pe_tup (pa_cons (pe_tup (pa_cons (pv 3) (pa_cons (pv 5) pa_nil))) (pa_cons (pv 4) pa_nil)))) pa_nil))), ?_⟩
    refine iRet ?_
    refine ⟨.ref a, rfl, a, _, _, _, rfl, rfl, sqT h1, atI_nat (j := 1) rfl, wa, rfl, ⟨_, sqT h2⟩, fun D hD => ?_⟩
    have hlen := Paired.length h3
    refine lc2_go (K := K) (a := wa) (xs := ps.map V.ref) (lo := lo) (n := (hi + 1 - lo).toNat)
      (fun i j H' => Same H H' ∧ ∃ qs, H' D = some (.lst (qs.map V.ref)) ∧ Paired (PairRow H') qs (rowOn (R.ws.take i) lo hi ++ rowPart R.ws lo hi i j))
      ⟨same_new hD, [], upd_same, ?_⟩ (fun i H' h => sqT (h.1 _ _ h2)) g2_mono (fun _ _ _ _ _ m z => m _ _ z) (fun σ H Q Q' m z => ?_) (fun i x H' hx h => ?_) (fun i H' h => ?_) (fun H' h => ?_)
    · rw [part_zero, List.take_zero]
      exact .nil
    · obtain ⟨v3, e3, v5, e5, s1, z⟩ := z
      exact ⟨v3, e3, v5, e5, s1, fun p hp => by
        obtain ⟨v4, e4, s2, z⟩ := z p hp
        exact ⟨v4, e4, s2, fun p2 hp2 => m _ _ (z p2 hp2)⟩⟩
    · rw [List.getElem?_map] at hx
      obtain ⟨pi, hpi, rfl⟩ := Option.map_eq_some_iff.mp hx
      obtain ⟨c, hc, hcell⟩ := paired_at' h3 hpi
      have il : i < R.ws.length := (List.getElem?_eq_some_iff.mp hc).1
      obtain ⟨sm, qs, hqs, hqq⟩ := h
      refine ⟨pi, _, rfl, sqT (sm _ _ hcell), rfl, .str c.1, _, rfl, .int c.2, _, rfl, rfl, rfl, ⟨sm, qs, hqs, hqq⟩, fun R' hR' => ⟨.int lo, rfl, .int hi, rfl, hi, 1, rfl, rfl, lo, hi + 1, rfl, ⟨by omega, by omega, by omega, by omega⟩, hR'⟩, fun j H2 hj h => ?_⟩
      obtain ⟨sm, qs, hqs, hqq⟩ := h
      have ql := Paired.length hqq
      have qb : (rowOn (R.ws.take i) lo hi ++ rowPart R.ws lo hi i j).length ≤ 1000 := by
        rw [List.length_append, rowOn_len, List.length_take]
        have h1 : min i R.ws.length * (hi + 1 - lo).toNat ≤ 3 * 101 := Nat.mul_le_mul (by omega) (by omega)
        have h2 := part_len R.ws lo hi i j
        omega
      refine ⟨rfl, .str c.1, rfl, .int (lo + j), rfl, by show 2 ≤ sizeLine; omega, fun p1 hp1 => ⟨.int c.2, rfl, by show 2 ≤ sizeLine; omega, fun p2 hp2 => ?_⟩⟩
      have s1 := same_new (o := .tup [.str c.1, .int (lo + j)]) hp1
      have s2 := same_new (o := .tup [.ref p1, .int c.2]) hp2
      have s12 := s1.trans s2
      have hDp := s12 _ _ hqs
      refine ⟨_, hDp, by rw [List.length_map]; omega, fun b o e => ?_, qs ++ [p2], by rw [upd_same, List.map_append]; rfl, ?_⟩
      · rw [upd_ne (ne_of_none e hD)]
        exact s12 _ _ (sm _ _ e)
      · have kp : KeepT _ (upd _ D (.lst (qs.map V.ref ++ [.ref p2]))) := KeepT.put hDp fun _ z => nomatch z
        rw [part_succ hc hj, ← List.append_assoc]
        exact Paired.snoc (Paired.mapP hqq fun _ _ z => (z.keep (KeepT.of s12)).keep kp) ⟨p1, kp _ _ upd_same, kp _ _ (s2 _ _ upd_same)⟩
    · obtain ⟨sm, qs, hqs, hqq⟩ := h
      refine ⟨sm, qs, hqs, ?_⟩
      rw [part_zero, List.append_nil, ← part_n]
      exact hqq
    · obtain ⟨sm, qs, hqs, hqq⟩ := h
      rw [part_zero, List.append_nil, List.length_map, hlen, List.take_length] at hqq
      refine ⟨D, _, rfl, .inl ⟨sqL hqs, fun p hp => ?_⟩⟩
      have s5 := same_new (o := .tup (qs.map V.ref)) hp
      exact q _ p (sm.trans s5) ⟨qs, upd_same, Paired.mapP hqq fun _ _ z => z.keep (KeepT.of s5)⟩
end
end P20
namespace P20
open PySem PySem.Spec PyProof.Rows L2 AskG
abbrev sFeed : Stmt := topS 11
theorem scFeed : FnScope ["_law_script"] ["_law_script"] (defScope sFeed) := ⟨rfl, rfl, rfl, by decide +kernel, rfl, by decide +kernel, by decide +kernel⟩
abbrev sDraw : Stmt := topS 12
theorem scDraw : FnScope ["_law_feed_here", "_law_many", "_law_digit", "_law_place", "_law_cell", "_law_mixed"] ["_law_feed_here", "_law_many"] (defScope sDraw) := ⟨rfl, rfl, rfl, by decide +kernel, rfl, by decide +kernel, by decide +kernel⟩
def feedKvs (L : Addr) (at' left n : Int) : List (Key × V) := [(Sum.inr "cells", .ref L), (Sum.inr "next", .int at'), (Sum.inr "rest", .int left), (Sum.inr "draws", .int n)]
def FeedAt (H : Hp) (F L : Addr) : Prop := ∃ (ns : List Int) (at' left n : Int), H F = some (.dK (feedKvs L at' left n)) ∧ H L = some (.lst (ns.map V.int))
/-- all but the feed stays -/
def KeepF (F : Addr) (H H' : Hp) : Prop := ∀ b o, b ≠ F → H b = some o → H' b = some o
theorem KeepF.refl (F : Addr) (H : Hp) : KeepF F H H := fun _ _ _ e => e
theorem KeepF.trans {F : Addr} {H H1 H2 : Hp} (h : KeepF F H H1) (g : KeepF F H1 H2) : KeepF F H H2 := fun b o n e => g b o n (h b o n e)
theorem KeepF.of {F : Addr} {H H' : Hp} (h : Same H H') : KeepF F H H' := fun b o _ e => h b o e
theorem KeepF.tup {F L : Addr} {H H' : Hp} (h : KeepF F H H') (f : FeedAt H F L) : KeepT H H' := fun b xs e => by
  obtain ⟨_, _, _, _, hF, _⟩ := f
  exact h b _ (ne_of e hF fun z => nomatch z) e
theorem FeedAt.same {F L : Addr} {H H' : Hp} (f : FeedAt H F L) (h : Same H H') : FeedAt H' F L := by
  obtain ⟨ns, a, l, n, h1, h2⟩ := f
  exact ⟨ns, a, l, n, h _ _ h1, h _ _ h2⟩
section
variable (L : Addr) (a l n x : Int)
theorem g_count : valV (feedKvs L a l n) (Sum.inr "draws") = some (.int n) := rfl
theorem g_left : valV (feedKvs L a l n) (Sum.inr "rest") = some (.int l) := rfl
theorem g_at : valV (feedKvs L a l n) (Sum.inr "next") = some (.int a) := rfl
theorem g_cells : valV (feedKvs L a l n) (Sum.inr "cells") = some (.ref L) := rfl
theorem p_count : putK (feedKvs L a l n) (Sum.inr "draws") (.int x) = feedKvs L a l x := rfl
theorem p_left : putK (feedKvs L a l n) (Sum.inr "rest") (.int x) = feedKvs L a x n := rfl
theorem p_at : putK (feedKvs L a l n) (Sum.inr "next") (.int x) = feedKvs L x l n := rfl
end
theorem dg_count {H : Hp} {F L : Addr} {a l n : Int} (h : H F = some (.dK (feedKvs L a l n))) : DGet H F (.str "draws") (some (.int n)) := DGet.k (k := Sum.inr "draws") h
theorem dg_left {H : Hp} {F L : Addr} {a l n : Int} (h : H F = some (.dK (feedKvs L a l n))) : DGet H F (.str "rest") (some (.int l)) := DGet.k (k := Sum.inr "rest") h
theorem dg_at {H : Hp} {F L : Addr} {a l n : Int} (h : H F = some (.dK (feedKvs L a l n))) : DGet H F (.str "next") (some (.int a)) := DGet.k (k := Sum.inr "next") h
theorem dg_cells {H : Hp} {F L : Addr} {a l n : Int} (h : H F = some (.dK (feedKvs L a l n))) : DGet H F (.str "cells") (some (.ref L)) := DGet.k (k := Sum.inr "cells") h
theorem four : (feedKvs 0 0 0 0).length < sizeLine := by
  show 4 < sizeLine
  decide
theorem dp_count {H : Hp} {F L : Addr} {a l n x : Int} (h : H F = some (.dK (feedKvs L a l n))) : DPut H F (.str "draws") (.int x) (upd H F (.dK (feedKvs L a l x))) := DPut.k (k := Sum.inr "draws") h four
theorem dp_left {H : Hp} {F L : Addr} {a l n x : Int} (h : H F = some (.dK (feedKvs L a l n))) : DPut H F (.str "rest") (.int x) (upd H F (.dK (feedKvs L a x n))) := DPut.k (k := Sum.inr "rest") h four
theorem dp_at {H : Hp} {F L : Addr} {a l n x : Int} (h : H F = some (.dK (feedKvs L a l n))) : DPut H F (.str "next") (.int x) (upd H F (.dK (feedKvs L x l n))) := DPut.k (k := Sum.inr "next") h four
section
variable {P : Program} {w : World} {K : PySem.W.Frag} {mg : Str → Option Value} {base : Heap}
def prFeed (K : PySem.W.Frag) : Pr := fun vs H Q => ∃ (a : Addr) (ns : List Int), vs = [.ref a] ∧ SqL K H a (ns.map V.int) ∧ ∀ H' F L, Same H H' → FeedAt H' F L → Q (.ref F) H'
theorem cut63 (ns : List Int) : ∃ ms : List Int, cutV (ns.map V.int) none (some 63) = ms.map V.int := by
  unfold cutV
  rw [← List.map_drop, ← List.map_take]
  exact ⟨_, rfl⟩
theorem ok_feed {f : Addr} {fd : FuncData} {k : Nat} (F : Fun K "_law_feed" "_law_feed" sFeed f fd) (ml : mg "list" = none) : FnG P w K mg base (k + 1) f fd ["_law_script"] (prFeed K) := by
  refine okG F scFeed (fun vs H Q h => ?_) (fun cdv A outer s H vs Q hr h => ?_)
  · obtain ⟨_, _, rfl, _⟩ := h
    rfl
  · obtain ⟨a, ns, rfl, hS, q⟩ := h
    refine ⟨_, pss_one (ps_ret (pe_disp (pps_cons pe_str (pe_callTy call_list_of (by rfl) ml (by decide +kernel) (pa_cons (pe_slice sl_list (pv 0) po_none (po_some pe_int)) pa_nil))
      (pps_cons pe_str pe_int (pps_cons pe_str pe_int (pps_cons pe_str pe_int pps_nil)))) (by rfl) (by rfl) (fun z => by cases z) (by decide))), ?_⟩
    obtain ⟨ms, hms⟩ := cut63 ns
    refine iRet (fun p hp => ?_)
    have s1 : Same H (upd H p (.dK [])) := same_new hp
    refine ⟨.ref a, rfl, 63, rfl, a, ns.map V.int, rfl, s1.seq hS, fun c hc => ?_⟩
    rw [hms]
    have s2 : Same (upd H p (.dK [])) (upd (upd H p (.dK [])) c (.lst (ms.map V.int))) := same_new hc
    refine ⟨c, ms.map V.int, rfl, .inl (sqL upd_same), fun l hl => ?_⟩
    have s3 : Same (upd (upd H p (.dK [])) c (.lst (ms.map V.int))) (upd (upd (upd H p (.dK [])) c (.lst (ms.map V.int))) l (.lst (ms.map V.int))) := same_new hl
    have hpp : (upd (upd (upd H p (.dK [])) c (.lst (ms.map V.int))) l (.lst (ms.map V.int))) p = some (.dK []) := s3 _ _ (s2 _ _ upd_same)
    refine ⟨hpp, feedKvs l 0 0 0, rfl, by show 4 ≤ 15; decide, ?_⟩
    have npl : l ≠ p := fun e => by
      rw [e, s2 _ _ upd_same] at hl
      cases hl
    refine q _ p l (fun b o e => ?_) ⟨ms, 0, 0, 0, upd_same, ?_⟩
    · rw [upd_ne (ne_of_none e hp)]
      exact s3 _ _ (s2 _ _ (s1 _ _ e))
    · rw [upd_ne npl, upd_same]
end
section
variable {P : Program} {w : World} {K : PySem.W.Frag} {mg : Str → Option Value} {base : Heap}
def prDraw : Pr := fun vs H Q => ∃ (F L : Addr) (m : Int), vs = [.ref F, .int m] ∧ FeedAt H F L ∧ 0 < m ∧ m < 1000 ∧
  ∀ d H', 0 ≤ d → d < m → KeepF F H H' → FeedAt H' F L → Q (.int d) H'
theorem ok_draw {f : Addr} {fd : FuncData} {k : Nat} (F : Fun K "_law_draw" "_law_draw" sDraw f fd) (ml : mg "len" = none) : FnG P w K mg base (k + 1) f fd ["_law_feed_here", "_law_many"] prDraw := by
  refine okG F scDraw (fun vs H Q h => ?_) (fun cdv A outer s H vs Q hr h => ?_)
  · obtain ⟨_, _, _, rfl, _⟩ := h
    rfl
  · obtain ⟨F, L, m, rfl, ⟨ns, a, l, n, hF, hL⟩, m1, m2, q⟩ := h
    have hu := hu_of hr.room
    refine ⟨_, pss_cons (ps_dput hu (pv 0) pe_str (pe_op op_add (pe_dget hu (pv 0) pe_str (fun _ _ => rfl)) pe_int) rfl)
      (pss_cons (ps_if (pt_cmpR op_gt (pe_dget hu (pv 0) pe_str (fun _ _ => rfl)) pe_int (nomark _))
        (pss_cons (ps_set (i := 2) scDraw.nd rfl (.inl rfl) (pe_op op_mod (pe_dget hu (pv 0) pe_str (fun _ _ => rfl)) (pv 1)))
          (pss_cons (ps_dput hu (pv 0) pe_str (pe_op op_fdiv (pe_dget hu (pv 0) pe_str (fun _ _ => rfl)) (pv 1)) rfl)
          (pss_one (ps_ret (pv 2))))) pss_nil)
      (pss_cons (ps_set (i := 3) scDraw.nd rfl (.inl rfl) (pe_dget hu (pv 0) pe_str (fun _ _ => rfl)))
      (pss_cons (ps_dput hu (pv 0) pe_str (pe_op op_add (pv 3) pe_int) rfl)
      (pss_cons (ps_set (i := 4) scDraw.nd rfl (.inl rfl) (pe_ifExp (pt_cmpR (op_neD hr.room.units) (pe_dget hu (pv 0) pe_str (fun _ _ => rfl)) (pe_lst pa_nil) (nomark _))
        (pe_ix ix_list (pe_dget hu (pv 0) pe_str (fun _ _ => rfl)) (pe_op op_mod (pv 3) (pe_callB call_len_seq (by rfl) ml PySem.boot_len (pa_cons (pe_dget hu (pv 0) pe_str (fun _ _ => rfl)) pa_nil))) (fun _ _ => rfl)) pe_int))
      (pss_cons (ps_if (PW.pt (pw_and (pt_cmpR op_ge (pv 4) (pe_op op_pow pe_int pe_int) (nomark _)) (pw_and1 (pt_cmpR op_lt (pv 3) (pe_callB call_len_seq (by rfl) ml PySem.boot_len (pa_cons (pe_dget hu (pv 0) pe_str (fun _ _ => rfl)) pa_nil)) (nomark _)))))
        (pss_cons (ps_dput hu (pv 0) pe_str (pe_op op_fdiv (pv 4) (pv 1)) rfl) (pss_one (ps_ret (pe_op op_mod (pv 4) (pv 1))))) pss_nil)
      (pss_cons (ps_set (i := 5) scDraw.nd rfl (.inl rfl) (pe_op op_mod (pe_op op_add (pe_op op_add (pe_op op_mod (pv 4) pe_int) (pe_op op_mul pe_int (pe_dget hu (pv 0) pe_str (fun _ _ => rfl)))) pe_int) pe_int))
      (pss_cons (ps_set (i := 5) scDraw.nd rfl (.inl rfl) (pe_op op_mod (pe_op op_add (pe_op op_add (pe_op op_pow (pv 5) pe_int) (pe_op op_mul pe_int (pe_dget hu (pv 0) pe_str (fun _ _ => rfl)))) pe_int) pe_int))
      (pss_one (ps_ret (pe_op op_mod (pe_op op_fdiv (pe_op op_mod (pe_op op_add (pe_op op_pow (pv 5) pe_int) (pe_op op_mul pe_int (pv 5))) pe_int) pe_int) (pv 1))))))))))), ?_⟩
    have nLF : L ≠ F := ne_of hL hF fun z => nomatch z
    -- count
    refine ⟨.ref F, rfl, F, .int n, rfl, dg_count hF, n, 1, rfl, rfl, .ref F, rfl, F, _, rfl, dp_count hF, ?_⟩
    have hF1 : (upd H F (.dK (feedKvs L a l (n + 1)))) F = some (.dK (feedKvs L a l (n + 1))) := upd_same
    have hL1 : (upd H F (.dK (feedKvs L a l (n + 1)))) L = some (.lst (ns.map V.int)) := by
      rw [upd_ne nLF]
      exact hL
    have k1 : KeepF F H (upd H F (.dK (feedKvs L a l (n + 1)))) := fun b o h e => by
      rw [upd_ne h]
      exact e
    generalize upd H F (.dK (feedKvs L a l (n + 1))) = H1 at hF1 hL1 k1 ⊢
    -- left
    refine ⟨.ref F, rfl, F, .int l, rfl, dg_left hF1, l, 0, rfl, rfl, _, rfl, ite2 (fun e => ?_) (fun e => ?_)⟩
    · refine ⟨.ref F, rfl, F, .int l, rfl, dg_left hF1, .int m, rfl, l, m, rfl, rfl, m1, ?_⟩
      refine ⟨.ref F, rfl, F, .int l, rfl, dg_left hF1, .int m, rfl, l, m, rfl, rfl, ⟨m1, by omega⟩, .ref F, rfl, F, _, rfl, dp_left hF1, ?_⟩
      refine ⟨.int (l % m), rfl, q _ _ (Int.emod_nonneg _ (by omega)) (Int.emod_lt_of_pos _ m1) (k1.trans fun b o h e => ?_) ⟨ns, a, l / m, n + 1, upd_same, ?_⟩⟩
      · rw [upd_ne h]
        exact e
      · rw [upd_ne nLF]
        exact hL1
    · -- at
      refine ⟨.ref F, rfl, F, .int a, rfl, dg_at hF1, ?_⟩
      refine ⟨.int a, rfl, a, 1, rfl, rfl, .ref F, rfl, F, _, rfl, dp_at hF1, ?_⟩
      have hF2 : (upd H1 F (.dK (feedKvs L (a + 1) l (n + 1)))) F = some (.dK (feedKvs L (a + 1) l (n + 1))) := upd_same
      have hL2 : (upd H1 F (.dK (feedKvs L (a + 1) l (n + 1)))) L = some (.lst (ns.map V.int)) := by
        rw [upd_ne nLF]
        exact hL1
      have k2 : KeepF F H (upd H1 F (.dK (feedKvs L (a + 1) l (n + 1)))) := k1.trans fun b o h e => by
        rw [upd_ne h]
        exact e
      generalize upd H1 F (.dK (feedKvs L (a + 1) l (n + 1))) = H2 at hF2 hL2 k2 ⊢
      -- the cell
      dsimp only
      refine iSeq (iAsg ?_)
      refine split_k (fun v H3 => ∃ c, v = .int c ∧ H3 F = some (.dK (feedKvs L (a + 1) l (n + 1))) ∧ H3 L = some (.lst (ns.map V.int)) ∧ KeepF F H H3) (fun Q' hQ' => ?_) (fun v H3 hv => ?_)
      · refine ⟨.ref F, rfl, F, .ref L, rfl, dg_cells hF2, Nat.zero_le _, fun p hp => ?_⟩
        have s3 : Same H2 (upd H2 p (.lst [])) := same_new hp
        have k3 : KeepF F H (upd H2 p (.lst [])) := k2.trans (KeepF.of s3)
        refine ⟨.list (ns.map PyData.int), .list [], .lst (sqL (s3 _ _ hL2)) (dp_ints ns), .lst (sqL upd_same) .nil, shaped_ints ns, shaped_nil, _, rfl, ?_⟩
        cases ns with
        | nil => exact iteF (hQ' _ _ ⟨59, rfl, s3 _ _ hF2, s3 _ _ hL2, k3⟩)
        | cons x ns =>
          refine iteT ?_
          refine ⟨.ref F, rfl, F, .ref L, rfl, dg_cells (s3 _ _ hF2), .int a, rfl, .ref F, rfl, F, .ref L, rfl, dg_cells (s3 _ _ hF2), L, _, rfl, .inl (sqL (s3 _ _ hL2)), a, (((x :: ns).map V.int).length : Int), rfl, rfl, ?_, ?_⟩
          · rw [List.length_map, List.length_cons]
            show (0 : Int) < ((ns.length + 1 : Nat) : Int)
            omega
          · have hlen : (0 : Int) < (((x :: ns).map V.int).length : Int) := by
              rw [List.length_map, List.length_cons]
              omega
            have h0 := Int.emod_nonneg a (show (((x :: ns).map V.int).length : Int) ≠ 0 by omega)
            have h1 := Int.emod_lt_of_pos a hlen
            obtain ⟨jn, ej⟩ : ∃ jn : Nat, a % (((x :: ns).map V.int).length : Int) = (jn : Int) := ⟨(a % (((x :: ns).map V.int).length : Int)).toNat, by omega⟩
            have hj : jn < ((x :: ns).map V.int).length := by omega
            have hjn : jn < (x :: ns).length := by rw [List.length_map] at hj; exact hj
            refine ⟨L, _, _, .int (x :: ns)[jn], rfl, rfl, sqL (s3 _ _ hL2), (by rw [ej]; exact atI_nat (j := jn) (by rw [List.getElem?_map, List.getElem?_eq_getElem hjn]; rfl)), hQ' _ _ ⟨_, rfl, s3 _ _ hF2, s3 _ _ hL2, k3⟩⟩
      · obtain ⟨c, rfl, hF3, hL3, k3⟩ := hv
        -- if cell >= 10 ** 18 and at < len(cells)
        refine iName ?_
        dsimp only
        refine iSeq ?_
        refine split_s (fun σ' H' => σ' = [some (.ref F), some (.int m), none, some (.int a), some (.int c), none] ∧ H' = H3) (fun nx hnx => ?_) (fun σ' H' hx => ?_)
        · refine ⟨.int c, rfl, 10, 18, rfl, rfl, ⟨by decide, by decide, by decide⟩, c, _, rfl, rfl, _, rfl, ite2 (fun e1 => ?_) (fun e1 => ?_)⟩
          · refine ⟨.int a, rfl, .ref F, rfl, F, .ref L, rfl, dg_cells hF3, L, _, rfl, .inl (sqL hL3), a, _, rfl, rfl, _, rfl, ite2 (fun e2 => ?_) (fun e2 => ?_)⟩
            · refine ⟨.int c, rfl, .int m, rfl, c, m, rfl, rfl, ⟨m1, by omega⟩, .ref F, rfl, F, _, rfl, dp_left hF3, ?_⟩
              refine ⟨.int c, rfl, .int m, rfl, c, m, rfl, rfl, m1, q _ _ (Int.emod_nonneg _ (by omega)) (Int.emod_lt_of_pos _ m1) (k3.trans fun b o h e => ?_) ⟨ns, a + 1, c / m, n + 1, upd_same, ?_⟩⟩
              · rw [upd_ne h]
                exact e
              · rw [upd_ne nLF]
                exact hL3
            · exact hnx _ _ ⟨rfl, rfl⟩
          · exact iteF (hnx _ _ ⟨rfl, rfl⟩)
        · obtain ⟨rfl, rfl⟩ := hx
          dsimp only
          -- mixed
          refine ⟨.int c, rfl, c, 1000001353, rfl, rfl, (by decide : (0 : Int) < 1000001353), .ref F, rfl, F, .int (n + 1), rfl, dg_count hF3, 81157, n + 1, rfl, rfl, .inl ⟨by decide, by decide⟩, _, _, rfl, rfl, _, 509, rfl, rfl, _, 2147483579, rfl, rfl, (by decide : (0 : Int) < 2147483579), ?_⟩
          dsimp only
          have b0 := Int.emod_nonneg (c % 1000001353 + 81157 * (n + 1) + 509) (show (2147483579 : Int) ≠ 0 by decide)
          have b1 := Int.emod_lt_of_pos (c % 1000001353 + 81157 * (n + 1) + 509) (show (0 : Int) < 2147483579 by decide)
          generalize (c % 1000001353 + 81157 * (n + 1) + 509) % 2147483579 = x at b0 b1 ⊢
          refine ⟨.int x, rfl, x, 3, rfl, rfl, ⟨by decide, by decide, by omega⟩, .ref F, rfl, F, .int (n + 1), rfl, dg_count hF3, 6100243, n + 1, rfl, rfl, .inl ⟨by decide, by decide⟩, _, _, rfl, rfl, _, 251, rfl, rfl, _, 2147483549, rfl, rfl, (by decide : (0 : Int) < 2147483549), ?_⟩
          dsimp only
          have d0 := Int.emod_nonneg (x ^ (3 : Int).toNat + 6100243 * (n + 1) + 251) (show (2147483549 : Int) ≠ 0 by decide)
          have d1 := Int.emod_lt_of_pos (x ^ (3 : Int).toNat + 6100243 * (n + 1) + 251) (show (0 : Int) < 2147483549 by decide)
          have e2 : ∀ z : Int, 0 ≤ z → z < 2147483549 → z.natAbs < 2 ^ 64 := fun z h0 h1 => by omega
          refine ⟨_, rfl, _, 3, rfl, rfl, ⟨by decide, by decide, e2 _ d0 d1⟩, _, rfl, 263, _, rfl, rfl, .inl ⟨by decide, by decide⟩, _, _, rfl, rfl, _, 2147483497, rfl, rfl, (by decide : (0 : Int) < 2147483497), _, 32, rfl, rfl, ⟨by decide, by decide⟩, .int m, rfl, _, m, rfl, rfl, m1, ?_⟩
          exact q _ _ (Int.emod_nonneg _ (by omega)) (Int.emod_lt_of_pos _ m1) k3 ⟨ns, a + 1, l, n + 1, hF3, hL3⟩
end
end P20
/-! The question of a right: account by account, and day by day and then sorted. -/
namespace AskG
open PySem PySem.Spec PyProof.Rows L2
def NamesUp (ws : List Cell) : Prop := ws.Pairwise fun a b => a.1.cps.toList < b.1.cps.toList
def flatDays (ws : List Cell) (ds : List Int) : RowD := ds.flatMap fun d => ws.map fun x => ((x.1, d), x.2)
theorem flat_split {α β : Type} (f : α → β) (g : α → List β) : ∀ ds : List α, (ds.flatMap fun d => f d :: g d).Perm (ds.map f ++ ds.flatMap g)
  | [] => .nil
  | d :: ds => by
    rw [List.flatMap_cons, List.map_cons, List.flatMap_cons, List.cons_append, List.cons_append]
    refine .cons _ ?_
    have h := flat_split f g ds
    refine (List.Perm.append_left (g d) h).trans ?_
    rw [← List.append_assoc, ← List.append_assoc]
    exact List.Perm.append_right _ List.perm_append_comm
theorem flat_perm (ds : List Int) : ∀ ws : List Cell, (flatDays ws ds).Perm (ws.flatMap fun x => ds.map fun d => ((x.1, d), x.2))
  | [] => by
    have : flatDays [] ds = [] := by
      unfold flatDays
      induction ds with
      | nil => rfl
      | cons d ds ih => exact ih
    rw [this]
    exact .nil
  | x :: ws => by
    have h1 := flat_split (fun d : Int => (((x.1, d), x.2) : Cell × Int)) (fun d => ws.map fun (y : Cell) => (((y.1, d), y.2) : Cell × Int)) ds
    exact h1.trans (List.Perm.append_left _ (flat_perm ds ws))
theorem days_up (lo hi : Int) : (daysOf lo hi).Pairwise (· < ·) := by
  unfold daysOf
  refine List.pairwise_map.mpr (List.pairwise_lt_range.imp fun h => ?_)
  omega
theorem rowOn_up (lo hi : Int) : ∀ {ws : List Cell}, NamesUp ws → (rowOn ws lo hi).Pairwise fun a b => ltX a b = true
  | [], _ => .nil
  | x :: ws, h => by
    have h := List.pairwise_cons.mp h
    show ((daysOf lo hi).map (fun d => ((x.1, d), x.2)) ++ rowOn ws lo hi).Pairwise _
    refine List.pairwise_append.mpr ⟨List.pairwise_map.mpr ((days_up lo hi).imp fun e => ?_), rowOn_up lo hi h.2, fun a ha b hb => ?_⟩
    · exact ltX_iff.mpr (.inl (ltC_iff.mpr (.inr ⟨rfl, e⟩)))
    · obtain ⟨d, _, rfl⟩ := List.mem_map.mp ha
      obtain ⟨y, hy, hb⟩ := List.mem_flatMap.mp hb
      obtain ⟨d', _, rfl⟩ := List.mem_map.mp hb
      exact ltX_iff.mpr (.inl (ltC_iff.mpr (.inl (h.1 y hy))))
theorem sortX_uniq : ∀ {a b : RowD}, a.Perm b → a.Pairwise (fun x y => ltX y x = false) → b.Pairwise (fun x y => ltX x y = true) → a = b
  | [], b, p, _, _ => (List.nil_perm.mp p).symm
  | x :: a, [], p, _, _ => absurd p.length_eq (by simp)
  | x :: a, y :: b, p, h, g => by
    have h := List.pairwise_cons.mp h
    have g := List.pairwise_cons.mp g
    have e : x = y := by
      by_cases z : x = y
      · exact z
      · have h1 : x ∈ b := by
          rcases List.mem_cons.mp (p.mem_iff.mp List.mem_cons_self) with q | q
          · exact absurd q z
          · exact q
        have h2 : y ∈ a := by
          rcases List.mem_cons.mp (p.mem_iff.mpr List.mem_cons_self) with q | q
          · exact absurd q.symm z
          · exact q
        have := h.1 y h2
        rw [g.1 x h1] at this
        cases this
    subst e
    rw [sortX_uniq p.cons_inv h.2 g.2]
theorem sorted_flat {ws : List Cell} {lo hi : Int} (h : NamesUp ws) {π : RowD} (p : π.Perm (flatDays ws (daysOf lo hi))) (s : π.Pairwise fun a b => ltX b a = false) : π = rowOn ws lo hi :=
  sortX_uniq (p.trans (flat_perm (daysOf lo hi) ws)) s (rowOn_up lo hi h)
theorem flat_snoc {ws : List Cell} {ds : List Int} {i : Nat} {d : Int} (h : ds[i]? = some d) : flatDays ws (ds.take (i + 1)) = flatDays ws (ds.take i) ++ ws.map fun x => ((x.1, d), x.2) := by
  unfold flatDays
  rw [List.take_add_one, h, List.flatMap_append]
  congr 1
  show _ ++ [] = _
  rw [List.append_nil]
theorem flat_len (ws : List Cell) : ∀ ds : List Int, (flatDays ws ds).length = ds.length * ws.length
  | [] => by
    rw [List.length_nil, Nat.zero_mul]
    rfl
  | d :: ds => by
    show (ws.map (fun x => ((x.1, d), x.2)) ++ flatDays ws ds).length = _
    rw [List.length_append, List.length_map, flat_len ws ds, List.length_cons, Nat.succ_mul]
    omega
end AskG
namespace P20
open PySem PySem.Spec PyProof.Rows L2 AskG
abbrev sAny : Stmt := topS 13
abbrev sDays : Stmt := topS 14
abbrev sLQ : Stmt := topS 15
theorem scAny : FnScope ["_law_feed_here", "_law_some"] ["_law_feed_here", "_law_some"] (defScope sAny) := ⟨rfl, rfl, rfl, by decide +kernel, rfl, by decide +kernel, by decide +kernel⟩
theorem scDays : FnScope ["_law_right", "_law_day_nows", "_law_kind"] ["_law_right", "_law_day_nows"] (defScope sDays) := ⟨rfl, rfl, rfl, by decide +kernel, rfl, by decide +kernel, by decide +kernel⟩
theorem scLQ : FnScope ["_law_right", "_law_day_nows", "_law_cells", "_law_one", "_law_account", "_law_weight"] ["_law_right", "_law_day_nows"] (defScope sLQ) := ⟨rfl, rfl, rfl, by decide +kernel, rfl, by decide +kernel, by decide +kernel⟩
theorem iDrop' {te : TE} {D : Ends} {σ : L2.St} {H : Hp} (h : te σ H fun _ H1 => D.nx σ H1) : tDrop te D σ H := h
theorem paired_app {α β : Type} {R : α → β → Prop} : ∀ {a c : List α} {b d : List β}, Paired R a b → Paired R c d → Paired R (a ++ c) (b ++ d)
  | _, _, _, _, .nil, h => h
  | _, _, _, _, .cons h t, g => .cons h (paired_app t g)
section
variable {P : Program} {w : World} {K : PySem.W.Frag} {mg : Str → Option Value} {base : Heap}
variable {fD fY : Addr} {fdD fdY : FuncData}
def prAny : Pr := fun vs H Q => ∃ (F L l : Addr) (xs : List V), vs = [.ref F, .ref l] ∧ FeedAt H F L ∧ H l = some (.lst xs) ∧ 0 < xs.length ∧ xs.length ≤ 100 ∧
  ∀ H' x, x ∈ xs → KeepF F H H' → FeedAt H' F L → Q x H'
theorem ok_any {f : Addr} {fd : FuncData} {k : Nat} (F : Fun K "_law_any" "_law_any" sAny f fd)
    (FD : Fun K "_law_draw" "_law_draw" sDraw fD fdD) (bD : Binds K fdD ["_law_feed_here", "_law_many"] []) (gD : mg "_law_draw" = some (.ref fD)) (ml : mg "len" = none) : FnG P w K mg base (k + 2) f fd ["_law_feed_here", "_law_some"] prAny := by
  have GD : FnG P w K mg base (k + 1) fD fdD ["_law_feed_here", "_law_many"] prDraw := ok_draw FD ml
  refine okG F scAny (fun vs H Q h => ?_) (fun cdv A outer s H vs Q hr h => ?_)
  · obtain ⟨_, _, _, _, rfl, _⟩ := h
    rfl
  · obtain ⟨F, L, l, xs, rfl, hF, hl, x0, x1, q⟩ := h
    have nlF : l ≠ F := by
      obtain ⟨_, _, _, _, e, _⟩ := hF
      exact ne_of hl e fun z => nomatch z
    refine ⟨_, pss_one (ps_ret (pe_ix (ix_list : IxR _ (rIxL K)) (pv 1) (pe_g GD hr (by rfl) gD FD.kp bD .nil (pa_cons (pv 0) (pa_cons (pe_callB call_len_seq (by rfl) ml PySem.boot_len (pa_cons (pv 1) pa_nil)) pa_nil))) (fun _ _ => rfl))), ?_⟩
    refine iRet (iOp ⟨.ref l, rfl, .ref F, rfl, .ref l, rfl, l, xs, rfl, .inl (sqL hl), F, L, (xs.length : Int), rfl, hF, by omega, by omega, fun d H' d0 d1 k' hF' => ?_⟩)
    obtain ⟨n, rfl⟩ : ∃ n : Nat, d = (n : Int) := ⟨d.toNat, by omega⟩
    have hn : n < xs.length := by omega
    exact ⟨l, xs, _, xs[n], rfl, rfl, sqL (k' _ _ nlF hl), atI_nat (List.getElem?_eq_getElem hn), q H' _ (List.getElem_mem hn) k' hF'⟩
def prDays : Pr := fun vs H Q => ∃ (a : Addr) (R : Rt) (t : Int), vs = [.ref a, .int t] ∧ RightAt H a R ∧ R.kind.Ok ∧ 0 ≤ t ∧ t ≤ 9 ∧ ∀ p, H p = none → Q (.ref p) (upd H p (.lst ((daysOf (R.kind.lo t) (R.kind.hi t)).map V.int)))
theorem rg_days (lo hi : Int) : rgV lo (hi + 1) = (daysOf lo hi).map V.int := by
  unfold rgV daysOf
  rw [List.map_map]
  rfl
theorem ok_days {f : Addr} {fd : FuncData} {k : Nat} (F : Fun K "_law_days_of" "_law_days_of" sDays f fd) (mx : mg "max" = none) (mn : mg "min" = none) (mls : mg "list" = none) (mr : mg "range" = none) : FnG P w K mg base (k + 1) f fd ["_law_right", "_law_day_nows"] prDays := by
  refine okG F scDays (fun vs H Q h => ?_) (fun cdv A outer s H vs Q hr h => ?_)
  · obtain ⟨_, _, _, rfl, _⟩ := h
    rfl
  · obtain ⟨a, ⟨pn, ws, fi, la, kd⟩, t, rfl, hR, hk, t0, t9, q⟩ := h
    obtain ⟨b1, b2, b3, b4⟩ := kind_bounds hk t0 t9
    obtain ⟨wa, ps, ka, h1, h2, h3, h4⟩ := hR
    have rg : ∀ {lo hi : Int}, 0 ≤ lo → lo ≤ 30 → hi ≤ 9 → 0 ≤ hi → RgOk lo (hi + 1) := fun h1 h2 h3 h4 => ⟨by omega, by omega, by omega, by omega, by omega⟩
    refine ⟨_, pss_cons (ps_set (i := 2) scDays.nd rfl (.inl rfl) (pe_ix (ix_tup : IxR _ (rIxT K)) (pv 0) pe_int (fun _ _ => rfl)))
      (pss_cons (ps_if (pt_cmpR op_eq (pe_ix (ix_tup : IxR _ (rIxT K)) (pv 2) pe_int (fun _ _ => rfl)) pe_str (nomark _)) (pss_one (ps_ret (pe_listRg rfl (by rfl) mls (prg_2 (by rfl) mr (pe_ix (ix_tup : IxR _ (rIxT K)) (pv 2) pe_int (fun _ _ => rfl)) (pe_op op_add (pv 1) pe_int))))) pss_nil)
      (pss_cons (ps_if (pt_cmpR op_eq (pe_ix (ix_tup : IxR _ (rIxT K)) (pv 2) pe_int (fun _ _ => rfl)) pe_str (nomark _)) (pss_one (ps_ret (pe_listRg rfl (by rfl) mls (prg_2 (by rfl) mr (pe_callB (call_max2 rfl) (by rfl) mx (by decide +kernel) (pa_cons pe_int (pa_cons (pe_op op_add (pe_op op_sub (pv 1) (pe_ix (ix_tup : IxR _ (rIxT K)) (pv 2) pe_int (fun _ _ => rfl))) pe_int) pa_nil))) (pe_op op_add (pv 1) pe_int))))) pss_nil)
      (pss_one (ps_ret (pe_listRg rfl (by rfl) mls (prg_2 (by rfl) mr (pe_ix (ix_tup : IxR _ (rIxT K)) (pv 2) pe_int (fun _ _ => rfl)) (pe_op op_add (pe_callB (call_min2 rfl) (by rfl) mn (by decide +kernel) (pa_cons (pe_ix (ix_tup : IxR _ (rIxT K)) (pv 2) pe_int (fun _ _ => rfl)) (pa_cons (pv 1) pa_nil))) pe_int))))))), ?_⟩
    refine iSeq (iAsg ⟨.ref a, rfl, a, _, _, _, rfl, rfl, sqT h1, atI_nat (j := 4) rfl, ?_⟩)
    refine iName ?_
    dsimp only
    refine iSeq ?_
    cases kd with
    | tot s0 =>
      refine ⟨.ref ka, rfl, ka, _, _, _, rfl, rfl, sqT h4, atI_nat (j := 0) rfl, rfl, _, rfl, ?_⟩
      refine iteT (iRet ⟨.ref ka, rfl, ka, _, _, _, rfl, rfl, sqT h4, atI_nat (j := 1) rfl, .int t, rfl, t, 1, rfl, rfl, s0, t + 1, rfl, rfl, rg b1 b2 b3 b4, fun p hp => ?_⟩)
      rw [rg_days]
      exact q p hp
    | win l =>
      refine ⟨.ref ka, rfl, ka, _, _, _, rfl, rfl, sqT h4, atI_nat (j := 0) rfl, rfl, _, rfl, ?_⟩
      refine iteF (iNext ?_)
      dsimp only
      refine iSeq ⟨.ref ka, rfl, ka, _, _, _, rfl, rfl, sqT h4, atI_nat (j := 0) rfl, rfl, _, rfl, ?_⟩
      refine iteT (iRet ⟨.int t, rfl, .ref ka, rfl, ka, _, _, _, rfl, rfl, sqT h4, atI_nat (j := 1) rfl, t, l, rfl, rfl, t - l, 1, rfl, rfl, 0, t - l + 1, rfl, .int t, rfl, t, 1, rfl, rfl, _, t + 1, rfl, rfl, rg b1 b2 b3 b4, fun p hp => ?_⟩)
      rw [rg_days]
      exact q p hp
    | per b e =>
      refine ⟨.ref ka, rfl, ka, _, _, _, rfl, rfl, sqT h4, atI_nat (j := 0) rfl, rfl, _, rfl, ?_⟩
      refine iteF (iNext ?_)
      dsimp only
      refine iSeq ⟨.ref ka, rfl, ka, _, _, _, rfl, rfl, sqT h4, atI_nat (j := 0) rfl, rfl, _, rfl, ?_⟩
      refine iteF (iNext ?_)
      dsimp only
      refine iRet ⟨.ref ka, rfl, ka, _, _, _, rfl, rfl, sqT h4, atI_nat (j := 1) rfl, .ref ka, rfl, ka, _, _, _, rfl, rfl, sqT h4, atI_nat (j := 2) rfl, .int t, rfl, e, t, rfl, _, 1, rfl, rfl, b, _, rfl, rfl, rg b1 b2 b3 b4, fun p hp => ?_⟩
      rw [rg_days]
      exact q p hp
def prLQ : Pr := fun vs H Q => ∃ (a : Addr) (R : Rt) (t : Int), vs = [.ref a, .int t] ∧ RightAt H a R ∧ RtOk R ∧ NamesUp R.ws ∧ 0 ≤ t ∧ t ≤ 9 ∧
  ∀ H', Same H H' → (usedB R t = false → Q .non H') ∧ (usedB R t = true → ∀ p, RowAt H' p (rowQ R t) → Q (.ref p) H')
theorem ok_lq {f : Addr} {fd : FuncData} {k : Nat} (F : Fun K "_law_question" "_law_question" sLQ f fd)
    (FY : Fun K "_law_days_of" "_law_days_of" sDays fY fdY) (bY : Binds K fdY ["_law_right", "_law_day_nows"] []) (gY : mg "_law_days_of" = some (.ref fY))
    (mx : mg "max" = none) (mn : mg "min" = none) (mls : mg "list" = none) (mr : mg "range" = none) (mt : mg "tuple" = none) (ms : mg "sorted" = none) : FnG P w K mg base (k + 2) f fd ["_law_right", "_law_day_nows"] prLQ := by
  have GY : FnG P w K mg base (k + 1) fY fdY ["_law_right", "_law_day_nows"] prDays := ok_days FY mx mn mls mr
  refine okG F scLQ (fun vs H Q h => ?_) (fun cdv A outer s H vs Q hr h => ?_)
  · obtain ⟨_, _, _, rfl, _⟩ := h
    rfl
  · obtain ⟨a, R, t, rfl, hR, ok, up, t0, t9, q⟩ := h
    have big := sizeBig
    have hun := hr.room.units
    obtain ⟨wa, ps, ka, h1, h2, h3, h4⟩ := id hR
    refine ⟨_, pss_cons (ps_if (pt_not (pt_chain op_le op_le (pe_ix (ix_tup : IxR _ (rIxT K)) (pv 0) pe_int (fun _ _ => rfl)) (pv 1) (pe_ix (ix_tup : IxR _ (rIxT K)) (pv 0) pe_int (fun _ _ => rfl)))) (pss_one (ps_ret pe_non)) pss_nil)
      (pss_cons (ps_set (i := 2) scLQ.nd rfl (.inl rfl) (pe_lst pa_nil))
      (pss_cons (ps_for PassesOwn.never rfl (pi_list (pe_g GY hr (by rfl) gY FY.kp bY .nil (pa_cons (pv 0) (pa_cons (pv 1) pa_nil)))) (pg_name (i := 3) scLQ.nd rfl (.inr rfl))
        (pss_one (ps_expr (pe_bm PySem.F.plainAttrs_list PySem.F.slot_list_extend PySem.F.type_list_extend mt_extend (pv 2) (pa_cons
          (pe_lc (own := [("_law_account", 4), ("_law_weight", 5)]) (g := g2 K 4 5) (tt := tYes) rfl scLQ.nd (pi_tup (pe_ix (ix_tup : IxR _ (rIxT K)) (pv 0) pe_int (fun _ _ => rfl))) (blkOk_by (N := ["_law_right", "_law_day_nows", "_law_cells", "_law_one", "_law_account", "_law_weight"]) (sc := defScope sLQ) (by decide +kernel))
            (fun _ _ _ _ _ => pg_tup rfl (pgs_cons (pg_name (i := 4) scLQ.nd rfl (.inl rfl)) (pgs_cons (pg_name (i := 5) scLQ.nd rfl (.inl rfl)) pgs_nil))) (fun _ _ _ _ _ => pts_nil)
            (fun _ _ _ _ _ => pe_tup (pa_cons (pe_tup (pa_cons (pv 4) (pa_cons (pv 3) pa_nil))) (pa_cons (pv 5) pa_nil)))) pa_nil)))))
      (pss_one (ps_ret (pe_callTy call_tuple_of (by rfl) mt (by decide +kernel) (pa_cons (pe_callB (cr_sortX hun) (by rfl) ms (by decide +kernel) (pa_cons (pv 2) pa_nil)) pa_nil)))))), ?_⟩
    refine iSeq ?_
    refine split_s (fun σ' H' => σ' = [some (.ref a), some (.int t), none, none, none, none] ∧ H' = H ∧ usedB R t = true) (fun nx hnx => ?_) (fun σ' H' hx => ?_)
    · refine ⟨.ref a, rfl, a, _, _, _, rfl, rfl, sqT h1, atI_nat (j := 2) rfl, .int t, rfl, R.first, t, rfl, rfl, _, rfl, ?_⟩
      have q0 := q H (Same.refl _)
      have ub : usedB R t = (decide (R.first ≤ t) && decide (t ≤ R.last)) := rfl
      by_cases e : R.first ≤ t
      · rw [decide_eq_true e] at ub ⊢
        refine iteT ⟨.ref a, rfl, a, _, _, _, rfl, rfl, sqT h1, atI_nat (j := 3) rfl, t, R.last, rfl, rfl, _, rfl, ?_⟩
        rw [Bool.true_and] at ub
        by_cases e2 : t ≤ R.last
        · rw [decide_eq_true e2] at ub ⊢
          exact iteF (hnx _ _ ⟨rfl, rfl, ub⟩)
        · rw [decide_eq_false e2] at ub ⊢
          exact iteT (q0.1 ub)
      · rw [decide_eq_false e] at ub ⊢
        rw [Bool.false_and] at ub
        exact iteF ⟨_, rfl, iteT (q0.1 ub)⟩
    · obtain ⟨rfl, rfl, hu⟩ := hx
      dsimp only
      obtain ⟨b1, b2, b3, b4⟩ := kind_bounds ok.kind t0 t9
      refine iSeq (iAsg ⟨Nat.zero_le _, fun Lc hLc => ?_⟩)
      have s1 := same_new (o := .lst []) hLc
      refine iName ?_
      dsimp only
      refine iSeq ?_
      refine ⟨.ref a, rfl, .int t, rfl, a, R, t, rfl, hR.keep (KeepT.of s1), ok.kind, t0, t9, fun Ld hLd => ?_⟩
      have s2 := same_new (o := .lst ((daysOf (R.kind.lo t) (R.kind.hi t)).map V.int)) hLd
      have nLL : Ld ≠ Lc := fun z => by
        rw [z, upd_same] at hLd
        cases hLd
      have dl := days_len (R.kind.lo t) (R.kind.hi t)
      refine ⟨Ld, rfl, ⟨_, sqL upd_same⟩, ?_⟩
      refine for_list (xs := (daysOf (R.kind.lo t) (R.kind.hi t)).map V.int) (fun i σ' H' => (∃ x3, σ' = [some (.ref a), some (.int t), some (.ref Lc), x3, none, none]) ∧ Same _ H' ∧ H' Ld = some (.lst ((daysOf (R.kind.lo t) (R.kind.hi t)).map V.int)) ∧ ∃ qs, H' Lc = some (.lst (qs.map V.ref)) ∧ Paired (PairRow H') qs (flatDays R.ws ((daysOf (R.kind.lo t) (R.kind.hi t)).take i)))
        ⟨⟨none, rfl⟩, s1.trans s2, upd_same, [], s2 _ _ upd_same, .nil⟩ (fun i σ' H' _ h => sqL h.2.2.1) (fun i x σ' H' hx h => ?_) (fun σ' H' h => ?_)
      · obtain ⟨⟨x3, rfl⟩, sm, hLd', qs, hqs, hqq⟩ := h
        rw [List.getElem?_map] at hx
        obtain ⟨d, hdi, rfl⟩ := Option.map_eq_some_iff.mp hx
        refine iName ?_
        dsimp only
        refine iDrop' ⟨.ref Lc, rfl, .inl ⟨rfl, _, sqL hqs⟩, ?_⟩
        refine ⟨.ref a, rfl, a, _, _, _, rfl, rfl, sqT (sm _ _ h1), atI_nat (j := 1) rfl, wa, rfl, ⟨_, sqT (sm _ _ h2)⟩, fun D hD => ?_⟩
        refine lc_tup (xs := ps.map V.ref) (fun j H2 => Same H' H2 ∧ ∃ rs, H2 D = some (.lst (rs.map V.ref)) ∧ Paired (PairRow H2) rs ((R.ws.take j).map fun x => ((x.1, d), x.2))) ⟨same_new hD, [], upd_same, by rw [List.take_zero]; exact .nil⟩ (fun j H2 _ h => sqT (h.1 _ _ (sm _ _ h2))) (fun j x H2 hx h => ?_) (fun H2 h => ?_)
        · rw [List.getElem?_map] at hx
          obtain ⟨pj, hpj, rfl⟩ := Option.map_eq_some_iff.mp hx
          obtain ⟨c, hc, hcell⟩ := paired_at' h3 hpj
          obtain ⟨sm2, rs, hrs, hrr⟩ := h
          have rl := Paired.length hrr
          refine ⟨pj, _, rfl, sqT (sm2 _ _ (sm _ _ hcell)), rfl, .str c.1, _, rfl, .int c.2, _, rfl, rfl, rfl, iYes (iteT ?_)⟩
          refine ⟨.str c.1, rfl, .int d, rfl, by show 2 ≤ sizeLine; omega, fun p1 hp1 => ⟨.int c.2, rfl, by show 2 ≤ sizeLine; omega, fun p2 hp2 => ?_⟩⟩
          have c1 := same_new (o := .tup [.str c.1, .int d]) hp1
          have c2 := same_new (o := .tup [.ref p1, .int c.2]) hp2
          have c12 := c1.trans c2
          have hDp := c12 _ _ hrs
          have m3 := ok.many
          refine ⟨_, hDp, by rw [List.length_map]; rw [List.length_map, List.length_take] at rl; omega, fun b o e => ?_, rs ++ [p2], by rw [upd_same, List.map_append]; rfl, ?_⟩
          · rw [upd_ne (ne_of_none e hD)]
            exact c12 _ _ (sm2 _ _ e)
          · have kp : KeepT _ (upd _ D (.lst (rs.map V.ref ++ [.ref p2]))) := KeepT.put hDp fun _ z => nomatch z
            rw [List.take_add_one, hc, List.map_append]
            exact Paired.snoc (Paired.mapP hrr fun _ _ z => (z.keep (KeepT.of c12)).keep kp) ⟨p1, kp _ _ upd_same, kp _ _ (c2 _ _ upd_same)⟩
        · obtain ⟨sm2, rs, hrs, hrr⟩ := h
          rw [List.length_map, Paired.length h3, List.take_length] at hrr
          have ql := Paired.length hqq
          have rl := Paired.length hrr
          rw [List.length_map] at rl
          have fl : (flatDays R.ws ((daysOf (R.kind.lo t) (R.kind.hi t)).take i)).length ≤ 10 * 3 := by
            rw [flat_len, List.length_take, dl]
            exact Nat.mul_le_mul (by omega) ok.many
          have m3 := ok.many
          have nDc : Lc ≠ D := ne_of_none hqs hD
          refine ⟨Lc, D, qs.map V.ref, rs.map V.ref, rfl, rfl, sm2 _ _ hqs, hrs, by rw [List.length_map, List.length_map]; omega, ?_⟩
          have kp : KeepT _ (upd _ Lc (.lst (qs.map V.ref ++ rs.map V.ref))) := KeepT.put (sm2 _ _ hqs) fun _ z => nomatch z
          refine ⟨⟨_, rfl⟩, fun b o e => ?_, ?_, qs ++ rs, by rw [upd_same, List.map_append], ?_⟩
          · rw [upd_ne (ne_of_none e hLc)]
            exact sm2 _ _ (sm _ _ e)
          · rw [upd_ne nLL]
            exact sm2 _ _ hLd'
          · rw [flat_snoc hdi]
            exact paired_app (Paired.mapP hqq fun _ _ z => (z.keep (KeepT.of sm2)).keep kp) (Paired.mapP hrr fun _ _ z => z.keep kp)
      · obtain ⟨⟨x3, rfl⟩, sm, hLd', qs, hqs, hqq⟩ := h
        dsimp only
        rw [List.length_map, List.take_length] at hqq
        refine iRet ⟨.ref Lc, rfl, Lc, qs, _, rfl, sqL hqs, hqq, fun ys π p hpm hst hyy hp => ?_⟩
        have e := sorted_flat up hpm hst
        subst e
        have s5 := same_new (o := .lst (ys.map V.ref)) hp
        refine ⟨p, _, rfl, .inl ⟨sqL upd_same, fun p2 hp2 => ?_⟩⟩
        have s6 := same_new (o := .tup (ys.map V.ref)) hp2
        refine (q _ ((sm.trans s5).trans s6)).2 hu p2 ⟨ys, upd_same, Paired.mapP hyy fun _ _ z => z.keep (KeepT.of (s5.trans s6))⟩
end
end P20
namespace P20
open PySem PySem.Spec PyProof.Rows L2 AskG
abbrev sWs : Stmt := topS 19
abbrev sRt : Stmt := topS 20
abbrev sAcc : Stmt := topS 21
theorem scWs : FnScope ["_law_feed_here", "_law_accounts_here", "_law_found", "_law_account", "_law_weight"] ["_law_feed_here", "_law_accounts_here"] (defScope sWs) := ⟨rfl, rfl, rfl, by decide +kernel, rfl, by decide +kernel, by decide +kernel⟩
theorem scRt : FnScope ["_law_feed_here", "_law_accounts_here", "_law_day_nows", "_law_first", "_law_last", "_law_way", "_law_start", "_law_kind"] ["_law_feed_here", "_law_accounts_here", "_law_day_nows"] (defScope sRt) := ⟨rfl, rfl, rfl, by decide +kernel, rfl, by decide +kernel, by decide +kernel⟩
theorem scAcc : FnScope ["_law_feed_here"] ["_law_feed_here"] (defScope sAcc) := ⟨rfl, rfl, rfl, by decide +kernel, rfl, by decide +kernel, by decide +kernel⟩
/-- the accounts of the law -/
def accL : List (List Str) := [["a"], ["a", "b"], ["a", "b"], ["a", "b", "dd"]]
structure AccOk (ns : List Str) : Prop where
  one : ns ≠ []
  many : ns.length ≤ 3
  cell : ∀ n ∈ ns, CellOk (n, 0)
  up : ns.Pairwise fun a b => a.cps.toList < b.cps.toList
theorem acc_ok : ∀ ns ∈ accL, AccOk ns := by
  have h : ∀ ns ∈ accL, (ns ≠ [] ∧ ns.length ≤ 3) ∧ (ns.all fun n => cellB (n, 0)) = true ∧ ns.Pairwise fun a b => a.cps.toList < b.cps.toList := by
    unfold accL
    intro ns hns
    simp only [List.mem_cons, List.not_mem_nil, or_false] at hns
    rcases hns with rfl | rfl | rfl | rfl
    · exact ⟨⟨by simp, by decide⟩, by decide +kernel, by decide +kernel⟩
    · exact ⟨⟨by simp, by decide⟩, by decide +kernel, by decide +kernel⟩
    · exact ⟨⟨by simp, by decide⟩, by decide +kernel, by decide +kernel⟩
    · exact ⟨⟨by simp, by decide⟩, by decide +kernel, by decide +kernel⟩
  exact fun ns hns => ⟨(h ns hns).1.1, (h ns hns).1.2, fun n hn => cellOk_of (List.all_eq_true.mp (h ns hns).2.1 n hn), (h ns hns).2.2⟩
structure WsOk (ns : List Str) (ws : List Cell) : Prop where
  sub : (ws.map (·.1)).Sublist ns
  lit : ∀ x ∈ ws, -3 ≤ x.2 ∧ x.2 ≤ 3
theorem small_lit {i : Int} (h : -1000 ≤ i ∧ i ≤ 1000) : i.natAbs.log2 < 1920 := by
  by_cases z : i.natAbs = 0
  · rw [z]
    decide
  · have : i.natAbs < 2 ^ 10 := by omega
    have := (Nat.log2_lt z).mpr this
    omega
theorem WsOk.cells {ns : List Str} {ws : List Cell} (h : WsOk ns ws) (a : ∀ n ∈ ns, CellOk (n, 0)) : ∀ x ∈ ws, CellOk x := fun x hx => by
  have c := a x.1 (h.sub.subset (List.mem_map_of_mem hx))
  have l := h.lit x hx
  exact ⟨c.short, c.plain, c.ok, small_lit (by omega)⟩
theorem WsOk.up {ns : List Str} {ws : List Cell} (h : WsOk ns ws) (a : ns.Pairwise fun a b => a.cps.toList < b.cps.toList) : NamesUp ws := by
  have := a.sublist h.sub
  rw [List.pairwise_map] at this
  exact this
theorem WsOk.many {ns : List Str} {ws : List Cell} (h : WsOk ns ws) (a : ns.length ≤ 3) : ws.length ≤ 3 := by
  have := h.sub.length_le
  rw [List.length_map] at this
  omega
theorem shaped_cells {ws : List Cell} (h : ∀ x ∈ ws, CellOk x) : SeqAt.shaped (.list (ws.map AskG.cellD)) = true := by
  have h1 : PyData.canLayAll0 (ws.map AskG.cellD) = true := can_all fun x hx => by
    show ((PyData.strOk x.1) && (true && true)) = true
    rw [(h x hx).ok]
    rfl
  have h2 : PyData.depthAll (ws.map AskG.cellD) ≤ 1 := depth_all fun x _ => by
    show max 0 (max 0 0) + 1 ≤ 1
    decide
  show (PyData.canLayAll0 (ws.map AskG.cellD) && decide (PyData.depthAll (ws.map AskG.cellD) + 1 ≤ 64)) = true
  rw [h1, decide_eq_true (by omega)]
  rfl
section
variable {P : Program} {w : World} {K : PySem.W.Frag} {mg : Str → Option Value} {base : Heap}
variable {fD fY fW : Addr} {fdD fdY fdW : FuncData}
def prAcc : Pr := fun vs H Q => ∃ (F L : Addr), vs = [.ref F] ∧ FeedAt H F L ∧ ∀ H' p ns, KeepF F H H' → FeedAt H' F L → H' p = some (.tup (ns.map V.str)) → AccOk ns → Q (.ref p) H'
theorem ok_acc {f : Addr} {fd : FuncData} {k : Nat} (F : Fun K "_law_accounts" "_law_accounts" sAcc f fd)
    (FD : Fun K "_law_draw" "_law_draw" sDraw fD fdD) (bD : Binds K fdD ["_law_feed_here", "_law_many"] []) (gD : mg "_law_draw" = some (.ref fD)) (ml : mg "len" = none) : FnG P w K mg base (k + 2) f fd ["_law_feed_here"] prAcc := by
  have GD : FnG P w K mg base (k + 1) fD fdD ["_law_feed_here", "_law_many"] prDraw := ok_draw FD ml
  refine okG F scAcc (fun vs H Q h => ?_) (fun cdv A outer s H vs Q hr h => ?_)
  · obtain ⟨_, _, rfl, _⟩ := h
    rfl
  · obtain ⟨F, L, rfl, hF, q⟩ := h
    refine ⟨_, pss_one (ps_ret (pe_ix (ix_list : IxR _ (rIxL K)) (pe_lst (pa_cons (pe_tup (pa_cons pe_str pa_nil)) (pa_cons (pe_tup (pa_cons pe_str (pa_cons pe_str pa_nil))) (pa_cons (pe_tup (pa_cons pe_str (pa_cons pe_str pa_nil))) (pa_cons (pe_tup (pa_cons pe_str (pa_cons pe_str (pa_cons pe_str pa_nil)))) pa_nil)))))
      (pe_g GD hr (by rfl) gD FD.kp bD .nil (pa_cons (pv 0) (pa_cons pe_int pa_nil))) (fun _ _ => rfl))), ?_⟩
    refine iRet (iOp ?_)
    refine ⟨by show 1 ≤ sizeLine; decide, fun a1 h1 => ⟨by show 2 ≤ sizeLine; decide, fun a2 h2 => ⟨by show 2 ≤ sizeLine; decide, fun a3 h3 => ⟨by show 3 ≤ sizeLine; decide, fun a4 h4 => ⟨by show 4 ≤ sizeLine; decide, fun l hl => ?_⟩⟩⟩⟩⟩
    have s1 := same_new (o := .tup [.str "a"]) h1
    have s2 := same_new (o := .tup [.str "a", .str "b"]) h2
    have s3 := same_new (o := .tup [.str "a", .str "b"]) h3
    have s4 := same_new (o := .tup [.str "a", .str "b", .str "dd"]) h4
    have s5 := same_new (o := .lst [.ref a1, .ref a2, .ref a3, .ref a4]) hl
    have f1 := (((s2.trans s3).trans s4).trans s5) _ _ upd_same
    have f2 := ((s3.trans s4).trans s5) _ _ upd_same
    have f3 := (s4.trans s5) _ _ upd_same
    have f4 := s5 _ _ upd_same
    have sa := (((s1.trans s2).trans s3).trans s4).trans s5
    have gl := upd_same (H := upd (upd (upd (upd H a1 (.tup [.str "a"])) a2 (.tup [.str "a", .str "b"])) a3 (.tup [.str "a", .str "b"])) a4 (.tup [.str "a", .str "b", .str "dd"])) (a := l) (o := .lst [.ref a1, .ref a2, .ref a3, .ref a4])
    clear s1 s2 s3 s4 s5
    generalize upd (upd (upd (upd (upd H a1 (.tup [.str "a"])) a2 (.tup [.str "a", .str "b"])) a3 (.tup [.str "a", .str "b"])) a4 (.tup [.str "a", .str "b", .str "dd"])) l (.lst [.ref a1, .ref a2, .ref a3, .ref a4]) = G at f1 f2 f3 f4 sa gl ⊢
    have hFG := hF.same sa
    have nlF : l ≠ F := by
      obtain ⟨_, _, _, _, e, _⟩ := hFG
      exact ne_of gl e fun z => nomatch z
    refine ⟨.ref F, rfl, F, L, 4, rfl, hFG, by decide, by decide, fun d H' d0 d1 k' hF' => ?_⟩
    have kt := k'.tup hFG
    have fin : ∀ p ns, ns ∈ accL → G p = some (.tup (ns.map V.str)) → Q (.ref p) H' := fun p ns hns hp => q H' p ns ((KeepF.of sa).trans k') hF' (kt _ _ hp) (acc_ok ns hns)
    obtain ⟨n, rfl⟩ : ∃ n : Nat, d = (n : Int) := ⟨d.toNat, by omega⟩
    have gl' := k' _ _ nlF gl
    match n, d1 with
    | 0, _ => exact ⟨l, _, _, .ref a1, rfl, rfl, sqL gl', atI_nat (j := 0) rfl, fin a1 ["a"] (.head _) f1⟩
    | 1, _ => exact ⟨l, _, _, .ref a2, rfl, rfl, sqL gl', atI_nat (j := 1) rfl, fin a2 ["a", "b"] (.tail _ (.head _)) f2⟩
    | 2, _ => exact ⟨l, _, _, .ref a3, rfl, rfl, sqL gl', atI_nat (j := 2) rfl, fin a3 ["a", "b"] (.tail _ (.head _)) f3⟩
    | 3, _ => exact ⟨l, _, _, .ref a4, rfl, rfl, sqL gl', atI_nat (j := 3) rfl, fin a4 ["a", "b", "dd"] (.tail _ (.tail _ (.tail _ (.head _)))) f4⟩
    | n + 4, h => exact absurd h (by omega)
def prWs : Pr := fun vs H Q => ∃ (F L ac : Addr) (ns : List Str), vs = [.ref F, .ref ac] ∧ FeedAt H F L ∧ H ac = some (.tup (ns.map V.str)) ∧ AccOk ns ∧
  ∀ H' p ps ws, KeepF F H H' → FeedAt H' F L → H' p = some (.tup (ps.map V.ref)) → Paired (CellAt H') ps ws → WsOk ns ws → ws ≠ [] → Q (.ref p) H'
theorem ok_ws {f : Addr} {fd : FuncData} {k : Nat} (F : Fun K "_law_some_weights" "_law_some_weights" sWs f fd)
    (FY : Fun K "_law_any" "_law_any" sAny fY fdY) (bY : Binds K fdY ["_law_feed_here", "_law_some"] []) (gY : mg "_law_any" = some (.ref fY)) (GY : FnG P w K mg base (k + 2) fY fdY ["_law_feed_here", "_law_some"] prAny)
    (mt : mg "tuple" = none) (mi : mg "int" = none) : FnG P w K mg base (k + 3) f fd ["_law_feed_here", "_law_accounts_here"] prWs := by
  refine okG F scWs (fun vs H Q h => ?_) (fun cdv A outer s H vs Q hr h => ?_)
  · obtain ⟨_, _, _, _, rfl, _⟩ := h
    rfl
  · obtain ⟨F, L, ac, ns, rfl, hF, hac, ok, q⟩ := h
    have big := sizeBig
    have hun := hr.room.units
    refine ⟨_, pss_cons (ps_set (i := 2) scWs.nd rfl (.inl rfl) (pe_lst pa_nil))
      (pss_cons (ps_for PassesOwn.never rfl (pi_tup (pv 1)) (pg_name (i := 3) scWs.nd rfl (.inl rfl))
        (pss_cons (ps_set (i := 4) scWs.nd rfl (.inl rfl) (pe_g GY hr (by rfl) gY FY.kp bY .nil (pa_cons (pv 0) (pa_cons (pe_lst (pa_cons pe_int (pa_cons pe_int (pa_cons pe_int (pa_cons pe_int (pa_cons (pe_un un_neg pe_int) (pa_cons (pe_un un_neg pe_int) pa_nil))))))) pa_nil))))
        (pss_one (ps_expr (pe_bm PySem.F.plainAttrs_list PySem.F.slot_list_extend PySem.F.type_list_extend mt_extend (pv 2) (pa_cons (pe_op op_rep (pe_lst (pa_cons (pe_tup (pa_cons (pv 3) (pa_cons (pv 4) pa_nil))) pa_nil)) (pe_callTy call_int1 (by rfl) mi (by decide +kernel) (pa_cons (pe_cmpR op_ne (pv 4) pe_int (nomark _)) pa_nil))) pa_nil))))))
      (pss_one (ps_ret (pe_ifExp (pt_cmpR (op_neD hun) (pv 2) (pe_lst pa_nil) (nomark _)) (pe_callTy call_tuple_of (by rfl) mt (by decide +kernel) (pa_cons (pv 2) pa_nil))
        (pe_tup (pa_cons (pe_tup (pa_cons (pe_ix (ix_tup : IxR _ (rIxT K)) (pv 1) pe_int (fun _ _ => rfl)) (pa_cons pe_int pa_nil))) pa_nil)))))), ?_⟩
    refine iSeq (iAsg ⟨Nat.zero_le _, fun Lf hLf => ?_⟩)
    have s1 := same_new (o := .lst []) hLf
    refine iName ?_
    dsimp only
    have nLF : Lf ≠ F := by
      obtain ⟨_, _, _, _, h, _⟩ := hF
      exact (ne_of_none h hLf).symm
    have nLL : L ≠ Lf := by
      obtain ⟨_, _, _, _, _, h⟩ := hF
      exact ne_of_none h hLf
    refine iSeq ?_
    refine ⟨.ref ac, rfl, ac, rfl, ⟨_, sqT (s1 _ _ hac)⟩, ?_⟩
    refine for_tup (xs := ns.map V.str) (fun i σ' H' => (∃ x3 x4, σ' = [some (.ref F), some (.ref ac), some (.ref Lf), x3, x4]) ∧ KeepF F H H' ∧ FeedAt H' F L ∧ ∃ ps ws, H' Lf = some (.lst (ps.map V.ref)) ∧ Paired (CellAt H') ps ws ∧ WsOk (ns.take i) ws)
      ⟨⟨none, none, rfl⟩, KeepF.of s1, hF.same s1, [], [], upd_same, .nil, ⟨List.nil_sublist _, fun _ h => absurd h (by simp)⟩⟩ (fun i σ' H' _ h => sqT (h.2.1.tup hF _ _ hac)) (fun i x σ' H' hx h => ?_) (fun σ' H' h => ?_)
    · obtain ⟨⟨x3, x4, rfl⟩, k1, hF1, ps, ws, hps, hpp, wok⟩ := h
      rw [List.getElem?_map] at hx
      obtain ⟨nm, hnm, rfl⟩ := Option.map_eq_some_iff.mp hx
      have pl := Paired.length hpp
      have wl := wok.sub.length_le
      rw [List.length_map, List.length_take] at wl
      have om := ok.many
      refine iName ?_
      dsimp only
      refine iSeq (iAsg ⟨.ref F, rfl, 1, rfl, 3, rfl, by show 6 ≤ sizeLine; omega, fun l hl => ?_⟩)
      have s2 := same_new (o := .lst [.int 0, .int 1, .int 1, .int 2, .int (-1), .int (-3)]) hl
      refine ⟨F, L, l, _, rfl, hF1.same s2, upd_same, by show 0 < 6; decide, by show 6 ≤ 100; decide, fun H2 x hx k2 hF2 => ?_⟩
      have hw : ∃ wt : Int, x = .int wt ∧ -3 ≤ wt ∧ wt ≤ 3 := by
        simp only [List.mem_cons, List.not_mem_nil, or_false] at hx
        rcases hx with rfl | rfl | rfl | rfl | rfl | rfl
        · exact ⟨0, rfl, by decide, by decide⟩
        · exact ⟨1, rfl, by decide, by decide⟩
        · exact ⟨1, rfl, by decide, by decide⟩
        · exact ⟨2, rfl, by decide, by decide⟩
        · exact ⟨-1, rfl, by decide, by decide⟩
        · exact ⟨-3, rfl, by decide, by decide⟩
      obtain ⟨wt, rfl, w0, w1⟩ := hw
      have k12 := (KeepF.of (F := F) s2).trans k2
      have hps2 := k12 _ _ nLF hps
      have hpp2 := Paired.mapP hpp fun _ _ z => z.keepT (k12.tup hF1)
      refine iName ?_
      dsimp only
      refine iDrop' ⟨.ref Lf, rfl, .inl ⟨rfl, _, sqL hps2⟩, ?_⟩
      refine ⟨.str nm, rfl, .int wt, rfl, by show 2 ≤ sizeLine; omega, fun p1 hp1 => ⟨by show 1 ≤ sizeLine; omega, fun l1 hl1 => ?_⟩⟩
      have s3 := same_new (o := .tup [.str nm, .int wt]) hp1
      have s4 := same_new (o := .lst [.ref p1]) hl1
      have take1 : ∀ ws', WsOk (ns.take i) ws' → WsOk (ns.take (i + 1)) ws' := fun ws' h => ⟨h.sub.trans (by rw [List.take_add_one]; exact List.sublist_append_left _ _), h.lit⟩
      refine ⟨.int wt, rfl, rfl, .inr ⟨_, rfl, ?_⟩⟩
      by_cases e : wt = 0
      · subst e
        refine ⟨l1, 0, [.ref p1], rfl, rfl, upd_same, by decide, by decide, by show 1 * 0 ≤ sizeLine; omega, fun l2 hl2 => ?_⟩
        have s5 := same_new (o := .lst []) hl2
        have s35 := (s3.trans s4).trans s5
        refine ⟨Lf, l2, ps.map V.ref, [], rfl, rfl, s35 _ _ hps2, upd_same, by rw [List.length_map]; show _ + 0 ≤ _; omega, ?_⟩
        have kp : KeepT _ (upd _ Lf (.lst (ps.map V.ref ++ []))) := KeepT.put (s35 _ _ hps2) fun _ z => nomatch z
        refine ⟨⟨_, _, rfl⟩, ?_, ?_, ps, ws, by rw [upd_same, List.append_nil], Paired.mapP hpp2 fun _ _ z => (z.keepT (KeepT.of s35)).keepT kp, take1 ws wok⟩
        · exact fun b o hb e => by
            rw [upd_ne (ne_of_none e hLf)]
            exact s35 _ _ (k12 _ _ hb (k1 _ _ hb e))
        · obtain ⟨ns', a1, l1', n1, e1, e2⟩ := hF2.same s35
          exact ⟨ns', a1, l1', n1, by rw [upd_ne nLF.symm]; exact e1, by rw [upd_ne nLL]; exact e2⟩
      · have eb : (!decide (V.int wt = V.int 0)) = true := by
          rw [decide_eq_false fun z => e (V.int.inj z)]
          rfl
        rw [eb]
        refine ⟨l1, 1, [.ref p1], rfl, rfl, upd_same, by decide, by decide, by show 1 * 1 ≤ sizeLine; omega, fun l2 hl2 => ?_⟩
        have s5 := same_new (o := .lst [.ref p1]) hl2
        have s35 := (s3.trans s4).trans s5
        refine ⟨Lf, l2, ps.map V.ref, [.ref p1], rfl, rfl, s35 _ _ hps2, upd_same, by rw [List.length_map]; show _ + 1 ≤ _; omega, ?_⟩
        have kp : KeepT _ (upd _ Lf (.lst (ps.map V.ref ++ [.ref p1]))) := KeepT.put (s35 _ _ hps2) fun _ z => nomatch z
        refine ⟨⟨_, _, rfl⟩, ?_, ?_, ps ++ [p1], ws ++ [(nm, wt)], by rw [upd_same, List.map_append]; rfl, Paired.snoc (Paired.mapP hpp2 fun _ _ z => (z.keepT (KeepT.of s35)).keepT kp) (kp _ _ ((s4.trans s5) _ _ upd_same)), ⟨?_, fun x hx => ?_⟩⟩
        · exact fun b o hb e => by
            rw [upd_ne (ne_of_none e hLf)]
            exact s35 _ _ (k12 _ _ hb (k1 _ _ hb e))
        · obtain ⟨ns', a1, l1', n1, e1, e2⟩ := hF2.same s35
          exact ⟨ns', a1, l1', n1, by rw [upd_ne nLF.symm]; exact e1, by rw [upd_ne nLL]; exact e2⟩
        · rw [List.map_append, List.take_add_one, hnm]
          exact wok.sub.append (List.Sublist.refl _)
        · rcases List.mem_append.mp hx with h | h
          · exact wok.lit x h
          · rw [List.mem_singleton.mp h]
            exact ⟨w0, w1⟩
    · obtain ⟨⟨x3, x4, rfl⟩, k1, hF1, ps, ws, hps, hpp, wok⟩ := h
      dsimp only
      rw [List.length_map, List.take_length] at wok
      have wc := wok.cells ok.cell
      refine iRet ?_
      refine ⟨.ref Lf, rfl, Nat.zero_le _, fun e1 he1 => ?_⟩
      have s2 := same_new (o := .lst []) he1
      refine ⟨.list (ws.map AskG.cellD), .list [], .lst (sqL (s2 _ _ hps)) (dp_all (f := AskG.cellD) (R := AskG.CellAt H') (fun _ _ z => dp_cell (z.keepT (KeepT.of s2))) hpp), .lst (sqL upd_same) .nil, shaped_cells wc, shaped_nil, _, rfl, ?_⟩
      have k2 := k1.trans (KeepF.of s2)
      have hF2 := hF1.same s2
      cases ws with
      | nil =>
        refine iteF ?_
        obtain ⟨n0, nr, rfl⟩ : ∃ n0 nr, ns = n0 :: nr := by
          cases ns with
          | nil => exact absurd rfl ok.one
          | cons a b => exact ⟨a, b, rfl⟩
        refine ⟨.ref ac, rfl, ac, _, _, .str n0, rfl, rfl, sqT (k2.tup hF _ _ hac), atI_nat (j := 0) rfl, by show 2 ≤ sizeLine; omega, fun p1 hp1 => ⟨by show 1 ≤ sizeLine; omega, fun p2 hp2 => ?_⟩⟩
        have s3 := same_new (o := .tup [.str n0, .int 1]) hp1
        have s4 := same_new (o := .tup [.ref p1]) hp2
        exact q _ p2 [p1] [(n0, 1)] (k2.trans (KeepF.of (s3.trans s4))) (hF2.same (s3.trans s4)) upd_same (.cons (s4 _ _ upd_same) .nil) ⟨List.Sublist.cons_cons _ (List.nil_sublist _), fun x hx => by
          rw [List.mem_singleton.mp hx]
          exact ⟨by show (-3 : Int) ≤ 1; decide, by show (1 : Int) ≤ 3; decide⟩⟩ (fun z => nomatch z)
      | cons x ws =>
        refine iteT ?_
        refine ⟨.ref Lf, rfl, Lf, _, rfl, .inl ⟨sqL (s2 _ _ hps), fun p hp => ?_⟩⟩
        have s3 := same_new (o := .tup (ps.map V.ref)) hp
        exact q _ p ps (x :: ws) (k2.trans (KeepF.of s3)) (hF2.same s3) upd_same (Paired.mapP hpp fun _ _ z => z.keepT (KeepT.of (s2.trans s3))) wok (fun z => nomatch z)
end
end P20
namespace P20
open PySem PySem.Spec PyProof.Rows L2 AskG
/-- the days of a law's right -/
structure RtDay (R : Rt) : Prop where
  some : R.ws ≠ []
  l9 : R.last ≤ 9
def persons : List Str := ["ann", "bob", "cy", "dee"]
theorem person_ok : ∀ n ∈ persons, CellOk (n, 0) := by
  have h : (persons.all fun n => cellB (n, 0)) = true := by decide +kernel
  exact fun n hn => cellOk_of (List.all_eq_true.mp h n hn)
section
variable {P : Program} {w : World} {K : PySem.W.Frag} {mg : Str → Option Value} {base : Heap}
variable {fD fY fW : Addr} {fdD fdY fdW : FuncData}
def prRt : Pr := fun vs H Q => ∃ (F L ac : Addr) (ns : List Str) (t : Int), vs = [.ref F, .ref ac, .int t] ∧ FeedAt H F L ∧ H ac = some (.tup (ns.map V.str)) ∧ AccOk ns ∧ 0 ≤ t ∧ t ≤ 9 ∧
  ∀ H' p R, KeepF F H H' → FeedAt H' F L → RightAt H' p R → RtOk R → NamesUp R.ws → RtDay R → R.last ≤ R.first + 3 → Q (.ref p) H'
theorem ok_rt {f : Addr} {fd : FuncData} {k : Nat} (F : Fun K "_law_some_right" "_law_some_right" sRt f fd)
    (FD : Fun K "_law_draw" "_law_draw" sDraw fD fdD) (bD : Binds K fdD ["_law_feed_here", "_law_many"] []) (gD : mg "_law_draw" = some (.ref fD))
    (FY : Fun K "_law_any" "_law_any" sAny fY fdY) (bY : Binds K fdY ["_law_feed_here", "_law_some"] []) (gY : mg "_law_any" = some (.ref fY))
    (FW : Fun K "_law_some_weights" "_law_some_weights" sWs fW fdW) (bW : Binds K fdW ["_law_feed_here", "_law_accounts_here"] []) (gW : mg "_law_some_weights" = some (.ref fW))
    (ml : mg "len" = none) (mt : mg "tuple" = none) (mi : mg "int" = none) (mx : mg "max" = none) (mn : mg "min" = none) : FnG P w K mg base (k + 4) f fd ["_law_feed_here", "_law_accounts_here", "_law_day_nows"] prRt := by
  have GD : FnG P w K mg base (k + 1) fD fdD ["_law_feed_here", "_law_many"] prDraw := ok_draw FD ml
  have GY : FnG P w K mg base (k + 2) fY fdY ["_law_feed_here", "_law_some"] prAny := ok_any FY FD bD gD ml
  have GW : FnG P w K mg base (k + 3) fW fdW ["_law_feed_here", "_law_accounts_here"] prWs := ok_ws FW FY bY gY GY mt mi
  refine okG F scRt (fun vs H Q h => ?_) (fun cdv A outer s H vs Q hr h => ?_)
  · obtain ⟨_, _, _, _, _, rfl, _⟩ := h
    rfl
  · obtain ⟨F, L, ac, ns, t, rfl, hF, hac, ok, t0, t9, q⟩ := h
    have big := sizeBig
    have hr1 : RG (k + 1) (A.deeper (envOfC "_law_some_right" (defScope sRt) s.heap.objs.size f cdv)) := hr.mono (by omega)
    have hr2 : RG (k + 2) (A.deeper (envOfC "_law_some_right" (defScope sRt) s.heap.objs.size f cdv)) := hr.mono (by omega)
    refine ⟨_, pss_cons (ps_set (i := 3) scRt.nd rfl (.inl rfl) (pe_callB (call_min2 rfl) (by rfl) mn (by decide +kernel) (pa_cons pe_int (pa_cons (pe_op op_add (pe_callB (call_max2 rfl) (by rfl) mx (by decide +kernel) (pa_cons pe_int (pa_cons (pe_op op_sub (pv 2) pe_int) pa_nil))) (pe_g GD hr1 (by rfl) gD FD.kp bD .nil (pa_cons (pv 0) (pa_cons pe_int pa_nil)))) pa_nil))))
      (pss_cons (ps_par (by rfl) scRt.nd (i := 4) (j := 5) rfl rfl (by decide) rfl rfl (pa_cons (pe_callB (call_min2 rfl) (by rfl) mn (by decide +kernel) (pa_cons pe_int (pa_cons (pe_op op_add (pv 3) (pe_g GD hr1 (by rfl) gD FD.kp bD .nil (pa_cons (pv 0) (pa_cons pe_int pa_nil)))) pa_nil))) (pa_cons (pe_g GD hr1 (by rfl) gD FD.kp bD .nil (pa_cons (pv 0) (pa_cons pe_int pa_nil))) pa_nil)) (by rfl))
      (pss_cons (ps_set (i := 6) scRt.nd rfl (.inl rfl) (pe_callB (call_min2 rfl) (by rfl) mn (by decide +kernel) (pa_cons pe_int (pa_cons (pe_g GY hr2 (by rfl) gY FY.kp bY .nil (pa_cons (pv 0) (pa_cons (pe_lst (pa_cons (pv 2) (pa_cons (pv 2) (pa_cons (pe_op op_add (pv 2) pe_int) (pa_cons pe_int pa_nil))))) pa_nil))) pa_nil))))
      (pss_cons (ps_set (i := 7) scRt.nd rfl (.inl rfl) (pe_tup (pa_cons pe_str (pa_cons (pe_op op_add pe_int (pe_g GD hr1 (by rfl) gD FD.kp bD .nil (pa_cons (pv 0) (pa_cons pe_int pa_nil)))) pa_nil))))
      (pss_cons (ps_if (pt_cmpR op_eq (pv 5) pe_int (nomark _)) (pss_one (ps_set (i := 7) scRt.nd rfl (.inl rfl) (pe_tup (pa_cons pe_str (pa_cons (pv 6) pa_nil))))) pss_nil)
      (pss_cons (ps_if (pt_cmpR op_eq (pv 5) pe_int (nomark _)) (pss_one (ps_set (i := 7) scRt.nd rfl (.inl rfl) (pe_tup (pa_cons pe_str (pa_cons (pv 6) (pa_cons (pe_callB (call_min2 rfl) (by rfl) mn (by decide +kernel) (pa_cons pe_int (pa_cons (pe_op op_add (pv 6) (pe_g GD hr1 (by rfl) gD FD.kp bD .nil (pa_cons (pv 0) (pa_cons pe_int pa_nil)))) pa_nil))) pa_nil)))))) pss_nil)
      (pss_one (ps_ret (pe_tup (pa_cons (pe_g GY hr2 (by rfl) gY FY.kp bY .nil (pa_cons (pv 0) (pa_cons (pe_lst (pa_cons pe_str (pa_cons pe_str (pa_cons pe_str (pa_cons pe_str pa_nil))))) pa_nil))) (pa_cons (pe_g GW hr (by rfl) gW FW.kp bW .nil (pa_cons (pv 0) (pa_cons (pv 1) pa_nil))) (pa_cons (pv 3) (pa_cons (pv 4) (pa_cons (pv 7) pa_nil))))))))))))), ?_⟩
    -- first
    refine iSeq (iAsg ⟨.int t, rfl, t, 1, rfl, rfl, 0, t - 1, rfl, .ref F, rfl, F, L, 3, rfl, hF, by decide, by decide, fun d H1 d0 d1 k1 hF1 => ?_⟩)
    have fb : ∃ m : Int, (if t - 1 > 0 then t - 1 else 0) = m ∧ 0 ≤ m ∧ m ≤ 8 := ⟨_, rfl, by split <;> omega, by split <;> omega⟩
    obtain ⟨m, em, m0, m8⟩ := fb
    rw [em]
    refine ⟨m, d, rfl, rfl, 8, m + d, rfl, ?_⟩
    have fb : ∃ fi : Int, (if m + d < 8 then m + d else 8) = fi ∧ 0 ≤ fi ∧ fi ≤ 8 := ⟨_, rfl, by split <;> omega, by split <;> omega⟩
    obtain ⟨fi, ef, f0, f8⟩ := fb
    rw [ef]
    refine iName ?_
    dsimp only
    -- last, way
    refine iSeq ⟨.int fi, rfl, .ref F, rfl, F, L, 4, rfl, hF1, by decide, by decide, fun d2 H2 d20 d21 k2 hF2 => ?_⟩
    refine ⟨fi, d2, rfl, rfl, 9, fi + d2, rfl, ?_⟩
    have fb : ∃ la : Int, (if fi + d2 < 9 then fi + d2 else 9) = la ∧ 0 ≤ la ∧ la ≤ 9 ∧ la ≤ fi + 3 := ⟨_, rfl, by split <;> omega, by split <;> omega, by split <;> omega⟩
    obtain ⟨la, el, l0, l9, lf⟩ := fb
    rw [el]
    refine ⟨.ref F, rfl, F, L, 4, rfl, hF2, by decide, by decide, fun wy H3 wy0 wy1 k3 hF3 => ⟨.int la, .int wy, rfl, ?_⟩⟩
    dsimp only
    -- start
    refine iSeq (iAsg ⟨.ref F, rfl, .int t, rfl, .int t, rfl, .int t, rfl, t, 1, rfl, rfl, by show 4 ≤ sizeLine; omega, fun l hl => ?_⟩)
    have s4 := same_new (o := .lst [.int t, .int t, .int (t + 1), .int 0]) hl
    refine ⟨F, L, l, _, rfl, hF3.same s4, upd_same, by show 0 < 4; decide, by show 4 ≤ 100; decide, fun H4 x hx k4 hF4 => ?_⟩
    have hst : ∃ sv : Int, x = .int sv ∧ 0 ≤ sv ∧ sv ≤ 10 := by
      simp only [List.mem_cons, List.not_mem_nil, or_false] at hx
      rcases hx with rfl | rfl | rfl | rfl
      · exact ⟨t, rfl, t0, by omega⟩
      · exact ⟨t, rfl, t0, by omega⟩
      · exact ⟨t + 1, rfl, by omega, by omega⟩
      · exact ⟨0, rfl, by decide, by decide⟩
    obtain ⟨sv, rfl, sv0, sv1⟩ := hst
    refine ⟨9, sv, rfl, ?_⟩
    have fb : ∃ st : Int, (if sv < 9 then sv else 9) = st ∧ 0 ≤ st ∧ st ≤ 9 := ⟨_, rfl, by split <;> omega, by split <;> omega⟩
    obtain ⟨st, es, st0, st9⟩ := fb
    rw [es]
    refine iName ?_
    dsimp only
    -- kind
    refine iSeq (iAsg ⟨.ref F, rfl, F, L, 3, rfl, hF4, by decide, by decide, fun d5 H5 d50 d51 k5 hF5 => ⟨1, d5, rfl, rfl, by show 2 ≤ sizeLine; omega, fun kp hkp => ?_⟩⟩)
    have s6 := same_new (o := .tup [.str "window", .int (1 + d5)]) hkp
    have k06 := ((((k1.trans k2).trans k3).trans (KeepF.of s4)).trans k4).trans (k5.trans (KeepF.of s6))
    have hF6 := hF5.same s6
    refine iName ?_
    dsimp only
    refine iSeq ?_
    refine split_s (fun σ' H' => ∃ (ka : Addr) (kd : KindM), σ' = [some (.ref F), some (.ref ac), some (.int t), some (.int fi), some (.int la), some (.int wy), some (.int st), some (.ref ka)] ∧ KeepF F H H' ∧ FeedAt H' F L ∧ H' ka = some (.tup kd.vals) ∧ kd.Ok) (fun nx hnx => ?_) (fun σ' H' hx => ?_)
    · refine ⟨.int wy, rfl, rfl, _, rfl, ite2 (fun e => ?_) (fun e => ?_)⟩
      · refine ⟨.int st, rfl, by show 2 ≤ sizeLine; omega, fun k2p hk2 => ?_⟩
        have s7 := same_new (o := .tup [.str "total", .int st]) hk2
        exact hnx _ _ ⟨k2p, .tot st, rfl, k06.trans (KeepF.of s7), hF6.same s7, upd_same, ⟨st0, by omega⟩⟩
      · exact hnx _ _ ⟨kp, .win (1 + d5), rfl, k06, hF6, upd_same, ⟨by omega, by omega⟩⟩
    · obtain ⟨ka, kd, rfl, k7, hF7, hka, hkd⟩ := hx
      dsimp only
      clear k06 hF6 s6
      refine iSeq ?_
      refine split_s (fun σ' H' => ∃ (ka : Addr) (kd : KindM), σ' = [some (.ref F), some (.ref ac), some (.int t), some (.int fi), some (.int la), some (.int wy), some (.int st), some (.ref ka)] ∧ KeepF F H H' ∧ FeedAt H' F L ∧ H' ka = some (.tup kd.vals) ∧ kd.Ok) (fun nx hnx => ?_) (fun σ' H' hx => ?_)
      · refine ⟨.int wy, rfl, rfl, _, rfl, ite2 (fun e => ?_) (fun e => ?_)⟩
        · refine ⟨.int st, rfl, .int st, rfl, .ref F, rfl, F, L, 3, rfl, hF7, by decide, by decide, fun d8 H8 d80 d81 k8 hF8 => ⟨st, d8, rfl, rfl, 9, st + d8, rfl, by show 3 ≤ sizeLine; omega, fun k2p hk2 => ?_⟩⟩
          have fb : 0 ≤ (if st + d8 < 9 then st + d8 else 9) ∧ (if st + d8 < 9 then st + d8 else 9) ≤ 30 := by
            split <;> omega
          have s9 := same_new (o := .tup [.str "period", .int st, .int (if st + d8 < 9 then st + d8 else 9)]) hk2
          exact hnx _ _ ⟨k2p, .per st (if st + d8 < 9 then st + d8 else 9), rfl, (k7.trans k8).trans (KeepF.of s9), hF8.same s9, upd_same, ⟨st0, by omega, fb.1, fb.2⟩⟩
        · exact hnx _ _ ⟨ka, kd, rfl, k7, hF7, hka, hkd⟩
      · clear hka hkd k7 hF7
        obtain ⟨ka, kd, rfl, k7, hF7, hka, hkd⟩ := hx
        dsimp only
        refine iRet ⟨.ref F, rfl, by show 4 ≤ sizeLine; omega, fun l2 hl2 => ?_⟩
        have s8 := same_new (o := .lst [.str "ann", .str "bob", .str "cy", .str "dee"]) hl2
        refine ⟨F, L, l2, _, rfl, hF7.same s8, upd_same, by show 0 < 4; decide, by show 4 ≤ 100; decide, fun H9 x hx k9 hF9 => ?_⟩
        have hpn : ∃ pn, x = .str pn ∧ pn ∈ persons := by
          simp only [List.mem_cons, List.not_mem_nil, or_false] at hx
          rcases hx with rfl | rfl | rfl | rfl
          · exact ⟨_, rfl, .head _⟩
          · exact ⟨_, rfl, .tail _ (.head _)⟩
          · exact ⟨_, rfl, .tail _ (.tail _ (.head _))⟩
          · exact ⟨_, rfl, .tail _ (.tail _ (.tail _ (.head _)))⟩
        obtain ⟨pn, rfl, hpn⟩ := hpn
        have k89 := (KeepF.of (F := F) s8).trans k9
        have k79 := k7.trans k89
        refine ⟨.ref F, rfl, .ref ac, rfl, F, L, ac, ns, rfl, hF9, k79.tup hF _ _ hac, ok, fun Ha p ps ws ka' hFa hp hpp wok wne => ?_⟩
        refine ⟨.int fi, rfl, .int la, rfl, .ref ka, rfl, by show 5 ≤ sizeLine; omega, fun r hr' => ?_⟩
        have sb := same_new (o := .tup [.str pn, .ref p, .int fi, .int la, .ref ka]) hr'
        have hka2 : Ha ka = some (.tup kd.vals) := ka'.tup hF9 _ _ (k89.tup hF7 _ _ hka)
        refine q _ r ⟨pn, ws, fi, la, kd⟩ ((k79.trans ka').trans (KeepF.of sb)) (hFa.same sb) ⟨p, ps, ka, upd_same, sb _ _ hp, Paired.mapP hpp fun _ _ z => z.keepT (KeepT.of sb), sb _ _ hka2⟩ ⟨person_ok pn hpn, wok.many ok.many, wok.cells ok.cell, f0, by show fi ≤ 30; omega, l0, by show la ≤ 30; omega, hkd⟩ (wok.up ok.up) ⟨wne, l9⟩ lf
end
end P20
/-! Values of any kind, and what the kind checks say of them. -/
namespace AskG
open PySem PySem.Spec PyProof.Rows L2
mutual
/-- the data that lies at a value; D is no part of it -/
inductive DH (D : Addr) (H : Hp) : V → PyData → Prop
  | non : DH D H .non .none
  | bl (b : Bool) : DH D H (.bl b) (.bool b)
  | int (i : Int) : DH D H (.int i) (.int i)
  | str (x : Str) : DH D H (.str x) (.str x)
  | lst {a : Addr} {xs : List V} {ds : List PyData} (n : a ≠ D) (e : H a = some (.lst xs)) (t : DHs D H xs ds) : DH D H (.ref a) (.list ds)
  | tup {a : Addr} {xs : List V} {ds : List PyData} (e : H a = some (.tup xs)) (t : DHs D H xs ds) : DH D H (.ref a) (.tuple ds)
inductive DHs (D : Addr) (H : Hp) : List V → List PyData → Prop
  | nil : DHs D H [] []
  | cons {v : V} {vs : List V} {d : PyData} {ds : List PyData} (h : DH D H v d) (t : DHs D H vs ds) : DHs D H (v :: vs) (d :: ds)
end
structure KeepD (D : Addr) (H H' : Hp) : Prop where
  tup : ∀ b xs, H b = some (.tup xs) → H' b = some (.tup xs)
  lst : ∀ b xs, b ≠ D → H b = some (.lst xs) → H' b = some (.lst xs)
theorem KeepD.of {D : Addr} {H H' : Hp} (h : Same H H') : KeepD D H H' := ⟨fun b _ e => h b _ e, fun b _ _ e => h b _ e⟩
theorem KeepD.trans {D : Addr} {H H1 H2 : Hp} (h : KeepD D H H1) (g : KeepD D H1 H2) : KeepD D H H2 := ⟨fun b xs e => g.tup b xs (h.tup b xs e), fun b xs n e => g.lst b xs n (h.lst b xs n e)⟩
mutual
theorem DH.keep {D : Addr} {H H' : Hp} (k : KeepD D H H') : ∀ {v : V} {d : PyData}, DH D H v d → DH D H' v d
  | _, _, .non => .non
  | _, _, .bl b => .bl b
  | _, _, .int i => .int i
  | _, _, .str x => .str x
  | _, _, .lst n e t => .lst n (k.lst _ _ n e) (DHs.keep k t)
  | _, _, .tup e t => .tup (k.tup _ _ e) (DHs.keep k t)
theorem DHs.keep {D : Addr} {H H' : Hp} (k : KeepD D H H') : ∀ {vs : List V} {ds : List PyData}, DHs D H vs ds → DHs D H' vs ds
  | _, _, .nil => .nil
  | _, _, .cons h t => .cons (DH.keep k h) (DHs.keep k t)
end
mutual
/-- an address that is still free is no part -/
theorem DH.shun {D E : Addr} {H : Hp} (f : H E = none) : ∀ {v : V} {d : PyData}, DH D H v d → DH E H v d
  | _, _, .non => .non
  | _, _, .bl b => .bl b
  | _, _, .int i => .int i
  | _, _, .str x => .str x
  | _, _, .lst n e t => .lst (fun z => by rw [z, f] at e; cases e) e (DHs.shun f t)
  | _, _, .tup e t => .tup e (DHs.shun f t)
theorem DHs.shun {D E : Addr} {H : Hp} (f : H E = none) : ∀ {vs : List V} {ds : List PyData}, DHs D H vs ds → DHs E H vs ds
  | _, _, .nil => .nil
  | _, _, .cons h t => .cons (DH.shun f h) (DHs.shun f t)
end
mutual
theorem DH.dp {K : PySem.W.Frag} {D : Addr} {H : Hp} : ∀ {v : V} {d : PyData}, DH D H v d → Dp K H v d
  | _, _, .non => .non
  | _, _, .bl b => .bl b
  | _, _, .int i => .int i
  | _, _, .str x => .str x
  | _, _, .lst _ e t => .lst (sqL e) (DHs.dp t)
  | _, _, .tup e t => .tup (sqT e) (DHs.dp t)
theorem DHs.dp {K : PySem.W.Frag} {D : Addr} {H : Hp} : ∀ {vs : List V} {ds : List PyData}, DHs D H vs ds → DpAll K H vs ds
  | _, _, .nil => .nil
  | _, _, .cons h t => .cons (DH.dp h) (DHs.dp t)
end
theorem DHs.len {D : Addr} {H : Hp} : ∀ {vs : List V} {ds : List PyData}, DHs D H vs ds → vs.length = ds.length
  | _, _, .nil => rfl
  | _, _, .cons _ t => by rw [List.length_cons, List.length_cons, DHs.len t]
theorem DHs.at {D : Addr} {H : Hp} : ∀ {vs : List V} {ds : List PyData}, DHs D H vs ds → ∀ {i : Nat} {v : V}, vs[i]? = some v → ∃ d, ds[i]? = some d ∧ DH D H v d
  | _, _, .nil, i, v, e => by cases i <;> cases e
  | _, _, .cons h t, 0, v, e => by
    cases e
    exact ⟨_, rfl, h⟩
  | _, _, .cons h t, i + 1, v, e => DHs.at t e
theorem DHs.app {D : Addr} {H : Hp} : ∀ {vs ws : List V} {ds es : List PyData}, DHs D H vs ds → DHs D H ws es → DHs D H (vs ++ ws) (ds ++ es)
  | _, _, _, _, .nil, h => h
  | _, _, _, _, .cons h t, g => .cons h (DHs.app t g)
/-! ### sizes -/
mutual
def smallD : PyData → Bool
  | .str s => decide (s.length ≤ 1000) && PyData.strOk s
  | .list ds => decide (ds.length ≤ 1000) && smallDs ds
  | .tuple ds => decide (ds.length ≤ 1000) && smallDs ds
  | .dict _ => false
  | _ => true
def smallDs : List PyData → Bool
  | [] => true
  | d :: ds => smallD d && smallDs ds
end
theorem smallDs_at : ∀ {ds : List PyData} {i : Nat} {d : PyData}, smallDs ds = true → ds[i]? = some d → smallD d = true
  | [], i, _, _, e => by cases i <;> cases e
  | x :: ds, 0, _, h, e => by
    cases e
    unfold smallDs at h
    rw [Bool.and_eq_true] at h
    exact h.1
  | x :: ds, i + 1, _, h, e => by
    unfold smallDs at h
    rw [Bool.and_eq_true] at h
    exact smallDs_at (ds := ds) (i := i) h.2 e
theorem small_tup {ds : List PyData} (h : smallD (.tuple ds) = true) : ds.length ≤ 1000 ∧ smallDs ds = true := by
  unfold smallD at h
  rw [Bool.and_eq_true] at h
  exact ⟨of_decide_eq_true h.1, h.2⟩
theorem small_lst {ds : List PyData} (h : smallD (.list ds) = true) : ds.length ≤ 1000 ∧ smallDs ds = true := by
  unfold smallD at h
  rw [Bool.and_eq_true] at h
  exact ⟨of_decide_eq_true h.1, h.2⟩
theorem small_str {s : Str} (h : smallD (.str s) = true) : s.length ≤ 1000 := by
  unfold smallD at h
  rw [Bool.and_eq_true] at h
  exact of_decide_eq_true h.1
theorem small_strOk {s : Str} (h : smallD (.str s) = true) : PyData.strOk s = true := by
  unfold smallD at h
  rw [Bool.and_eq_true] at h
  exact h.2
mutual
theorem small_lay : ∀ {d : PyData}, smallD d = true → d.canLay0 = true
  | .none, _ => rfl
  | .bool _, _ => rfl
  | .int _, _ => rfl
  | .str _, h => small_strOk h
  | .list _, h => small_lays (small_lst h).2
  | .tuple _, h => small_lays (small_tup h).2
  | .dict _, h => by cases h
theorem small_lays : ∀ {ds : List PyData}, smallDs ds = true → PyData.canLayAll0 ds = true
  | [], _ => rfl
  | d :: ds, h => by
    unfold smallDs at h
    rw [Bool.and_eq_true] at h
    show (d.canLay0 && PyData.canLayAll0 ds) = true
    rw [small_lay h.1, small_lays h.2]
    rfl
end
/-! ### kinds -/
def tyN : PyData → String
  | .none => "NoneType"
  | .bool _ => "bool"
  | .int _ => "int"
  | .str _ => "str"
  | .list _ => "list"
  | .tuple _ => "tuple"
  | .dict _ => "dict"
theorem DH.ty {K : PySem.W.Frag} {D : Addr} {H : Hp} {v : V} {d : PyData} (h : DH D H v d) : TyX K H v (.type (tyN d)) := by
  cases h with
  | non => exact .base .non
  | bl b => exact .base (.bl b)
  | int i => exact .base (.int i)
  | str x => exact .base (.str x)
  | lst _ e _ => exact .base (.lst e)
  | tup e _ => exact .base (.tup e)
def intB : PyData → Bool
  | .bool _ => true
  | .int _ => true
  | _ => false
def boolB : PyData → Bool
  | .bool _ => true
  | _ => false
def strB : PyData → Bool
  | .str _ => true
  | _ => false
def tupB : PyData → Bool
  | .tuple _ => true
  | _ => false
theorem kit_int : ∀ d : PyData, kitB (tyN d) "int" = some (intB d)
  | .none => show kitB "NoneType" "int" = some false from by decide +kernel
  | .bool _ => show kitB "bool" "int" = some true from by decide +kernel
  | .int _ => show kitB "int" "int" = some true from by decide +kernel
  | .str _ => show kitB "str" "int" = some false from by decide +kernel
  | .list _ => show kitB "list" "int" = some false from by decide +kernel
  | .tuple _ => show kitB "tuple" "int" = some false from by decide +kernel
  | .dict _ => show kitB "dict" "int" = some false from by decide +kernel
theorem kit_bool : ∀ d : PyData, kitB (tyN d) "bool" = some (boolB d)
  | .none => show kitB "NoneType" "bool" = some false from by decide +kernel
  | .bool _ => show kitB "bool" "bool" = some true from by decide +kernel
  | .int _ => show kitB "int" "bool" = some false from by decide +kernel
  | .str _ => show kitB "str" "bool" = some false from by decide +kernel
  | .list _ => show kitB "list" "bool" = some false from by decide +kernel
  | .tuple _ => show kitB "tuple" "bool" = some false from by decide +kernel
  | .dict _ => show kitB "dict" "bool" = some false from by decide +kernel
theorem kit_str : ∀ d : PyData, kitB (tyN d) "str" = some (strB d)
  | .none => show kitB "NoneType" "str" = some false from by decide +kernel
  | .bool _ => show kitB "bool" "str" = some false from by decide +kernel
  | .int _ => show kitB "int" "str" = some false from by decide +kernel
  | .str _ => show kitB "str" "str" = some true from by decide +kernel
  | .list _ => show kitB "list" "str" = some false from by decide +kernel
  | .tuple _ => show kitB "tuple" "str" = some false from by decide +kernel
  | .dict _ => show kitB "dict" "str" = some false from by decide +kernel
theorem kit_tup : ∀ d : PyData, kitB (tyN d) "tuple" = some (tupB d)
  | .none => show kitB "NoneType" "tuple" = some false from by decide +kernel
  | .bool _ => show kitB "bool" "tuple" = some false from by decide +kernel
  | .int _ => show kitB "int" "tuple" = some false from by decide +kernel
  | .str _ => show kitB "str" "tuple" = some false from by decide +kernel
  | .list _ => show kitB "list" "tuple" = some false from by decide +kernel
  | .tuple _ => show kitB "tuple" "tuple" = some true from by decide +kernel
  | .dict _ => show kitB "dict" "tuple" = some false from by decide +kernel
def itemD (d : PyData) (i : Nat) : PyData := match d with
  | .tuple ds => ds.getD i .none
  | _ => .none
def isIntD (d : PyData) : Bool := intB d && !boolB d
def geD (d : PyData) : Bool := match d with
  | .int i => decide (0 ≤ i)
  | _ => false
def isNumD (d : PyData) : Bool := isIntD d && geD d
def lettersD : Str := "abcdefghijklmnopqrstuvwxyz"
def nameS (s : Str) : Bool := (decide (1 ≤ s.length) && decide (s.length ≤ 8)) && s.cps.toList.all fun n => decide (n ∈ lettersD.cps.toList)
def isNameD (d : PyData) : Bool := match d with
  | .str s => nameS s
  | _ => false
def isPairD (d : PyData) : Bool := match d with
  | .tuple ds => decide (ds.length = 2)
  | _ => false
def isCellD (d : PyData) : Bool := isPairD d && (isNameD (itemD d 0) && isNumD (itemD d 1))
def nzD (d : PyData) : Bool := match d with
  | .int i => decide (i ≠ 0)
  | _ => true
def isWtD (d : PyData) : Bool := isPairD d && (isCellD (itemD d 0) && (isIntD (itemD d 1) && nzD (itemD d 1)))
theorem int_of {d : PyData} (h : isIntD d = true) : ∃ i, d = .int i := by
  cases d with
  | int i => exact ⟨i, rfl⟩
  | bool b => cases h
  | none => cases h
  | str _ => cases h
  | list _ => cases h
  | tuple _ => cases h
  | dict _ => cases h
theorem pair_of {d : PyData} (h : isPairD d = true) : ∃ x y, d = .tuple [x, y] := by
  cases d with
  | tuple ds =>
    have e : ds.length = 2 := of_decide_eq_true h
    match ds, e with
    | [x, y], _ => exact ⟨x, y, rfl⟩
  | _ => cases h
theorem DH.int_inv {D : Addr} {H : Hp} {v : V} {i : Int} (h : DH D H v (.int i)) : v = .int i := by
  cases h
  rfl
theorem DH.str_inv {D : Addr} {H : Hp} {v : V} {s : Str} (h : DH D H v (.str s)) : v = .str s := by
  cases h
  rfl
theorem DH.tup_inv {D : Addr} {H : Hp} {v : V} {ds : List PyData} (h : DH D H v (.tuple ds)) : ∃ a xs, v = .ref a ∧ H a = some (.tup xs) ∧ DHs D H xs ds := by
  cases h with
  | tup e t => exact ⟨_, _, rfl, e, t⟩
theorem DH.pair_inv {D : Addr} {H : Hp} {v : V} {x y : PyData} (h : DH D H v (.tuple [x, y])) : ∃ a p q, v = .ref a ∧ H a = some (.tup [p, q]) ∧ DH D H p x ∧ DH D H q y := by
  obtain ⟨a, xs, rfl, e, t⟩ := h.tup_inv
  cases t with
  | cons h1 t =>
    cases t with
    | cons h2 t =>
      cases t
      exact ⟨a, _, _, rfl, e, h1, h2⟩
/-- a check of one value -/
def prKind (f : PyData → Bool) : Pr := fun vs H Q => ∃ (v : V) (d : PyData) (D : Addr), vs = [v] ∧ DH D H v d ∧ smallD d = true ∧ ∀ H', Same H H' → Q (.bl (f d)) H'
end AskG
/-! How long the text of data is. -/
namespace AskG
open PySem PySem.Spec PyProof.Rows L2
mutual
/-- whole numbers of at most eighty digits -/
def litD : PyData → Bool
  | .int i => decide (i.natAbs < 10 ^ 80)
  | .list ds => litDs ds
  | .tuple ds => litDs ds
  | .dict _ => false
  | _ => true
def litDs : List PyData → Bool
  | [] => true
  | d :: ds => litD d && litDs ds
end
mutual
def wtD : PyData → Nat
  | .none => 5
  | .bool _ => 5
  | .int _ => 81
  | .str s => 10 * s.length + 2
  | .list ds => wtDs ds + 2 * ds.length + 3
  | .tuple ds => wtDs ds + 2 * ds.length + 3
  | .dict _ => 0
def wtDs : List PyData → Nat
  | [] => 0
  | d :: ds => wtD d + wtDs ds
end
structure Told (d : PyData) : Prop where
  shw : d.showable = true
  nod : d.hasDict = false
  len : d.shown.length ≤ wtD d
structure Tolds (ds : List PyData) : Prop where
  shw : PyData.showableAll ds = true
  nod : PyData.hasDictAll ds = false
  len : ((PyData.shownAll ds).map (·.length)).sum ≤ wtDs ds
  cnt : (PyData.shownAll ds).length = ds.length
theorem told_int {i : Int} (h : i.natAbs < 10 ^ 80) : Told (.int i) := by
  have h2 : i.natAbs < 2 ^ 1900 := Nat.lt_trans h (by decide)
  have h3 : i.natAbs.log2 < 1920 := by
    by_cases z : i.natAbs = 0
    · rw [z]
      decide
    · have := (Nat.log2_lt z).mpr h2
      omega
  refine ⟨decide_eq_true h3, rfl, ?_⟩
  show (PySem.Str.ofString (toString i)).length ≤ 81
  rw [PySem.ofString_length]
  exact PySem.int_text_length_le10 (k := 80) (by decide) h
theorem told_str {s : Str} (h : PyData.strOk s = true) : Told (.str s) := by
  refine ⟨rfl, rfl, ?_⟩
  show (reprText s).length ≤ 10 * s.length + 2
  refine StrLaws.reprText_len s fun c hc => ?_
  have := Array.all_eq_true'.mp h c (Array.mem_toList_iff.mp hc)
  have := of_decide_eq_true this
  omega
mutual
theorem told : ∀ {d : PyData}, smallD d = true → litD d = true → Told d
  | .none, _, _ => ⟨rfl, rfl, by decide +kernel⟩
  | .bool true, _, _ => ⟨rfl, rfl, by decide +kernel⟩
  | .bool false, _, _ => ⟨rfl, rfl, by decide +kernel⟩
  | .int i, _, h => told_int (of_decide_eq_true h)
  | .str s, h, _ => told_str (small_strOk h)
  | .list ds, h, g => by
    have t := tolds (small_lst h).2 (show litDs ds = true from g)
    refine ⟨t.shw, t.nod, ?_⟩
    have := listText_len_le (PyData.shownAll ds)
    show (listText (PyData.shownAll ds)).length ≤ wtDs ds + 2 * ds.length + 3
    rw [t.cnt] at this
    have := t.len
    omega
  | .tuple ds, h, g => by
    have t := tolds (small_tup h).2 (show litDs ds = true from g)
    refine ⟨t.shw, t.nod, ?_⟩
    have := tupleText_len_le (PyData.shownAll ds)
    show (tupleText (PyData.shownAll ds)).length ≤ wtDs ds + 2 * ds.length + 3
    rw [t.cnt] at this
    have := t.len
    omega
  | .dict _, h, _ => by cases h
theorem tolds : ∀ {ds : List PyData}, smallDs ds = true → litDs ds = true → Tolds ds
  | [], _, _ => ⟨rfl, rfl, Nat.le_refl _, rfl⟩
  | d :: ds, h, g => by
    unfold smallDs at h
    unfold litDs at g
    rw [Bool.and_eq_true] at h g
    have a := told h.1 g.1
    have b := tolds h.2 g.2
    refine ⟨?_, ?_, ?_, ?_⟩
    · show (d.showable && PyData.showableAll ds) = true
      rw [a.shw, b.shw]
      rfl
    · show (d.hasDict || PyData.hasDictAll ds) = false
      rw [a.nod, b.nod]
      rfl
    · show ((d.shown :: PyData.shownAll ds).map (·.length)).sum ≤ wtD d + wtDs ds
      rw [List.map_cons, List.sum_cons]
      have := a.len
      have := b.len
      omega
    · show (d.shown :: PyData.shownAll ds).length = _
      rw [List.length_cons, List.length_cons, b.cnt]
end
theorem wtDs_app : ∀ xs ys : List PyData, wtDs (xs ++ ys) = wtDs xs + wtDs ys
  | [], ys => by
    show wtDs ys = 0 + wtDs ys
    omega
  | x :: xs, ys => by
    show wtD x + wtDs (xs ++ ys) = wtD x + wtDs xs + wtDs ys
    rw [wtDs_app xs ys]
    omega
/-- the text of data at a value -/
theorem repr_told {K : PySem.W.Frag} {D H a d} {Q : VK} (h : DH D H (.ref a) d) (s : smallD d = true) (l : litD d = true) (dep : d.depth ≤ 60) (w : wtD d ≤ 16777216) (q : Q (.str d.shown) H) : rRepr K [.ref a] H Q := by
  have t := told s l
  exact ⟨a, d, rfl, h.dp, t.shw, t.nod, dep, by rw [sizeLine_eq]; exact Nat.le_trans t.len w, q⟩
end AskG
/-! Measures of data: lengths, numbers, depth, weight; how they go with lists. -/
namespace AskG
open PySem PySem.Spec PyProof.Rows L2
/-- plain signs only -/
def ascS (s : Str) : Bool := s.cps.toList.all fun c => decide (c < 128)
theorem asc_ok {s : Str} (h : ascS s = true) : PyData.strOk s = true :=
  Array.all_eq_true'.mpr fun c hc => decide_eq_true (by
    have := of_decide_eq_true (List.all_eq_true.mp h c (Array.mem_toList_iff.mpr hc))
    omega)
theorem asc_app {s z : Str} (h : ascS s = true) (g : ascS z = true) : ascS (s ++ z) = true := by
  show ((s.cps ++ z.cps).toList.all fun c => decide (c < 128)) = true
  rw [Array.toList_append, List.all_append]
  exact Bool.and_eq_true_iff.mpr ⟨h, g⟩
theorem asc_sub {s z : Str} (h : ascS s = true) (g : ∀ c ∈ z.cps.toList, c ∈ s.cps.toList) : ascS z = true :=
  List.all_eq_true.mpr fun c hc => List.all_eq_true.mp h c (g c hc)
mutual
/-- strings of plain signs, no dicts -/
def okS : PyData → Bool
  | .str s => ascS s
  | .list ds => okSs ds
  | .tuple ds => okSs ds
  | .dict _ => false
  | _ => true
def okSs : List PyData → Bool
  | [] => true
  | d :: ds => okS d && okSs ds
end
mutual
/-- the greatest length of a string, a list, a tuple in it -/
def bigD : PyData → Nat
  | .str s => s.length
  | .list ds => max ds.length (bigDs ds)
  | .tuple ds => max ds.length (bigDs ds)
  | _ => 0
def bigDs : List PyData → Nat
  | [] => 0
  | d :: ds => max (bigD d) (bigDs ds)
end
mutual
/-- the greatest whole number in it, without sign -/
def topD : PyData → Nat
  | .int i => i.natAbs
  | .list ds => topDs ds
  | .tuple ds => topDs ds
  | _ => 0
def topDs : List PyData → Nat
  | [] => 0
  | d :: ds => max (topD d) (topDs ds)
end
mutual
theorem small_by : ∀ {d : PyData}, okS d = true → bigD d ≤ 1000 → smallD d = true
  | .none, _, _ => rfl
  | .bool _, _, _ => rfl
  | .int _, _, _ => rfl
  | .str s, h, g => by
    have h : PyData.strOk s = true := asc_ok h
    have g : s.length ≤ 1000 := g
    unfold smallD
    rw [decide_eq_true g, h]
    rfl
  | .list ds, h, g => by
    have g : max ds.length (bigDs ds) ≤ 1000 := g
    unfold smallD
    rw [decide_eq_true (by omega), smalls_by (ds := ds) h (by omega)]
    rfl
  | .tuple ds, h, g => by
    have g : max ds.length (bigDs ds) ≤ 1000 := g
    unfold smallD
    rw [decide_eq_true (by omega), smalls_by (ds := ds) h (by omega)]
    rfl
  | .dict _, h, _ => by cases h
theorem smalls_by : ∀ {ds : List PyData}, okSs ds = true → bigDs ds ≤ 1000 → smallDs ds = true
  | [], _, _ => rfl
  | d :: ds, h, g => by
    unfold okSs at h
    rw [Bool.and_eq_true] at h
    have g : max (bigD d) (bigDs ds) ≤ 1000 := g
    unfold smallDs
    rw [small_by h.1 (by omega), smalls_by h.2 (by omega)]
    rfl
end
mutual
theorem lit_by : ∀ {d : PyData}, okS d = true → topD d < 10 ^ 80 → litD d = true
  | .none, _, _ => rfl
  | .bool _, _, _ => rfl
  | .int _, _, g => decide_eq_true g
  | .str _, _, _ => rfl
  | .list ds, h, g => lits_by (ds := ds) h g
  | .tuple ds, h, g => lits_by (ds := ds) h g
  | .dict _, h, _ => by cases h
theorem lits_by : ∀ {ds : List PyData}, okSs ds = true → topDs ds < 10 ^ 80 → litDs ds = true
  | [], _, _ => rfl
  | d :: ds, h, g => by
    unfold okSs at h
    rw [Bool.and_eq_true] at h
    have g : max (topD d) (topDs ds) < 10 ^ 80 := g
    unfold litDs
    rw [lit_by h.1 (by omega), lits_by h.2 (by omega)]
    rfl
end
/-- measures of a list's items, all at once -/
structure All (b t k n : Nat) (ds : List PyData) : Prop where
  ok : okSs ds = true
  big : bigDs ds ≤ b
  top : topDs ds ≤ t
  dep : PyData.depthAll ds ≤ k
  wt : wtDs ds ≤ n
structure Of (b t k n : Nat) (d : PyData) : Prop where
  ok : okS d = true
  big : bigD d ≤ b
  top : topD d ≤ t
  dep : d.depth ≤ k
  wt : wtD d ≤ n
theorem All.nil {b t k n : Nat} : All b t k n [] := ⟨rfl, Nat.zero_le _, Nat.zero_le _, Nat.zero_le _, Nat.zero_le _⟩
theorem All.cons {b t k n m : Nat} {d : PyData} {ds : List PyData} (h : Of b t k m d) (g : All b t k n ds) : All b t k (m + n) (d :: ds) := by
  refine ⟨?_, ?_, ?_, ?_, ?_⟩
  · unfold okSs
    rw [h.ok, g.ok]
    rfl
  · show max (bigD d) (bigDs ds) ≤ b
    exact Nat.max_le.mpr ⟨h.big, g.big⟩
  · show max (topD d) (topDs ds) ≤ t
    exact Nat.max_le.mpr ⟨h.top, g.top⟩
  · show max d.depth (PyData.depthAll ds) ≤ k
    exact Nat.max_le.mpr ⟨h.dep, g.dep⟩
  · show wtD d + wtDs ds ≤ m + n
    have := h.wt
    have := g.wt
    omega
theorem All.head {b t k n : Nat} {d : PyData} {ds : List PyData} (h : All b t k n (d :: ds)) : Of b t k n d := by
  have h1 := h.ok
  unfold okSs at h1
  rw [Bool.and_eq_true] at h1
  have h2 : max (bigD d) (bigDs ds) ≤ b := h.big
  have h3 : max (topD d) (topDs ds) ≤ t := h.top
  have h4 : max d.depth (PyData.depthAll ds) ≤ k := h.dep
  have h5 : wtD d + wtDs ds ≤ n := h.wt
  exact ⟨h1.1, by omega, by omega, by omega, by omega⟩
theorem All.tail {b t k n : Nat} {d : PyData} {ds : List PyData} (h : All b t k n (d :: ds)) : All b t k n ds := by
  have h1 := h.ok
  unfold okSs at h1
  rw [Bool.and_eq_true] at h1
  have h2 : max (bigD d) (bigDs ds) ≤ b := h.big
  have h3 : max (topD d) (topDs ds) ≤ t := h.top
  have h4 : max d.depth (PyData.depthAll ds) ≤ k := h.dep
  have h5 : wtD d + wtDs ds ≤ n := h.wt
  exact ⟨h1.2, by omega, by omega, by omega, by omega⟩
theorem All.mono {b t k n b' t' k' n' : Nat} {ds : List PyData} (h : All b t k n ds) (hb : b ≤ b') (ht : t ≤ t') (hk : k ≤ k') (hn : n ≤ n') : All b' t' k' n' ds :=
  ⟨h.ok, Nat.le_trans h.big hb, Nat.le_trans h.top ht, Nat.le_trans h.dep hk, Nat.le_trans h.wt hn⟩
theorem Of.mono {b t k n b' t' k' n' : Nat} {d : PyData} (h : Of b t k n d) (hb : b ≤ b') (ht : t ≤ t') (hk : k ≤ k') (hn : n ≤ n') : Of b' t' k' n' d :=
  ⟨h.ok, Nat.le_trans h.big hb, Nat.le_trans h.top ht, Nat.le_trans h.dep hk, Nat.le_trans h.wt hn⟩
theorem All.app {b t k : Nat} : ∀ {xs ys : List PyData} {n m : Nat}, All b t k n xs → All b t k m ys → All b t k (n + m) (xs ++ ys)
  | [], ys, n, m, _, g => g.mono (Nat.le_refl _) (Nat.le_refl _) (Nat.le_refl _) (by omega)
  | x :: xs, ys, n, m, h, g => by
    have w : wtD x + wtDs xs ≤ n := h.wt
    have hx : Of b t k (wtD x) x := ⟨h.head.ok, h.head.big, h.head.top, h.head.dep, Nat.le_refl _⟩
    have hxs : All b t k (wtDs xs) xs := ⟨h.tail.ok, h.tail.big, h.tail.top, h.tail.dep, Nat.le_refl _⟩
    exact (All.cons hx (All.app hxs g)).mono (Nat.le_refl _) (Nat.le_refl _) (Nat.le_refl _) (by omega)
theorem All.drop {b t k n : Nat} : ∀ {ds : List PyData} (i : Nat), All b t k n ds → All b t k n (ds.drop i)
  | _, 0, h => h
  | [], _ + 1, _ => .nil
  | _ :: _, i + 1, h => All.drop i h.tail
theorem All.take {b t k : Nat} : ∀ {ds : List PyData} {n : Nat} (i : Nat), All b t k n ds → All b t k n (ds.take i)
  | _, _, 0, _ => .nil
  | [], _, _ + 1, _ => .nil
  | x :: ds, n, i + 1, h => by
    have w : wtD x + wtDs ds ≤ n := h.wt
    have hx : Of b t k (wtD x) x := ⟨h.head.ok, h.head.big, h.head.top, h.head.dep, Nat.le_refl _⟩
    have hxs : All b t k (wtDs ds) ds := ⟨h.tail.ok, h.tail.big, h.tail.top, h.tail.dep, Nat.le_refl _⟩
    exact (All.cons hx (All.take i hxs)).mono (Nat.le_refl _) (Nat.le_refl _) (Nat.le_refl _) w
theorem All.rev {b t k : Nat} : ∀ {ds : List PyData} {n : Nat}, All b t k n ds → All b t k n ds.reverse
  | [], _, h => .nil
  | x :: ds, n, h => by
    have w : wtD x + wtDs ds ≤ n := h.wt
    have hx : Of b t k (wtD x) x := ⟨h.head.ok, h.head.big, h.head.top, h.head.dep, Nat.le_refl _⟩
    have hxs : All b t k (wtDs ds) ds := ⟨h.tail.ok, h.tail.big, h.tail.top, h.tail.dep, Nat.le_refl _⟩
    rw [List.reverse_cons]
    exact (All.app (All.rev hxs) (All.cons hx (All.nil (n := 0)))).mono (Nat.le_refl _) (Nat.le_refl _) (Nat.le_refl _) (by omega)
theorem All.at {b t k n : Nat} : ∀ {ds : List PyData} {i : Nat} {d : PyData}, All b t k n ds → ds[i]? = some d → Of b t k n d
  | [], i, _, _, e => by cases i <;> cases e
  | x :: ds, 0, _, h, e => by
    cases e
    exact h.head
  | x :: ds, i + 1, _, h, e => All.at h.tail e
theorem Of.tup {b t k n : Nat} {ds : List PyData} (h : All b t k n ds) (hl : ds.length ≤ b) : Of b t (k + 1) (n + 2 * ds.length + 3) (.tuple ds) :=
  ⟨h.ok, Nat.max_le.mpr ⟨hl, h.big⟩, h.top, Nat.succ_le_succ h.dep, by
    show wtDs ds + 2 * ds.length + 3 ≤ _
    have := h.wt
    omega⟩
theorem Of.lst {b t k n : Nat} {ds : List PyData} (h : All b t k n ds) (hl : ds.length ≤ b) : Of b t (k + 1) (n + 2 * ds.length + 3) (.list ds) :=
  ⟨h.ok, Nat.max_le.mpr ⟨hl, h.big⟩, h.top, Nat.succ_le_succ h.dep, by
    show wtDs ds + 2 * ds.length + 3 ≤ _
    have := h.wt
    omega⟩
theorem Of.items {b t k n : Nat} {ds : List PyData} (h : Of b t (k + 1) n (.tuple ds)) : All b t k n ds ∧ ds.length ≤ b ∧ wtDs ds + 2 * ds.length + 3 ≤ n := by
  have h2 : max ds.length (bigDs ds) ≤ b := h.big
  have h5 : wtDs ds + 2 * ds.length + 3 ≤ n := h.wt
  exact ⟨⟨h.ok, by omega, h.top, Nat.le_of_succ_le_succ h.dep, by omega⟩, by omega, h5⟩
theorem Of.small {b t k n : Nat} {d : PyData} (h : Of b t k n d) (hb : b ≤ 1000) : smallD d = true := small_by h.ok (Nat.le_trans h.big hb)
theorem Of.lit {b t k n : Nat} {d : PyData} (h : Of b t k n d) (ht : t < 10 ^ 80) : litD d = true := lit_by h.ok (Nat.lt_of_le_of_lt h.top ht)
end AskG
/-! t[::-1] of a tuple. -/
namespace AskG
open PySem PySem.Spec PyProof.Rows L2 HT
section
variable {prog : Program} {w : World} {A : Around} {E : Value → Shared → Prop} {s : Shared}
theorem adjust_rev (n : Nat) : Builtin.Slice.sliceAdjust none none (-1) (n : Int) = ((n : Int) - 1, -1) := rfl
theorem places_rev (n : Nat) : Builtin.Slice.slicePlaces ((n : Int) - 1) (-1) (-1) = n := by
  unfold Builtin.Slice.slicePlaces
  by_cases h : n = 0
  · subst h
    rfl
  · simp
    try omega
theorem sliceApplied_rev {sl : Addr} {vs : Value} {n : Nat} {Q : Int × Int × Nat → Shared → Prop} (hs : s.heap.IsSliceOf sl .none .none vs) (ps : IsPart vs (some (-1)))
    (h : Q ((n : Int) - 1, -1, n) s) : wpAny (model prog w) A (Builtin.Slice.sliceApplied (.ref sl) (pure (n : Int))) Q E s := by
  obtain ⟨os, hos, hcs, hds⟩ := id hs
  unfold Builtin.Slice.sliceApplied Builtin.Slice.sliceFields
  refine wpAny_bind (wpAny_bind (wpAny_field hos hds (x := .none) rfl (wpAny_bind (wpAny_field hos hds (x := .none) rfl (wpAny_bind (wpAny_field hos hds (x := vs) rfl (wpAny_pure ?_)))))))
  refine wpAny_bind (slicePart_ ps ?_)
  show wpAny _ _ (if ((-1 : Int) == 0) = true then _ else _) _ _ s
  rw [if_neg (by decide)]
  refine wpAny_bind (slicePart_none (wpAny_bind (slicePart_none (wpAny_bind (wpAny_pure ?_)))))
  show wpAny _ _ (match Builtin.Slice.sliceAdjust none none (-1) (n : Int) with | (lo, hi) => pure (lo, (-1 : Int), Builtin.Slice.slicePlaces lo hi (-1))) _ _ s
  rw [adjust_rev]
  show wpAny _ _ (pure ((n : Int) - 1, (-1 : Int), Builtin.Slice.slicePlaces ((n : Int) - 1) (-1) (-1))) _ _ s
  rw [places_rev]
  exact wpAny_pure h
theorem fm_congr {α β : Type} {f g : α → Option β} : ∀ {l : List α}, (∀ m ∈ l, f m = g m) → l.filterMap f = l.filterMap g
  | [], _ => rfl
  | x :: l, h => by
    rw [List.filterMap_cons, List.filterMap_cons, h x List.mem_cons_self, fm_congr fun m hm => h m (List.mem_cons_of_mem _ hm)]
theorem pick_rev (xs : Array Value) : ((List.range xs.size).filterMap fun (m : Nat) => xs[(((xs.size : Int) - 1) + (m : Int) * (-1)).toNat]?).toArray = xs.toList.reverse.toArray := by
  have g := pick_gen xs.toList.reverse.toArray 0 xs.size
  have e : ((xs.toList.reverse.toArray.toList.drop 0).take xs.size) = xs.toList.reverse := by
    show (xs.toList.reverse.drop 0).take xs.size = xs.toList.reverse
    rw [List.drop_zero]
    exact List.take_of_length_le (by rw [List.length_reverse, Array.length_toList]; exact Nat.le_refl _)
  rw [e] at g
  rw [← g]
  congr 1
  refine fm_congr fun m hm => ?_
  have hm' := List.mem_range.mp hm
  have e1 : (((xs.size : Int) - 1) + (m : Int) * (-1)).toNat = xs.size - 1 - m := by omega
  have e2 : (((0 : Nat) : Int) + (m : Int) * 1).toNat = m := by omega
  rw [e1, e2]
  show xs[xs.size - 1 - m]? = xs.toList.reverse.toArray[m]?
  have r : xs.toList.reverse.toArray[m]? = xs.toList.reverse[m]? := by simp
  rw [r, List.getElem?_reverse (by rw [Array.length_toList]; exact hm'), Array.length_toList, Array.getElem?_toList]
theorem getItem_tuple_rev {t sl : Addr} {items : Array Value} {vs : Value} {Q : Value → Shared → Prop} (ht : IsTup s.heap t items) (hs : s.heap.IsSliceOf sl .none .none vs) (ps : IsPart vs (some (-1)))
    (h : Q (.ref s.heap.objs.size) { s with heap := s.heap.push { cls := .type "tuple", data := .seq items.toList.reverse.toArray } })
    (hsz : items.size ≤ sizeLine) : wpAny (model prog w) A (getItem (.ref t) (.ref sl)) Q E s := by
  have htake : sizeOk (.seq items.toList.reverse.toArray) := by
    show items.toList.reverse.toArray.size ≤ sizeLine
    rw [List.size_toArray, List.length_reverse, Array.length_toList]
    exact hsz
  obtain ⟨os, hos, hcs, hds⟩ := id hs
  have hTs : s.TypeIs (.ref sl) "slice" := ⟨os, hos, hcs⟩
  unfold getItem
  try with_reducible refine wpAny_holding ?_
  try refine wpAny_bind (wpAny_pure ?_)
  refine wpAny_bind (wpAny_sequenceKey ht.typeIs (by decide) (wpAny_bind (wpAny_callSpecial?_slot (name := Str.ofString "__getitem__") ht.typeIs PyProof.Rows.slot_tuple_getitem (wpAny_call_entry PyProof.Rows.slot_tuple_getitem ht.typeIs entry_tuple_getitem ?_ (args_tuple_getitem _ _)))))
  change wpAny _ _ (Builtin.Tuple.tupleItemsOf (.ref t) >>= _) _ _ s
  refine wpAny_bind (tupleItemsOf_ ht (wpAny_bind (wpAny_typeOf hTs ?_)))
  rw [if_pos (by decide)]
  refine wpAny_bind (sliceApplied_rev hs ps ?_)
  have hno : ¬ ((((items.size : Int) - 1) == 0 && (-1 : Int) == 1 && items.size == items.size) = true) := by
    intro q
    rw [Bool.and_eq_true, Bool.and_eq_true] at q
    exact absurd q.1.2 (by decide)
  show wpAny _ _ (if ((((items.size : Int) - 1) == 0 && (-1 : Int) == 1 && items.size == items.size) = true) then _ else _) _ _ s
  rw [if_neg hno, pick_rev]
  have fin : ∀ (B : Around) (R : Value → Shared → Prop), (R (.ref s.heap.objs.size) { s with heap := s.heap.push { cls := .type "tuple", data := .seq items.toList.reverse.toArray } }) → wpAny (model prog w) B (Builtin.Tuple.tupleExact items.toList.reverse.toArray) R E s := fun B R hR => wpAny_newObj_type hR htake
  first
    | exact wpAny_bind (fin _ _ (wpAny_pure ⟨_, rfl, wpAny_pure h⟩))
    | exact wpAny_bind (wpAny_bind (fin _ _ (wpAny_pure (wpAny_pure ⟨_, rfl, wpAny_pure h⟩))))
    | exact wpAny_bind (wpAny_bind (fin _ _ (wpAny_pure ⟨_, rfl, wpAny_pure h⟩)))
    | exact wpAny_bind (fin _ _ (wpAny_bind (wpAny_pure (wpAny_pure ⟨_, rfl, wpAny_pure h⟩))))
end
/-- t[::-1] -/
def tRevT (K : PySem.W.Frag) (te : TE) : TE := fun σ H Q => te σ H fun x H1 => ∃ a xs, x = .ref a ∧ SqT K H1 a xs ∧ ∀ p, H1 p = none → Q (.ref p) (upd H1 p (.tup xs.reverse))
section
variable {X : Cx}
theorem pe_revT {e : Expr} {te : TE} {k : Nat} {p1 p2 p3 pos : Pos} (he : PE X e te) : PE X (.Subscript e (.Slice none none (some (.UnaryOp .USub (.Constant (.int 1) k p1) p2)) p3) pos) (tRevT X.K te) := by
  constructor
  intro pins s σ H Q I h
  have st : PO X (some (.UnaryOp .USub (.Constant (.int 1) k p1) p2)) (tPart (tUn (rU fun i => .int (-i)) (tC (.int 1)))) := po_some (pe_un un_neg pe_int)
  refine Subscript_ (thn (he.run pins s σ H _ I h) ?_)
  rintro v s1 ⟨x, H1, I1, r1, a, xs, rfl, hx, q⟩
  cases r1
  refine wpAny_Slice (thn (po_none.run pins s1 σ H1 (fun o G => o = none ∧ G = H1) I1 ⟨rfl, rfl⟩) ?_)
  rintro vl s2 ⟨_, _, I2, pl, rfl, rfl⟩
  refine thn (po_none.run pins s2 σ _ (fun o G => o = none ∧ G = _) I2 ⟨rfl, rfl⟩) ?_
  rintro vu s3 ⟨_, _, I3, pu, rfl, rfl⟩
  refine thn (st.run pins s3 σ _ (fun o G => o = some (-1) ∧ G = _) I3 ⟨1, rfl, -1, rfl, rfl, rfl⟩) ?_
  rintro vs s4 ⟨_, G, I4, ps, rfl, rfl⟩
  cases pl
  cases pu
  have I5 : Inv X pins σ G { s4 with heap := s4.heap.push { cls := .type "slice", data := .fields #[.none, .none, vs] } } := I4.kept (t' := s4.toks) fun _ _ z => Heap.get?_push_of_some _ z
  obtain ⟨its, r, ht, hz⟩ := I5.tuple hx
  have hl : its.toArray.size = xs.length := by rw [List.size_toArray]; exact r.length.symm
  change wpAny (model X.prog X.w) X.A (subscriptTail e _ (.ref a) (.ref s4.heap.objs.size)) (EP X pins σ Q) X.xe _
  refine tail_any (ops := [.ref a, .ref s4.heap.objs.size]) ht.typeIs (PyProof.Rows.slot_tuple_getitem.lookup) (getItem_tuple_rev ht (Heap.IsSliceOf.new _ _ _ _) ps ?_ (by rw [hl]; exact hz)) (by with_unfolding_all rfl)
  refine ⟨.ref _, _, I5.laid (t' := s4.toks) (o := .tup xs.reverse) (fun _ _ z => Heap.get?_push_of_some _ z) (Nat.le_refl _) ⟨by rw [List.length_reverse]; exact hz, _, r.reverse, IsTup.new _ _⟩, rfl, q _ (I5.hok.fresh (Nat.le_refl _))⟩
end
end AskG
/-! Displays of data: what is written down is new, and taken addresses are no part of it. -/
namespace AskG
open PySem PySem.Spec PyProof.Rows L2
abbrev Taken (H : Hp) (D : Addr) : Prop := ∃ o, H D = some o
theorem Taken.keep {H H' : Hp} {D : Addr} (h : Taken H D) (s : Same H H') : Taken H' D := by
  obtain ⟨o, e⟩ := h
  exact ⟨o, s _ _ e⟩
/-- an expression whose value is the data d, made anew -/
def tNew (d : PyData) : TE := fun _ H Q => ∀ H' v, Same H H' → (∀ D, Taken H D → DH D H' v d) → Q v H'
def tNews (ds : List PyData) : TA := fun _ H Q => ∀ H' vs, Same H H' → (∀ D, Taken H D → DHs D H' vs ds) → vs.length = ds.length → Q vs H'
section
variable {X : Cx} {e : Expr} {es : List Expr} {t t' : TE} {d : PyData} {ds : List PyData}
theorem PE.less (h : PE X e t) (m : ∀ σ H Q, t' σ H Q → t σ H Q) : PE X e t' := ⟨fun pins s σ H Q I q => h.run pins s σ H Q I (m σ H Q q)⟩
theorem new_non (h : PE X e (tC .non)) : PE X e (tNew .none) := PE.less h fun _ H _ q => q H _ (Same.refl _) fun _ _ => .non
theorem new_bl {b : Bool} (h : PE X e (tC (.bl b))) : PE X e (tNew (.bool b)) := PE.less h fun _ H _ q => q H _ (Same.refl _) fun _ _ => .bl b
theorem new_int {i : Int} (h : PE X e (tC (.int i))) : PE X e (tNew (.int i)) := PE.less h fun _ H _ q => q H _ (Same.refl _) fun _ _ => .int i
theorem new_str {x : Str} (h : PE X e (tC (.str x))) : PE X e (tNew (.str x)) := PE.less h fun _ H _ q => q H _ (Same.refl _) fun _ _ => .str x
theorem news_nil : PA X [] (tNews []) := ⟨fun pos pins s σ H Q I q => (pa_nil (X := X)).run pos pins s σ H Q I (q H [] (Same.refl _) (fun _ _ => .nil) rfl)⟩
theorem news_cons (h : PE X e (tNew d)) (g : PA X es (tNews ds)) (hs : starEach (e :: es) X.env = (false, eval e X.env) :: starEach es X.env := by rfl) : PA X (e :: es) (tNews (d :: ds)) := by
  refine ⟨fun pos pins s σ H Q I q => (pa_cons h g hs).run pos pins s σ H Q I fun H1 v s1 h1 => ?_⟩
  intro H2 vs s2 h2 l2
  refine q H2 (v :: vs) (s1.trans s2) (fun D hD => ?_) (by rw [List.length_cons, List.length_cons, l2])
  exact .cons ((h1 D hD).keep (KeepD.of s2)) (h2 D (hD.keep s1))
theorem new_tup {x1} {pos : Pos} (h : PA X es (tNews ds)) (hz : ds.length ≤ 1000) : PE X (.Tuple es x1 pos) (tNew (.tuple ds)) := by
  refine PE.less (pe_tup h) fun σ H Q q => ?_
  intro H1 vs s1 h1 l1
  refine ⟨by have := sizeBig; omega, fun p hp => ?_⟩
  have s2 := same_new (o := .tup vs) hp
  exact q _ _ (s1.trans s2) fun D hD => .tup upd_same ((h1 D hD).keep (KeepD.of s2))
theorem new_lst {pos : Pos} (h : PA X es (tNews ds)) (hz : ds.length ≤ 1000) : PE X (.List es pos) (tNew (.list ds)) := by
  refine PE.less (pe_lst h) fun σ H Q q => ?_
  intro H1 vs s1 h1 l1
  refine ⟨by have := sizeBig; omega, fun p hp => ?_⟩
  have s2 := same_new (o := .lst vs) hp
  refine q _ _ (s1.trans s2) fun D hD => .lst (fun z => ?_) upd_same ((h1 D hD).keep (KeepD.of s2))
  obtain ⟨o, ho⟩ := hD.keep s1
  rw [z, ho] at hp
  cases hp
end
end AskG
/-! Whole numbers and bools together. -/
namespace AskG
open PySem PySem.Spec PyProof.Rows L2
section
variable {X : Cx}
def b1 (k : Bool) : Int := if k = true then 1 else 0
theorem op_add_bi : OpR X (binaryOp .Add) (fun x y H Q => ∃ k i, x = .bl k ∧ y = .int i ∧ Q (.int (b1 k + i)) H) := by
  rintro pins s σ H x y v u Q I rx ry ⟨k, i, rfl, rfl, q⟩
  cases rx
  obtain ⟨t, rfl⟩ := ry
  exact PySem.IntBool.add_bool_int ⟨.int (b1 k + i), H, I.tok _, ⟨_, rfl⟩, q⟩
theorem op_sub_bi : OpR X (binaryOp .Sub) (fun x y H Q => ∃ k i, x = .bl k ∧ y = .int i ∧ Q (.int (b1 k - i)) H) := by
  rintro pins s σ H x y v u Q I rx ry ⟨k, i, rfl, rfl, q⟩
  cases rx
  obtain ⟨t, rfl⟩ := ry
  exact PySem.IntBool.sub_bool_int ⟨.int (b1 k - i), H, I.tok _, ⟨_, rfl⟩, q⟩
theorem op_sub_ib : OpR X (binaryOp .Sub) (fun x y H Q => ∃ i k, x = .int i ∧ y = .bl k ∧ Q (.int (i - b1 k)) H) := by
  rintro pins s σ H x y v u Q I rx ry ⟨i, k, rfl, rfl, q⟩
  obtain ⟨t, rfl⟩ := rx
  cases ry
  exact PySem.IntBool.sub_int_bool ⟨.int (i - b1 k), H, I.tok _, ⟨_, rfl⟩, q⟩
theorem op_eq_bi : OpR X (compareOp .Eq) (fun x y H Q => ∃ k i, x = .bl k ∧ y = .int i ∧ Q (.bl (b1 k == i)) H) := by
  rintro pins s σ H x y v u Q I rx ry ⟨k, i, rfl, rfl, q⟩
  cases rx
  obtain ⟨t, rfl⟩ := ry
  exact PySem.EqBoolInt.eq_bool_int ⟨.bl (b1 k == i), H, I, rfl, q⟩
theorem call_str_bl : CallR X (.type "str") (fun xs H Q => ∃ k : Bool, xs = [.bl k] ∧ Q (.str (if k then "True" else "False")) H) := by
  rintro pins s σ H xs us Q I r ⟨k, rfl, q⟩
  obtain ⟨u, rfl, t⟩ := vals1 r
  cases t
  exact PySem.P.str_of_bool ⟨.str (if k then "True" else "False"), H, I.tok _, ⟨_, rfl⟩, q⟩
end
end AskG
/-! Values made from one value that a name holds; what the bent values of data are. -/
namespace AskG
open PySem PySem.Spec PyProof.Rows L2
/-- the name in slot i holds the data d -/
def Src (i : Nat) (D : Addr) (d : PyData) (σ : L2.St) (H : Hp) : Prop := (∃ v, σ[i]? = some (some v) ∧ DH D H v d) ∧ Taken H D
theorem Src.keep {i : Nat} {D : Addr} {d : PyData} {σ : L2.St} {H H' : Hp} (h : Src i D d σ H) (s : Same H H') : Src i D d σ H' := by
  obtain ⟨⟨v, hv, hd⟩, t⟩ := h
  exact ⟨⟨v, hv, hd.keep (KeepD.of s)⟩, t.keep s⟩
def tFrom (i : Nat) (D : Addr) (d0 d : PyData) : TE := fun σ H Q => Src i D d0 σ H ∧ ∀ H' v, Same H H' → DH D H' v d → Q v H'
def tFroms (i : Nat) (D : Addr) (d0 : PyData) (ds : List PyData) : TA := fun σ H Q => Src i D d0 σ H ∧ ∀ H' vs, Same H H' → DHs D H' vs ds → Q vs H'
section
variable {X : Cx} {e : Expr} {es : List Expr} {i : Nat} {D : Addr} {d0 d : PyData} {ds : List PyData}
theorem from_nil : PA X [] (tFroms i D d0 []) := ⟨fun pos pins s σ H Q I q => (pa_nil (X := X)).run pos pins s σ H Q I (q.2 H [] (Same.refl _) .nil)⟩
theorem from_cons (h : PE X e (tFrom i D d0 d)) (g : PA X es (tFroms i D d0 ds)) (hs : starEach (e :: es) X.env = (false, eval e X.env) :: starEach es X.env := by rfl) : PA X (e :: es) (tFroms i D d0 (d :: ds)) := by
  refine ⟨fun pos pins s σ H Q I q => (pa_cons h g hs).run pos pins s σ H Q I ⟨q.1, fun H1 v s1 h1 => ⟨q.1.keep s1, fun H2 vs s2 h2 => ?_⟩⟩⟩
  exact q.2 H2 (v :: vs) (s1.trans s2) (.cons (h1.keep (KeepD.of s2)) h2)
theorem from_new (h : PE X e (tNew d)) : PE X e (tFrom i D d0 d) := PE.less h fun σ H Q q H' v s n => q.2 H' v s (n D q.1.2)
theorem from_var (h : PE X e (tVar i)) : PE X e (tFrom i D d d) := PE.less h fun σ H Q q => by
  obtain ⟨⟨⟨v, hv, hd⟩, _⟩, q⟩ := q
  exact ⟨v, hv, q H v (Same.refl _) hd⟩
theorem from_tup {x1} {pos : Pos} (h : PA X es (tFroms i D d0 ds)) (hz : ds.length ≤ 1000) : PE X (.Tuple es x1 pos) (tFrom i D d0 (.tuple ds)) := by
  refine PE.less (pe_tup h) fun σ H Q q => ?_
  refine ⟨q.1, fun H1 vs s1 h1 => ⟨by have := sizeBig; have := h1.len; omega, fun p hp => ?_⟩⟩
  have s2 := same_new (o := .tup vs) hp
  exact q.2 _ _ (s1.trans s2) (.tup upd_same (h1.keep (KeepD.of s2)))
theorem from_lst {pos : Pos} (h : PA X es (tFroms i D d0 ds)) (hz : ds.length ≤ 1000) : PE X (.List es pos) (tFrom i D d0 (.list ds)) := by
  refine PE.less (pe_lst h) fun σ H Q q => ?_
  refine ⟨q.1, fun H1 vs s1 h1 => ⟨by have := sizeBig; have := h1.len; omega, fun p hp => ?_⟩⟩
  have s2 := same_new (o := .lst vs) hp
  refine q.2 _ _ (s1.trans s2) (.lst (fun z => ?_) upd_same (h1.keep (KeepD.of s2)))
  obtain ⟨o, ho⟩ := q.1.2.keep s1
  rw [z, ho] at hp
  cases hp
end
/-! ### tuples -/
def cutD (ds : List PyData) (lo hi : Option Int) : List PyData := (ds.drop (HT.sIx ds.length 0 lo)).take (HT.sIx ds.length ds.length hi - HT.sIx ds.length 0 lo)
theorem DHs.drop {D : Addr} {H : Hp} : ∀ {vs : List V} {ds : List PyData} (i : Nat), DHs D H vs ds → DHs D H (vs.drop i) (ds.drop i)
  | _, _, 0, h => h
  | _, _, _ + 1, .nil => .nil
  | _, _, i + 1, .cons _ t => DHs.drop i t
theorem DHs.take {D : Addr} {H : Hp} : ∀ {vs : List V} {ds : List PyData} (i : Nat), DHs D H vs ds → DHs D H (vs.take i) (ds.take i)
  | _, _, 0, _ => .nil
  | _, _, _ + 1, .nil => .nil
  | _, _, i + 1, .cons h t => .cons h (DHs.take i t)
theorem DHs.rev {D : Addr} {H : Hp} : ∀ {vs : List V} {ds : List PyData}, DHs D H vs ds → DHs D H vs.reverse ds.reverse
  | _, _, .nil => .nil
  | _, _, .cons h t => by
    rw [List.reverse_cons, List.reverse_cons]
    exact DHs.app (DHs.rev t) (.cons h .nil)
theorem DHs.cut {D : Addr} {H : Hp} {vs : List V} {ds : List PyData} (h : DHs D H vs ds) (lo hi : Option Int) : DHs D H (cutV vs lo hi) (cutD ds lo hi) := by
  unfold cutV cutD
  rw [h.len]
  exact (h.drop _).take _
section
variable {K : PySem.W.Frag} {H : Hp} {D a b : Addr} {xs ys : List V} {ds es : List PyData} {Q : VK}
theorem sl_from {lo hi : Option Int} (ha : H a = some (.tup xs)) (hd : DHs D H xs ds) (q : ∀ H' v, Same H H' → DH D H' v (.tuple (cutD ds lo hi)) → Q v H') : rSlA K (.ref a) lo hi H Q := by
  have c := hd.cut lo hi
  refine ⟨a, xs, rfl, sqT ha, fun w => q H _ (Same.refl _) ?_, fun _ p hp => ?_⟩
  · have e : cutD ds lo hi = ds := by
      unfold cutD
      rw [← hd.len, w.1, w.2, List.drop_zero]
      exact List.take_of_length_le (by rw [hd.len]; omega)
    rw [e]
    exact .tup ha hd
  · have s2 := same_new (o := .tup (cutV xs lo hi)) hp
    exact q _ _ s2 (.tup upd_same (c.keep (KeepD.of s2)))
theorem sl_fromN {σ : L2.St} {lo : Option Int} (ha : H a = some (.tup xs)) (hd : DHs D H xs ds) (q : ∀ H' v, Same H H' → DH D H' v (.tuple (cutD ds lo none)) → Q v H') : tNoPart σ H fun u H3 => rSlA K (.ref a) lo u H3 Q := sl_from ha hd q
theorem cat_from (ha : H a = some (.tup xs)) (hd : DHs D H xs ds) (hb : H b = some (.tup ys)) (he : DHs D H ys es) (l1 : ds.length ≤ 1000) (l2 : es.length ≤ 1000)
    (q : ∀ H' v, Same H H' → DH D H' v (.tuple (ds ++ es)) → Q v H') : rCatA K (.ref a) (.ref b) H Q := by
  have big := sizeBig
  have c := hd.app he
  refine ⟨a, b, xs, ys, rfl, rfl, sqT ha, sqT hb, by rw [hd.len, he.len]; omega, fun e => ?_, fun _ e => ?_, fun _ _ p hp => ?_⟩
  · subst e
    cases hd
    exact q H _ (Same.refl _) (.tup hb he)
  · subst e
    cases he
    rw [List.append_nil] at q
    exact q H _ (Same.refl _) (.tup ha hd)
  · have s2 := same_new (o := .tup (xs ++ ys)) hp
    exact q _ _ s2 (.tup upd_same (c.keep (KeepD.of s2)))
end
theorem All.cut {b t k n : Nat} {ds : List PyData} (h : All b t k n ds) (lo hi : Option Int) : All b t k n (cutD ds lo hi) := All.take _ (All.drop _ h)
theorem cutD_len (ds : List PyData) (lo hi : Option Int) : (cutD ds lo hi).length ≤ ds.length := by
  unfold cutD
  rw [List.length_take, List.length_drop]
  omega
theorem cutD_pre (ds : List PyData) (n : Nat) (h : n ≤ ds.length) : cutD ds none (some (n : Int)) = ds.take n := by
  unfold cutD
  rw [HT.sIx_nat, HT.sIx_none, List.drop_zero, Nat.sub_zero, Nat.min_eq_left h]
theorem cutD_post (ds : List PyData) (n : Nat) (h : n ≤ ds.length) : cutD ds (some (n : Int)) none = ds.drop n := by
  unfold cutD
  rw [HT.sIx_nat, HT.sIx_none, Nat.min_eq_left h]
  exact List.take_of_length_le (by rw [List.length_drop]; exact Nat.le_refl _)
/-! ### strings -/
theorem asc_cut {s : Str} (h : ascS s = true) (lo hi : Option Int) : ascS (cutS s lo hi) = true := asc_sub h fun c hc => List.mem_of_mem_drop (List.mem_of_mem_take hc)
theorem cutS_len (s : Str) (lo hi : Option Int) : (cutS s lo hi).length ≤ s.length := by
  show ((s.cps.toList.drop _).take _).toArray.size ≤ s.cps.size
  rw [List.size_toArray, List.length_take, List.length_drop, Array.length_toList]
  omega
theorem up_one : ∀ c : Nat, c < 128 → ∀ x ∈ Unicode.upperOf c, x < 128 := by
  have h : ∀ c : Fin 128, ((Unicode.upperOf c.val).all fun x => decide (x < 128)) = true := by decide +kernel
  exact fun c hc x hx => of_decide_eq_true (List.all_eq_true.mp (h ⟨c, hc⟩) x hx)
theorem asc_upper {s : Str} (h : ascS s = true) : ascS (Txt.upper s) = true := by
  refine List.all_eq_true.mpr fun x hx => decide_eq_true ?_
  have hx : x ∈ (s.cps.mapIdx fun i c => (Unicode.upperOf c).toArray).flatten := Array.mem_toList_iff.mp hx
  obtain ⟨a, ha, hxa⟩ := Array.mem_flatten.mp hx
  obtain ⟨i, hi, e⟩ := Array.mem_mapIdx.mp ha
  subst e
  refine up_one _ ?_ x (by simpa using hxa)
  exact of_decide_eq_true (List.all_eq_true.mp h _ (Array.mem_toList_iff.mpr (Array.getElem_mem hi)))
theorem asc_int (i : Int) : ascS (toString i) = true := by
  refine List.all_eq_true.mpr fun c hc => decide_eq_true ?_
  refine Decidable.byContradiction fun z => ?_
  exact int_text_free' c ⟨by omega, by omega⟩ i hc
/-! ### how the measures of a bent value go -/
theorem Of.str {b t k n : Nat} {s : Str} (h : ascS s = true) (hb : s.length ≤ b) (hn : 10 * s.length + 2 ≤ n) : Of b t k n (.str s) := ⟨h, hb, Nat.zero_le _, Nat.zero_le _, hn⟩
theorem Of.int {b t k n : Nat} {i : Int} (ht : i.natAbs ≤ t) (hn : 81 ≤ n) : Of b t k n (.int i) := ⟨rfl, Nat.zero_le _, ht, Nat.zero_le _, hn⟩
theorem Of.bl {b t k n : Nat} {v : Bool} (hn : 5 ≤ n) : Of b t k n (.bool v) := ⟨rfl, Nat.zero_le _, Nat.zero_le _, Nat.zero_le _, hn⟩
theorem Of.non {b t k n : Nat} (hn : 5 ≤ n) : Of b t k n .none := ⟨rfl, Nat.zero_le _, Nat.zero_le _, Nat.zero_le _, hn⟩
theorem Of.exact {b t k n : Nat} {d : PyData} (h : Of b t k n d) : Of b t k (wtD d) d := ⟨h.ok, h.big, h.top, h.dep, Nat.le_refl _⟩
theorem All.exact {b t k n : Nat} {ds : List PyData} (h : All b t k n ds) : All b t k (wtDs ds) ds := ⟨h.ok, h.big, h.top, h.dep, Nat.le_refl _⟩
theorem str_len {b t k n : Nat} {s : Str} (h : Of b t k n (.str s)) : ascS s = true ∧ s.length ≤ b ∧ 10 * s.length + 2 ≤ n := ⟨h.ok, h.big, h.wt⟩
/-- the weights of what stands before, at and after a place -/
theorem wt_split : ∀ {ds : List PyData} {i : Nat} {d : PyData}, ds[i]? = some d → wtDs ds = wtDs (ds.take i) + wtD d + wtDs (ds.drop (i + 1))
  | [], i, _, e => by cases i <;> cases e
  | x :: ds, 0, _, e => by
    cases e
    show wtD x + wtDs ds = 0 + wtD x + wtDs ds
    omega
  | x :: ds, i + 1, _, e => by
    have := wt_split (ds := ds) (i := i) e
    show wtD x + wtDs ds = wtD x + wtDs (ds.take i) + wtD _ + wtDs (ds.drop (i + 1))
    omega
/-! ### what a name's data says of the value -/
section
variable {i : Nat} {D : Addr} {σ : L2.St} {H : Hp}
theorem src_str {s : Str} (h : Src i D (.str s) σ H) : σ[i]? = some (some (.str s)) := by
  obtain ⟨⟨v, hv, hd⟩, _⟩ := h
  obtain rfl := hd.str_inv
  exact hv
theorem src_int {j : Int} (h : Src i D (.int j) σ H) : σ[i]? = some (some (.int j)) := by
  obtain ⟨⟨v, hv, hd⟩, _⟩ := h
  obtain rfl := hd.int_inv
  exact hv
theorem src_bl {b : Bool} (h : Src i D (.bool b) σ H) : σ[i]? = some (some (.bl b)) := by
  obtain ⟨⟨v, hv, hd⟩, _⟩ := h
  cases hd
  exact hv
theorem src_tup {ds : List PyData} (h : Src i D (.tuple ds) σ H) : ∃ a xs, σ[i]? = some (some (.ref a)) ∧ H a = some (.tup xs) ∧ DHs D H xs ds := by
  obtain ⟨⟨v, hv, hd⟩, _⟩ := h
  obtain ⟨a, xs, rfl, ha, t⟩ := hd.tup_inv
  exact ⟨a, xs, hv, ha, t⟩
theorem DH.lst_inv {v : V} {ds : List PyData} (h : DH D H v (.list ds)) : ∃ a xs, v = .ref a ∧ a ≠ D ∧ H a = some (.lst xs) ∧ DHs D H xs ds := by
  cases h with
  | lst n e t => exact ⟨_, _, rfl, n, e, t⟩
theorem Taken.ne {p : Addr} (h : Taken H D) (hp : H p = none) : p ≠ D := fun z => by
  obtain ⟨o, ho⟩ := h
  rw [z, ho] at hp
  cases hp
theorem pickD {vs : List V} {es : List PyData} (h : DHs D H vs es) {w : Int} (w0 : 0 ≤ w) (w1 : w < (es.length : Int)) : ∃ v d, atI vs w = some v ∧ d ∈ es ∧ DH D H v d := by
  obtain ⟨n, rfl⟩ : ∃ n : Nat, w = (n : Int) := ⟨w.toNat, by omega⟩
  have hl := h.len
  have hx : vs[n]? = some vs[n] := List.getElem?_eq_getElem (by omega)
  obtain ⟨d, hd, hh⟩ := h.at hx
  exact ⟨_, d, atI_nat hx, List.mem_of_getElem? hd, hh⟩
end
end AskG
/-! Displays over several names; a list that is extended by displays. -/
namespace AskG
open PySem PySem.Spec PyProof.Rows L2
/-- the names in these slots hold these data -/
def SrcM (l : List (Nat × PyData)) (D : Addr) (σ : L2.St) (H : Hp) : Prop := (∀ x ∈ l, ∃ v, σ[x.1]? = some (some v) ∧ DH D H v x.2) ∧ Taken H D
theorem SrcM.keep {l : List (Nat × PyData)} {D : Addr} {σ : L2.St} {H H' : Hp} (h : SrcM l D σ H) (s : Same H H') : SrcM l D σ H' :=
  ⟨fun x hx => by
    obtain ⟨v, hv, hd⟩ := h.1 x hx
    exact ⟨v, hv, hd.keep (KeepD.of s)⟩, h.2.keep s⟩
theorem SrcM.keepD {l : List (Nat × PyData)} {D : Addr} {σ : L2.St} {H H' : Hp} (h : SrcM l D σ H) (s : KeepD D H H') (t : Taken H' D) : SrcM l D σ H' :=
  ⟨fun x hx => by
    obtain ⟨v, hv, hd⟩ := h.1 x hx
    exact ⟨v, hv, hd.keep s⟩, t⟩
def tFm {α : Type} (l : α → List (Nat × PyData)) (d : α → PyData) : TE := fun σ H Q => ∃ a D, SrcM (l a) D σ H ∧ ∀ H' v, Same H H' → DH D H' v (d a) → Q v H'
def tFms {α : Type} (l : α → List (Nat × PyData)) (ds : α → List PyData) : TA := fun σ H Q => ∃ a D, SrcM (l a) D σ H ∧ ∀ H' vs, Same H H' → DHs D H' vs (ds a) → Q vs H'
/-- a name that holds a whole number -/
theorem SrcM.int {l : List (Nat × PyData)} {D : Addr} {σ : L2.St} {H : Hp} {i : Nat} {j : Int} (h : SrcM l D σ H) (m : (i, .int j) ∈ l) : σ[i]? = some (some (.int j)) := by
  obtain ⟨v, hv, hd⟩ := h.1 _ m
  obtain rfl := DH.int_inv hd
  exact hv
theorem SrcM.tup {l : List (Nat × PyData)} {D : Addr} {σ : L2.St} {H : Hp} {i : Nat} {ds : List PyData} (h : SrcM l D σ H) (m : (i, .tuple ds) ∈ l) : ∃ a xs, σ[i]? = some (some (.ref a)) ∧ H a = some (.tup xs) ∧ DHs D H xs ds := by
  obtain ⟨v, hv, hd⟩ := h.1 _ m
  obtain ⟨a, xs, rfl, ha, t⟩ := DH.tup_inv hd
  exact ⟨a, xs, hv, ha, t⟩
section
variable {X : Cx} {e : Expr} {es : List Expr} {α : Type} {l : α → List (Nat × PyData)} {d : α → PyData} {ds : α → List PyData}
theorem fm_nil : PA X [] (tFms l fun _ => []) := ⟨fun pos pins s σ H Q I ⟨_, _, q⟩ => (pa_nil (X := X)).run pos pins s σ H Q I (q.2 H [] (Same.refl _) .nil)⟩
theorem fm_cons (h : PE X e (tFm l d)) (g : PA X es (tFms l ds)) (hs : starEach (e :: es) X.env = (false, eval e X.env) :: starEach es X.env := by rfl) : PA X (e :: es) (tFms l fun a => d a :: ds a) := by
  refine ⟨fun pos pins s σ H Q I ⟨a, D, q⟩ => (pa_cons h g hs).run pos pins s σ H Q I ⟨a, D, q.1, fun H1 v s1 h1 => ⟨a, D, q.1.keep s1, fun H2 vs s2 h2 => ?_⟩⟩⟩
  exact q.2 H2 (v :: vs) (s1.trans s2) (.cons (h1.keep (KeepD.of s2)) h2)
theorem fm_new {d : PyData} (h : PE X e (tNew d)) : PE X e (tFm l fun _ => d) := PE.less h fun σ H Q ⟨a, D, q⟩ H' v s n => q.2 H' v s (n D q.1.2)
theorem fm_var {i : Nat} (h : PE X e (tVar i)) (m : ∀ a, (i, d a) ∈ l a) : PE X e (tFm l d) := PE.less h fun σ H Q ⟨a, D, q⟩ => by
  obtain ⟨v, hv, hd⟩ := q.1.1 _ (m a)
  exact ⟨v, hv, q.2 H v (Same.refl _) hd⟩
theorem fm_tup {x1} {pos : Pos} (h : PA X es (tFms l ds)) (hz : ∀ a, (ds a).length ≤ 1000) : PE X (.Tuple es x1 pos) (tFm l fun a => .tuple (ds a)) := by
  refine PE.less (pe_tup h) fun σ H Q ⟨a, D, q⟩ => ?_
  refine ⟨a, D, q.1, fun H1 vs s1 h1 => ⟨by have := sizeBig; have := h1.len; have := hz a; omega, fun p hp => ?_⟩⟩
  have s2 := same_new (o := .tup vs) hp
  exact q.2 _ _ (s1.trans s2) (.tup upd_same (h1.keep (KeepD.of s2)))
theorem fm_lst {pos : Pos} (h : PA X es (tFms l ds)) (hz : ∀ a, (ds a).length ≤ 1000) : PE X (.List es pos) (tFm l fun a => .list (ds a)) := by
  refine PE.less (pe_lst h) fun σ H Q ⟨a, D, q⟩ => ?_
  refine ⟨a, D, q.1, fun H1 vs s1 h1 => ⟨by have := sizeBig; have := h1.len; have := hz a; omega, fun p hp => ?_⟩⟩
  have s2 := same_new (o := .lst vs) hp
  refine q.2 _ _ (s1.trans s2) (.lst ((q.1.2.keep s1).ne hp) upd_same (h1.keep (KeepD.of s2)))
theorem new_neg {i : Int} (h : PE X e (tUn (rU fun i => .int (-i)) (tC (.int i)))) : PE X e (tNew (.int (-i))) := PE.less h fun _ H _ q => ⟨i, rfl, q H _ (Same.refl _) fun _ _ => .int _⟩
/-- t * k -/
theorem fm_rep {te : TE} {k : Int} (h : PE X e (tOp (rRepT X.K) te (tC (.int k)))) (ht : ∀ σ H Q, tFm l (fun a => .tuple (ds a)) σ H Q → te σ H Q) (n0 : ∀ a, ds a ≠ []) (k2 : 2 ≤ k) (k3 : k ≤ 1000) (hl : ∀ a, (ds a).length ≤ 1000) : PE X e (tFm l fun a => .tuple (List.replicate k.toNat (ds a)).flatten) := by
  refine PE.less h fun σ H Q ⟨a, D, q⟩ => ht σ H _ ⟨a, D, q.1, fun H1 v s1 h1 => ?_⟩
  obtain ⟨b, xs, rfl, hb, t⟩ := h1.tup_inv
  have e := t.len
  have := hl a
  refine ⟨b, k, xs, rfl, rfl, sqT hb, fun z => n0 a ?_, k2, k3, by omega, fun p hp => ?_⟩
  · rw [z] at e
    exact List.eq_nil_of_length_eq_zero e.symm
  · have s2 := same_new (o := .tup (List.replicate k.toNat xs).flatten) hp
    refine q.2 _ _ (s1.trans s2) (.tup upd_same ?_)
    have t2 := t.keep (KeepD.of s2)
    clear s2
    generalize upd H1 p (.tup (List.replicate k.toNat xs).flatten) = H2 at t2 ⊢
    generalize k.toNat = n
    induction n with
    | zero => exact .nil
    | succ n ih =>
      rw [List.replicate_succ, List.replicate_succ, List.flatten_cons, List.flatten_cons]
      exact t2.app ih
end
/-- a list that is being filled, and the names that hold data -/
structure FoundAt (H0 : Hp) (l : List (Nat × PyData)) (σ : L2.St) (Lf : Addr) (ds : List PyData) (H : Hp) : Prop where
  new : H0 Lf = none
  keep : Same H0 H
  list : ∃ vs, H Lf = some (.lst vs) ∧ DHs Lf H vs ds
  src : SrcM l Lf σ H
theorem keepD_put {H : Hp} {Lf : Addr} {vs ws : List V} (h : H Lf = some (.lst vs)) : KeepD Lf H (upd H Lf (.lst ws)) :=
  ⟨fun b xs e => by rw [upd_ne (ne_of e h fun z => nomatch z)]; exact e, fun b xs n e => by rw [upd_ne n]; exact e⟩
/-- found.extend([..]) -/
theorem ext_read {K : PySem.W.Frag} {H0 H : Hp} {α : Type} {l : α → List (Nat × PyData)} {es : α → List PyData} {σ : L2.St} {s : Nat} {Lf : Addr} {ds : List PyData} {Q : VK} (a : α) (h : FoundAt H0 (l a) σ Lf ds H) (hs : σ[s]? = some (some (.ref Lf))) (len : ds.length + (es a).length ≤ 1000)
    (q : ∀ v H', FoundAt H0 (l a) σ Lf (ds ++ es a) H' → KeepD Lf H H' → Q v H') : tBM K "list" rExtend (tVar s) (tCons (tFm l fun a => .list (es a)) tNil) σ H Q := by
  obtain ⟨vs, hv, hd⟩ := h.list
  refine ⟨.ref Lf, hs, .inl ⟨rfl, _, sqL hv⟩, a, Lf, h.src, fun H1 v s1 h1 => ?_⟩
  obtain ⟨p, ys, rfl, np, hp, hys⟩ := h1.lst_inv
  have big := sizeBig
  have l1 := hd.len
  have l2 := hys.len
  refine ⟨Lf, p, vs, ys, rfl, rfl, s1 _ _ hv, hp, by omega, ?_⟩
  have kd := keepD_put (ws := vs ++ ys) (s1 _ _ hv)
  refine q _ _ ⟨h.new, fun b o e => ?_, ⟨vs ++ ys, upd_same, ((hd.keep (KeepD.of s1)).app hys).keep kd⟩, (h.src.keep s1).keepD kd ⟨_, upd_same⟩⟩ ((KeepD.of s1).trans kd)
  rw [upd_ne (ne_of_none e h.new)]
  exact s1 _ _ (h.keep _ _ e)
/-- found + [..] -/
theorem cat_read {H0 H : Hp} {α : Type} {l : α → List (Nat × PyData)} {es : α → List PyData} {σ : L2.St} {s : Nat} {Lf : Addr} {ds : List PyData} {Q : VK} (a : α) (h : FoundAt H0 (l a) σ Lf ds H) (hs : σ[s]? = some (some (.ref Lf))) (len : ds.length + (es a).length ≤ 1000)
    (q : ∀ p H' ys, Same H0 H' → Same H H' → H p = none → H' p = some (.lst ys) → DHs Lf H' ys (ds ++ es a) → Q (.ref p) H') : tOp rCat (tVar s) (tFm l fun a => .list (es a)) σ H Q := by
  obtain ⟨vs, hv, hd⟩ := h.list
  refine ⟨.ref Lf, hs, a, Lf, h.src, fun H1 v s1 h1 => ?_⟩
  obtain ⟨p, ys, rfl, np, hp, hys⟩ := h1.lst_inv
  have big := sizeBig
  have l1 := hd.len
  have l2 := hys.len
  refine ⟨Lf, p, vs, ys, rfl, rfl, s1 _ _ hv, hp, by omega, fun c hc => ?_⟩
  have s2 := same_new (o := .lst (vs ++ ys)) hc
  have s12 := s1.trans s2
  have hc0 : H c = none := by
    cases e : H c with
    | none => rfl
    | some o =>
      have := s1 _ _ e
      rw [hc] at this
      cases this
  exact q c _ _ (h.keep.trans s12) s12 hc0 upd_same (((hd.keep (KeepD.of s1)).app hys).keep (KeepD.of s2))
theorem iDrop {te : TE} {D : Ends} {σ : L2.St} {H : Hp} (h : te σ H fun _ H1 => D.nx σ H1) : tDrop te D σ H := h
end AskG
/-! repr of any value; rights and rows out of data; append. -/
namespace AskG
open PySem PySem.Spec PyProof.Rows L2
def rReprV (K : PySem.W.Frag) : List V → Hp → VK → Prop := fun xs H Q => rRepr K xs H Q ∨ (xs = [.non] ∧ Q (.str PyData.none.shown) H)
theorem call_reprV {X : Cx} {k : Nat} (hr : RG k X.A) : CallR X (.builtin "repr") (rReprV X.K) := by
  intro pins s σ H xs us Q I r q
  rcases q with q | ⟨rfl, q⟩
  · exact call_repr hr pins s σ H xs us Q I r q
  · obtain ⟨u, rfl, rx⟩ := vals1 r
    cases rx
    exact PySem.P.repr_of_none ⟨.str PyData.none.shown, H, I.tok _, ⟨_, rfl⟩, q⟩
theorem reprV_ref {K : PySem.W.Frag} {H : Hp} {a : Addr} {d : PyData} {n m : Nat} {Q : VK} (h : Dp K H (.ref a) d) (f : Fine n m d) (hn : n ≤ 60) (hm : m ≤ 16777216) (q : Q (.str d.shown) H) : rReprV K [.ref a] H Q :=
  .inl ⟨a, d, rfl, h, f.shw, f.nod, Nat.le_trans f.dep hn, by rw [sizeLine_eq]; exact Nat.le_trans f.len hm, q⟩
/-- None or a row -/
def OptAt (H : Hp) (v : V) : Option RowD → Prop
  | none => v = .non
  | some ρ => ∃ p, v = .ref p ∧ RowAt H p ρ
def optD : Option RowD → PyData
  | none => .none
  | some ρ => rowPD ρ
theorem OptAt.keep {H H' : Hp} {v : V} {o : Option RowD} (h : OptAt H v o) (k : KeepT H H') : OptAt H' v o := by
  cases o with
  | none => exact h
  | some ρ =>
    obtain ⟨p, rfl, h⟩ := h
    exact ⟨p, rfl, h.keep k⟩
theorem reprV_opt {K : PySem.W.Frag} {H : Hp} {v : V} {o : Option RowD} {Q : VK} (h : OptAt H v o) (f : ∀ ρ, o = some ρ → RowOk ρ) (q : Q (.str (optD o).shown) H) : rReprV K [v] H Q := by
  cases o with
  | none =>
    obtain rfl : v = .non := h
    exact .inr ⟨rfl, q⟩
  | some ρ =>
    obtain ⟨p, rfl, h⟩ := h
    exact reprV_ref (dp_row h) (fine_row (f ρ rfl)) (by decide) (by decide) q
/-! ### out of data -/
theorem dhs_cells {D : Addr} {H : Hp} : ∀ {ws : List Cell} {xs : List V}, DHs D H xs (ws.map cellD) → ∃ ps : List Addr, xs = ps.map V.ref ∧ Paired (CellAt H) ps ws
  | [], _, .nil => ⟨[], rfl, .nil⟩
  | c :: ws, _, .cons h t => by
    obtain ⟨ps, rfl, hp⟩ := dhs_cells t
    obtain ⟨a, p, q, rfl, ha, h1, h2⟩ := DH.pair_inv h
    obtain rfl := h1.str_inv
    obtain rfl := h2.int_inv
    exact ⟨a :: ps, rfl, .cons ha hp⟩
theorem dh_kind_inv {D : Addr} {H : Hp} {v : V} {k : KindM} (h : DH D H v k.data) : ∃ a, v = .ref a ∧ H a = some (.tup k.vals) := by
  cases k with
  | tot s =>
    obtain ⟨a, p, q, rfl, ha, h1, h2⟩ := DH.pair_inv h
    obtain rfl := h1.str_inv
    obtain rfl := h2.int_inv
    exact ⟨a, rfl, ha⟩
  | win l =>
    obtain ⟨a, p, q, rfl, ha, h1, h2⟩ := DH.pair_inv h
    obtain rfl := h1.str_inv
    obtain rfl := h2.int_inv
    exact ⟨a, rfl, ha⟩
  | per b e =>
    obtain ⟨a, xs, rfl, ha, t⟩ := DH.tup_inv h
    cases t with
    | cons h1 t => cases t with
      | cons h2 t => cases t with
        | cons h3 t =>
          cases t
          obtain rfl := h1.str_inv
          obtain rfl := h2.int_inv
          obtain rfl := h3.int_inv
          exact ⟨a, rfl, ha⟩
theorem right_inv {D : Addr} {H : Hp} {v : V} {R : Rt} (h : DH D H v (rightD R)) : ∃ a, v = .ref a ∧ RightAt H a R := by
  obtain ⟨a, xs, rfl, ha, t⟩ := DH.tup_inv h
  cases t with
  | cons h1 t => cases t with
    | cons h2 t => cases t with
      | cons h3 t => cases t with
        | cons h4 t => cases t with
          | cons h5 t =>
            cases t
            obtain rfl := h1.str_inv
            obtain ⟨wa, ys, rfl, hwa, hys⟩ := h2.tup_inv
            obtain ⟨ps, rfl, hp⟩ := dhs_cells hys
            obtain rfl := h3.int_inv
            obtain rfl := h4.int_inv
            obtain ⟨ka, rfl, hka⟩ := dh_kind_inv h5
            exact ⟨a, rfl, wa, ps, ka, ha, hwa, hp, hka⟩
theorem dhs_pairs {D : Addr} {H : Hp} : ∀ {ρ : RowD} {xs : List V}, DHs D H xs (ρ.map pairD) → ∃ ps : List Addr, xs = ps.map V.ref ∧ Paired (PairRow H) ps ρ
  | [], _, .nil => ⟨[], rfl, .nil⟩
  | x :: ρ, _, .cons h t => by
    obtain ⟨ps, rfl, hp⟩ := dhs_pairs t
    obtain ⟨a, p, q, rfl, ha, h1, h2⟩ := DH.pair_inv h
    obtain ⟨b, p', q', rfl, hb, h3, h4⟩ := DH.pair_inv h1
    obtain rfl := h2.int_inv
    obtain rfl := h3.str_inv
    obtain rfl := h4.int_inv
    exact ⟨a :: ps, rfl, .cons ⟨b, ha, hb⟩ hp⟩
theorem row_inv {D : Addr} {H : Hp} {v : V} {ρ : RowD} (h : DH D H v (rowPD ρ)) : ∃ a, v = .ref a ∧ RowAt H a ρ := by
  obtain ⟨a, xs, rfl, ha, t⟩ := DH.tup_inv h
  obtain ⟨ps, rfl, hp⟩ := dhs_pairs t
  exact ⟨a, rfl, ps, ha, hp⟩
/-! ### found.append(..) -/
theorem app_read {K : PySem.W.Frag} {H0 H : Hp} {α : Type} {l : α → List (Nat × PyData)} {d : α → PyData} {σ : L2.St} {s : Nat} {Lf : Addr} {ds : List PyData} {Q : VK} (a : α) (h : FoundAt H0 (l a) σ Lf ds H) (hs : σ[s]? = some (some (.ref Lf))) (len : ds.length < 1000)
    (q : ∀ v H', FoundAt H0 (l a) σ Lf (ds ++ [d a]) H' → KeepD Lf H H' → Q v H') : tBM K "list" rAppend (tVar s) (tCons (tFm l d) tNil) σ H Q := by
  obtain ⟨vs, hv, hd⟩ := h.list
  refine ⟨.ref Lf, hs, .inl ⟨rfl, _, sqL hv⟩, a, Lf, h.src, fun H1 v s1 h1 => ?_⟩
  have big := sizeBig
  have l1 := hd.len
  refine ⟨Lf, vs, v, rfl, rfl, s1 _ _ hv, by omega, ?_⟩
  have kd := keepD_put (ws := vs ++ [v]) (s1 _ _ hv)
  refine q _ _ ⟨h.new, fun b o e => ?_, ⟨vs ++ [v], upd_same, ((hd.keep (KeepD.of s1)).app (.cons h1 .nil)).keep kd⟩, (h.src.keep s1).keepD kd ⟨_, upd_same⟩⟩ ((KeepD.of s1).trans kd)
  rw [upd_ne (ne_of_none e h.new)]
  exact s1 _ _ (h.keep _ _ e)
/-! ### the question of a right, or None -/
def qOf (R : Rt) (t : Int) : Option RowD := if usedB R t = true then some (rowQ R t) else none
theorem qOf_ok {R : Rt} (h : RtOk R) {t : Int} (t0 : 0 ≤ t) (t9 : t ≤ 9) : ∀ ρ, qOf R t = some ρ → RowOk ρ := by
  intro ρ e
  unfold qOf at e
  by_cases u : usedB R t = true
  · rw [if_pos u] at e
    cases e
    obtain ⟨b1, b2, b3, b4⟩ := kind_bounds h.kind t0 t9
    have lit : ∀ {i : Int}, -1000 ≤ i → i ≤ 1000 → i.natAbs.log2 < 1920 := fun {i} h1 h2 => by
      by_cases z : i.natAbs = 0
      · rw [z]
        decide
      · have : i.natAbs < 2 ^ 10 := by omega
        have := (Nat.log2_lt z).mpr this
        omega
    have mem : ∀ x ∈ rowQ R t, ∃ c ∈ R.ws, ∃ d ∈ daysOf (R.kind.lo t) (R.kind.hi t), x = ((c.1, d), c.2) := fun x hx => by
      obtain ⟨c, hc, hx⟩ := List.mem_flatMap.mp hx
      obtain ⟨d, hd, rfl⟩ := List.mem_map.mp hx
      exact ⟨c, hc, d, hd, rfl⟩
    refine ⟨?_, fun x hx => ?_, fun x hx => ?_⟩
    · show (rowOn R.ws (R.kind.lo t) (R.kind.hi t)).length ≤ 100
      rw [rowOn_len]
      have : R.ws.length * (R.kind.hi t + 1 - R.kind.lo t).toNat ≤ 3 * 10 := Nat.mul_le_mul h.many (by omega)
      omega
    · obtain ⟨c, hc, d, hd, rfl⟩ := mem x hx
      have k := h.ws c hc
      obtain ⟨i, hi, rfl⟩ := List.mem_map.mp hd
      have hi := List.mem_range.mp hi
      exact ⟨k.short, k.plain, k.ok, lit (by show -1000 ≤ R.kind.lo t + (i : Int); omega) (by show R.kind.lo t + (i : Int) ≤ 1000; omega)⟩
    · obtain ⟨c, hc, d, hd, rfl⟩ := mem x hx
      exact (h.ws c hc).lit
  · rw [if_neg u] at e
    cases e
/-- how the promises of the two questions are used -/
theorem q_opt {R : Rt} {t : Int} {H' : Hp} {Q : VK} (h : ∀ v, OptAt H' v (qOf R t) → Q v H') : (usedB R t = false → Q .non H') ∧ (usedB R t = true → ∀ p, RowAt H' p (rowQ R t) → Q (.ref p) H') := by
  refine ⟨fun e => h _ ?_, fun e p hp => h _ ?_⟩
  · unfold qOf
    rw [e]
    exact rfl
  · unfold qOf
    rw [if_pos e]
    exact ⟨p, rfl, hp⟩
end AskG
/-! More displays: items of a list that a name holds, a tuple that a name holds + a tuple. -/
namespace AskG
open PySem PySem.Spec PyProof.Rows L2
theorem SrcM.lst {l : List (Nat × PyData)} {D : Addr} {σ : L2.St} {H : Hp} {i : Nat} {ds : List PyData} (h : SrcM l D σ H) (m : (i, .list ds) ∈ l) : ∃ a xs, σ[i]? = some (some (.ref a)) ∧ H a = some (.lst xs) ∧ DHs D H xs ds := by
  obtain ⟨v, hv, hd⟩ := h.1 _ m
  obtain ⟨a, xs, rfl, _, ha, t⟩ := DH.lst_inv hd
  exact ⟨a, xs, hv, ha, t⟩
theorem DHs.get {D : Addr} {H : Hp} : ∀ {xs : List V} {ds : List PyData}, DHs D H xs ds → ∀ {k : Nat} {d : PyData}, ds[k]? = some d → ∃ v, xs[k]? = some v ∧ DH D H v d
  | _, _, .nil, k, d, e => by cases k <;> cases e
  | _, _, .cons h t, 0, d, e => by
    cases e
    exact ⟨_, rfl, h⟩
  | _, _, .cons h t, k + 1, d, e => DHs.get t e
section
variable {X : Cx} {e : Expr} {α : Type} {l : α → List (Nat × PyData)}
theorem fm_ix {i k : Nat} {ds : List PyData} {d : PyData} (h : PE X e (tOp (rIxL X.K) (tVar i) (tC (.int (k : Int))))) (m : ∀ a, (i, .list ds) ∈ l a) (hd : ds[k]? = some d) : PE X e (tFm l fun _ => d) := PE.less h fun σ H Q ⟨a, D, q⟩ => by
  obtain ⟨b, xs, hv, hb, t⟩ := q.1.lst (m a)
  obtain ⟨v, hk, hh⟩ := t.get hd
  exact ⟨_, hv, b, xs, _, v, rfl, rfl, sqL hb, atI_nat hk, q.2 H v (Same.refl _) hh⟩
theorem fm_cat {i : Nat} {te : TE} {ds : List PyData} {es : α → List PyData} (h : PE X e (tOp (rCatA X.K) (tVar i) te)) (ht : ∀ σ H Q, tFm l (fun a => .tuple (es a)) σ H Q → te σ H Q) (m : ∀ a, (i, .tuple ds) ∈ l a) (l1 : ds.length ≤ 1000) (l2 : ∀ a, (es a).length ≤ 1000) : PE X e (tFm l fun a => .tuple (ds ++ es a)) := PE.less h fun σ H Q ⟨a, D, q⟩ => by
  obtain ⟨b, xs, hv, hb, t⟩ := q.1.tup (m a)
  refine ⟨_, hv, ht σ H _ ⟨a, D, q.1, fun H1 v1 s1 h1 => ?_⟩⟩
  obtain ⟨c, ys, rfl, hc, t2⟩ := h1.tup_inv
  exact cat_from (s1 _ _ hb) (t.keep (KeepD.of s1)) hc t2 l1 (l2 a) fun H2 v2 s2 h2 => q.2 _ _ (s1.trans s2) h2
end
end AskG
namespace P20
open PySem PySem.Spec PyProof.Rows L2 AskG
abbrev sLong : Stmt := topS 22
theorem scLong : FnScope ["_law_window"] [] (defScope sLong) := ⟨rfl, rfl, rfl, by decide +kernel, rfl, by decide +kernel, by decide +kernel⟩
def Rw : Rt := ⟨"ann", [("a", 3)], 0, 9, .win 6⟩
def Rp : Rt := ⟨"bob", [("a", 1), ("b", -2)], 1, 9, .per 1 8⟩
def longD : PyData := .tuple [.tuple [.str "p", rightD Rw], .tuple [.str "q", rightD Rp]]
def lW : Unit → List (Nat × PyData) := fun _ => [(0, rightD Rw)]
/-- new data -/
def prData (d : PyData) : Pr := fun vs H Q => vs = [] ∧ (∃ D, Taken H D) ∧ ∀ H' v D, Same H H' → DH D H' v d → Q v H'
/-- a new list of data -/
def prList (ds : List PyData) : Pr := fun vs H Q => vs = [] ∧ (∃ D, Taken H D) ∧ ∀ H' p D ys, Same H H' → H' p = some (.lst ys) → DHs D H' ys ds → Q (.ref p) H'
section
variable {P : Program} {w : World} {K : PySem.W.Frag} {mg : Str → Option Value} {base : Heap}
theorem ok_long {f : Addr} {fd : FuncData} {k : Nat} (F : Fun K "_law_long_rights" "_law_long_rights" sLong f fd) : FnG P w K mg base (k + 1) f fd [] (prData longD) := by
  refine okG F scLong (fun vs H Q h => by rw [h.1]; rfl) (fun cdv A outer s H vs Q hr h => ?_)
  obtain ⟨rfl, ⟨D0, hD0⟩, q⟩ := h
  refine ⟨_, pss_cons (ps_set (i := 0) scLong.nd rfl (.inl rfl) (show PE _ _ (tNew (rightD Rw)) from (new_tup (news_cons (new_str pe_str) (news_cons (new_tup (news_cons (new_tup (news_cons (new_str pe_str) (news_cons (new_int pe_int) news_nil)) (by decide)) news_nil) (by decide)) (news_cons (new_int pe_int) (news_cons (new_int pe_int) (news_cons (new_tup (news_cons (new_str pe_str) (news_cons (new_int pe_int) news_nil)) (by decide)) news_nil))))) (by decide))))
    (pss_one (ps_ret (show PE _ _ (tFm lW fun _ => longD) from (fm_tup (fm_cons (fm_tup (fm_cons (fm_new (new_str pe_str)) (fm_cons (fm_var (pv 0) (fun _ => (.head _))) fm_nil)) (fun _ => by show 2 ≤ 1000; decide)) (fm_cons (fm_tup (fm_cons (fm_new (new_str pe_str)) (fm_cons (fm_tup (fm_cons (fm_new (new_str pe_str)) (fm_cons (fm_tup (fm_cons (fm_tup (fm_cons (fm_new (new_str pe_str)) (fm_cons (fm_new (new_int pe_int)) fm_nil)) (fun _ => by show 2 ≤ 1000; decide)) (fm_cons (fm_tup (fm_cons (fm_new (new_str pe_str)) (fm_cons (fm_new (new_neg (pe_un un_neg pe_int))) fm_nil)) (fun _ => by show 2 ≤ 1000; decide)) fm_nil)) (fun _ => by show 2 ≤ 1000; decide)) (fm_cons (fm_new (new_int pe_int)) (fm_cons (fm_new (new_int pe_int)) (fm_cons (fm_tup (fm_cons (fm_new (new_str pe_str)) (fm_cons (fm_new (new_int pe_int)) (fm_cons (fm_new (new_int pe_int)) fm_nil))) (fun _ => by show 3 ≤ 1000; decide)) fm_nil))))) (fun _ => by show 5 ≤ 1000; decide)) fm_nil)) (fun _ => by show 2 ≤ 1000; decide)) fm_nil)) (fun _ => by show 2 ≤ 1000; decide))))), ?_⟩
  refine iSeq (iAsg fun H1 v1 s1 n1 => ?_)
  refine iName ?_
  dsimp only
  refine iRet ⟨(), D0, ⟨fun x hx => ?_, hD0.keep s1⟩, fun H2 v2 s2 h2 => q H2 v2 D0 (s1.trans s2) h2⟩
  rw [List.mem_singleton.mp hx]
  exact ⟨v1, rfl, n1 D0 hD0⟩
end
end P20
/-! AskNk: what a set asks of its elements, told for nested keys (texts, numbers, tuples of them). -/
namespace Ask
open PySem PySem.Spec PyProof.Rows L2

/-- v is of no class statement, told n levels down -/
def NoCls (P : Program) (w : World) (n : Nat) (s : Shared) (v : Value) : Prop :=
  ∀ (A : Around) (E : Value → Shared → Prop) (Q : Bool → Shared → Prop), Q false s → wpAny (model P w) A (ofAClassStatement n v) Q E s

theorem NoCls.flat {P : Program} {w : World} {n : Nat} {s : Shared} {v : Value} (e : ofAClassStatement n v = pure false) : NoCls P w n s v :=
  fun A E Q hq => e ▸ wpAny_pure hq

theorem NoCls.tup {P : Program} {w : World} {n : Nat} {s : Shared} {b : Addr} {o : Obj} {items : Array Value} {m : Nat}
    (ho : s.heap.get? b = some o) (hc : o.cls = .type "tuple") (hd : o.data = .seq items m) (hall : ∀ v ∈ items.toList, NoCls P w n s v) :
    NoCls P w (n + 1) s (.ref b) := by
  intro A E Q hq
  have ty : s.TypeIs (.ref b) "tuple" := ⟨o, ho, hc⟩
  unfold ofAClassStatement
  refine wpAny_bind (wpAny_typeOf ty ?_)
  dsimp only
  simp only [show (("tuple" : String) == "tuple") = true from rfl, if_true, Bool.not_true, Bool.false_eq_true, if_false]
  try refine wpAny_bind (wpAny_pure ?_)
  try simp only [Bool.not_true, Bool.false_eq_true, if_false]
  refine wpAny_bind (m := seqItems? (.ref b)) (wpAny_seqItems ho hd ?_)
  dsimp only
  refine wpAny_bind (m := forIn items _ _) ?_
  rw [← Array.forIn_toList]
  let J : List Value → (Option Bool × PUnit) → Shared → Prop := fun r acc u => acc.1 = none ∧ u = s ∧ ∀ v ∈ r, NoCls P w n s v
  refine wpAny_forIn_list _ J _ ?_ ?_ _ _ ⟨rfl, rfl, hall⟩
  · intro v r acc u hJ
    obtain ⟨_, eu, hr⟩ := hJ
    subst eu
    refine wpAny_bind (hr v (List.mem_cons.mpr (.inl rfl)) _ _ _ ?_)
    simp only [Bool.false_eq_true, if_false]
    exact wpAny_pure ⟨rfl, rfl, fun z hz => hr z (List.mem_cons.mpr (.inr hz))⟩
  · intro acc u hJ
    obtain ⟨a1, a2⟩ := acc
    obtain ⟨e1, eu, _⟩ := hJ
    cases e1
    subst eu
    exact wpAny_pure hq

mutual
theorem noCls_key {P : Program} {w : World} : ∀ (k : NestedKey) (v : Value) (n : Nat) (s : Shared), NestedIs s.heap k v → k.depth ≤ n → NoCls P w n s v
  | .none, _, n, s, x, _ => by cases x; exact .flat (by cases n <;> rfl)
  | .num _, _, n, s, x, _ => by cases x <;> exact .flat (by cases n <;> rfl)
  | .text _, _, n, s, x, _ => by cases x; exact .flat (by cases n <;> rfl)
  | .tup ks, _, 0, s, _, hn => absurd hn (by simp only [NestedKey.depth]; omega)
  | .tup ks, _, n + 1, s, x, hn => by
    cases x with
    | tup hg hc hd hk => exact .tup hg hc hd (noCls_keys ks _ n s hk (by simp only [NestedKey.depth] at hn; omega))
theorem noCls_keys {P : Program} {w : World} : ∀ (ks : List NestedKey) (vs : List Value) (n : Nat) (s : Shared), NestedAll s.heap ks vs → NestedKey.depthAll ks ≤ n → ∀ v ∈ vs, NoCls P w n s v
  | [], _, n, s, x, _, v, hv => by cases x; cases hv
  | k :: ks, _, n, s, x, hn, v, hv => by
    cases x with
    | cons x1 x2 =>
      simp only [NestedKey.depthAll] at hn
      cases hv with
      | head => exact noCls_key k _ n s x1 (by omega)
      | tail _ hv => exact noCls_keys ks _ n s x2 (by omega) v hv
end

/-- the element at b is the key k -/
abbrev IsK (P : Program) (w : World) (h : Heap) (k : NestedKey) (b : Addr) : Prop := (nestedKind P w).is h k b

section
variable {P : Program} {w : World} {A : Around} {E : Value → Shared → Prop} {s : Shared}

/-- looking among keys for a key can't be seen -/
theorem seen_key {k : NestedKey} {b : Addr} {Q : Bool → Shared → Prop} (hk : IsK P w s.heap k b) {ys : List Value} (hy : ∀ y ∈ ys, ∃ k' c, y = Value.ref c ∧ IsK P w s.heap k' c) (hq : Q false s) :
    wpAny (model P w) A (searchCouldBeSeen (.ref b) ys) Q E s := by
  unfold searchCouldBeSeen
  let J : List Value → (Option Bool × PUnit) → Shared → Prop := fun r acc u => acc.1 = none ∧ u = s ∧ ∀ y ∈ r, ∃ k' c, y = Value.ref c ∧ IsK P w s.heap k' c
  refine wpAny_bind (wpAny_forIn_list _ J _ ?_ ?_ _ _ ⟨rfl, rfl, hy⟩)
  · intro v r acc u hJ
    obtain ⟨_, eu, hr⟩ := hJ
    subst eu
    obtain ⟨k', c, ev, hc⟩ := hr v (List.mem_cons.mpr (.inl rfl))
    subst ev
    have next : ∀ y ∈ r, ∃ k' c, y = Value.ref c ∧ IsK P w u.heap k' c := fun z hz => hr z (List.mem_cons.mpr (.inr hz))
    dsimp only
    rcases Bool.eq_false_or_eq_true (b == c || (carriedByValue (.ref b) && carriedByValue (.ref c))) with hv | hv
    · exact wp_if_pos hv (wpAny_pure ⟨rfl, rfl, next⟩)
    · refine wp_if_neg (by rw [hv]; decide) ?_
      refine wpAny_bind ((nestedKind P w).quiet hk ?_)
      simp only [Bool.not_true, Bool.false_eq_true, if_false]
      refine wpAny_bind ((nestedKind P w).quiet hc ?_)
      simp only [Bool.not_true, Bool.false_eq_true, if_false]
      refine wpAny_bind (noCls_key k _ 8 u hk.1 hk.2 _ _ _ ?_)
      simp only [Bool.false_eq_true, if_false]
      refine wpAny_bind (noCls_key k' _ 8 u hc.1 hc.2 _ _ _ ?_)
      simp only [Bool.false_eq_true, if_false]
      exact wpAny_pure ⟨rfl, rfl, next⟩
  · intro acc u hJ
    obtain ⟨a1, a2⟩ := acc
    obtain ⟨e1, eu, _⟩ := hJ
    cases e1
    subst eu
    exact wpAny_pure hq
end
end Ask
/-! AskSk: sets of nested keys, fewer than 64: looking for a key. -/
namespace Ask
open PySem PySem.Spec PyProof.Rows L2

abbrev legAt (m : Nat) (h : Int) (c : Nat) : SetTable.Probe := nth m (runAt m (SetTable.bits h % (m + 1)) (SetTable.bits h)) c
theorem adv_clean {m : Nat} {p : SetTable.Probe} (e : p.dummy = none) : (adv m p).dummy = none := by
  unfold adv
  by_cases z : p.more > 0
  · rw [if_pos z]; exact e
  · rw [if_neg z]; exact e
theorem stand_clean (m : Nat) (h : Int) : ∀ c, (legAt m h c).dummy = none
  | 0 => rfl
  | c + 1 => by
    show (nth m _ (c + 1)).dummy = none
    rw [nth_succ]
    exact adv_clean (stand_clean m h c)
theorem stand_on (m : Nat) (h : Int) (c q : Nat) : nth m (legAt m h c) q = legAt m h (c + q) := (nth_add m c _ q).symm

/-- the set at a has the keys of L, each in the object beside it -/
structure SetK (P : Program) (w : World) (h : Heap) (a : Addr) (L : List (Addr × NestedKey)) (es : Array (Int × Value)) (ep : Nat) (t : SetTable) : Prop where
  obj : ∃ o, h.get? a = some o ∧ o.ExactSet ∧ o.data = .set es ep t
  ent : es.toList = L.map fun p => (p.2.hash w, Value.ref p.1)
  tab : TabOk t (L.map fun p => p.2.hash w)
  one : (L.map Prod.snd).Nodup
  keys : ∀ p ∈ L, IsK P w h p.2 p.1
  lead : w.params.followText "set-order" = true ∨ t.led = true
  air : L.length * 5 < t.mask * 3
  few : L.length < 64

section
variable {P : Program} {w : World} {A : Around} {E : Value → Shared → Prop} {s : Shared}
variable {a : Addr} {L : List (Addr × NestedKey)} {es : Array (Int × Value)} {ep : Nat} {t : SetTable}

theorem ent_len {L : List (Addr × NestedKey)} {es : Array (Int × Value)} (e : es.toList = L.map fun p => (p.2.hash w, Value.ref p.1)) : es.size = L.length := by
  rw [← Array.length_toList, e, List.length_map]
theorem fits_of {t : SetTable} {n : Nat} (h1 : t.place.size = n) (h2 : t.dummies = #[]) (h3 : n ≤ t.mask) : t.fits n = true := by
  unfold SetTable.fits SetTable.fill
  rw [h2, Bool.and_eq_true]
  exact ⟨beq_iff_eq.mpr h1, decide_eq_true (by rw [h1]; exact h3)⟩
theorem SetK.places (S : SetK P w s.heap a L es ep t) : t.place.size = L.length := by
  have z := S.tab.sz
  rw [List.length_map] at z
  exact z
theorem SetK.fit (S : SetK P w s.heap a L es ep t) : t.fits es.size = true := by
  have z1 := S.air
  have z2 := ent_len S.ent
  exact fits_of (by rw [z2]; exact S.places) S.tab.dm (by omega)
theorem SetK.at (S : SetK P w s.heap a L es ep t) {i : Nat} {p : Addr × NestedKey} (e : L[i]? = some p) : es[i]? = some (p.2.hash w, Value.ref p.1) := by
  rw [← Array.getElem?_toList, S.ent, List.getElem?_map, e]
  rfl
theorem SetK.hashes (S : SetK P w s.heap a L es ep t) {i : Nat} {p : Addr × NestedKey} (e : L[i]? = some p) : (es[i]?.map (·.1)).getD 0 = p.2.hash w := by
  rw [S.at e]
  rfl
theorem SetK.stays (S : SetK P w s.heap a L es ep t) : ¬ t.gaveWay = true := by
  unfold SetTable.gaveWay
  rw [mask_odd S.tab.mok]
  decide

/-- what lies behind a candidate p whose slot is the q-th of the way -/
theorem behind (S : SetK P w s.heap a L es ep t) {x : Addr} {k : NestedKey} (hx : IsK P w s.heap k x) (room : A.units + 8 < cLine) {Q : SetFound → Shared → Prop} {i q f : Nat} {p : Addr × NestedKey}
    (hp : L[i]? = some p) (hi : t.place.toList[i]? = some (way t.mask (k.hash w) q)) {nx : SetTable.Probe}
    (same : p.2 = k → Q (.there none) s) (other : p.2 ≠ k → wpAny (model P w) A (setSearchFrom a (.ref x) (k.hash w) true f (some nx)) Q E s) :
    wpAny (model P w) A (searchRest a (.ref x) (k.hash w) true f es t (way t.mask (k.hash w) q) i nx) Q E s := by
  obtain ⟨o, ho, _, hd⟩ := S.obj
  have live := slot_live S.tab.ris hi
  have hpk := S.keys p (List.mem_of_getElem? hp)
  unfold searchRest
  rw [S.at hp]
  dsimp only
  refine wpAny_bind (wpAny_holding ((nestedKind P w).eqBool room hpk hx (wpAny_bind (wpAny_setState_of ho hd S.fit ?_))))
  dsimp only
  rcases Classical.em (p.2 = k) with c | c
  · exact wp_if_pos (by simp [c]) (wpAny_pure (same c))
  · refine wp_if_neg (by simp [c]) ?_
    try refine wpAny_bind (wpAny_pure ?_)
    rw [sameMem]
    dsimp only
    simp only [if_true, live, S.at hp]
    refine wpAny_bind (wpAny_isSame_ref_self (wpAny_bind (wpAny_pure ?_)))
    simp only [if_true]
    exact wp_if_neg (by simp [c]) (other c)

/-- from the c-th stand on; K is the first empty slot of the way -/
theorem look (S : SetK P w s.heap a L es ep t) {x : Addr} {k : NestedKey} (hx : IsK P w s.heap k x) (room : A.units + 8 < cLine) {K : Nat} (hb : K < 10 * SetTable.turns t.mask)
    (free : way t.mask (k.hash w) K ∉ t.place.toList) (taken : ∀ c, c < K → way t.mask (k.hash w) c ∈ t.place.toList) {Q : SetFound → Shared → Prop}
    (yes : k ∈ L.map Prod.snd → Q (.there none) s) (no : k ∉ L.map Prod.snd → Q (.free (way t.mask (k.hash w) K) false) s) (f : Nat) :
    ∀ (c : Nat) (st : Option SetTable.Probe), st.getD (t.probeStart (k.hash w)) = legAt t.mask (k.hash w) c → c ≤ K → K < c + f →
      (∀ (i : Nat) (p : Addr × NestedKey), L[i]? = some p → p.2 = k → ∃ d, c ≤ d ∧ d < K ∧ t.place.toList[i]? = some (way t.mask (k.hash w) d)) →
      wpAny (model P w) A (setSearchFrom a (.ref x) (k.hash w) true f st) Q E s := by
  obtain ⟨o, ho, _, hd⟩ := S.obj
  induction f with
  | zero => intro c st _ h1 h2; exact absurd h2 (by omega)
  | succ f ih =>
    intro c st est hc hf ahead
    have onj : ∀ q, (nth t.mask (legAt t.mask (k.hash w) c) q).j = way t.mask (k.hash w) (c + q) := fun q => by rw [stand_on]
    have toK : c + (K - c) = K := by omega
    -- a place before c's way that has the key's hash and is not ahead
    have gone : ∀ (i : Nat) (p : Addr × NestedKey), L[i]? = some p → p.2 = k → (es[i]?.map (·.1)).getD 0 = k.hash w := fun i p e1 e2 => by rw [S.hashes e1, e2]
    rw [setSearchFrom_succ]
    refine wpAny_bind (wpAny_setState_of ho hd S.fit ?_)
    dsimp only
    refine wp_if_neg S.stays ?_
    try refine wpAny_bind (wpAny_pure ?_)
    have told := go_spec t S.tab.ris S.tab.dm (fun i => (es[i]?.map (·.1)).getD 0) (k.hash w) (10 * SetTable.turns t.mask) (K - c) (legAt t.mask (k.hash w) c) (stand_clean _ _ c) (by omega)
      (fun q hq => by rw [onj]; exact taken _ (by omega)) (by rw [onj, toK]; exact free)
    cases told with
    | inr z =>
      obtain ⟨none_, got⟩ := z
      have got' : t.probe (fun i => (es[i]?.map (·.1)).getD 0) (k.hash w) (st.getD (t.probeStart (k.hash w))) = some (.empty (way t.mask (k.hash w) K) none) := by
        rw [est]
        rw [onj, toK] at got
        exact got
      rw [got']
      dsimp only
      refine wpAny_pure (no fun hm => ?_)
      obtain ⟨p, pm, pk⟩ := List.mem_map.mp hm
      obtain ⟨i, hi⟩ := List.mem_iff_getElem?.mp pm
      obtain ⟨d, d1, d2, d3⟩ := ahead i p hi pk
      have ed : c + (d - c) = d := by omega
      exact none_ (d - c) i (by omega) (by rw [onj, ed]; exact d3) (gone i p hi pk)
    | inl z =>
      obtain ⟨q, i, hq, hi, _, before, got⟩ := z
      rw [onj] at hi
      have got' : t.probe (fun i => (es[i]?.map (·.1)).getD 0) (k.hash w) (st.getD (t.probeStart (k.hash w))) = some (.candidate (way t.mask (k.hash w) (c + q)) i (legAt t.mask (k.hash w) (c + (q + 1)))) := by
        rw [est]
        rw [onj, stand_on] at got
        exact got
      rw [got']
      dsimp only
      have il : i < L.length := by
        have := (List.getElem?_eq_some_iff.mp hi).1
        rw [Array.length_toList, S.places] at this
        exact this
      obtain ⟨p, hp⟩ : ∃ p, L[i]? = some p := ⟨_, List.getElem?_eq_getElem il⟩
      have rest : wpAny (model P w) A (searchRest a (.ref x) (k.hash w) true f es t (way t.mask (k.hash w) (c + q)) i (legAt t.mask (k.hash w) (c + (q + 1)))) Q E s := by
        refine behind S hx room hp hi (fun e => yes (List.mem_map.mpr ⟨p, List.mem_of_getElem? hp, e⟩)) fun ne => ?_
        refine ih (c + (q + 1)) _ rfl (by omega) (by omega) fun i' p' h' k' => ?_
        obtain ⟨d, d1, d2, d3⟩ := ahead i' p' h' k'
        refine ⟨d, ?_, d2, d3⟩
        rcases Nat.lt_trichotomy d (c + q) with y | y | y
        · have ed : c + (d - c) = d := by omega
          exact absurd (gone i' p' h' k') (before (d - c) i' (by omega) (by rw [onj, ed]; exact d3))
        · rw [y] at d3
          have e1 := (slot_live S.tab.ris d3).symm.trans (slot_live S.tab.ris hi)
          injection e1 with e1
          rw [e1, hp] at h'
          cases h'
          exact absurd k' ne
        · omega
      rcases Classical.em (t.led = true) with c1 | c1
      · refine wp_if_neg (by simp [c1]) ?_
        try refine wpAny_bind (wpAny_pure ?_)
        exact rest
      · refine wp_if_pos (by simp [c1]) (wpAny_bind (seen_key hx (fun y hy => ?_) (wp_if_neg (by decide) ?_)))
        · obtain ⟨e, he, rfl⟩ := List.mem_map.mp hy
          have m : e ∈ es.toList := by
            have z : e ∈ es ∧ e.1 = k.hash w := by simpa using he
            simpa using z.1
          rw [S.ent] at m
          obtain ⟨p2, m2, rfl⟩ := List.mem_map.mp m
          exact ⟨p2.2, p2.1, rfl, S.keys p2 m2⟩
        · try refine wpAny_bind (wpAny_pure ?_)
          exact rest

/-- looking for a key that is to be put in -/
theorem lookup (S : SetK P w s.heap a L es ep t) {x : Addr} {k : NestedKey} (hx : IsK P w s.heap k x) (room : A.units + 8 < cLine) {Q : SetFound → Shared → Prop} (yes : k ∈ L.map Prod.snd → Q (.there none) s)
    (no : ∀ K, k ∉ L.map Prod.snd → way t.mask (k.hash w) K ∉ t.place.toList → (∀ c, c < K → way t.mask (k.hash w) c ∈ t.place.toList) → Q (.free (way t.mask (k.hash w) K) false) s) :
    wpAny (model P w) A (setSearch a (.ref x) (k.hash w) true) Q E s := by
  have air := S.air
  obtain ⟨K, small, free, taken⟩ := S.tab.first (by rw [List.length_map]; omega) (k.hash w)
  have tm : SetTable.turns t.mask ≤ 142 := by
    unfold SetTable.turns
    rcases S.tab.mok with e | e | e <;> omega
  unfold setSearch
  refine look S hx room small free taken yes (fun n => no K n free taken) 100000 0 none rfl (Nat.zero_le _) (by omega) fun i p hp pk => ?_
  have il : i < t.place.toList.length := by
    rw [Array.length_toList, S.places]
    exact (List.getElem?_eq_some_iff.mp hp).1
  have hh : (L.map fun p => p.2.hash w)[i]? = some (k.hash w) := by
    rw [List.getElem?_map, hp, ← pk]
    rfl
  obtain ⟨d, d1, d2⟩ := S.tab.before free hh (List.getElem?_eq_getElem il)
  exact ⟨d, Nat.zero_le _, d1, by rw [List.getElem?_eq_getElem il, d2]⟩
end
end Ask
/-! AskAk: sets of nested keys, fewer than 64: putting a key in. -/
namespace Ask
open PySem PySem.Spec PyProof.Rows L2

/-- asked whether its hash is one by value, v answers something, n levels down -/
def ByVal (P : Program) (w : World) (n : Nat) (s : Shared) (v : Value) : Prop :=
  ∀ (A : Around) (E : Value → Shared → Prop) (Q : Bool → Shared → Prop), (∀ b, Q b s) → wpAny (model P w) A (hashByValue n v) Q E s
theorem ByVal.flat {P : Program} {w : World} {n : Nat} {s : Shared} {v : Value} {c : Bool} (e : hashByValue n v = pure c) : ByVal P w n s v :=
  fun A E Q hq => e ▸ wpAny_pure (hq c)
theorem ByVal.tup {P : Program} {w : World} {n : Nat} {s : Shared} {b : Addr} {o : Obj} {items : Array Value} {m : Nat}
    (ho : s.heap.get? b = some o) (hc : o.cls = .type "tuple") (hd : o.data = .seq items m) (hall : ∀ v ∈ items.toList, ByVal P w n s v) :
    ByVal P w (n + 1) s (.ref b) := by
  intro A E Q hq
  have ty : s.TypeIs (.ref b) "tuple" := ⟨o, ho, hc⟩
  unfold hashByValue
  refine wpAny_bind (wpAny_specialOf ty F.slot_tuple_hash.lookup ?_)
  refine wpAny_bind (m := seqItems? (.ref b)) (wpAny_seqItems ho hd ?_)
  refine wpAny_bind (m := forIn items _ _) ?_
  rw [← Array.forIn_toList]
  let J : List Value → (Option Bool × PUnit) → Shared → Prop := fun r acc u => acc.1 = none ∧ u = s ∧ ∀ v ∈ r, ByVal P w n s v
  refine wpAny_forIn_list _ J _ ?_ ?_ _ _ ⟨rfl, rfl, hall⟩
  · intro v r acc u hJ
    obtain ⟨_, eu, hr⟩ := hJ
    subst eu
    refine wpAny_bind (hr v (List.mem_cons.mpr (.inl rfl)) _ _ _ fun c => ?_)
    cases c with
    | true =>
      simp only [Bool.not_true, Bool.false_eq_true, if_false]
      exact wpAny_pure ⟨rfl, rfl, fun z hz => hr z (List.mem_cons.mpr (.inr hz))⟩
    | false =>
      simp only [Bool.not_false, if_true]
      exact wpAny_pure (wpAny_pure (hq false))
  · intro acc u hJ
    obtain ⟨a1, a2⟩ := acc
    obtain ⟨e1, eu, _⟩ := hJ
    cases e1
    subst eu
    exact wpAny_pure (hq true)
mutual
theorem byVal_key {P : Program} {w : World} : ∀ (k : NestedKey) (v : Value) (n : Nat) (s : Shared), NestedIs s.heap k v → k.depth ≤ n → ByVal P w n s v
  | .none, _, n, s, x, _ => by cases x; exact .flat (c := true) (by cases n <;> rfl)
  | .num _, _, n, s, x, _ => by cases x <;> exact .flat (c := true) (by cases n <;> rfl)
  | .text _, _, n, s, x, _ => by cases x; exact .flat (c := false) (by cases n <;> rfl)
  | .tup ks, _, 0, s, _, hn => absurd hn (by simp only [NestedKey.depth]; omega)
  | .tup ks, _, n + 1, s, x, hn => by
    cases x with
    | tup hg hc hd hk => exact .tup hg hc hd (byVal_keys ks _ n s hk (by simp only [NestedKey.depth] at hn; omega))
theorem byVal_keys {P : Program} {w : World} : ∀ (ks : List NestedKey) (vs : List Value) (n : Nat) (s : Shared), NestedAll s.heap ks vs → NestedKey.depthAll ks ≤ n → ∀ v ∈ vs, ByVal P w n s v
  | [], _, n, s, x, _, v, hv => by cases x; cases hv
  | k :: ks, _, n, s, x, hn, v, hv => by
    cases x with
    | cons x1 x2 =>
      simp only [NestedKey.depthAll] at hn
      cases hv with
      | head => exact byVal_key k _ n s x1 (by omega)
      | tail _ hv => exact byVal_keys ks _ n s x2 (by omega) v hv
end

/-- a key stays when a set changes -/
theorem isK_past {P : Program} {w : World} {h h' : Heap} {k : NestedKey} {a b : Addr} {o : Obj} {es : Array (Int × Value)} {ep : Nat} {t : SetTable}
    (hb : IsK P w h k b) (ho : h.get? a = some o) (hd : o.data = .set es ep t) (sb : Heap.SameBut a h h') : IsK P w h' k b := by
  refine ⟨NestedIs.at (fun c u vs n hc hv => ?_) k _ hb.1, hb.2⟩
  refine (sb.2 c fun e => ?_).trans hc
  rw [e, ho] at hc
  cases hc
  rw [hd] at hv
  exact nomatch hv
theorem isK_kept {P : Program} {w : World} {h h' : Heap} {k : NestedKey} {b : Addr} (hb : IsK P w h k b) (keep : ∀ c o, h.get? c = some o → h'.get? c = some o) : IsK P w h' k b :=
  ⟨NestedIs.at (fun c u _ _ hc _ => keep c u hc) k _ hb.1, hb.2⟩

section
variable {P : Program} {w : World}
abbrev entOf (w : World) (L : List (Addr × NestedKey)) : List (Int × Value) := L.map fun p => (p.2.hash w, Value.ref p.1)

/-- what a new order of the places makes of the entries -/
theorem picked {α : Type} (L : List α) : ∀ n, n ≤ L.length → (List.range n).filterMap (fun i => L[i]?) = L.take n
  | 0, _ => rfl
  | n + 1, h => by
    have z : L[n]? = some L[n] := List.getElem?_eq_getElem h
    rw [List.range_succ, List.filterMap_append, picked L n (by omega), List.take_succ, z, List.filterMap_cons_some z]
    rfl
theorem reorder {L : List (Addr × NestedKey)} {es : Array (Int × Value)} {order : Array Nat} (hr : es.toList = entOf w L) (hp : order.toList.Perm (List.range L.length)) :
    ∃ M, (order.filterMap (es[·]?)).toList = entOf w M ∧ M.Perm L ∧ (M.map fun p => p.2.hash w) = order.toList.map fun i => (es.map (·.1)).getD i 0 := by
  have one : ∀ i, i < L.length → ∃ p, L[i]? = some p ∧ es[i]? = some (p.2.hash w, Value.ref p.1) := fun i h => by
    refine ⟨L[i], List.getElem?_eq_getElem h, ?_⟩
    rw [← Array.getElem?_toList, hr, List.getElem?_map, List.getElem?_eq_getElem h]
    rfl
  have all : ∀ l : List Nat, (∀ i ∈ l, i < L.length) → l.filterMap (fun i => es[i]?) = entOf w (l.filterMap fun i => L[i]?) ∧
      (l.filterMap fun i => L[i]?).map (fun p => p.2.hash w) = l.map fun i => (es.map (·.1)).getD i 0 := by
    intro l
    induction l with
    | nil => exact fun _ => ⟨rfl, rfl⟩
    | cons i l ih =>
      intro hl
      obtain ⟨p, e1, e2⟩ := one i (hl i (List.mem_cons.mpr (.inl rfl)))
      obtain ⟨i1, i2⟩ := ih fun j hj => hl j (List.mem_cons.mpr (.inr hj))
      have e3 : (es.map (·.1)).getD i 0 = p.2.hash w := by
        have e4 : (es.map (·.1))[i]? = some (p.2.hash w) := by
          rw [Array.getElem?_map, e2]
          rfl
        simp [Array.getD_eq_getD_getElem?, e4]
      refine ⟨?_, ?_⟩
      · rw [List.filterMap_cons_some e2, List.filterMap_cons_some e1, i1]
        rfl
      · rw [List.filterMap_cons_some e1, List.map_cons, List.map_cons, i2, e3]
  obtain ⟨z1, z2⟩ := all order.toList fun i hi => List.mem_range.mp (hp.mem_iff.mp hi)
  refine ⟨_, by first | (rw [Array.toList_filterMap]; exact z1) | simpa using z1, ?_, z2⟩
  have z3 := hp.filterMap fun i => L[i]?
  rw [picked L L.length (Nat.le_refl _), List.take_length] at z3
  exact z3

variable {A : Around} {E : Value → Shared → Prop} {s : Shared} {a : Addr} {L : List (Addr × NestedKey)} {es : Array (Int × Value)} {ep : Nat} {t : SetTable}

/-- all laid anew in a larger table -/
theorem regrow {o : Obj} (ho : s.heap.get? a = some o) (hex : o.ExactSet) (hd : o.data = .set es ep t) (ent : es.toList = entOf w L) (hsz : t.place.size = es.size) (hdm : t.dummies = #[]) (hfl : es.size ≤ t.mask)
    (one : (L.map Prod.snd).Nodup) (keys : ∀ p ∈ L, IsK P w s.heap p.2 p.1) (lead : w.params.followText "set-order" = true ∨ t.led = true) (few : L.length < 64) {want M : Nat}
    (big : SetTable.sizeAbove want - 1 = M) (mok : MaskOk M) (top : SetTable.sizeAbove want ≤ 128) (air : L.length * 5 < M * 3) {Q : Unit → Shared → Prop}
    (hQ : ∀ h' L' es' ep' t', Heap.SameBut a s.heap h' → SetK P w h' a L' es' ep' t' → L'.Perm L → Q () { s with heap := h' }) : wpAny (model P w) A (setRelay a want) Q E s := by
  have n1 : es.size = L.length := ent_len ent
  obtain ⟨u, order, e, hp, tab, em, el, _, _⟩ := relaid_ok t (hs := es.map (·.1)) (wanted := want) big mok (by rw [Array.size_map, n1]; omega)
  rw [Array.size_map, n1] at hp
  obtain ⟨M', m1, m2, m3⟩ := reorder ent hp
  rw [← m3] at tab
  have n2 : (order.filterMap (es[·]?)).size = es.size := by rw [ent_len m1, m2.length_eq, n1]
  rw [setRelay_eq]
  refine wpAny_bind (wpAny_setState_of ho hd (fits_of hsz hdm hfl) ?_)
  dsimp only
  refine wp_if_neg (by rw [sizeLine_eq]; omega) ?_
  try refine wpAny_bind (wpAny_pure ?_)
  rw [e]
  dsimp only
  refine wpAny_bind (wp_if_neg (by rw [n2]; simp) ?_)
  try refine wpAny_bind (wpAny_pure ?_)
  refine wpAny_pure ?_
  dsimp only
  refine wpAny_storeSet_of ho hd ?_ (by rw [n2, n1, sizeLine_eq]; omega)
  have sb : Heap.SameBut a s.heap (s.heap.update a (Obj.putSet (order.filterMap (es[·]?)) u)) := Heap.SameBut.update ..
  refine hQ _ M' _ (ep + 1) u sb ⟨⟨_, store_at ho hd, ⟨hex.1, hex.2.1, hex.2.2⟩, rfl⟩, m1, tab, (m2.map Prod.snd).nodup_iff.mpr one, fun p hpm => isK_past (keys p (m2.mem_iff.mp hpm)) ho hd sb, el ▸ lead, ?_, ?_⟩ m2
  · rw [m2.length_eq, em]; exact air
  · rw [m2.length_eq]; exact few
end
end Ask
/-! AskBk: one key put into a set of nested keys. -/
namespace Ask
open PySem PySem.Spec PyProof.Rows L2
theorem tab_flag {t : SetTable} {hs : List Int} (T : TabOk t hs) (b : Bool) : TabOk { t with plain := b } hs :=
  ⟨T.ris, T.dm, T.sz, T.mok, T.bd, T.reach⟩
section
variable {P : Program} {w : World} {A : Around} {E : Value → Shared → Prop} {s : Shared} {a : Addr} {L : List (Addr × NestedKey)} {es : Array (Int × Value)} {ep : Nat} {t : SetTable}

/-- the end of putting in: the new entries e1 and the new table u are stored, and all is laid anew if it is too full -/
theorem putEnd (S : SetK P w s.heap a L es ep t) {x : Addr} {k : NestedKey} (hx : IsK P w s.heap k x) (nw : k ∉ L.map Prod.snd) (few : L.length + 1 < 64) {e1 : Array (Int × Value)} {u : SetTable} {L1 : List (Addr × NestedKey)}
    (pm : L1.Perm ((x, k) :: L)) (ent : e1.toList = entOf w L1) (tab : TabOk u (L1.map fun p => p.2.hash w)) (em : u.mask = t.mask) (el : u.led = t.led) (ef : u.fill = L.length + 1) {Q : Bool → Shared → Prop}
    (hQ : ∀ h' L' es' ep' t', Heap.SameBut a s.heap h' → SetK P w h' a L' es' ep' t' → L'.Perm ((x, k) :: L) → Q true { s with heap := h' }) :
    wpAny (model P w) A (do
      storeSet a e1 u
      if !false && u.tooFull then setRelay a (SetTable.grown (es.size + 1))
      return true) Q E s := by
  obtain ⟨o, ho, hex, hd⟩ := S.obj
  have n0 := ent_len S.ent
  have air := S.air
  have n1 : L1.length = L.length + 1 := pm.length_eq
  have n2 : e1.size = L.length + 1 := by rw [ent_len ent, n1]
  refine wpAny_bind (wpAny_storeSet_of ho hd ?_ (by rw [n2, sizeLine_eq]; omega))
  have sb : Heap.SameBut a s.heap (s.heap.update a (Obj.putSet e1 u)) := Heap.SameBut.update ..
  have ho1 := store_at (es' := e1) (t' := u) ho hd
  generalize s.heap.update a (Obj.putSet e1 u) = h1 at sb ho1 ⊢
  have keys : ∀ p ∈ L1, IsK P w h1 p.2 p.1 := fun p hp => by
    cases List.mem_cons.mp (pm.mem_iff.mp hp) with
    | inl e => exact e ▸ isK_past hx ho hd sb
    | inr m => exact isK_past (S.keys p m) ho hd sb
  have one : (L1.map Prod.snd).Nodup := (pm.map Prod.snd).nodup_iff.mpr (List.nodup_cons.mpr ⟨nw, S.one⟩)
  have lead : w.params.followText "set-order" = true ∨ u.led = true := el ▸ S.lead
  have full : u.tooFull = decide ((L.length + 1) * 5 ≥ u.mask * 3) := by
    unfold SetTable.tooFull
    rw [ef]
  rcases Classical.em ((L.length + 1) * 5 ≥ u.mask * 3) with c | c
  · have hf : u.tooFull = true := by rw [full]; exact decide_eq_true c
    have size : (t.mask = 7 ∧ L.length = 4) ∨ (t.mask = 31 ∧ L.length = 18) := by
      rw [em] at c
      rcases S.tab.mok with e | e | e
      · exact .inl ⟨e, by rw [e] at c air; omega⟩
      · exact .inr ⟨e, by rw [e] at c air; omega⟩
      · rw [e] at c; omega
    have hp : u.place.size = e1.size := by
      have z := tab.sz
      rw [List.length_map, n1] at z
      rw [z, n2]
    have go : ∀ M, SetTable.sizeAbove (SetTable.grown (L.length + 1)) = M + 1 → MaskOk M → M ≤ 127 → (L.length + 1) * 5 < M * 3 →
        wpAny (model P w) A (setRelay a (SetTable.grown (L.length + 1))) (fun _ s' => wpAny (model P w) A (pure true) Q E s') E { s with heap := h1 } := fun M g1 g2 g3 g4 => by
      refine regrow (s := { s with heap := h1 }) ho1 ⟨hex.1, hex.2.1, hex.2.2⟩ rfl ent hp tab.dm (by rw [n2, em]; rcases size with ⟨e, e'⟩ | ⟨e, e'⟩ <;> omega) one keys lead (by omega) (M := M) (by omega) g2 (by omega) (by omega) ?_
      intro h2 L2 es2 ep2 t2 sb2 S2 pm2
      exact wpAny_pure (hQ h2 L2 es2 ep2 t2 (sb.trans sb2) S2 (pm2.trans pm))
    rw [n0]
    first
      | (refine wpAny_bind ?_; refine wp_if_pos (by simp [hf]) ?_)
      | (refine wp_if_pos (by simp [hf]) ?_; refine wpAny_bind ?_)
    rcases size with ⟨_, e⟩ | ⟨_, e⟩
    · exact go 31 (by rw [e]; exact size_20) (.inr (.inl rfl)) (by decide) (by omega)
    · exact go 127 (by rw [e]; exact size_76) (.inr (.inr rfl)) (by decide) (by omega)
  · have hf : u.tooFull = false := by rw [full]; exact decide_eq_false c
    first
      | refine wp_if_neg (by simp [hf]) ?_
      | (refine wpAny_bind ?_; refine wp_if_neg (by simp [hf]) ?_; refine wpAny_pure ?_)
    refine wpAny_pure (hQ h1 L1 e1 (ep + 1) u sb ⟨⟨_, ho1, ⟨hex.1, hex.2.1, hex.2.2⟩, rfl⟩, ent, tab, one, keys, lead, by omega, by omega⟩ pm)

/-- a key put in -/
theorem putKey (S : SetK P w s.heap a L es ep t) {x : Addr} {k : NestedKey} (hx : IsK P w s.heap k x) (room : A.units + 8 < cLine) (few : L.length + 1 < 64) {Q : Bool → Shared → Prop}
    (hQ : ∀ b h' L' es' ep' t', Heap.SameBut a s.heap h' → SetK P w h' a L' es' ep' t' → (k ∈ L.map Prod.snd → L' = L) → (k ∉ L.map Prod.snd → L'.Perm ((x, k) :: L)) → Q b { s with heap := h' }) :
    wpAny (model P w) A (setAddHashed a (.ref x) (k.hash w)) Q E s := by
  obtain ⟨o, ho, hex, hd⟩ := S.obj
  unfold setAddHashed
  refine wpAny_holding ?_
  rw [show (100000 : Nat) = 99999 + 1 from rfl, setAddHashedIn_succ]
  refine wpAny_bind (wpAny_setState_of ho hd S.fit ?_)
  dsimp only
  refine wp_if_neg (by simp [byScan, Value.scannable]) ?_
  try refine wpAny_bind (wpAny_pure ?_)
  refine wpAny_bind (lookup S hx room (fun m => ?_) fun K m free taken => ?_)
  · exact wpAny_pure (hQ false s.heap L es ep t (Heap.SameBut.refl a s.heap) S (fun _ => rfl) fun z => absurd m z)
  · dsimp only
    refine wpAny_bind (wpAny_setState_of ho hd S.fit ?_)
    dsimp only
    obtain ⟨q1, q2, q3, q4, q5, q6, q7, q8, q9⟩ := S.tab.put free taken
    generalize hpt : t.put (way t.mask (k.hash w) K) = pt at q1 q3 q4 q5 q6 q7 q8 q9 ⊢
    obtain ⟨u, p⟩ := pt
    dsimp only at q1 q3 q4 q5 q6 q7 q8 q9 ⊢
    subst q1
    generalize hpp : SetTable.below t.place (way t.mask (k.hash w) K) = p at q2 q3 ⊢
    have pm := put_perm L p (x, k)
    have ent : (SetTable.insertAt es p (k.hash w, Value.ref x)).toList = entOf w (L.take p ++ (x, k) :: L.drop p) := by
      rw [SetTable.toList_insertAt, S.ent]
      show _ = List.map _ _
      rw [List.map_append, List.map_cons, List.map_take, List.map_drop]
    have hh : (L.take p ++ (x, k) :: L.drop p).map (fun p => p.2.hash w) = (L.map fun p => p.2.hash w).take p ++ k.hash w :: (L.map fun p => p.2.hash w).drop p := by
      rw [List.map_append, List.map_cons, List.map_take, List.map_drop]
    rw [← hh] at q3
    have q9' : u.fill = L.length + 1 := by rw [q9, List.length_map]
    have fin : ∀ b : Bool, wpAny (model P w) A (do
        let t2 := if b then u else { u with plain := false }
        storeSet a (SetTable.insertAt es p (k.hash w, Value.ref x)) t2
        if !false && t2.tooFull then setRelay a (SetTable.grown (es.size + 1))
        return true) Q E s := fun b => by
      cases b with
      | true => exact putEnd S hx m few pm ent q3 q4 q5 q9' fun h' L' es' ep' t' r1 r2 r3 => hQ true h' L' es' ep' t' r1 r2 (fun z => absurd z m) fun _ => r3
      | false => exact putEnd S hx m few pm ent (tab_flag q3 false) q4 q5 q9' fun h' L' es' ep' t' r1 r2 r3 => hQ true h' L' es' ep' t' r1 r2 (fun z => absurd z m) fun _ => r3
    rcases Bool.eq_false_or_eq_true u.plain with c | c
    · first
        | (refine wpAny_bind ?_; refine wp_if_pos c ?_; exact byVal_key k _ 8 s hx.1 hx.2 _ _ _ fin)
        | exact wp_if_pos c (wpAny_bind (byVal_key k _ 8 s hx.1 hx.2 _ _ _ fin))
    · have c' : ¬ u.plain = true := by rw [c]; decide
      first
        | (refine wpAny_bind ?_; refine wp_if_neg c' ?_; exact wpAny_pure (fin true))
        | exact wp_if_neg c' (fin true)
end
end Ask
/-! AskSo: sorted of a set of nested keys, by any order that the keys can be told by. -/
namespace Ask
open PySem PySem.Spec PyProof.Rows L2
section
variable {P : Program} {w : World} {A : Around} {E : Value → Shared → Prop} {s : Shared} {a : Addr} {L : List (Addr × NestedKey)} {es : Array (Int × Value)} {ep : Nat} {t : SetTable}
theorem sortedK (S : SetK P w s.heap a L es ep t) (calm : A.handled = none) {ltv : Value → Value → Bool} (O : SrtO.Swo ltv)
    (can : ∀ (vs : List Value), vs.Perm (L.map fun p => Value.ref p.1) → 2 ≤ vs.length → ∀ (s1 : Shared) (l : Addr), s1.heap.get? l = some (seqObj "list" vs.toArray 0) →
      (∀ b o, s.heap.get? b = some o → b ≠ l ∧ s1.heap.get? b = some o) → SrtO.SortableO P w A.in1.in1 s1 l vs ltv) {Q : Value → Shared → Prop}
    (hQ : ∀ (s' : Shared) (p : Addr) (out : List Value) (c : Nat), (∀ b o, s.heap.get? b = some o → s'.heap.get? b = some o) → s'.gens = s.gens → s'.os = s.os → s.heap.objs.size ≤ p →
      s'.heap.get? p = some (seqObj "list" out.toArray c) → out.Perm (L.map fun p => Value.ref p.1) → SrtO.Srtd ltv out → Q (.ref p) s') :
    wpAny (model P w) A (call (.builtin "sorted") [.ref a]) Q E s := by
  obtain ⟨o, ho, hex, hd⟩ := S.obj
  have n0 := ent_len S.ent
  have few := S.few
  refine Calls.call_function_entry kind_sorted plain_sorted entry_sorted (args_sorted1 _) ?_
  unfold Builtin.«sorted»
  refine wpAny_bind (m := checkCount "sorted" 1 1 _) (wpAny_pure ?_)
  refine wpAny_bind (collect_set (A := A.in1) calm ⟨o, ho, hex.1, hd⟩ S.fit (by unfold scanBound; omega) S.tab.ris S.lead ?_)
  intro s1 vs keep grow g1 o1 pm
  have vals : es.toList.map (·.2) = L.map fun p => Value.ref p.1 := by
    rw [S.ent, List.map_map]
    rfl
  rw [vals] at pm
  have short : vs.length < 64 := by
    rw [pm.length_eq, List.length_map]
    exact few
  refine wpAny_bind (wpAny_newList ?_ (by rw [sizeLine_eq]; omega))
  have at0 : (s1.heap.push (seqObj "list" vs.toArray 0)).get? s1.heap.objs.size = some (seqObj "list" vs.toArray 0) := Heap.get?_push_size _ rfl
  have past : ∀ b u, s.heap.get? b = some u → b ≠ s1.heap.objs.size ∧ (s1.heap.push (seqObj "list" vs.toArray 0)).get? b = some u := fun b u e =>
    ⟨Nat.ne_of_lt (Heap.lt_size (keep b u e)), Heap.get?_push_of_some _ (keep b u e)⟩
  refine wpAny_bind (wpAny_holding (wpAny_call_entry slot_list_sort ⟨_, at0, rfl⟩ entry_list_sort
    (SrtO.list_sort_ord (s := { s1 with heap := s1.heap.push (seqObj "list" vs.toArray 0) }) O at0 (by rw [sizeLine_eq]; omega) (fun h2 => can vs pm h2 _ _ at0 past) fun out ord stb => ⟨_, rfl, ?_⟩) (args_list_sort _)))
  obtain ⟨c, hc⟩ := sortedHeap_at (vs := vs) (out := out.toArray) at0
  refine wpAny_pure ⟨_, rfl, hQ _ s1.heap.objs.size out c (fun b u e => ?_) g1 o1 grow hc (stb.perm.trans pm) ord⟩
  obtain ⟨ne, e2⟩ := past b u e
  show (sortedHeap (s1.heap.push (seqObj "list" vs.toArray 0)) s1.heap.objs.size vs out.toArray).get? b = some u
  rw [sortedHeap_old ne (Heap.lt_size e2)]
  exact e2
end
end Ask
/-! AskTk: the set of nested keys as a thing of the hand layer; set.add. -/
namespace Ask
open PySem PySem.Spec PyProof.Rows L2

mutual
/-- the value v is the key k -/
def HKey (K : PySem.W.Frag) (H : Hp) : NestedKey → V → Prop
  | .none, v => v = .non
  | .num i, v => v = .int i
  | .text x, v => v = .str x
  | .tup ks, v => ∃ a xs, v = .ref a ∧ SqT K H a xs ∧ HKeys K H ks xs
def HKeys (K : PySem.W.Frag) (H : Hp) : List NestedKey → List V → Prop
  | [], xs => xs = []
  | k :: ks, xs => ∃ y ys, xs = y :: ys ∧ HKey K H k y ∧ HKeys K H ks ys
end
mutual
theorem hkey_is {X : Cx} {pins : List (Addr × Obj)} {σ : L2.St} {H : Hp} {s : Shared} (I : Inv X pins σ H s) : ∀ (k : NestedKey) (v : V) (u : Value), HKey X.K H k v → RelV v u → NestedIs s.heap k u
  | .none, v, u, h, r => by
    have e : v = .non := h
    subst e
    cases r
    exact .none
  | .num i, v, u, h, r => by
    have e : v = .int i := h
    subst e
    obtain ⟨t, rfl⟩ := r
    exact .int i t
  | .text x, v, u, h, r => by
    have e : v = .str x := h
    subst e
    obtain ⟨t, rfl⟩ := r
    exact .text x t
  | .tup ks, v, u, h, r => by
    obtain ⟨a, xs, e, hq, hs⟩ := h
    subst e
    cases r
    obtain ⟨its, rv, ⟨o, ho, hc, n, hd⟩, _⟩ := I.tuple hq
    exact .tup ho hc hd (by simpa using hkeys_are I ks xs its hs rv)
theorem hkeys_are {X : Cx} {pins : List (Addr × Obj)} {σ : L2.St} {H : Hp} {s : Shared} (I : Inv X pins σ H s) : ∀ (ks : List NestedKey) (xs : List V) (us : List Value), HKeys X.K H ks xs → Vals xs us → NestedAll s.heap ks us
  | [], xs, us, h, r => by
    have e : xs = [] := h
    subst e
    cases r
    exact .nil
  | k :: ks, xs, us, h, r => by
    obtain ⟨y, ys, e, h1, h2⟩ := h
    subst e
    cases r with
    | cons r1 r2 => exact .cons (hkey_is I k y _ h1 r1) (hkeys_are I ks ys _ h2 r2)
end

/-- the set at a, its keys aside -/
structure SetK0 (w : World) (h : Heap) (a : Addr) (L : List (Addr × NestedKey)) : Prop where
  has : ∃ (es : Array (Int × Value)) (ep : Nat) (t : SetTable), (∃ o, h.get? a = some o ∧ o.ExactSet ∧ o.data = .set es ep t) ∧ es.toList = entOf w L ∧ TabOk t (L.map fun p => p.2.hash w) ∧ (L.map Prod.snd).Nodup ∧
    (w.params.followText "set-order" = true ∨ t.led = true) ∧ L.length * 5 < t.mask * 3 ∧ L.length < 64
def SetKO (w : World) (a : Addr) (L : List (Addr × NestedKey)) : HO := .ext fun h => SetK0 w h a L
theorem SetK.bare {P : Program} {w : World} {h : Heap} {a : Addr} {L : List (Addr × NestedKey)} {es : Array (Int × Value)} {ep : Nat} {t : SetTable} (S : SetK P w h a L es ep t) : SetK0 w h a L :=
  ⟨es, ep, t, S.obj, S.ent, S.tab, S.one, S.lead, S.air, S.few⟩
theorem SetK0.whole {P : Program} {w : World} {h : Heap} {a : Addr} {L : List (Addr × NestedKey)} (S : SetK0 w h a L) (keys : ∀ p ∈ L, IsK P w h p.2 p.1) : ∃ es ep t, SetK P w h a L es ep t := by
  obtain ⟨es, ep, t, z1, z2, z3, z4, z5, z6, z7⟩ := S.has
  exact ⟨es, ep, t, z1, z2, z3, z4, keys, z5, z6, z7⟩
theorem setKO_ok {P : Program} {w : World} {H : Hp} {h : Heap} {a : Addr} {L : List (Addr × NestedKey)} (S : SetK0 w h a L) : ObjOk P w H h a (SetKO w a L) := by
  obtain ⟨es, ep, t, ⟨o, ho, r⟩, q⟩ := id S.has
  refine ⟨S, ⟨o, ho⟩, fun h1 h2 p k => ?_⟩
  obtain ⟨es', ep', t', ⟨o', ho', r'⟩, q'⟩ := SetK0.has p
  exact ⟨es', ep', t', ⟨o', k o' ho', r'⟩, q'⟩
theorem setK_empty {P : Program} {w : World} {h : Heap} {a : Addr} (ho : h.get? a = some { cls := .type "set", dict := none, data := .set #[] 0 (.fresh 0 0 (!w.params.followText "set-order")) }) : SetK0 w h a [] := by
  refine ⟨#[], 0, _, ⟨_, ho, ⟨rfl, rfl, rfl⟩, rfl⟩, rfl, ⟨List.Pairwise.nil, rfl, rfl, .inl rfl, fun x hx => ?_, fun i h j e => ?_⟩, List.Pairwise.nil, ?_, (show 0 * 5 < 7 * 3 by decide), (show 0 < 64 by decide)⟩
  · exact absurd hx (by simp [SetTable.fresh])
  · exact absurd e (by simp)
  · show _ ∨ (!w.params.followText "set-order") = true
    cases w.params.followText "set-order" <;> simp

section
variable {X : Cx} {pins : List (Addr × Obj)} {σ : L2.St} {H : Hp} {s : Shared} {E : Value → Shared → Prop}
/-- the keys of the list L stand where it says -/
def KeysAt (K : PySem.W.Frag) (H : Hp) (L : List (Addr × NestedKey)) : Prop := ∀ p ∈ L, HKey K H p.2 (.ref p.1) ∧ p.2.depth ≤ 8
theorem KeysAt.are {L : List (Addr × NestedKey)} (h : KeysAt X.K H L) (I : Inv X pins σ H s) : ∀ p ∈ L, IsK X.prog X.w s.heap p.2 p.1 :=
  fun p hp => ⟨hkey_is I p.2 (.ref p.1) (.ref p.1) (h p hp).1 rfl, (h p hp).2⟩
theorem KeysAt.put {L L' : List (Addr × NestedKey)} {x : Addr} {k : NestedKey} (h : KeysAt X.K H L) (hk : HKey X.K H k (.ref x)) (hd : k.depth ≤ 8) (pm : L'.Perm ((x, k) :: L)) : KeysAt X.K H L' := fun p hp => by
  cases List.mem_cons.mp (pm.mem_iff.mp hp) with
  | inl e => exact e ▸ ⟨hk, hd⟩
  | inr m => exact h p m

/-- D.add(x), x a key -/
theorem addK_ok {D x : Addr} {L : List (Addr × NestedKey)} {k : NestedKey} {Q : Value → Shared → Prop} (I : Inv X pins σ H s) (room : X.A.units + 10 < cLine) (hD : H D = some (SetKO X.w D L)) (hL : KeysAt X.K H L) (few : L.length + 1 < 64)
    (hk : HKey X.K H k (.ref x)) (hd : k.depth ≤ 8)
    (h : ∀ s' L', Inv X pins σ (upd H D (SetKO X.w D L')) s' → (k ∈ L.map Prod.snd → L' = L) → (k ∉ L.map Prod.snd → L'.Perm ((x, k) :: L)) → Q .none s') :
    wpAny (model X.prog X.w) X.A (call (.builtin "set.add") [.ref D, .ref x]) Q E s := by
  have S0 : SetK0 X.w s.heap D L := (I.hok D _ hD).1
  obtain ⟨es, ep, t, S⟩ := S0.whole (P := X.prog) (hL.are I)
  have kx : IsK X.prog X.w s.heap k x := ⟨hkey_is I k (.ref x) (.ref x) hk rfl, hd⟩
  obtain ⟨o, ho, hex, _⟩ := S.obj
  have ty : s.TypeIs (.ref D) "set" := ⟨o, ho, hex.1⟩
  refine wpAny_call_entry F.slot_set_add ty F.entry_set_add ?_ (F.args_set_add_2 _ _)
  unfold Builtin.«set.add» Builtin.Frozenset.oneOther
  simp only [List.isEmpty_nil, bind_assoc]
  unfold Builtin.Frozenset.addrOf setAdd
  refine wpAny_bind (wpAny_pure ?_)
  try dsimp only
  refine wpAny_bind (wpAny_pure ?_)
  try dsimp only
  refine wpAny_bind (wpAny_holding (wpAny_bind ((nestedKind X.prog X.w).pyHash (show X.A.in1.units + 8 < cLine by rw [Around.in1_units]; omega) kx ?_)))
  refine putKey (s := { s with toks := s.toks + k.draws }) S kx (by rw [Around.in1_units]; omega) few fun b h' L' es' ep' t' sb S' q1 q2 => ?_
  refine wpAny_pure ⟨_, rfl, h _ L' ?_ q1 q2⟩
  obtain ⟨o', ho', _⟩ := S'.obj
  exact I.write (e := D) (t' := s.toks + k.draws) (by rw [hD]; trivial) (.inl rfl) (fun b u hb hu => (sb.2 b hb).trans hu) ⟨o', ho'⟩ (setKO_ok S'.bare)
end
end Ask
/-! AskUk: the loops of a set comprehension with two for. -/
namespace Ask
open PySem PySem.Spec PyProof.Rows L2
abbrev sc2 (elt t0 i0 t1 i1 : Expr) (scope : Scope) (pos : Pos) : Expr := .SetComp elt [⟨t0, i0, [], 0⟩, ⟨t1, i1, [], 0⟩] scope pos
theorem sc2_first (elt t0 i0 t1 i1 : Expr) (scope : Scope) (pos : Pos) (it acc : Value) (env : Env) :
    compTurn (sc2 elt t0 i0 t1 i1 scope pos) 0 it acc env = (do
      standAt i0.pos
      match ← pyNext it with
      | none => pure (.done .next)
      | some v =>
        letOwnedTupleGo t0 it v
        assign t0 env v
        let mut go := true
        for c in ([] : List Expr) do
          if go then go ← isTrue c env (eval c env)
        if go then
          let x ← eval i1 env
          standAt i1.pos
          let x ← foldedSetIterable i1 env x
          let _ ← runOwn (.compStart (sc2 elt t0 i0 t1 i1 scope pos) 1 (← holding [x] (pyIter x)) acc env) env
        again (.compLoop (sc2 elt t0 i0 t1 i1 scope pos) 0 it acc env)) := by rfl
theorem sc2_second (elt t0 i0 t1 i1 : Expr) (scope : Scope) (pos : Pos) (it acc : Value) (env : Env) :
    compTurn (sc2 elt t0 i0 t1 i1 scope pos) 1 it acc env = (do
      standAt i1.pos
      match ← pyNext it with
      | none => pure (.done .next)
      | some v =>
        letOwnedTupleGo t1 it v
        assign t1 env v
        let mut go := true
        for c in ([] : List Expr) do
          if go then go ← isTrue c env (eval c env)
        if go then
          (do let v ← eval elt env; standAt elt.pos; let _ ← call (.builtin "set.add") [acc, v])
        again (.compLoop (sc2 elt t0 i0 t1 i1 scope pos) 1 it acc env)) := by rfl
section
variable {prog : Program} {w : World} {A : Around} {R : Result → Shared → Prop} {s : Shared} {elt t0 i0 t1 i1 : Expr} {scope : Scope} {pos : Pos} {it acc : Value} {env : Env}
/-- no error -/
abbrev Calm (prog : Program) (w : World) (A : Around) {α : Type} (m : Sem α) (Q : α → Shared → Prop) (s : Shared) : Prop := wpAny (model prog w) A m Q (fun _ _ => False) s
theorem Calm.any {α : Type} {m : Sem α} {Q Q' : α → Shared → Prop} {E : Value → Shared → Prop} (h : Calm prog w A m Q s) (k : ∀ v s', Q v s' → Q' v s') : wpAny (model prog w) A m Q' E s :=
  wpAny_mono h k fun _ _ z => z.elim

theorem sc2_outer (hs : ∀ x, foldedSetIterable i1 env x = pure x) (J : Nat → Shared → Prop)
    (turn : ∀ n s, J n s → Calm prog w A (pyNext it) (fun r s1 => match r with
      | none => R (.ok .next) s1
      | some v => Calm prog w A (letOwnedTupleGo t0 it v) (fun _ s2 => Calm prog w A (assign t0 env v) (fun _ s3 => Calm prog w A (eval i1 env) (fun x s4 => Calm prog w A (pyIter x) (fun it1 s5 =>
          codeAny (model prog w) A (.compStart (sc2 elt t0 i0 t1 i1 scope pos) 1 it1 acc env) (fun r s' => match r with
            | .ok _ => ∃ m, m < n ∧ J m s'
            | .error _ => False) s5) s4) s3) s2) s1) s) (n : Nat) (h : J n s) :
    codeAny (model prog w) A (.compLoop (sc2 elt t0 i0 t1 i1 scope pos) 0 it acc env) R s := by
  refine codeAny_loop rfl J (fun n s hJ => ?_) n h
  show wpAny _ A ((compTurn (sc2 elt t0 i0 t1 i1 scope pos) 0 it acc env).onRaise (fun x => do noteFrame x env; theTreesLotGoes x)) _ _ s
  refine wpAny_noted ?_
  rw [sc2_first]
  refine wpAny_bind (wpAny_standAt (wpAny_bind ((turn n s hJ).any fun r s1 h1 => ?_)))
  cases r with
  | none => exact wpAny_pure h1
  | some v =>
    refine wpAny_bind (Calm.any h1 fun _ s2 h2 => wpAny_bind (Calm.any h2 fun _ s3 h3 => ?_))
    refine wpAny_bind (wpAny_of_eq (a := true) rfl (wpAny_bind (Calm.any h3 fun x s4 h4 => ?_)))
    refine wpAny_bind (wpAny_standAt (wpAny_bind (wpAny_of_eq (hs x) (wpAny_bind (wpAny_holding (Calm.any h4 fun it1 s5 h5 => ?_))))))
    refine wpAny_bind (wpAny_runOwn ?_)
    rw [Around.mark_none]
    refine codeAny_mono h5 fun r s' hr => ?_
    cases r with
    | ok f => first
      | exact wpAny_pure ⟨rfl, hr⟩
      | exact wpAny_bind (wpAny_pure (wpAny_pure ⟨rfl, hr⟩))
    | error e => exact hr.elim
theorem sc2_inner (J : Nat → Shared → Prop)
    (turn : ∀ n s, J n s → Calm prog w A (pyNext it) (fun r s1 => match r with
      | none => R (.ok .next) s1
      | some v => Calm prog w A (letOwnedTupleGo t1 it v) (fun _ s2 => Calm prog w A (assign t1 env v) (fun _ s3 => Calm prog w A (eval elt env) (fun x s4 =>
          Calm prog w A (call (.builtin "set.add") [acc, x]) (fun _ s5 => ∃ m, m < n ∧ J m s5) s4) s3) s2) s1) s) (n : Nat) (h : J n s) :
    codeAny (model prog w) A (.compLoop (sc2 elt t0 i0 t1 i1 scope pos) 1 it acc env) R s := by
  refine codeAny_loop rfl J (fun n s hJ => ?_) n h
  show wpAny _ A ((compTurn (sc2 elt t0 i0 t1 i1 scope pos) 1 it acc env).onRaise (fun x => do noteFrame x env; theTreesLotGoes x)) _ _ s
  refine wpAny_noted ?_
  rw [sc2_second]
  refine wpAny_bind (wpAny_standAt (wpAny_bind ((turn n s hJ).any fun r s1 h1 => ?_)))
  cases r with
  | none => exact wpAny_pure h1
  | some v =>
    refine wpAny_bind (Calm.any h1 fun _ s2 h2 => wpAny_bind (Calm.any h2 fun _ s3 h3 => ?_))
    refine wpAny_bind (wpAny_of_eq (a := true) rfl (wpAny_bind (wpAny_bind (Calm.any h3 fun x s4 h4 => ?_))))
    exact wpAny_bind (wpAny_standAt (wpAny_bind (Calm.any h4 fun _ s5 h5 => wpAny_pure (wpAny_pure ⟨rfl, h5⟩))))
theorem sc2_start (h0 : codeAny (model prog w) A (.compLoop (sc2 elt t0 i0 t1 i1 scope pos) 1 it acc env) R s)
    (h : Calm prog w A (pyIter it) (fun it' s' => codeAny (model prog w) A (.compLoop (sc2 elt t0 i0 t1 i1 scope pos) 1 it' acc env) R s') s) :
    codeAny (model prog w) A (.compStart (sc2 elt t0 i0 t1 i1 scope pos) 1 it acc env) R s := by
  refine codeAny_of_tree ?_
  show wpAny _ _ ((compStart (sc2 elt t0 i0 t1 i1 scope pos) 1 it acc env).onRaise (fun x => do noteFrame x env; standAt theWindowsPlace)) _ _ s
  refine wpAny_notedAt ?_
  unfold compStart
  refine wpAny_bind (m := ask) (wpAny_askSetting (wpAny_ite ?_))
  split
  · first
      | exact wpAny_bind (wpAny_pure (wpAny_pure ⟨rfl, h0⟩))
      | exact wpAny_pure ⟨rfl, h0⟩
  · refine wpAny_bind (wpAny_rule ?_)
    refine wpAny_bind (m := standAt i1.pos) (wpAny_standAt (wpAny_bind (Calm.any h fun it' s' h' => wpAny_pure ⟨rfl, h'⟩)))
end
end Ask
/-! AskWk: {x for .. in .. for .. in ..}, x a nested key. -/
namespace Ask
open PySem PySem.Spec PyProof.Rows L2
/-- the reading: D the new set -/
def tSc2 (K : PySem.W.Frag) (w : World) (wi : TI) (g : TG) (wi1 : TI) (g1 : TG) (te : TE) (vs vs1 : List Nat) : TE := fun σ H Q => wi σ H fun J H1 => ∀ D, H1 D = none →
  ∃ W : Nat → Nat → Hp → Prop, (∃ m, W 0 m (upd H1 D (SetKO w D []))) ∧ ∀ i m H, W i m H →
    (J.stop i H ∧ Q (.ref D) H) ∨ (J.go i H ∧ ∃ Nx : Hp → Prop, (∀ H', Nx H' → ∃ m', m' < m ∧ W (i + 1) m' H') ∧
      ∀ x H', J.yld i H x H' → g x (wipe σ vs) H' fun σ2 H2 => wipe σ2 vs = wipe σ vs ∧ wi1 σ2 H2 fun J1 H4 =>
        ∃ W1 : Nat → Nat → Hp → Prop, (∃ m, W1 0 m H4) ∧ ∀ j k H, W1 j k H →
          (J1.stop j H ∧ Nx H) ∨ (J1.go j H ∧ ∃ Nx1 : Hp → Prop, (∀ H', Nx1 H' → ∃ k', k' < k ∧ W1 (j + 1) k' H') ∧
            ∀ x H', J1.yld j H x H' → g1 x (wipe σ2 vs1) H' fun σ3 H5 => wipe σ3 vs1 = wipe σ2 vs1 ∧ te σ3 H5 fun y H7 =>
              ∃ b L q, y = .ref b ∧ H7 D = some (SetKO w D L) ∧ KeysAt K H7 L ∧ L.length + 1 < 64 ∧ HKey K H7 q (.ref b) ∧ q.depth ≤ 8 ∧
                ∀ L', (q ∈ L.map Prod.snd → L' = L) → (q ∉ L.map Prod.snd → L'.Perm ((b, q) :: L)) → Nx1 (upd H7 D (SetKO w D L'))))
section
variable {X : Cx}
theorem pe_sc2 {elt tg iter tg1 iter1 : Expr} {scope : Scope} {own : List (Str × Nat)} {vs1 : List Nat} {pos : Pos} {wi wi1 : TI} {g g1 : TG} {te : TE}
    (hu : X.A.units + 10 < cLine) (hc : X.calm = true) (hN : X.N.Nodup) (hi : PI X tg iter wi) (ok : BlkOk X.N X.env.scope scope own) (hv : ∀ i ∈ vs1, i ∈ own.map (·.2))
    (hg : ∀ (s : Shared) (H : Hp) (C : Addr) (cl : List (Str × Addr)) (fp : List Addr), PG (X.blk s H scope (compEnvC scope cl C X.env) fp) tg g)
    (hi1 : ∀ (s : Shared) (H : Hp) (C : Addr) (cl : List (Str × Addr)) (fp : List Addr), PI (X.blk s H scope (compEnvC scope cl C X.env) fp) tg1 iter1 wi1)
    (hg1 : ∀ (s : Shared) (H : Hp) (C : Addr) (cl : List (Str × Addr)) (fp : List Addr), PG (X.blk s H scope (compEnvC scope cl C X.env) fp) tg1 g1)
    (he : ∀ (s : Shared) (H : Hp) (C : Addr) (cl : List (Str × Addr)) (fp : List Addr), PE (X.blk s H scope (compEnvC scope cl C X.env) fp) elt te)
    (hs : ∀ x, foldedSetIterable iter X.env x = pure x := by intro _; rfl) (hs1 : ∀ env x, foldedSetIterable iter1 env x = pure x := by intro _ _; rfl) :
    PE X (sc2 elt tg iter tg1 iter1 scope pos) (tSc2 X.K X.w wi g wi1 g1 te (own.map (·.2)) vs1) := by
  constructor
  intro pins s σ H Q I h
  rw [arm_eval_SetComp]
  have hfree : ∀ y ∈ scope.names, y.2 = .free → ∃ c, X.env.cells.lookup y.1 = some c := by
    intro y hy e
    exact (ok.free y hy e).elim (fun k => I.ok.has _ (.inl k)) fun k => I.ok.has _ (.inr k)
  refine wpAny_comprehension_free rfl hs (closure_ok hfree) ok.kind (fun y hy e => by rw [ok.uniq y hy, e])
    (thn (hi.run pins s σ H _ I h) fun xv s1 hx => thn hx ?_)
  rintro itv s2 ⟨it, fp, tn, J, H2, e, I2, T, st2, f2, q⟩
  subst e
  refine wpAny_newSet_raw fun led eled => newEnv_comp ?_
  subst eled
  generalize hD : s2.heap.objs.size = D
  have hDn : H2 D = none := I2.hok.fresh (Nat.le_of_eq hD)
  obtain ⟨W, ⟨m0, w0⟩, turn⟩ := q D hDn
  generalize hnew : ({ cls := .type "set", dict := none, data := .set #[] 0 (.fresh 0 0 (!X.w.params.followText "set-order")) } : Obj) = new
  generalize hs3 : ({ s2 with heap := s2.heap.push new } : Shared) = s3
  have I3 : Inv X pins σ (upd H2 D (SetKO X.w D [])) s3 := by
    rw [← hs3]
    refine I2.laid (t' := s2.toks) (fun b o e => Heap.get?_push_of_some _ e) (Nat.le_of_eq hD) (setKO_ok (setK_empty (P := X.prog) ?_))
    rw [← hD, ← hnew]
    exact Heap.get?_push_size _ rfl
  have h3 : s3.heap = s2.heap.push new := by rw [← hs3]
  have f3 : ∀ b ∈ fp, FpOk X pins (upd H2 D (SetKO X.w D [])) b ∧ b < s3.heap.objs.size := by
    intro b hb
    have hlt : b < s2.heap.objs.size := (T.obj _ _ st2 b hb).elim fun o e => Heap.lt_size e.1
    refine ⟨⟨?_, (f2 b hb).2⟩, by rw [h3, Heap.size_push]; exact Nat.lt_succ_of_lt hlt⟩
    rw [upd_ne (by rw [← hD]; exact Nat.ne_of_lt hlt)]
    exact (f2 b hb).1
  have st3 : tn 0 s3.heap := T.keep _ _ _ st2 fun b _ o e => h3 ▸ Heap.get?_push_of_some _ e
  have I4 := block_start I3 ok hN f3
  generalize hcl : cellsFrom (s3.heap.objs.size + 1) scope.names (cloFrom X.env.cells scope.names []) = cl at I4 ⊢
  have pg := hg s3 (upd H2 D (SetKO X.w D [])) s3.heap.objs.size cl fp
  have pe := he s3 (upd H2 D (SetKO X.w D [])) s3.heap.objs.size cl fp
  have pi1 := hi1 s3 (upd H2 D (SetKO X.w D [])) s3.heap.objs.size cl fp
  have pg1 := hg1 s3 (upd H2 D (SetKO X.w D [])) s3.heap.objs.size cl fp
  have nfp : ∀ b ∈ fp, (upd H2 D (SetKO X.w D [])) b = none := fun b hb => (f3 b hb).1.1
  show codeAny _ _ (.compStart (sc2 elt tg iter tg1 iter1 scope pos) 0 (.ref it) (.ref D) (compEnvC scope cl s3.heap.objs.size X.env)) _
    { s3 with heap := pushCells (s3.heap.push { cls := .type "dict", data := .dict #[] }) scope.names }
  generalize hce : compEnvC scope cl s3.heap.objs.size X.env = ce at I4 pg pe pi1 pg1 ⊢
  have cL : ce.locals = s3.heap.objs.size := by
    subst hce
    rfl
  generalize hH3 : upd H2 D (SetKO X.w D []) = H3 at I3 I4 pg pe pi1 pg1 w0 nfp f3
  generalize hs4 : ({ s3 with heap := pushCells (s3.heap.push { cls := .type "dict", data := .dict #[] }) scope.names } : Shared) = s4 at I4 ⊢
  have st4 : tn 0 s4.heap := T.keep _ _ _ st3 fun b _ o e => by
    rw [← hs4]
    exact pushCells_keeps _ _ _ _ (Heap.get?_push_of_some _ e)
  have stat : ∀ {σ' : L2.St} {H' : Hp} {s' : Shared}, Inv (X.blk s3 H3 scope ce fp) [] σ' H' s' → (∀ b ∈ fp, H' b = none) →
      ∀ b ∈ fp, FpOk (X.blk s3 H3 scope ce fp) [] H' b := by
    intro σ' H' s' I' hn b hb
    exact ⟨hn b hb, (I'.ok.exf b hb).1, I'.ok.exfs b hb, .inl hb, fun x c e => (I'.ok.exf b hb).2 x c e,
      fun p hp => absurd (show p ∈ ([] : List (Addr × Obj)) ++ [] from hp) (by simp)⟩
  refine codeAny_compStart_set ?loop (T.self X.A 0 _ _ _ st4 ?loop)
  refine sc2_outer (hs1 ce) (fun n s' => ∃ i H', Inv (X.blk s3 H3 scope ce fp) [] (wipe σ (own.map (·.2))) H' s' ∧ tn i s'.heap ∧
    (∀ b ∈ fp, H' b = none) ∧ W i n H') ?_ m0 ⟨0, H3, I4, st4, nfp, w0⟩
  rintro n s5 ⟨i, H5, I5, st5, n5, w5⟩
  rcases turn i n H5 w5 with ⟨stop, qq⟩ | ⟨go, Nx, hNx, step⟩
  · have td := T.done (X.blk s3 H3 scope ce fp) rfl rfl rfl hc i [] s5 _ H5 (fun _ _ => False) I5 (stat I5 n5) st5 stop
    refine thnF td ?_
    rintro r s6 ⟨hr, I6⟩
    subst hr
    have I7 : Inv X pins σ H5 s6 := I3.call' (ch := fp) I6.os I6.base I6.hok I6.bare fun b hb =>
      ⟨(f3 b hb).1.2.2.2.1, (f3 b hb).1.2.1, (f3 b hb).1.2.2.2.2.1, (f3 b hb).1.2.2.2.2.2⟩
    have nC : H5 s3.heap.objs.size = none := by
      have z : H5 ce.locals = none := I6.free
      rw [cL] at z
      exact z
    obtain ⟨m, hn, _⟩ := I6.loc
    have hn : s6.heap.Ns ce.locals m := hn
    rw [cL] at hn
    obtain ⟨f0, f1, f2, f3, f4, f5⟩ := I3.fpOk (Nat.le_refl _) nC
    refine ⟨m, hn, fun h'' sb => ?_⟩
    exact ⟨.ref D, H5, I7.turned (t' := s6.toks) (fun b o hb e => (sb.2 b hb).trans e) f0 f1 f3 f4 f5, rfl, qq⟩
  · have ti := T.item (X.blk s3 H3 scope ce fp) rfl rfl rfl hc i [] s5 _ H5 (fun _ _ => False) I5 (stat I5 n5) st5 go
    refine thnF ti ?_
    rintro r s6 ⟨u, hr, h6⟩
    subst hr
    refine thnF h6 ?_
    rintro _ s7 ⟨x, H7, I7, r7, y7, st7, n7⟩
    have I7' := I7.pinned (stat I7 n7) (T.obj _ _ st7)
    refine thnF (pg.run _ s7 _ H7 x u _ I7' r7 (step x H7 y7)) ?_
    rintro _ s8 ⟨σ8, H8, I8, hw8, q8⟩
    have hl8 : (wipe σ (own.map (·.2))).length = σ8.length := by rw [← hw8, wipe_length]
    have knows : ∀ (j : Nat) v, (wipe σ (own.map (·.2)))[j]? = some (some v) → (wipe σ8 vs1)[j]? = some (some v) := by
      intro j v e
      rw [← hw8] at e
      obtain ⟨e1, e2⟩ := wipe_some e
      rw [wipe_out fun z => e2 (hv j z)]
      exact e1
    have fin : ∀ {s' : Shared} {H' : Hp}, Inv (X.blk s3 H3 scope ce fp) ([] ++ pinsAt fp s7.heap) (wipe σ8 vs1) H' s' → Nx H' →
        ∃ m, m < n ∧ ∃ i H', Inv (X.blk s3 H3 scope ce fp) [] (wipe σ (own.map (·.2))) H' s' ∧ tn i s'.heap ∧ (∀ b ∈ fp, H' b = none) ∧ W i m H' := by
      intro s' H' I' nx
      obtain ⟨m', hm, w'⟩ := hNx H' nx
      have pin' : ∀ b ∈ fp, ∀ o, s7.heap.get? b = some o → s'.heap.get? b = some o ∧ H' b = none := by
        intro b hb o e
        have z := I'.pin (b, o) (List.mem_append_right _ (List.mem_append_right _ (mem_pinsAt hb e)))
        exact ⟨z.1, z.2.1⟩
      refine ⟨m', hm, i + 1, H', (I'.unpinned (pins := [])).weak (hl8.trans (wipe_length σ8 vs1).symm) knows,
        T.keep _ _ _ st7 fun b hb o e => (pin' b hb o e).1, fun b hb => ?_, w'⟩
      obtain ⟨o, e, _⟩ := T.obj _ _ st7 b hb
      exact (pin' b hb o e).2
    refine thnF (pi1.run _ s8 σ8 H8 _ I8 q8) fun xv s10 hx => thnF hx ?_
    rintro itv s11 ⟨it1, fp1, tn1, J1, H11, e1, I11, T1, st11, f11, W1, ⟨m1, w1⟩, turn1⟩
    subst e1
    have stat1 : ∀ {H' : Hp}, (∀ b ∈ fp1, H' b = none) → ∀ b ∈ fp1, FpOk (X.blk s3 H3 scope ce fp) ([] ++ pinsAt fp s7.heap) H' b :=
      fun hn b hb => ⟨hn b hb, (f11 b hb).2⟩
    refine sc2_start ?loop1 (T1.self X.A 0 _ _ _ st11 ?loop1)
    refine sc2_inner (fun k s' => ∃ j H', Inv (X.blk s3 H3 scope ce fp) ([] ++ pinsAt fp s7.heap) (wipe σ8 vs1) H' s' ∧ tn1 j s'.heap ∧ (∀ b ∈ fp1, H' b = none) ∧ W1 j k H') ?_ m1
      ⟨0, H11, I11.weak (wipe_length _ _) (fun j v e => (wipe_some e).1), st11, fun b hb => (f11 b hb).1, w1⟩
    rintro k s12 ⟨j, H12, I12, st12, n12, w12⟩
    rcases turn1 j k H12 w12 with ⟨stop1, nx1⟩ | ⟨go1, Nx1, hNx1, step1⟩
    · refine thnF (T1.done (X.blk s3 H3 scope ce fp) rfl rfl rfl hc j _ s12 (wipe σ8 vs1) H12 (fun _ _ => False) I12 (stat1 n12) st12 stop1) ?_
      rintro r s13 ⟨hr, I13⟩
      subst hr
      exact fin I13 nx1
    · refine thnF (T1.item (X.blk s3 H3 scope ce fp) rfl rfl rfl hc j _ s12 (wipe σ8 vs1) H12 (fun _ _ => False) I12 (stat1 n12) st12 go1) ?_
      rintro r s13 ⟨u1, hr, h13⟩
      subst hr
      refine thnF h13 ?_
      rintro _ s14 ⟨x1, H14, I14, r14, y14, st14, n14⟩
      have I14' := I14.pinned (stat1 n14) (T1.obj _ _ st14)
      refine thnF (pg1.run _ s14 (wipe σ8 vs1) H14 x1 u1 _ I14' r14 (step1 x1 H14 y14)) ?_
      rintro _ s15 ⟨σ15, H15, I15, hw15, q15⟩
      refine thnF (pe.run _ s15 σ15 H15 _ I15 q15) ?_
      rintro z s17 ⟨yv, H17, I17, r17, b, L, q, ey, hD17, hL, few, hq, hdq, nx⟩
      subst ey
      cases r17
      refine addK_ok (X := X.blk s3 H3 scope ce fp) I17 hu hD17 hL few hq hdq ?_
      intro s18 L' I18 p1 p2
      obtain ⟨m', hm, w'⟩ := hNx1 _ (nx L' p1 p2)
      have pin' : ∀ b ∈ fp1, ∀ o, s14.heap.get? b = some o → s18.heap.get? b = some o ∧ (upd H17 D (SetKO X.w D L')) b = none := by
        intro b hb o e
        have z := I18.pin (b, o) (List.mem_append_right _ (List.mem_append_right _ (mem_pinsAt hb e)))
        exact ⟨z.1, z.2.1⟩
      refine ⟨m', hm, j + 1, _, I18.unpinned.weak (by rw [← hw15, wipe_length]) (fun j v e => ?_), T1.keep _ _ _ st14 fun b hb o e => (pin' b hb o e).1, fun b hb => ?_, w'⟩
      · rw [← hw15] at e
        exact (wipe_some e).1
      · obtain ⟨o, e, _⟩ := T1.obj _ _ st14 b hb
        exact (pin' b hb o e).2
end
end Ask
/-! AskCk: sorted of a set of cells. -/
namespace Ask
open PySem PySem.Spec PyProof.Rows L2 AskG
def cellK (c : Cell) : NestedKey := .tup [.text c.1, .num c.2]
theorem cellK_inj {c d : Cell} (h : cellK c = cellK d) : c = d := by
  unfold cellK at h
  injection h with h
  injection h with h1 h2
  injection h2 with h2 _
  injection h1 with h1
  injection h2 with h2
  exact Prod.ext h1 h2
theorem cellK_deep (c : Cell) : (cellK c).depth ≤ 8 := by
  show max 0 (max 0 0) + 1 ≤ 8
  decide
theorem cell_key {K : PySem.W.Frag} {H : Hp} {b : Addr} {c : Cell} (h : CellAt H b c) : HKey K H (cellK c) (.ref b) :=
  ⟨b, _, rfl, .inl (.inl h), _, _, rfl, rfl, _, _, rfl, rfl, rfl⟩
theorem refs_vals : ∀ bs : List Addr, Vals (bs.map V.ref) (bs.map Value.ref)
  | [] => .nil
  | _ :: bs => .cons rfl (refs_vals bs)
/-- L is a list of cells, each where it says -/
def CellsAt (H : Hp) (L : List (Addr × NestedKey)) : Prop := ∀ p ∈ L, ∃ c, p.2 = cellK c ∧ CellAt H p.1 c
theorem CellsAt.keys {K : PySem.W.Frag} {H : Hp} {L : List (Addr × NestedKey)} (h : CellsAt H L) : KeysAt K H L := fun p hp => by
  obtain ⟨c, e, hc⟩ := h p hp
  rw [e]
  exact ⟨cell_key hc, cellK_deep c⟩
/-- sorted(a), a a set of cells -/
def rSortSC (w : World) : List V → Hp → VK → Prop := fun xs H Q => ∃ (a : Addr) (L : List (Addr × NestedKey)), xs = [.ref a] ∧ H a = some (SetKO w a L) ∧ CellsAt H L ∧
  ∀ (ys : List Cell) (bs : List Addr) (p : Addr), (∀ c, c ∈ ys ↔ cellK c ∈ L.map Prod.snd) → ys.length = L.length → ys.Pairwise (fun a b => ltC a b = true) →
    Paired (CellAt H) bs ys → H p = none → Q (.ref p) (upd H p (.lst (bs.map V.ref)))
section
variable {X : Cx}
theorem cr_sortSC (hc : X.calm = true) : CallR X (.builtin "sorted") (rSortSC X.w) := by
  intro pins s σ H xs us Q I r q
  obtain ⟨a, L, rfl, ha, hL, q⟩ := q
  obtain ⟨u, rfl, ru⟩ := vals1 r
  obtain rfl : u = Value.ref a := ru
  have S0 : SetK0 X.w s.heap a L := (I.hok a _ ha).1
  obtain ⟨es, ep, t, S⟩ := S0.whole (P := X.prog) ((hL.keys (K := X.K)).are I)
  have vals : ∀ v ∈ L.map (fun p => Value.ref p.1), ∃ b c, v = .ref b ∧ CellAt H b c := fun v hv => by
    obtain ⟨p, hp, rfl⟩ := List.mem_map.mp hv
    obtain ⟨c, _, h⟩ := hL p hp
    exact ⟨_, c, rfl, h⟩
  refine sortedK S (I.ok.hd hc) (ltv := fun v u => ltC (cellOf H v) (cellOf H u)) (swo_cells _) (fun vs pm h2 s1 l hl past => ?_) fun s' p out c keep g o hp at' pm srt => ?_
  · refine cells_sortable (by omega) (fun v hv => ?_) fun o' eo => ?_
    · obtain ⟨b, c, rfl, h⟩ := vals v (pm.mem_iff.mp hv)
      rw [cellOf_at h]
      exact (isCl_of I.hok h).keeps fun b o e _ => (past b o e).2
    · have e' : some o' = some (seqObj "list" vs.toArray 0) := eo.symm.trans hl
      cases e'
      intro c
      exact absurd (Value.type.inj c) (by decide)
  · have hout : ∀ v ∈ out, ∃ b c, v = .ref b ∧ CellAt H b c := fun v hv => vals v (pm.mem_iff.mp hv)
    obtain ⟨bs, rfl⟩ : ∃ bs : List Addr, out = bs.map Value.ref := by
      clear pm srt at'
      induction out with
      | nil => exact ⟨[], rfl⟩
      | cons v l ih =>
        obtain ⟨bs, e⟩ := ih fun u hu => hout u (List.mem_cons_of_mem _ hu)
        obtain ⟨b, _, e', _⟩ := hout v List.mem_cons_self
        exact ⟨b :: bs, by rw [e', e]; rfl⟩
    have at2 : ∀ b ∈ bs, CellAt H b (cellOf H (.ref b)) := fun b hb => by
      obtain ⟨b', c', e, h⟩ := hout (.ref b) (List.mem_map.mpr ⟨b, hb, rfl⟩)
      cases e
      rw [cellOf_at h]
      exact h
    have kL : L.map Prod.snd = ((L.map fun p => Value.ref p.1).map (cellOf H)).map cellK := by
      rw [List.map_map, List.map_map]
      refine List.map_congr_left fun p hp => ?_
      obtain ⟨c, e, h⟩ := hL p hp
      show p.2 = cellK (cellOf H (.ref p.1))
      rw [cellOf_at h, e]
    have pmc : ((bs.map Value.ref).map (cellOf H)).Perm ((L.map fun p => Value.ref p.1).map (cellOf H)) := pm.map _
    have ys : (bs.map Value.ref).map (cellOf H) = bs.map fun b => cellOf H (.ref b) := by rw [List.map_map]; rfl
    have nd : ((bs.map Value.ref).map (cellOf H)).Nodup := by
      refine pmc.nodup_iff.mpr ?_
      have one := S.one
      rw [kL] at one
      exact (List.pairwise_map.mp one).imp fun h e => h (congrArg cellK e)
    have st := strict_of (List.pairwise_map.mpr srt) nd
    have len : (bs.map Value.ref).length = L.length := by rw [pm.length_eq, List.length_map]
    rw [List.length_map] at len
    have few := S.few
    have hn : H p = none := I.hok.fresh hp
    have hv : Vals (bs.map V.ref) (bs.map Value.ref) := refs_vals bs
    have J : Inv X pins σ (upd H p (.lst (bs.map V.ref))) { s with heap := s'.heap, gens := s'.gens, drawn := s'.drawn, toks := s'.toks } :=
      I.call (ch := []) (Un.laid keep hp hn) (I.hok.laid keep hp ⟨by rw [List.length_map, sizeLine_eq]; omega, bs.map Value.ref, c, hv, at'⟩) (by rw [g]; exact I.bare) (fun _ z => nomatch z)
    have e : s' = { s with heap := s'.heap, gens := s'.gens, drawn := s'.drawn, toks := s'.toks } := by
      cases s'
      cases s
      cases o
      rfl
    rw [e]
    refine ⟨.ref p, _, J, rfl, q _ bs p (fun c => ?_) ?_ (ys ▸ st) (paired_of (fun b => cellOf H (.ref b)) at2) hn⟩
    · rw [← ys, pmc.mem_iff, kL]
      exact ⟨fun m => List.mem_map.mpr ⟨c, m, rfl⟩, fun m => by
        obtain ⟨d, hd, e⟩ := List.mem_map.mp m
        rw [← cellK_inj e]
        exact hd⟩
    · rw [List.length_map]
      exact len
end
end Ask
/-! AskRk: the order of rows, and rows that can be sorted. -/
namespace Ask
open PySem PySem.Spec PyProof.Rows L2 AskG
def ltR : List (Cell × Int) → List (Cell × Int) → Bool
  | [], [] => false
  | [], _ :: _ => true
  | _ :: _, [] => false
  | x :: xs, y :: ys => if x = y then ltR xs ys else ltX x y
theorem ltR_tri : ∀ x y, ltR x y = true ∨ x = y ∨ ltR y x = true
  | [], [] => .inr (.inl rfl)
  | [], _ :: _ => .inl rfl
  | _ :: _, [] => .inr (.inr rfl)
  | x :: xs, y :: ys => by
    unfold ltR
    by_cases e : x = y
    · subst e
      rw [if_pos rfl, if_pos rfl]
      rcases ltR_tri xs ys with h | h | h
      · exact .inl h
      · exact .inr (.inl (by rw [h]))
      · exact .inr (.inr h)
    · rw [if_neg e, if_neg fun z => e z.symm]
      rcases ltX_tri x y with h | h | h
      · exact .inl h
      · exact absurd h e
      · exact .inr (.inr h)
theorem ltR_irr : ∀ x, ltR x x = false
  | [] => rfl
  | x :: xs => by
    unfold ltR
    rw [if_pos rfl]
    exact ltR_irr xs
theorem ltR_trans : ∀ {x y z}, ltR x y = true → ltR y z = true → ltR x z = true
  | [], [], _, h, _ => by cases h
  | [], _ :: _, [], _, h => by cases h
  | [], _ :: _, _ :: _, _, _ => rfl
  | _ :: _, [], _, h, _ => by cases h
  | _ :: _, _ :: _, [], _, h => by cases h
  | x :: xs, y :: ys, z :: zs, h1, h2 => by
    unfold ltR at h1 h2 ⊢
    by_cases e : x = y
    · subst e
      rw [if_pos rfl] at h1
      by_cases e2 : x = z
      · rw [if_pos e2] at h2 ⊢
        exact ltR_trans h1 h2
      · rw [if_neg e2] at h2 ⊢
        exact h2
    · rw [if_neg e] at h1
      by_cases e2 : y = z
      · subst e2
        rw [if_neg e]
        exact h1
      · rw [if_neg e2] at h2
        have h3 := ltX_trans h1 h2
        have ne : ¬ x = z := fun e3 => by rw [e3, ltX_irr] at h3; cases h3
        rw [if_neg ne]
        exact h3
theorem ltR_asym {x y : List (Cell × Int)} (h : ltR x y = true) : ltR y x = false := by
  cases g : ltR y x with
  | false => rfl
  | true =>
    have := ltR_trans h g
    rw [ltR_irr] at this
    cases this
theorem swo_R {α : Type} (k : α → List (Cell × Int)) : SrtO.Swo fun v u => ltR (k v) (k u) := by
  refine ⟨fun x y h => ltR_asym h, fun x y z h1 h2 => ?_⟩
  cases g : ltR (k z) (k x) with
  | false => rfl
  | true =>
    rcases ltR_tri (k x) (k y) with a | a | a
    · have := ltR_trans g a
      rw [h2] at this
      cases this
    · rw [← a, g] at h2
      cases h2
    · rw [h1] at a
      cases a
/-- the value is a tuple of pairs of a cell and a weight -/
def IsRw (h : Heap) (v : Value) (ρ : List (Cell × Int)) : Prop := ∃ (a : Addr) (o : Obj) (items : Array Value) (n : Nat), v = .ref a ∧ h.get? a = some o ∧ o.cls = .type "tuple" ∧ o.data = .seq items n ∧ Paired (IsPr h) items.toList ρ
theorem paired_imp {α β : Type} {R S : α → β → Prop} (k : ∀ a b, R a b → S a b) : ∀ {l : List α} {m : List β}, Paired R l m → Paired S l m
  | _, _, .nil => .nil
  | _, _, .cons h t => .cons (k _ _ h) (paired_imp k t)
theorem IsRw.keeps {h h' : Heap} {v : Value} {ρ : List (Cell × Int)} (p : IsRw h v ρ) (k : ∀ b o, h.get? b = some o → o.cls = .type "tuple" → h'.get? b = some o) : IsRw h' v ρ := by
  obtain ⟨a, o, items, n, e, ho, hc, hd, hp⟩ := p
  exact ⟨a, o, items, n, e, k _ _ ho hc, hc, hd, paired_imp (fun _ _ z => z.keeps k) hp⟩
theorem isPr_key {h : Heap} {v : Value} {x : Cell × Int} (p : IsPr h v x) : NestedIs h (.tup [cellK x.1, .num x.2]) v := by
  obtain ⟨a, b, t, rfl, ⟨o, ho, hc, n, hd⟩, a', t1, t2, e, o2, ho2, hc2, n2, hd2⟩ := p
  cases e
  exact .tup ho hc hd (.cons (.tup ho2 hc2 hd2 (.cons (.text _ _) (.cons (.int _ _) .nil))) (.cons (.int _ _) .nil))
section
variable {prog : Program} {w : World} {A : Around} {E : Value → Shared → Prop} {s : Shared}
theorem pairs_eq {u v : Value} {x y : Cell × Int} (hx : IsPr s.heap u x) (hy : IsPr s.heap v y) (hu : A.units + 2 < cLine) : SeqAt.EqAt A s u v (decide (x = y)) := by
  have h := eqAt_key _ _ A s u v (isPr_key hx) (isPr_key hy) (by show A.units + min (max (max 0 (max 0 0) + 1) (max 0 0) + 1) _ < cLine; omega)
  have e : NestedKey.beq (.tup [cellK x.1, .num x.2]) (.tup [cellK y.1, .num y.2]) = decide (x = y) := by
    rw [← NestedKey.decide_eq]
    refine decide_eq_decide.mpr ⟨fun z => ?_, fun z => by rw [z]⟩
    injection z with z
    injection z with z1 z2
    injection z2 with z2 _
    injection z2 with z2
    exact Prod.ext (cellK_inj z1) z2
  rw [← e]
  exact h
end
end Ask
/-! AskQk: rows compared, and a list of rows that can be sorted. -/
namespace Ask
open PySem PySem.Spec PyProof.Rows L2 AskG
section
variable {prog : Program} {w : World} {A : Around} {E : Value → Shared → Prop} {s : Shared}
theorem pairs_lt {u v : Value} {x y : Cell × Int} (hx : IsPr s.heap u x) (hy : IsPr s.heap v y) (hu : A.units + 2 < cLine) : Ob.RcOp .Lt A s u v (ltX x y) := by
  obtain ⟨a, b, t, rfl, ta, cb⟩ := hx
  obtain ⟨a', b', t', rfl, ta', cb'⟩ := hy
  have low : A.in1.units < cLine := by rw [Around.in1_units]; omega
  have R := Ob.RcOp.tuples_lt (A := A) (s := s) (e := fun j => if j = 0 then decide (x.1 = y.1) else x.2 == y.2)
    (r := fun j => if j = 0 then ltC x.1 y.1 else decide (x.2 < y.2)) ta ta' (by omega)
    (fun j h1 h2 => by
      have h1 : j < 2 := h1
      match j, h1 with
      | 0, _ => exact cells_eq cb cb' low
      | 1, _ => exact SeqAt.EqAt.int_int x.2 t y.2 t')
    (fun j h1 h2 _ => by
      have h1 : j < 2 := h1
      match j, h1 with
      | 0, _ => exact cells_lt cb cb' low
      | 1, _ => exact Ob.RcOp.lt_int x.2 y.2 t t')
  have e : Ob.lexAt (fun j => if j = 0 then decide (x.1 = y.1) else x.2 == y.2) (fun j => if j = 0 then ltC x.1 y.1 else decide (x.2 < y.2)) (decide (2 < 2)) 0 (min 2 2) = ltX x y := by
    show (if decide (x.1 = y.1) = true then (if (x.2 == y.2) = true then decide (2 < 2) else decide (x.2 < y.2)) else ltC x.1 y.1) = ltX x y
    unfold ltX
    by_cases e1 : x.1 = y.1
    · rw [if_pos (decide_eq_true e1), if_pos e1]
      by_cases e2 : x.2 = y.2
      · rw [if_pos (beq_iff_eq.mpr e2), e2, decide_eq_false (Int.lt_irrefl _)]
        rfl
      · rw [if_neg fun z => e2 (beq_iff_eq.mp z)]
    · rw [if_neg fun z => e1 (of_decide_eq_true z), if_neg e1]
  rw [← e]
  exact R
theorem paired_len {α β : Type} {R : α → β → Prop} : ∀ {l : List α} {m : List β}, Paired R l m → l.length = m.length
  | _, _, .nil => rfl
  | _, _, .cons _ t => congrArg (· + 1) (paired_len t)
/-- two rows from their i-th pairs on -/
theorem rows_lex (hu : A.units + 2 < cLine) : ∀ (xs ys : List (Cell × Int)) (us vs : List Value) (i : Nat) (fin : Bool) (Q : Bool → Shared → Prop), Paired (IsPr s.heap) us xs → Paired (IsPr s.heap) vs ys →
    fin = decide (xs.length < ys.length) → Q (ltR xs ys) s → PySem.W.KatLex prog w A false fin Q (us.zip vs) i s
  | [], [], _, _, i, fin, Q, .nil, .nil, e, q => by
    subst e
    exact PySem.W.kat_nil q
  | [], _ :: _, _, _, i, fin, Q, .nil, .cons _ _, e, q => by
    subst e
    exact PySem.W.kat_nil (show Q (decide (0 < _ + 1)) s by rw [decide_eq_true (Nat.succ_pos _)]; exact q)
  | _ :: _, [], _, _, i, fin, Q, .cons _ _, .nil, e, q => by
    subst e
    exact PySem.W.kat_nil (show Q (decide (_ + 1 < 0)) s by rw [decide_eq_false (Nat.not_lt_zero _)]; exact q)
  | x :: xs, y :: ys, _, _, i, fin, Q, .cons hx tx, .cons hy ty, e, q => by
    unfold ltR at q
    refine PySem.W.kat_cons (pairs_eq hx hy hu prog w _ _ (PySem.W.kat_go (fun e1 => ?_) (fun e1 => ?_)))
    · rw [if_pos (of_decide_eq_true e1)] at q
      refine PySem.W.kat_yes (rows_lex hu xs ys _ _ (i + 1) fin Q tx ty ?_ q)
      rw [e, List.length_cons, List.length_cons]
      exact decide_eq_decide.mpr (by omega)
    · rw [if_neg (of_decide_eq_false e1)] at q
      exact PySem.W.kat_no (PySem.W.kat_one _ _ (pairs_lt hx hy hu prog w _ _ q))
theorem row_cmp {vs : List Value} {k : Value → List (Cell × Int)} (hu : A.units + 2 < cLine) (hp : ∀ v ∈ vs, IsRw s.heap v (k v)) :
    SrtO.Cmp prog w A s (tuples' false) (fun p => p.1 ∈ vs) (SrtO.lt2 fun v u => ltR (k v) (k u)) := by
  intro p q hm hm'
  have h1 := hp _ hm
  have h2 := hp _ hm'
  show wpAny (model prog w) A (keyLt' (tuples' false) p.1 q.1) (fun r s' => s' = s ∧ r = ltR (k p.1) (k q.1)) (fun _ _ => False) s
  generalize k p.1 = x at h1 ⊢
  generalize k q.1 = y at h2 ⊢
  obtain ⟨a, o, its, n, e, ho, hc, hd, hx⟩ := h1
  obtain ⟨a', o', its', n', e', ho', hc', hd', hy⟩ := h2
  rw [e, e']
  refine PySem.W.kat_lt ho hd ho' hd' (rows_lex hu x y _ _ 0 _ _ hx hy ?_ ⟨rfl, rfl⟩)
  rw [← paired_len hx, ← paired_len hy, Array.length_toList, Array.length_toList]
theorem row_firsts {h : Heap} : ∀ {vs : List Value}, (∀ v ∈ vs, ∃ ρ, ρ ≠ [] ∧ IsRw h v ρ) →
    ∃ fs : List Value, PySem.W.KatTups h vs fs ∧ fs.length = vs.length ∧ ∀ f ∈ fs, ∃ x, IsPr h f x
  | [], _ => ⟨[], .nil, rfl, fun f hf => absurd hf (by simp)⟩
  | v :: vs, z => by
    obtain ⟨fs, k, hl, hi⟩ := row_firsts (vs := vs) fun u hu => z u (List.mem_cons.mpr (.inr hu))
    obtain ⟨ρ, ne, a, o, its, n, rfl, ho, hc, hd, hp⟩ := z v (List.mem_cons.mpr (.inl rfl))
    cases hq : its.toList with
    | nil =>
      rw [hq] at hp
      cases hp
      exact absurd rfl ne
    | cons f l =>
      rw [hq] at hp
      cases hp with
      | cons h1 _ =>
        refine ⟨f :: fs, .cons ho hc hd ?_ k, congrArg (· + 1) hl, fun g hg => ?_⟩
        · first
            | (rw [← Array.getElem?_toList, hq]; rfl)
            | (rw [hq]; rfl)
            | simp [hq]
        · cases hg with
          | head => exact ⟨_, h1⟩
          | tail _ hg => exact hi g hg
theorem rows_sortable {a : Addr} {vs : List Value} {k : Value → List (Cell × Int)} (hu : A.units + 2 < cLine) (h0 : 0 < vs.length) (hp : ∀ v ∈ vs, IsRw s.heap v (k v)) (ne : ∀ v ∈ vs, k v ≠ [])
    (ha : ∀ o, s.heap.get? a = some o → o.cls ≠ .type "tuple") : SrtO.SortableO prog w A s a vs fun v u => ltR (k v) (k u) := by
  intro h' keep
  have hp' : ∀ v ∈ vs, IsRw h' v (k v) := fun v hm => (hp v hm).keeps fun b o e c => keep b o (fun z => by subst z; exact ha o e c) e
  obtain ⟨fs, h1, h2, h3⟩ := row_firsts fun v hm => ⟨_, ne v hm, hp' v hm⟩
  refine ⟨tuples' false, fun Q E hq => ?_, row_cmp hu hp'⟩
  refine PySem.W.kat_kind (T := .type "tuple") h1 (by omega) (fun f hm => ?_) (by rfl) ?_
  · obtain ⟨x, b, _, _, rfl, ⟨o, ho, hc, _⟩, _⟩ := h3 f hm
    exact fun A Q E s k q => wpAny_typeOf ⟨o, k _ _ ho, hc⟩ q
  · have e : (Value.type "tuple" != Value.type "tuple") = false := by first | decide +kernel | rfl | decide
    rw [e]
    exact hq
end
end Ask
/-! AskZk: sorted of a set of rows that are not (). -/
namespace Ask
open PySem PySem.Spec PyProof.Rows L2 AskG
def pairK (x : Cell × Int) : NestedKey := .tup [cellK x.1, .num x.2]
def rowK (ρ : RowD) : NestedKey := .tup (ρ.map pairK)
theorem pairK_inj {x y : Cell × Int} (h : pairK x = pairK y) : x = y := by
  unfold pairK at h
  injection h with h
  injection h with h1 h2
  injection h2 with h2 _
  injection h2 with h2
  exact Prod.ext (cellK_inj h1) h2
theorem pairs_inj : ∀ {ρ π : RowD}, ρ.map pairK = π.map pairK → ρ = π
  | [], [], _ => rfl
  | [], _ :: _, h => by cases h
  | _ :: _, [], h => by cases h
  | x :: ρ, y :: π, h => by
    rw [List.map_cons, List.map_cons] at h
    injection h with h1 h2
    rw [pairK_inj h1, pairs_inj h2]
theorem rowK_inj {ρ π : RowD} (h : rowK ρ = rowK π) : ρ = π := by
  unfold rowK at h
  injection h with h
  exact pairs_inj h
theorem pairs_deep : ∀ ρ : RowD, NestedKey.depthAll (ρ.map pairK) ≤ 2
  | [] => Nat.zero_le _
  | x :: ρ => by
    have h := pairs_deep ρ
    have e : (pairK x).depth = 2 := rfl
    rw [List.map_cons]
    simp only [NestedKey.depthAll, e]
    omega
theorem rowK_deep (ρ : RowD) : (rowK ρ).depth ≤ 8 := by
  have h := pairs_deep ρ
  show NestedKey.depthAll (ρ.map pairK) + 1 ≤ 8
  omega
theorem pair_key {K : PySem.W.Frag} {H : Hp} {p : Addr} {x : Cell × Int} (h : PairRow H p x) : HKey K H (pairK x) (.ref p) := by
  obtain ⟨b, h1, h2⟩ := h
  exact ⟨p, _, rfl, .inl (.inl h1), _, _, rfl, cell_key h2, _, _, rfl, rfl, rfl⟩
theorem pairs_key {K : PySem.W.Frag} {H : Hp} : ∀ {ps : List Addr} {ρ : RowD}, Paired (PairRow H) ps ρ → HKeys K H (ρ.map pairK) (ps.map V.ref)
  | _, _, .nil => rfl
  | _, _, .cons h t => ⟨_, _, rfl, pair_key h, pairs_key t⟩
theorem row_key {K : PySem.W.Frag} {H : Hp} {r : Addr} {ρ : RowD} (h : RowAt H r ρ) : HKey K H (rowK ρ) (.ref r) := by
  obtain ⟨ps, h1, h2⟩ := h
  exact ⟨r, _, rfl, .inl (.inl h1), pairs_key h2⟩
theorem isRw_of {P : Program} {w : World} {H : Hp} {h : Heap} {r : Addr} {ρ : RowD} (ok : HOk P w H h) (e : RowAt H r ρ) : IsRw h (.ref r) ρ := by
  obtain ⟨ps, h1, h2⟩ := e
  obtain ⟨_, its, rv, o, ho, hc, n, hd⟩ := (show ObjOk P w H h r (.tup (ps.map V.ref)) from ok r _ h1)
  refine ⟨r, o, _, n, rfl, ho, hc, hd, ?_⟩
  have z : ∀ {ps : List Addr} {ρ : RowD} {us : List Value}, Paired (PairRow H) ps ρ → Vals (ps.map V.ref) us → Paired (IsPr h) us ρ := by
    intro ps ρ us hp
    induction hp generalizing us with
    | nil =>
      intro v
      cases v
      exact .nil
    | cons h1 _ ih =>
      intro v
      cases v with
      | cons r1 r2 =>
        cases r1
        exact .cons (isPr_of ok h1) (ih r2)
  simpa using z h2 rv
/-- the row behind a value -/
noncomputable def rowOfV (H : Hp) (v : Value) : RowD := @dite _ (∃ a ρ, v = .ref a ∧ RowAt H a ρ) (Classical.propDecidable _) (fun h => h.choose_spec.choose) fun _ => []
theorem RowAt.one {H : Hp} {a : Addr} {ρ π : RowD} (h : RowAt H a ρ) (g : RowAt H a π) : ρ = π := by
  obtain ⟨ps, h1, h2⟩ := h
  obtain ⟨qs, g1, g2⟩ := g
  have e : ps = qs := by
    rw [h1] at g1
    injection g1 with g1
    injection g1 with g1
    clear h1 h2 g2
    induction ps generalizing qs with
    | nil =>
      cases qs with
      | nil => rfl
      | cons _ _ => cases g1
    | cons p ps ih =>
      cases qs with
      | nil => cases g1
      | cons q qs =>
        rw [List.map_cons, List.map_cons] at g1
        injection g1 with e1 e2
        injection e1 with e1
        rw [e1, ih qs e2]
  subst e
  clear h1 g1
  induction h2 generalizing π with
  | nil =>
    cases g2
    rfl
  | cons k _ ih =>
    cases g2 with
    | cons k' t' =>
      rw [ih t', ← pairOf_at k, ← pairOf_at k']
theorem rowOfV_at {H : Hp} {a : Addr} {ρ : RowD} (h : RowAt H a ρ) : rowOfV H (.ref a) = ρ := by
  have ex : ∃ b π, Value.ref a = .ref b ∧ RowAt H b π := ⟨a, ρ, rfl, h⟩
  unfold rowOfV
  rw [dif_pos ex]
  obtain ⟨e, g⟩ := ex.choose_spec.choose_spec
  injection e with e
  exact RowAt.one g (e ▸ h)
/-- L is a list of rows that are not (), each where it says -/
def RowsIn (H : Hp) (L : List (Addr × NestedKey)) : Prop := ∀ p ∈ L, ∃ ρ, ρ ≠ [] ∧ p.2 = rowK ρ ∧ RowAt H p.1 ρ
theorem RowsIn.keys {K : PySem.W.Frag} {H : Hp} {L : List (Addr × NestedKey)} (h : RowsIn H L) : KeysAt K H L := fun p hp => by
  obtain ⟨ρ, _, e, hr⟩ := h p hp
  rw [e]
  exact ⟨row_key hr, rowK_deep ρ⟩
theorem strictR : ∀ {ys : List RowD}, ys.Pairwise (fun a b => ltR b a = false) → ys.Nodup → ys.Pairwise (fun a b => ltR a b = true) := by
  intro ys h n
  refine (h.and n).imp ?_
  rintro a b ⟨h1, h2⟩
  rcases ltR_tri a b with g | g | g
  · exact g
  · exact absurd g h2
  · rw [h1] at g
    cases g
/-- sorted(a), a a set of rows -/
def rSortSR (w : World) : List V → Hp → VK → Prop := fun xs H Q => ∃ (a : Addr) (L : List (Addr × NestedKey)), xs = [.ref a] ∧ H a = some (SetKO w a L) ∧ RowsIn H L ∧
  ∀ (ys : List RowD) (bs : List Addr) (p : Addr), (∀ ρ, ρ ∈ ys ↔ rowK ρ ∈ L.map Prod.snd) → ys.length = L.length → ys.Pairwise (fun a b => ltR a b = true) →
    Paired (RowAt H) bs ys → H p = none → Q (.ref p) (upd H p (.lst (bs.map V.ref)))
section
variable {X : Cx}
theorem cr_sortSR (hc : X.calm = true) (hu : X.A.units + 8 < cLine) : CallR X (.builtin "sorted") (rSortSR X.w) := by
  intro pins s σ H xs us Q I r q
  obtain ⟨a, L, rfl, ha, hL, q⟩ := q
  obtain ⟨u, rfl, ru⟩ := vals1 r
  obtain rfl : u = Value.ref a := ru
  have S0 : SetK0 X.w s.heap a L := (I.hok a _ ha).1
  obtain ⟨es, ep, t, S⟩ := S0.whole (P := X.prog) ((hL.keys (K := X.K)).are I)
  have vals : ∀ v ∈ L.map (fun p => Value.ref p.1), ∃ b ρ, v = .ref b ∧ ρ ≠ [] ∧ RowAt H b ρ := fun v hv => by
    obtain ⟨p, hp, rfl⟩ := List.mem_map.mp hv
    obtain ⟨ρ, ne, _, h⟩ := hL p hp
    exact ⟨_, ρ, rfl, ne, h⟩
  refine sortedK S (I.ok.hd hc) (ltv := fun v u => ltR (rowOfV H v) (rowOfV H u)) (swo_R _) (fun vs pm h2 s1 l hl past => ?_) fun s' p out c keep g o hp at' pm srt => ?_
  · refine rows_sortable (by rw [Around.in1_units, Around.in1_units]; omega) (by omega) (fun v hv => ?_) (fun v hv => ?_) fun o' eo => ?_
    · obtain ⟨b, ρ, rfl, _, h⟩ := vals v (pm.mem_iff.mp hv)
      rw [rowOfV_at h]
      exact (isRw_of I.hok h).keeps fun b o e _ => (past b o e).2
    · obtain ⟨b, ρ, rfl, ne, h⟩ := vals v (pm.mem_iff.mp hv)
      rw [rowOfV_at h]
      exact ne
    · have e' : some o' = some (seqObj "list" vs.toArray 0) := eo.symm.trans hl
      cases e'
      intro c
      exact absurd (Value.type.inj c) (by decide)
  · have hout : ∀ v ∈ out, ∃ b ρ, v = .ref b ∧ RowAt H b ρ := fun v hv => by
      obtain ⟨b, ρ, e, _, h⟩ := vals v (pm.mem_iff.mp hv)
      exact ⟨b, ρ, e, h⟩
    obtain ⟨bs, rfl⟩ : ∃ bs : List Addr, out = bs.map Value.ref := by
      clear pm srt at'
      induction out with
      | nil => exact ⟨[], rfl⟩
      | cons v l ih =>
        obtain ⟨bs, e⟩ := ih fun u hu => hout u (List.mem_cons_of_mem _ hu)
        obtain ⟨b, _, e', _⟩ := hout v List.mem_cons_self
        exact ⟨b :: bs, by rw [e', e]; rfl⟩
    have at2 : ∀ b ∈ bs, RowAt H b (rowOfV H (.ref b)) := fun b hb => by
      obtain ⟨b', c', e, h⟩ := hout (.ref b) (List.mem_map.mpr ⟨b, hb, rfl⟩)
      cases e
      rw [rowOfV_at h]
      exact h
    have kL : L.map Prod.snd = ((L.map fun p => Value.ref p.1).map (rowOfV H)).map rowK := by
      rw [List.map_map, List.map_map]
      refine List.map_congr_left fun p hp => ?_
      obtain ⟨ρ, _, e, h⟩ := hL p hp
      show p.2 = rowK (rowOfV H (.ref p.1))
      rw [rowOfV_at h, e]
    have pmc : ((bs.map Value.ref).map (rowOfV H)).Perm ((L.map fun p => Value.ref p.1).map (rowOfV H)) := pm.map _
    have ys : (bs.map Value.ref).map (rowOfV H) = bs.map fun b => rowOfV H (.ref b) := by rw [List.map_map]; rfl
    have nd : ((bs.map Value.ref).map (rowOfV H)).Nodup := by
      refine pmc.nodup_iff.mpr ?_
      have one := S.one
      rw [kL] at one
      exact (List.pairwise_map.mp one).imp fun h e => h (congrArg rowK e)
    have st := strictR (List.pairwise_map.mpr srt) nd
    have len : (bs.map Value.ref).length = L.length := by rw [pm.length_eq, List.length_map]
    rw [List.length_map] at len
    have few := S.few
    have hn : H p = none := I.hok.fresh hp
    have J : Inv X pins σ (upd H p (.lst (bs.map V.ref))) { s with heap := s'.heap, gens := s'.gens, drawn := s'.drawn, toks := s'.toks } :=
      I.call (ch := []) (Un.laid keep hp hn) (I.hok.laid keep hp ⟨by rw [List.length_map, sizeLine_eq]; omega, bs.map Value.ref, c, refs_vals bs, at'⟩) (by rw [g]; exact I.bare) (fun _ z => nomatch z)
    have e : s' = { s with heap := s'.heap, gens := s'.gens, drawn := s'.drawn, toks := s'.toks } := by
      cases s'
      cases s
      cases o
      rfl
    rw [e]
    refine ⟨.ref p, _, J, rfl, q _ bs p (fun ρ => ?_) ?_ (ys ▸ st) (paired_of (fun b => rowOfV H (.ref b)) at2) hn⟩
    · rw [← ys, pmc.mem_iff, kL]
      exact ⟨fun m => List.mem_map.mpr ⟨ρ, m, rfl⟩, fun m => by
        obtain ⟨π, hd, e⟩ := List.mem_map.mp m
        rw [← rowK_inj e]
        exact hd⟩
    · rw [List.length_map]
      exact len
end
end Ask
/-! AskDk: a dict whose keys are nested keys and whose values are all True. -/
namespace Ask
open PySem PySem.Spec PyProof.Rows L2 AskG
abbrev KA := Addr × NestedKey
/-- the dict's entries -/
abbrev asEnt (L : List KA) : List (NestedKey × Addr × Value) := L.map fun p => (p.2, p.1, Value.bool true)
def putD (L : List KA) (b : Addr) (k : NestedKey) : List KA := if k ∈ L.map Prod.snd then L else L ++ [(b, k)]
theorem atKey_in : ∀ {L : List KA} {k : NestedKey}, (atKey (asEnt L) k).isSome = decide (k ∈ L.map Prod.snd)
  | [], _ => rfl
  | p :: L, k => by
    have ih := atKey_in (L := L) (k := k)
    show (Option.map (·.2) (List.find? (fun x => decide (x.1 = k)) ((p.2, p.1, Value.bool true) :: asEnt L))).isSome = decide (k ∈ p.2 :: L.map Prod.snd)
    by_cases e : p.2 = k
    · rw [List.find?_cons_of_pos (by exact decide_eq_true e), decide_eq_true (List.mem_cons.mpr (.inl e.symm))]
      rfl
    · rw [List.find?_cons_of_neg (by intro z; exact e (of_decide_eq_true z))]
      refine ih.trans (decide_eq_decide.mpr ⟨fun m => List.mem_cons.mpr (.inr m), fun m => ?_⟩)
      cases List.mem_cons.mp m with
      | inl z => exact absurd z.symm e
      | inr z => exact z
theorem putAt_same {L : List KA} {k : NestedKey} : (asEnt L).map (putAt k (Value.bool true)) = asEnt L := by
  induction L with
  | nil => rfl
  | cons p L ih =>
    show putAt k (Value.bool true) (p.2, p.1, Value.bool true) :: (asEnt L).map (putAt k (Value.bool true)) = _
    rw [ih]
    have e : putAt k (Value.bool true) (p.2, p.1, Value.bool true) = (p.2, p.1, Value.bool true) := by
      unfold putAt
      split <;> rfl
    rw [e]
    rfl
theorem stored_put (L : List KA) (b : Addr) (k : NestedKey) : storedH (asEnt L) k b (Value.bool true) = asEnt (putD L b k) := by
  unfold storedH putD
  rw [atKey_in]
  by_cases h : k ∈ L.map Prod.snd
  · rw [if_pos (decide_eq_true h), if_pos h, putAt_same]
  · rw [if_neg (by rw [decide_eq_false h]; decide), if_neg h]
    show _ = List.map _ (L ++ [(b, k)])
    rw [List.map_append]
    rfl
/-- the dict at a, its keys aside -/
structure DicK0 (P : Program) (w : World) (h : Heap) (a : Addr) (L : List KA) : Prop where
  sys : (a == sysModules) = false
  has : ∃ o es ep, h.get? a = some o ∧ o.ExactDict ∧ o.data = .dict es ep ∧ es.toList = (asEnt L).map (entryOfKey (nestedKind P w)) ∧ (L.map Prod.snd).Nodup
def DicKO (P : Program) (w : World) (a : Addr) (L : List KA) : HO := .ext fun h => DicK0 P w h a L
theorem dicKO_ok {P : Program} {w : World} {H : Hp} {h : Heap} {a : Addr} {L : List KA} (S : DicK0 P w h a L) : ObjOk P w H h a (DicKO P w a L) := by
  obtain ⟨o, es, ep, ho, r⟩ := id S.has
  refine ⟨S, ⟨o, ho⟩, fun h1 h2 p k => ?_⟩
  obtain ⟨sy, o', es', ep', ho', r'⟩ := (show DicK0 P w h1 a L from p)
  exact ⟨sy, o', es', ep', k o' ho', r'⟩
theorem asEnt_keys (L : List KA) : (asEnt L).map (·.1) = L.map Prod.snd := by
  rw [List.map_map]
  rfl
section
variable {X : Cx} {pins : List (Addr × Obj)} {σ : L2.St} {H : Hp} {s : Shared} {E : Value → Shared → Prop}
theorem DicK0.whole {L : List KA} {a : Addr} (S : DicK0 X.prog X.w s.heap a L) (hL : KeysAt X.K H L) (I : Inv X pins σ H s) : s.heap.DictOfH (nestedKind X.prog X.w) a (asEnt L) := by
  obtain ⟨_, o, es, ep, ho, hx, hd, he, hn⟩ := S
  refine ⟨o, es, ep, ho, hx, hd, he, fun x m => ?_, by rw [asEnt_keys]; exact hn⟩
  obtain ⟨p, hp, rfl⟩ := List.mem_map.mp m
  exact hL.are I p hp
/-- D[x] = True -/
theorem putD_ok {D x : Addr} {L : List KA} {k : NestedKey} {Q : Unit → Shared → Prop} (I : Inv X pins σ H s) (room : X.A.units + 10 < cLine) (hD : H D = some (DicKO X.prog X.w D L)) (hL : KeysAt X.K H L) (few : L.length ≤ 1000)
    (hk : HKey X.K H k (.ref x)) (hd : k.depth ≤ 8) (h : ∀ s', Inv X pins σ (upd H D (DicKO X.prog X.w D (putD L x k))) s' → Q () s') :
    wpAny (model X.prog X.w) X.A (dictSet D (.ref x) (.bool true)) Q E s := by
  have S : DicK0 X.prog X.w s.heap D L := (I.hok D _ hD).1
  refine wpAny_dictSet_heap (knd := nestedKind X.prog X.w) (show X.A.units + 8 < cLine by omega) ⟨hkey_is I k (.ref x) (.ref x) hk rfl, hd⟩ (S.whole hL I) (fun h' dd sb => h _ ?_) (by rw [List.length_map, sizeLine_eq]; omega)
  rw [stored_put] at dd
  obtain ⟨o, es, ep, ho, hx, hdd, he, _, hn⟩ := dd
  rw [asEnt_keys] at hn
  exact I.write (e := D) (t' := s.toks + k.draws) (by rw [hD]; trivial) (.inl rfl) (fun b u hb hu => (sb.2 b hb).trans hu) ⟨o, ho⟩ (dicKO_ok ⟨S.sys, o, es, ep, ho, hx, hdd, he, hn⟩)
end
end Ask
/-! AskEk: {} as a dict of nested keys, d[k] = True. -/
namespace Ask
open PySem PySem.Spec PyProof.Rows L2 AskG
def tDNewN (P : Program) (w : World) : TE := fun _ H Q => ∀ p, H p = none → Q (.ref p) (upd H p (DicKO P w p []))
/-- d[k] = True -/
def sDPutN (P : Program) (w : World) (K : PySem.W.Frag) (td ty tv : TE) : TS := fun D σ H => tv σ H fun v H1 => td σ H1 fun x H2 => ty σ H2 fun y H3 => ∃ a b L k, v = .bl true ∧ x = .ref a ∧ y = .ref b ∧
  H3 a = some (DicKO P w a L) ∧ KeysAt K H3 L ∧ L.length ≤ 1000 ∧ HKey K H3 k (.ref b) ∧ k.depth ≤ 8 ∧ D.nx σ (upd H3 a (DicKO P w a (putD L b k)))
section
variable {X : Cx} {o i value : Expr} {pos pos' : Pos} {td ty tv : TE}
theorem pe_dnewN : PE X (.Dict [] [] pos) (tDNewN X.prog X.w) := by
  constructor
  intro pins s σ H Q I h
  refine wpAny_Dict_empty ⟨.ref s.heap.objs.size, _, I.laid (a := s.heap.objs.size) (o := DicKO X.prog X.w s.heap.objs.size []) (t' := s.toks) (fun _ _ q => Heap.get?_push_of_some _ q) (Nat.le_refl _) (dicKO_ok ⟨?_, ?_⟩), rfl, h _ (I.hok.fresh (Nat.le_refl _))⟩
  · exact beq_eq_false_iff_ne.mpr (Ne.symm (Nat.ne_of_lt I.big))
  · exact ⟨_, #[], 0, Heap.get?_push_size _ rfl, ⟨rfl, rfl, rfl⟩, rfl, rfl, List.nodup_nil⟩
theorem setN {pins : List (Addr × Obj)} {σ : L2.St} {H : Hp} {s : Shared} {E : Value → Shared → Prop} {D x : Addr} {L : List KA} {k : NestedKey} {Q : Unit → Shared → Prop} (I : Inv X pins σ H s) (room : X.A.units + 10 < cLine)
    (hD : H D = some (DicKO X.prog X.w D L)) (hL : KeysAt X.K H L) (few : L.length ≤ 1000) (hk : HKey X.K H k (.ref x)) (hd : k.depth ≤ 8)
    (h : ∀ s', Inv X pins σ (upd H D (DicKO X.prog X.w D (putD L x k))) s' → Q () s') : wpAny (model X.prog X.w) X.A (setItem (.ref D) (.ref x) (.bool true)) Q E s := by
  have S : DicK0 X.prog X.w s.heap D L := (I.hok D _ hD).1
  refine wpAny_setItem_heap (knd := nestedKind X.prog X.w) (show X.A.in1.units + 8 < cLine by rw [Around.in1_units]; omega) ⟨hkey_is I k (.ref x) (.ref x) hk rfl, hd⟩ (S.whole hL I) (fun h' dd sb => h _ ?_) (by rw [List.length_map, sizeLine_eq]; omega)
  rw [stored_put] at dd
  obtain ⟨o, es, ep, ho, hx, hdd, he, _, hn⟩ := dd
  rw [asEnt_keys] at hn
  exact I.write (e := D) (t' := s.toks + k.draws) (by rw [hD]; trivial) (.inl rfl) (fun b u hb hu => (sb.2 b hb).trans hu) ⟨o, ho⟩ (dicKO_ok ⟨S.sys, o, es, ep, ho, hx, hdd, he, hn⟩)
theorem ps_dputN (hu : X.A.units + 10 < cLine) (ho : PE X o td) (hi : PE X i ty) (hv : PE X value tv) (hs : swapsWith value (some (.Subscript o i pos')) pos.line X.env = pure false) :
    PS X (.Assign [.Subscript o i pos'] value pos) (sDPutN X.prog X.w X.K td ty tv) := by
  constructor
  intro pins s σ H D I h
  refine wpAny_Assign_Subscript (thn (hv.run pins s σ H _ I h) ?_) hs
  rintro r s1 ⟨v, H1, I1, rv, q1⟩
  refine thn (ho.run pins s1 σ H1 _ I1 q1) ?_
  rintro u s2 ⟨x, H2, I2, rx, q2⟩
  refine thn (hi.run pins s2 σ H2 _ I2 q2) ?_
  rintro iv s3 ⟨y, H3, I3, ry, a, b, L, k, ev, ex, ey, hD, hL, few, hk, hd, q3⟩
  subst ev ex ey
  cases rv
  cases rx
  cases ry
  exact setN I3 hu hD hL few hk hd fun s4 I4 => ⟨σ, _, I4, q3⟩
end
end Ask
/-! AskFk: sorted of a dict whose keys are rows that are not (). -/
namespace Ask
open PySem PySem.Spec PyProof.Rows L2 AskG
/-- sorted(d), d a dict of rows -/
def rSortDR (P : Program) (w : World) : List V → Hp → VK → Prop := fun xs H Q => ∃ (a : Addr) (L : List KA), xs = [.ref a] ∧ H a = some (DicKO P w a L) ∧ RowsIn H L ∧ L.length ≤ 1000 ∧
  ∀ (ys : List RowD) (bs : List Addr) (p : Addr), (∀ ρ, ρ ∈ ys ↔ rowK ρ ∈ L.map Prod.snd) → ys.length = L.length → ys.Pairwise (fun a b => ltR a b = true) →
    Paired (RowAt H) bs ys → H p = none → Q (.ref p) (upd H p (.lst (bs.map V.ref)))
section
variable {X : Cx}
theorem cr_sortDR (hc : X.calm = true) (hu : X.A.units + 8 < cLine) : CallR X (.builtin "sorted") (rSortDR X.prog X.w) := by
  intro pins s σ H xs us Q I r q
  obtain ⟨a, L, rfl, ha, hL, few, q⟩ := q
  obtain ⟨u, rfl, ru⟩ := vals1 r
  obtain rfl : u = Value.ref a := ru
  obtain ⟨hs, o, es, ep, ho, hx, hdt, he, hn⟩ := (show DicK0 X.prog X.w s.heap a L from (I.hok a _ ha).1)
  have l1 : es.size = L.length := by rw [size_of_entries he, List.length_map]
  have vals : ∀ v ∈ L.map (fun p => Value.ref p.1), ∃ b ρ, v = .ref b ∧ ρ ≠ [] ∧ RowAt H b ρ := fun v hv => by
    obtain ⟨p, hp, rfl⟩ := List.mem_map.mp hv
    obtain ⟨ρ, ne, _, h⟩ := hL p hp
    exact ⟨_, ρ, rfl, ne, h⟩
  refine Calls.call_function_entry PyProof.Rows.kind_sorted PyProof.Rows.plain_sorted
    PyProof.Rows.entry_sorted (PyProof.Rows.args_sorted1 _) ?_
  unfold Builtin.«sorted»
  refine wpAny_bind (m := checkCount "sorted" 1 1 _) (wpAny_pure ?_)
  refine wpAny_bind (PySem.W.kdu_collect (A := X.A.in1) (kdl_raw hs hx hdt) (I.ok.hd hc) ho (by rw [l1, sizeLine_eq]; omega) ?_)
  intro h' tk acc hk it
  have ea : acc.toList = L.map fun p => Value.ref p.1 := by
    have hl : acc.toList.length = L.length := by
      rw [Array.length_toList, it.1]
      exact l1
    apply List.ext_getElem?
    intro j
    rw [List.getElem?_map]
    cases hj : acc.toList[j]? with
    | none =>
      have h1 := List.getElem?_eq_none_iff.mp hj
      rw [List.getElem?_eq_none (by omega)]
      all_goals rfl
    | some v =>
      obtain ⟨en, hen, hv⟩ := it.2 j v (by rw [← Array.getElem?_toList]; exact hj)
      have qe := entry_at he j
      rw [hen, List.getElem?_map] at qe
      cases hb : L[j]? with
      | none =>
        rw [hb] at qe
        exact nomatch (show some en = none from qe)
      | some b =>
        rw [hb] at qe
        have e2 : en = entryOfKey (nestedKind X.prog X.w) (b.2, b.1, Value.bool true) := Option.some.inj qe
        rw [hv, e2]
        all_goals rfl
  generalize acc.toList = vs at ea ⊢
  subst ea
  have hz : (L.map fun p => Value.ref p.1).length ≤ sizeLine := by
    rw [List.length_map, sizeLine_eq]
    omega
  have I1 : Inv X pins σ H { s with heap := h', toks := tk } := I.kept hk
  refine wpAny_bind (wpAny_newList ?_ hz)
  generalize hvs : (L.map fun p => Value.ref p.1) = vs at hz vals ⊢
  have hoL : (h'.push (seqObj "list" vs.toArray 0)).get? h'.objs.size = some (seqObj "list" vs.toArray 0) := Heap.get?_push_size _ rfl
  show wpAny _ _ _ _ _ { s with heap := h'.push (seqObj "list" vs.toArray 0), toks := tk }
  refine wpAny_bind (wpAny_holding (wpAny_call_entry PyProof.Rows.slot_list_sort ⟨_, hoL, rfl⟩ PyProof.Rows.entry_list_sort
    (SrtO.list_sort_ord (ltv := fun v u => ltR (rowOfV H v) (rowOfV H u)) (swo_R _) hoL hz (fun h2 => ?_) (fun out srt hb => ⟨_, rfl, ?_⟩))
    (PyProof.Rows.args_list_sort _)))
  · refine rows_sortable (by rw [Around.in1_units, Around.in1_units]; omega) (by omega) (fun v hv => ?_) (fun v hv => ?_) fun o' eo => ?_
    · obtain ⟨b, ρ, rfl, _, h⟩ := vals v hv
      rw [rowOfV_at h]
      exact (isRw_of I1.hok h).keeps fun b o e _ => Heap.get?_push_of_some _ e
    · obtain ⟨b, ρ, rfl, ne, h⟩ := vals v hv
      rw [rowOfV_at h]
      exact ne
    · have e' : some o' = some (seqObj "list" vs.toArray 0) := eo.symm.trans hoL
      cases e'
      intro c
      exact absurd (Value.type.inj c) (by decide)
  · obtain ⟨e', at'⟩ := PyProof.Rows.sortedHeap_at (vs := vs) (out := out.toArray) hoL
    have pm : out.Perm (L.map fun p => Value.ref p.1) := hvs ▸ hb.perm
    have hout : ∀ v ∈ out, ∃ b ρ, v = .ref b ∧ RowAt H b ρ := fun v hv => by
      obtain ⟨b, ρ, e, _, h⟩ := vals v (hb.perm.mem_iff.mp hv)
      exact ⟨b, ρ, e, h⟩
    clear hb
    obtain ⟨bs, rfl⟩ : ∃ bs : List Addr, out = bs.map Value.ref := by
      clear pm srt at'
      induction out with
      | nil => exact ⟨[], rfl⟩
      | cons v l ih =>
        obtain ⟨bs, e⟩ := ih fun u hu => hout u (List.mem_cons_of_mem _ hu)
        obtain ⟨b, _, e', _⟩ := hout v List.mem_cons_self
        exact ⟨b :: bs, by rw [e', e]; rfl⟩
    have at2 : ∀ b ∈ bs, RowAt H b (rowOfV H (.ref b)) := fun b hb => by
      obtain ⟨b', c', e, h⟩ := hout (.ref b) (List.mem_map.mpr ⟨b, hb, rfl⟩)
      cases e
      rw [rowOfV_at h]
      exact h
    have kL : L.map Prod.snd = ((L.map fun p => Value.ref p.1).map (rowOfV H)).map rowK := by
      rw [List.map_map, List.map_map]
      refine List.map_congr_left fun p hp => ?_
      obtain ⟨ρ, _, e, h⟩ := hL p hp
      show p.2 = rowK (rowOfV H (.ref p.1))
      rw [rowOfV_at h, e]
    have pmc : ((bs.map Value.ref).map (rowOfV H)).Perm ((L.map fun p => Value.ref p.1).map (rowOfV H)) := pm.map _
    have ys : (bs.map Value.ref).map (rowOfV H) = bs.map fun b => rowOfV H (.ref b) := by rw [List.map_map]; rfl
    have nd : ((bs.map Value.ref).map (rowOfV H)).Nodup := by
      refine pmc.nodup_iff.mpr ?_
      have one := hn
      rw [kL] at one
      exact (List.pairwise_map.mp one).imp fun h e => h (congrArg rowK e)
    have st := strictR (List.pairwise_map.mpr srt) nd
    have len : (bs.map Value.ref).length = L.length := by rw [pm.length_eq, List.length_map]
    rw [List.length_map] at len
    have hlen : (bs.map V.ref).length ≤ sizeLine := by
      rw [List.length_map, sizeLine_eq]
      omega
    refine wpAny_pure ⟨_, rfl, .ref h'.objs.size, upd H h'.objs.size (.lst (bs.map V.ref)), I1.laid (t' := tk) (fun b u e => ?_) (Nat.le_refl _)
      (show ObjOk X.prog X.w _ _ _ (.lst (bs.map V.ref)) from ⟨hlen, bs.map Value.ref, e', refs_vals _, at'⟩), rfl,
      q _ bs _ (fun ρ => ?_) ?_ (ys ▸ st) (paired_of (fun b => rowOfV H (.ref b)) at2) (I1.hok.fresh (Nat.le_refl _))⟩
    · have hb : b < h'.objs.size := Heap.lt_size e
      rw [PyProof.Rows.sortedHeap_old (Nat.ne_of_lt hb) (by rw [size_push']; exact Nat.lt_succ_of_lt hb)]
      exact Heap.get?_push_of_some _ e
    · rw [← ys, pmc.mem_iff, kL]
      exact ⟨fun m => List.mem_map.mpr ⟨ρ, m, rfl⟩, fun m => by
        obtain ⟨π, hd, e⟩ := List.mem_map.mp m
        rw [← rowK_inj e]
        exact hd⟩
    · rw [List.length_map]
      exact len
end
end Ask
/-! AskLk: sorted of a list of rows that are not (). -/
namespace Ask
open PySem PySem.Spec PyProof.Rows L2 AskG
/-- sorted(l), l a list of rows -/
def rSortLR (K : PySem.W.Frag) : List V → Hp → VK → Prop := fun xs H Q => ∃ (a : Addr) (ps : List Addr) (rs : List RowD), xs = [.ref a] ∧ SqL K H a (ps.map V.ref) ∧ Paired (RowAt H) ps rs ∧ (∀ ρ ∈ rs, ρ ≠ []) ∧
  ∀ (ys : List Addr) (ts : List RowD) (p : Addr), ts.Perm rs → ts.Pairwise (fun a b => ltR b a = false) → Paired (RowAt H) ys ts → H p = none → Q (.ref p) (upd H p (.lst (ys.map V.ref)))
theorem paired_both {α β : Type} {R : α → β → Prop} : ∀ {l : List α} {m : List β}, Paired R l m → ∀ a ∈ l, ∃ b ∈ m, R a b
  | _, _, .nil, a, h => absurd h (by simp)
  | _, _, .cons h1 t, a, h => by
    cases List.mem_cons.mp h with
    | inl e => exact ⟨_, List.mem_cons.mpr (.inl rfl), e ▸ h1⟩
    | inr m =>
      obtain ⟨b, hb, r⟩ := paired_both t a m
      exact ⟨b, List.mem_cons.mpr (.inr hb), r⟩
section
variable {X : Cx}
theorem cr_sortLR (hu : X.A.units + 8 < cLine) : CallR X (.builtin "sorted") (rSortLR X.K) := by
  intro pins s σ H vs us Q I r h
  obtain ⟨a, ps, rs, rfl, hs, hx, ne, q⟩ := h
  obtain ⟨its, rv, hl, hz⟩ := I.list hs
  obtain ⟨u, rfl, ru⟩ := vals1 r
  obtain rfl : u = Value.ref a := ru
  have ei : its = ps.map Value.ref := by
    clear hl hz q hx hs ne
    induction ps generalizing its with
    | nil =>
      cases rv
      rfl
    | cons p ps ih =>
      cases rv with
      | cons h1 t =>
        cases h1
        rw [List.map_cons, ih _ t]
  subst ei
  have hp : ∀ v ∈ ps.map Value.ref, ∃ p ρ, v = .ref p ∧ ρ ≠ [] ∧ RowAt H p ρ := fun v hv => by
    obtain ⟨p, hp, rfl⟩ := List.mem_map.mp hv
    obtain ⟨ρ, hm, hr⟩ := paired_both hx p hp
    exact ⟨p, ρ, rfl, ne ρ hm, hr⟩
  refine SrtO.sorted_ord (ltv := fun v u => ltR (rowOfV H v) (rowOfV H u)) (swo_R _) hl.isList (by rw [← rv.length]; exact hz) (fun h2 h₁ a' ha kk => ?_) fun out h1 h2 => ?_
  · refine rows_sortable (s := { s with heap := h₁ }) (by rw [Around.in1_units, Around.in1_units]; omega) (by omega) (fun v hv => ?_) (fun v hv => ?_) fun o e => ?_
    · obtain ⟨p, ρ, rfl, _, hr⟩ := hp v hv
      rw [rowOfV_at hr]
      exact (isRw_of I.hok hr).keeps fun b o e _ => (kk b o e).2
    · obtain ⟨p, ρ, rfl, hne, hr⟩ := hp v hv
      rw [rowOfV_at hr]
      exact hne
    · have e' : some o = some (seqObj "list" (ps.map Value.ref).toArray 0) := e.symm.trans ha
      cases e'
      intro c
      exact absurd (Value.type.inj c) (by decide)
  · have hout : ∀ v ∈ out, ∃ p ρ, v = .ref p ∧ RowAt H p ρ := fun v hv => by
      obtain ⟨p, ρ, e, _, hr⟩ := hp v (h2.perm.mem_iff.mp hv)
      exact ⟨p, ρ, e, hr⟩
    have hys : ∃ ys : List Addr, out = ys.map Value.ref := by
      clear h1 h2
      induction out with
      | nil => exact ⟨[], rfl⟩
      | cons v l ih =>
        obtain ⟨ys, rfl⟩ := ih fun u hu => hout u (List.mem_cons_of_mem _ hu)
        obtain ⟨p, x, rfl, _⟩ := hout v List.mem_cons_self
        exact ⟨p :: ys, rfl⟩
    obtain ⟨ys, rfl⟩ := hys
    obtain ⟨n, hn⟩ := PyProof.Rows.sortedAll_at s.heap (ps.map Value.ref) (ys.map Value.ref).toArray
    have hlen : (ys.map V.ref).length ≤ sizeLine := by
      have := h2.perm.length_eq
      rw [List.length_map, List.length_map] at this
      rw [List.length_map] at hz ⊢
      omega
    have em : (ps.map Value.ref).map (rowOfV H) = rs := by
      rw [List.map_map]
      exact paired_map (R := RowAt H) _ (fun p x h => rowOfV_at h) hx
    refine ⟨.ref (s.heap.objs.size + 1), upd H (s.heap.objs.size + 1) (.lst (ys.map V.ref)), I.laid (t' := s.toks) (fun b o e => PyProof.Rows.sortedAll_old e) (Nat.le_succ _) ⟨hlen, ys.map Value.ref, n, refs_vals _, hn⟩, rfl, q ys ((ys.map Value.ref).map (rowOfV H)) _ ?_ (List.pairwise_map.mpr h1) ?_ (I.hok.fresh (Nat.le_succ _))⟩
    · rw [← em]
      exact h2.perm.map _
    · rw [List.map_map]
      refine paired_of _ fun p hp' => ?_
      obtain ⟨p2, x, e2, hx'⟩ := hout (.ref p) (List.mem_map_of_mem hp')
      cases e2
      show RowAt H p (rowOfV H (.ref p))
      rw [rowOfV_at hx']
      exact hx'
end
end Ask
/-! The rows of days to come: what the program lists, what the law lists. -/
namespace P20
open PySem PySem.Spec PyProof.Rows L2 AskG Ask
def mn (a b : Int) : Int := if b < a then b else a
theorem mn_l (a b : Int) : mn a b ≤ a := by
  unfold mn
  split <;> omega
theorem mn_r (a b : Int) : mn a b ≤ b := by
  unfold mn
  split <;> omega
theorem le_mn {a b c : Int} (h1 : c ≤ a) (h2 : c ≤ b) : c ≤ mn a b := by
  unfold mn
  split <;> omega
theorem mn_gt {a b : Int} (h : b < a) : mn a b = b := if_pos h
def soon (R : Rt) (T : Int) : Int := if T + 1 > R.first then T + 1 else R.first
abbrev Span := Int × Int × Int
def futS (R : Rt) (T : Int) : List Span := if soon R T > R.last then [] else [(R.kind.lo (soon R T), R.kind.lo R.last, mn (R.kind.hi (soon R T)) T)]
def useS (R : Rt) (T : Int) : List Span := if usedB R T = true then [(R.kind.lo T, R.kind.lo T, R.kind.hi T)] else []
def needS (R : Rt) (T : Int) : List Span := futS R T ++ useS R T
def spanRows (ws : List Cell) (s : Span) : List RowD := (daysOf s.1 (mn s.2.1 s.2.2)).map fun b => rowOn ws b s.2.2
def futR (R : Rt) (T : Int) : List RowD := (futS R T).flatMap (spanRows R.ws)
def needR (R : Rt) (T : Int) : List RowD := (needS R T).flatMap (spanRows R.ws)
def cutR (ρ : RowD) (T : Int) : RowD := ρ.filter fun x => decide (x.1.2 ≤ T)
def latR (R : Rt) (T : Int) : List RowD := (daysOf (soon R T) R.last).map fun t => cutR (rowQ R t) T
theorem mem_days {lo hi d : Int} : d ∈ daysOf lo hi ↔ lo ≤ d ∧ d ≤ hi := by
  unfold daysOf
  rw [List.mem_map]
  constructor
  · rintro ⟨i, hi', rfl⟩
    have := List.mem_range.mp hi'
    omega
  · rintro ⟨h1, h2⟩
    exact ⟨(d - lo).toNat, List.mem_range.mpr (by omega), by omega⟩
theorem days_nil {lo hi : Int} (h : hi < lo) : daysOf lo hi = [] := by
  unfold daysOf
  rw [show (hi + 1 - lo).toNat = 0 by omega]
  rfl
theorem days_cut (lo hi T : Int) : (daysOf lo hi).filter (fun d => decide (d ≤ T)) = daysOf lo (mn hi T) := by
  unfold daysOf mn
  have key : ∀ n : Nat, ((List.range n).map fun (i : Nat) => lo + (i : Int)).filter (fun d => decide (d ≤ T)) = (List.range (min n (T + 1 - lo).toNat)).map fun (i : Nat) => lo + (i : Int) := by
    intro n
    induction n with
    | zero => rw [Nat.zero_min]; rfl
    | succ n ih =>
      rw [List.range_succ, List.map_append, List.filter_append, ih]
      by_cases h : lo + (n : Int) ≤ T
      · have e : min (n + 1) (T + 1 - lo).toNat = min n (T + 1 - lo).toNat + 1 := by omega
        have e2 : min n (T + 1 - lo).toNat = n := by omega
        rw [e, e2, List.range_succ, List.map_append]
        congr 1
        show List.filter _ [lo + (n : Int)] = [lo + (n : Int)]
        rw [List.filter_cons_of_pos (by exact decide_eq_true h)]
        rfl
      · have e : min (n + 1) (T + 1 - lo).toNat = min n (T + 1 - lo).toNat := by omega
        rw [e]
        show _ ++ List.filter _ [lo + (n : Int)] = _
        rw [List.filter_cons_of_neg (by intro z; exact h (of_decide_eq_true z))]
        exact List.append_nil _
  rw [key]
  congr 2
  split <;> omega
theorem cut_rowOn : ∀ (ws : List Cell) (lo hi T : Int), cutR (rowOn ws lo hi) T = rowOn ws lo (mn hi T)
  | [], _, _, _ => rfl
  | x :: ws, lo, hi, T => by
    show ((daysOf lo hi).map (fun d => ((x.1, d), x.2)) ++ rowOn ws lo hi).filter _ = (daysOf lo (mn hi T)).map (fun d => ((x.1, d), x.2)) ++ rowOn ws lo (mn hi T)
    rw [List.filter_append]
    have ih := cut_rowOn ws lo hi T
    unfold cutR at ih
    rw [ih, ← days_cut, List.filter_map]
    rfl
theorem rowOn_nil {ws : List Cell} {lo hi : Int} (h : hi < lo) : rowOn ws lo hi = [] := by
  have := rowOn_len ws lo hi
  rw [show (hi + 1 - lo).toNat = 0 by omega, Nat.mul_zero] at this
  exact List.eq_nil_of_length_eq_zero this
theorem rowOn_some {ws : List Cell} (h : ws ≠ []) {lo hi : Int} (l : lo ≤ hi) : rowOn ws lo hi ≠ [] := fun z => by
  have := rowOn_len ws lo hi
  rw [z, List.length_nil] at this
  have w0 : 0 < ws.length := List.length_pos_iff.mpr h
  have : 0 < ws.length * (hi + 1 - lo).toNat := Nat.mul_pos w0 (by omega)
  omega
theorem mem_span {ws : List Cell} {s : Span} {ρ : RowD} : ρ ∈ spanRows ws s ↔ ∃ b, s.1 ≤ b ∧ b ≤ mn s.2.1 s.2.2 ∧ ρ = rowOn ws b s.2.2 := by
  unfold spanRows
  rw [List.mem_map]
  constructor
  · rintro ⟨b, hb, rfl⟩
    have := mem_days.mp hb
    exact ⟨b, this.1, this.2, rfl⟩
  · rintro ⟨b, h1, h2, rfl⟩
    exact ⟨b, mem_days.mpr ⟨h1, h2⟩, rfl⟩
theorem mem_lat {R : Rt} {T : Int} {ρ : RowD} : ρ ∈ latR R T ↔ ∃ t, soon R T ≤ t ∧ t ≤ R.last ∧ ρ = rowOn R.ws (R.kind.lo t) (mn (R.kind.hi t) T) := by
  unfold latR
  rw [List.mem_map]
  constructor
  · rintro ⟨t, ht, rfl⟩
    have := mem_days.mp ht
    exact ⟨t, this.1, this.2, cut_rowOn _ _ _ _⟩
  · rintro ⟨t, h1, h2, rfl⟩
    exact ⟨t, mem_days.mpr ⟨h1, h2⟩, cut_rowOn _ _ _ _⟩
theorem mem_fut {R : Rt} {T : Int} {ρ : RowD} : ρ ∈ futR R T ↔ soon R T ≤ R.last ∧ ∃ b, R.kind.lo (soon R T) ≤ b ∧ b ≤ mn (R.kind.lo R.last) (mn (R.kind.hi (soon R T)) T) ∧ ρ = rowOn R.ws b (mn (R.kind.hi (soon R T)) T) := by
  unfold futR futS
  by_cases h : soon R T > R.last
  · rw [if_pos h]
    constructor
    · intro z
      cases z
    · rintro ⟨z, _⟩
      omega
  · rw [if_neg h, List.flatMap_cons, List.flatMap_nil, List.append_nil, mem_span]
    exact ⟨fun z => ⟨by omega, z⟩, fun z => z.2⟩
theorem soon_gt (R : Rt) (T : Int) : T < soon R T := by
  unfold soon
  split <;> omega
theorem fut_lat {R : Rt} (ne : R.ws ≠ []) {T : Int} (ρ : RowD) : ρ ∈ futR R T ↔ ρ ∈ latR R T ∧ ρ ≠ [] := by
  have sg := soon_gt R T
  rw [mem_fut, mem_lat]
  generalize soon R T = s at sg ⊢
  constructor
  · rintro ⟨hs, b, h1, h2, rfl⟩
    refine ⟨?_, rowOn_some ne (Int.le_trans h2 (mn_r _ _))⟩
    generalize R.kind = kd at h1 h2 ⊢
    cases kd with
    | tot st =>
      have h1 : st ≤ b := h1
      have h2 : b ≤ mn st (mn s T) := h2
      refine ⟨s, Int.le_refl _, hs, ?_⟩
      show rowOn R.ws b (mn s T) = rowOn R.ws st (mn s T)
      have : b = st := Int.le_antisymm (Int.le_trans h2 (mn_l _ _)) h1
      rw [this]
    | win l =>
      have h1 : (if s - l + 1 > 0 then s - l + 1 else 0) ≤ b := h1
      have h2 : b ≤ mn (if R.last - l + 1 > 0 then R.last - l + 1 else 0) (mn s T) := h2
      have h3 : b ≤ if R.last - l + 1 > 0 then R.last - l + 1 else 0 := Int.le_trans h2 (mn_l _ _)
      by_cases c : b = if s - l + 1 > 0 then s - l + 1 else 0
      · refine ⟨s, Int.le_refl _, hs, ?_⟩
        show rowOn R.ws b (mn s T) = rowOn R.ws (if s - l + 1 > 0 then s - l + 1 else 0) (mn s T)
        rw [← c]
      · refine ⟨b + l - 1, by split at h1 <;> split at c <;> omega, by split at h1 <;> split at c <;> split at h3 <;> omega, ?_⟩
        show rowOn R.ws b (mn s T) = rowOn R.ws (if b + l - 1 - l + 1 > 0 then b + l - 1 - l + 1 else 0) (mn (b + l - 1) T)
        have e1 : (if b + l - 1 - l + 1 > 0 then b + l - 1 - l + 1 else 0) = b := by
          split at h1 <;> split <;> omega
        have e2 : mn (b + l - 1) T = mn s T := by
          rw [mn_gt (by split at h1 <;> split at c <;> omega), mn_gt sg]
        rw [e1, e2]
    | per st en =>
      have h1 : st ≤ b := h1
      have h2 : b ≤ mn st (mn (if s < en then s else en) T) := h2
      refine ⟨s, Int.le_refl _, hs, ?_⟩
      show rowOn R.ws b (mn (if s < en then s else en) T) = rowOn R.ws st (mn (if s < en then s else en) T)
      have : b = st := Int.le_antisymm (Int.le_trans h2 (mn_l _ _)) h1
      rw [this]
  · rintro ⟨⟨t, h1, h2, rfl⟩, hne⟩
    refine ⟨by omega, ?_⟩
    generalize R.kind = kd at hne ⊢
    cases kd with
    | tot st =>
      have hne : rowOn R.ws st (mn t T) ≠ [] := hne
      have e : mn t T = mn s T := by
        rw [mn_gt (by omega), mn_gt sg]
      rw [e] at hne
      have c : st ≤ mn s T := Int.not_lt.mp fun z => hne (rowOn_nil z)
      refine ⟨st, Int.le_refl _, ?_, ?_⟩
      · exact le_mn (Int.le_refl _) c
      · show rowOn R.ws st (mn t T) = rowOn R.ws st (mn s T)
        rw [e]
    | win l =>
      have hne : rowOn R.ws (if t - l + 1 > 0 then t - l + 1 else 0) (mn t T) ≠ [] := hne
      have e : mn t T = mn s T := by
        rw [mn_gt (by omega), mn_gt sg]
      rw [e] at hne
      have c : (if t - l + 1 > 0 then t - l + 1 else 0) ≤ mn s T := Int.not_lt.mp fun z => hne (rowOn_nil z)
      refine ⟨if t - l + 1 > 0 then t - l + 1 else 0, ?_, ?_, ?_⟩
      · show (if s - l + 1 > 0 then s - l + 1 else 0) ≤ _
        split <;> split <;> omega
      · show _ ≤ mn (if R.last - l + 1 > 0 then R.last - l + 1 else 0) (mn s T)
        refine le_mn ?_ c
        split <;> split <;> omega
      · show rowOn R.ws (if t - l + 1 > 0 then t - l + 1 else 0) (mn t T) = rowOn R.ws _ (mn s T)
        rw [e]
    | per st en =>
      have hne : rowOn R.ws st (mn (if t < en then t else en) T) ≠ [] := hne
      have e : mn (if t < en then t else en) T = mn (if s < en then s else en) T := by
        have h : ∀ q : Int, s ≤ q → mn (if q < en then q else en) T = mn en T := fun q hq => by
          by_cases c : q < en
          · rw [if_pos c, mn_gt (by omega), mn_gt (by omega)]
          · rw [if_neg c]
        rw [h t h1, h s (Int.le_refl _)]
      rw [e] at hne
      have c : st ≤ mn (if s < en then s else en) T := Int.not_lt.mp fun z => hne (rowOn_nil z)
      refine ⟨st, Int.le_refl _, ?_, ?_⟩
      · show st ≤ mn st (mn (if s < en then s else en) T)
        exact le_mn (Int.le_refl _) c
      · show rowOn R.ws st (mn (if t < en then t else en) T) = rowOn R.ws st (mn (if s < en then s else en) T)
        rw [e]
theorem mem_need {R : Rt} (ne : R.ws ≠ []) {T : Int} (ρ : RowD) : ρ ∈ needR R T ↔ ρ ∈ futR R T ∨ (usedB R T = true ∧ ρ = rowQ R T ∧ ρ ≠ []) := by
  unfold needR needS
  rw [List.flatMap_append, List.mem_append]
  refine or_congr Iff.rfl ?_
  unfold useS
  by_cases u : usedB R T = true
  · rw [if_pos u, List.flatMap_cons, List.flatMap_nil, List.append_nil, mem_span]
    constructor
    · rintro ⟨b, h1, h2, rfl⟩
      have h1 : R.kind.lo T ≤ b := h1
      have h2 : b ≤ mn (R.kind.lo T) (R.kind.hi T) := h2
      have e : b = R.kind.lo T := Int.le_antisymm (Int.le_trans h2 (mn_l _ _)) h1
      have c : b ≤ R.kind.hi T := Int.le_trans h2 (mn_r _ _)
      refine ⟨u, by show rowOn R.ws b (R.kind.hi T) = rowOn R.ws (R.kind.lo T) (R.kind.hi T); rw [e], rowOn_some ne c⟩
    · rintro ⟨_, rfl, hne⟩
      have c : R.kind.lo T ≤ R.kind.hi T := Int.not_lt.mp fun z => hne (rowOn_nil z)
      refine ⟨R.kind.lo T, Int.le_refl _, ?_, rfl⟩
      show R.kind.lo T ≤ mn (R.kind.lo T) (R.kind.hi T)
      exact le_mn (Int.le_refl _) c
  · rw [if_neg u]
    constructor
    · intro z
      cases z
    · intro z
      exact absurd z.1 u
/-! ### how many -/
theorem lo_step {k : KindM} {s t : Int} (h : s ≤ t) : k.lo t - k.lo s ≤ t - s := by
  cases k with
  | tot a => show a - a ≤ _; omega
  | win l =>
    show (if t - l + 1 > 0 then t - l + 1 else 0) - (if s - l + 1 > 0 then s - l + 1 else 0) ≤ t - s
    split <;> split <;> omega
  | per a b => show a - a ≤ _; omega
theorem span_len (ws : List Cell) (s : Span) : (spanRows ws s).length ≤ (s.2.1 + 1 - s.1).toNat := by
  unfold spanRows
  rw [List.length_map, days_len]
  unfold mn
  split <;> omega
theorem fut_len (R : Rt) (T : Int) : (futR R T).length ≤ (R.last - R.first + 1).toNat := by
  unfold futR futS
  by_cases h : soon R T > R.last
  · rw [if_pos h]
    exact Nat.zero_le _
  · rw [if_neg h, List.flatMap_cons, List.flatMap_nil, List.append_nil]
    refine Nat.le_trans (span_len _ _) ?_
    have l := lo_step (k := R.kind) (s := soon R T) (t := R.last) (by omega)
    have sf : R.first ≤ soon R T := by unfold soon; split <;> omega
    show (R.kind.lo R.last + 1 - R.kind.lo (soon R T)).toNat ≤ _
    omega
theorem need_len (R : Rt) (T : Int) : (needR R T).length ≤ (R.last - R.first + 1).toNat + 1 := by
  unfold needR needS
  rw [List.flatMap_append, List.length_append]
  refine Nat.add_le_add (fut_len R T) ?_
  unfold useS
  split
  · rw [List.flatMap_cons, List.flatMap_nil, List.append_nil]
    refine Nat.le_trans (span_len _ _) ?_
    show (R.kind.lo T + 1 - R.kind.lo T).toNat ≤ 1
    omega
  · exact Nat.zero_le _
/-- both lists rise and have the same rows -/
theorem rows_one : ∀ {ys zs : List RowD}, ys.Pairwise (fun a b => ltR a b = true) → zs.Pairwise (fun a b => ltR a b = true) → (∀ ρ, ρ ∈ ys ↔ ρ ∈ zs) → ys = zs
  | [], [], _, _, _ => rfl
  | [], z :: zs, _, _, h => absurd ((h z).mpr List.mem_cons_self) (by simp)
  | y :: ys, [], _, _, h => absurd ((h y).mp List.mem_cons_self) (by simp)
  | y :: ys, z :: zs, h1, h2, h => by
    obtain ⟨a1, a2⟩ := List.pairwise_cons.mp h1
    obtain ⟨b1, b2⟩ := List.pairwise_cons.mp h2
    have e : y = z := by
      rcases List.mem_cons.mp ((h y).mp List.mem_cons_self) with e | m
      · exact e
      · rcases List.mem_cons.mp ((h z).mpr List.mem_cons_self) with e | m'
        · exact e.symm
        · have := ltR_trans (b1 y m) (a1 z m')
          rw [ltR_irr] at this
          cases this
    subst e
    have ny : y ∉ ys := fun m => by
      have := a1 y m
      rw [ltR_irr] at this
      cases this
    have nz : y ∉ zs := fun m => by
      have := b1 y m
      rw [ltR_irr] at this
      cases this
    rw [rows_one a2 b2 fun ρ => ⟨fun m => ?_, fun m => ?_⟩]
    · rcases List.mem_cons.mp ((h ρ).mp (List.mem_cons_of_mem _ m)) with e | m'
      · exact absurd (e ▸ m) ny
      · exact m'
    · rcases List.mem_cons.mp ((h ρ).mpr (List.mem_cons_of_mem _ m)) with e | m'
      · exact absurd (e ▸ m) nz
      · exact m'
end P20
namespace P20
open PySem PySem.Spec PyProof.Rows L2 AskG Ask
abbrev sFS : Stmt := topS 5
abbrev sNS : Stmt := topS 6
abbrev sRS : Stmt := topS 7
abbrev NFS : List Str := ["right", "day", "soonest", "latest", "low", "high", "last"]
abbrev NNS : List Str := ["right", "day", "spans", "low", "high"]
abbrev NRS : List Str := ["right", "spans", "rows", "low", "last", "high", "begin"]
theorem scFS : FnScope NFS ["right", "day"] (defScope sFS) := ⟨rfl, rfl, rfl, by decide +kernel, rfl, by decide +kernel, by decide +kernel⟩
theorem scNS : FnScope NNS ["right", "day"] (defScope sNS) := ⟨rfl, rfl, rfl, by decide +kernel, rfl, by decide +kernel, by decide +kernel⟩
theorem scRS : FnScope NRS ["right", "spans"] (defScope sRS) := ⟨rfl, rfl, rfl, by decide +kernel, rfl, by decide +kernel, by decide +kernel⟩
def SpanAt (H : Hp) (b : Addr) (s : Span) : Prop := H b = some (.tup [.int s.1, .int s.2.1, .int s.2.2])
theorem SpanAt.keep {H H' : Hp} {b : Addr} {s : Span} (h : SpanAt H b s) (k : KeepT H H') : SpanAt H' b s := k _ _ h
def SpansAt (H : Hp) (p : Addr) (S : List Span) : Prop := ∃ bs : List Addr, H p = some (.lst (bs.map V.ref)) ∧ Paired (SpanAt H) bs S
structure SpanOk (s : Span) : Prop where
  l0 : 0 ≤ s.1
  l1 : s.1 ≤ 30
  h0 : 0 ≤ s.2.2
  h1 : s.2.2 ≤ 9
  l2 : 0 ≤ s.2.1
section
variable {P : Program} {w : World} {K : PySem.W.Frag} {mg : Str → Option Value} {base : Heap}
variable {fU fA fR fS : Addr} {fdU fdA fdR fdS : FuncData}
def prSpans (S : Rt → Int → List Span) : Pr := fun vs H Q => ∃ (a : Addr) (R : Rt) (T : Int), vs = [.ref a, .int T] ∧ RightAt H a R ∧ ∀ H' p, Same H H' → H p = none → SpansAt H' p (S R T) → Q (.ref p) H'
theorem ok_fs {f : Addr} {fd : FuncData} {k : Nat} (F : Fun K "future_spans" "future_spans" sFS f fd)
    (FA : Fun K "asked_days" "asked_days" sAsked fA fdA) (bA : Binds K fdA ["right", "day"] []) (gA : mg "asked_days" = some (.ref fA)) (mx : mg "max" = none) (mn' : mg "min" = none) : FnG P w K mg base (k + 2) f fd ["right", "day"] (prSpans futS) := by
  have GA : FnG P w K mg base (k + 1) fA fdA ["right", "day"] prAsked := ok_asked FA mx mn'
  refine okG F scFS (fun vs H Q h => ?_) (fun cdv A outer s H vs Q hr h => ?_)
  · obtain ⟨_, _, _, rfl, _⟩ := h
    rfl
  · obtain ⟨a, R, T, rfl, hR, q⟩ := h
    have big := sizeBig
    obtain ⟨wa, ps, ka, h1, h2, h3, h4⟩ := id hR
    refine ⟨_, pss_cons (ps_par (by rfl) scFS.nd (i := 2) (j := 3) rfl rfl (by decide) rfl rfl (pa_cons (pe_callB (call_max2 rfl) (by rfl) mx (by decide +kernel) (pa_cons (pe_ix (ix_tup : IxR _ (rIxT K)) (pv 0) pe_int (fun _ _ => rfl)) (pa_cons (pe_op op_add (pv 1) pe_int) pa_nil))) (pa_cons (pe_ix (ix_tup : IxR _ (rIxT K)) (pv 0) pe_int (fun _ _ => rfl)) pa_nil)) (by rfl))
      (pss_cons (ps_if (pt_cmpR op_gt (pv 2) (pv 3) (nomark _)) (pss_one (ps_ret (pe_lst pa_nil))) pss_nil)
      (pss_cons (ps_asg (pe_g GA hr (by rfl) gA FA.kp bA .nil (pa_cons (pv 0) (pa_cons (pv 2) pa_nil))) (pg_tup (by rfl) (pgs_cons (pg_name (i := 4) scFS.nd rfl (.inl rfl)) (pgs_cons (pg_name (i := 5) scFS.nd rfl (.inl rfl)) pgs_nil))))
      (pss_cons (ps_set (i := 6) scFS.nd rfl (.inl rfl) (pe_ix (ix_tup : IxR _ (rIxT K)) (pe_g GA hr (by rfl) gA FA.kp bA .nil (pa_cons (pv 0) (pa_cons (pv 3) pa_nil))) pe_int (fun _ _ => rfl)))
      (pss_one (ps_ret (pe_lst (pa_cons (pe_tup (pa_cons (pv 4) (pa_cons (pv 6) (pa_cons (pe_callB (call_min2 rfl) (by rfl) mn' (by decide +kernel) (pa_cons (pv 5) (pa_cons (pv 1) pa_nil))) pa_nil)))) pa_nil))))))), ?_⟩
    refine iSeq ⟨.ref a, rfl, a, _, _, _, rfl, rfl, sqT h1, atI_nat (j := 2) rfl, .int T, rfl, T, 1, rfl, rfl, R.first, T + 1, rfl, .ref a, rfl, a, _, _, _, rfl, rfl, sqT h1, atI_nat (j := 3) rfl, _, _, rfl, ?_⟩
    dsimp only
    show _
    have es : (if T + 1 > R.first then T + 1 else R.first) = soon R T := rfl
    rw [es]
    refine iSeq ⟨.int (soon R T), rfl, .int R.last, rfl, soon R T, R.last, rfl, rfl, _, rfl, ?_⟩
    have ef : futS R T = if soon R T > R.last then [] else [(R.kind.lo (soon R T), R.kind.lo R.last, mn (R.kind.hi (soon R T)) T)] := rfl
    by_cases e : R.last < soon R T
    · rw [decide_eq_true e]
      rw [if_pos e] at ef
      refine iteT (iRet ⟨Nat.zero_le _, fun p hp => q _ p (same_new hp) hp ⟨[], upd_same, ?_⟩⟩)
      rw [ef]
      exact .nil
    · rw [decide_eq_false e]
      rw [if_neg e] at ef
      refine iteF (iNext ?_)
      dsimp only
      refine iSeq (iAsg ⟨.ref a, rfl, .int (soon R T), rfl, a, R, soon R T, rfl, hR, fun p hp => ?_⟩)
      have s1 := same_new (o := .tup [.int (R.kind.lo (soon R T)), .int (R.kind.hi (soon R T))]) hp
      refine ⟨p, _, rfl, sqT upd_same, rfl, _, _, rfl, _, _, rfl, rfl, ?_⟩
      dsimp only
      refine iSeq (iAsg ⟨.ref a, rfl, .int R.last, rfl, a, R, R.last, rfl, hR.keep (KeepT.of s1), fun p2 hp2 => ?_⟩)
      have s2 := same_new (o := .tup [.int (R.kind.lo R.last), .int (R.kind.hi R.last)]) hp2
      refine ⟨p2, _, _, _, rfl, rfl, sqT upd_same, atI_nat (j := 0) rfl, ?_⟩
      refine iName ?_
      dsimp only
      refine iRet ⟨.int (R.kind.lo (soon R T)), rfl, .int (R.kind.lo R.last), rfl, .int (R.kind.hi (soon R T)), rfl, .int T, rfl, R.kind.hi (soon R T), T, rfl, by show 3 ≤ sizeLine; omega, fun b hb => ⟨by show 1 ≤ sizeLine; omega, fun l hl => ?_⟩⟩
      have s3 := same_new (o := .tup [.int (R.kind.lo (soon R T)), .int (R.kind.lo R.last), .int (if T < R.kind.hi (soon R T) then T else R.kind.hi (soon R T))]) hb
      have s4 := same_new (o := .lst [.ref b]) hl
      have all := ((s1.trans s2).trans s3).trans s4
      have hn : H l = none := by
        cases e : H l with
        | none => rfl
        | some o =>
          have := (((s1.trans s2).trans s3) _ _ e)
          rw [this] at hl
          cases hl
      refine q _ l all hn ⟨[b], upd_same, ?_⟩
      rw [ef]
      exact .cons (s4 _ _ upd_same) .nil
theorem fresh_of {H H' : Hp} {p : Addr} (s : Same H H') (h : H' p = none) : H p = none := by
  cases e : H p with
  | none => rfl
  | some o =>
    rw [s _ _ e] at h
    cases h
theorem ok_ns {f : Addr} {fd : FuncData} {k : Nat} (F : Fun K "needed_spans" "needed_spans" sNS f fd)
    (FS : Fun K "future_spans" "future_spans" sFS fS fdS) (bS : Binds K fdS ["right", "day"] []) (gS : mg "future_spans" = some (.ref fS))
    (FU : Fun K "is_used_on" "is_used_on" sUsed fU fdU) (bU : Binds K fdU ["right", "day"] []) (gU : mg "is_used_on" = some (.ref fU))
    (FA : Fun K "asked_days" "asked_days" sAsked fA fdA) (bA : Binds K fdA ["right", "day"] []) (gA : mg "asked_days" = some (.ref fA)) (mx : mg "max" = none) (mn' : mg "min" = none) : FnG P w K mg base (k + 3) f fd ["right", "day"] (prSpans needS) := by
  have GA : FnG P w K mg base (k + 1) fA fdA ["right", "day"] prAsked := ok_asked FA mx mn'
  have GU : FnG P w K mg base (k + 1) fU fdU ["right", "day"] prUsed := ok_used FU
  have GS : FnG P w K mg base (k + 2) fS fdS ["right", "day"] (prSpans futS) := ok_fs FS FA bA gA mx mn'
  refine okG F scNS (fun vs H Q h => ?_) (fun cdv A outer s H vs Q hr h => ?_)
  · obtain ⟨_, _, _, rfl, _⟩ := h
    rfl
  · obtain ⟨a, R, T, rfl, hR, q⟩ := h
    have big := sizeBig
    have hr1 : RG (k + 1) (A.deeper (envOfC "needed_spans" (defScope sNS) s.heap.objs.size f cdv)) := hr.mono (by omega)
    refine ⟨_, pss_cons (ps_set (i := 2) scNS.nd rfl (.inl rfl) (pe_g GS hr (by rfl) gS FS.kp bS .nil (pa_cons (pv 0) (pa_cons (pv 1) pa_nil))))
      (pss_cons (ps_if (pt_val (pe_g GU hr1 (by rfl) gU FU.kp bU .nil (pa_cons (pv 0) (pa_cons (pv 1) pa_nil))))
        (pss_cons (ps_asg (pe_g GA hr1 (by rfl) gA FA.kp bA .nil (pa_cons (pv 0) (pa_cons (pv 1) pa_nil))) (pg_tup (by rfl) (pgs_cons (pg_name (i := 3) scNS.nd rfl (.inl rfl)) (pgs_cons (pg_name (i := 4) scNS.nd rfl (.inl rfl)) pgs_nil))))
        (pss_one (ps_expr (pe_bm PySem.F.plainAttrs_list PySem.F.slot_list_append PySem.F.type_list_append mt_append (pv 2) (pa_cons (pe_tup (pa_cons (pv 3) (pa_cons (pv 3) (pa_cons (pv 4) pa_nil)))) pa_nil))))) pss_nil)
      (pss_one (ps_ret (pv 2)))), ?_⟩
    refine iSeq (iAsg ⟨.ref a, rfl, .int T, rfl, a, R, T, rfl, hR, fun H1 p s1 hpn hS => ?_⟩)
    obtain ⟨bs, hp, hbs⟩ := hS
    refine iName ?_
    dsimp only
    have hR1 := hR.keep (KeepT.of s1)
    refine iSeq ⟨.ref a, rfl, .int T, rfl, a, R, T, rfl, hR1, _, rfl, ?_⟩
    have en : needS R T = futS R T ++ if usedB R T = true then [(R.kind.lo T, R.kind.lo T, R.kind.hi T)] else [] := rfl
    have fl : (futS R T).length ≤ 1 := by
      unfold futS
      split
      · exact Nat.zero_le _
      · exact Nat.le_refl _
    have bl := Paired.length hbs
    cases u : usedB R T with
    | false =>
      refine iteF (iNext ?_)
      dsimp only
      refine iRet ⟨.ref p, rfl, q _ p s1 hpn ⟨bs, hp, ?_⟩⟩
      rw [en, u, if_neg (by decide), List.append_nil]
      exact hbs
    | true =>
      refine iteT ?_
      refine iSeq (iAsg ⟨.ref a, rfl, .int T, rfl, a, R, T, rfl, hR1, fun p2 hp2 => ?_⟩)
      have s2 := same_new (o := .tup [.int (R.kind.lo T), .int (R.kind.hi T)]) hp2
      refine ⟨p2, _, rfl, sqT upd_same, rfl, _, _, rfl, _, _, rfl, rfl, ?_⟩
      dsimp only
      refine iDrop' ⟨.ref p, rfl, .inl ⟨rfl, _, sqL (s2 _ _ hp)⟩, ?_⟩
      refine ⟨.int (R.kind.lo T), rfl, .int (R.kind.lo T), rfl, .int (R.kind.hi T), rfl, by show 3 ≤ sizeLine; omega, fun b hb => ?_⟩
      have s3 := same_new (o := .tup [.int (R.kind.lo T), .int (R.kind.lo T), .int (R.kind.hi T)]) hb
      have hpp := s3 _ _ (s2 _ _ hp)
      refine ⟨p, bs.map V.ref, .ref b, rfl, rfl, hpp, by rw [List.length_map]; omega, ?_⟩
      have kp : KeepT _ (upd _ p (.lst (bs.map V.ref ++ [.ref b]))) := KeepT.put hpp fun _ z => nomatch z
      dsimp only
      refine iRet ⟨.ref p, rfl, q _ p (fun c o e => ?_) hpn ⟨bs ++ [b], by rw [upd_same, List.map_append]; rfl, ?_⟩⟩
      · rw [upd_ne (ne_of_none e hpn)]
        exact (s1.trans (s2.trans s3)) _ _ e
      · rw [en, u, if_pos rfl]
        exact Paired.snoc (Paired.mapP hbs fun _ _ z => (z.keep (KeepT.of (s2.trans s3))).keep kp) (kp _ _ upd_same)
end
end P20
/-! AskWa: the walk over a tuple, a list, a range, told once for loops of comprehensions of any shape. -/
namespace Ask
open PySem PySem.Spec PyProof.Rows L2 AskG
/-- what a loop over J asks: it begins at H0, each turn is Body, the end is Qd -/
def Loops (J : It) (H0 : Hp) (Qd : Hp → Prop) (Body : V → Hp → (Hp → Prop) → Prop) : Prop :=
  ∃ W : Nat → Nat → Hp → Prop, (∃ m, W 0 m H0) ∧ ∀ i m H, W i m H →
    (J.stop i H ∧ Qd H) ∨ (J.go i H ∧ ∃ Nx : Hp → Prop, (∀ H', Nx H' → ∃ m', m' < m ∧ W (i + 1) m' H') ∧ ∀ x H', J.yld i H x H' → Body x H' Nx)
section
variable {K : PySem.W.Frag} {a : Addr} {xs : List V} {H0 : Hp} {Qd : Hp → Prop} {Body : V → Hp → (Hp → Prop) → Prop}
theorem loop_tup (Pv : Nat → Hp → Prop) (h0 : Pv 0 H0) (hl : ∀ i H, Pv i H → SqT K H a xs) (hs : ∀ i x H, xs[i]? = some x → Pv i H → Body x H (Pv (i + 1))) (hd : ∀ H, Pv xs.length H → Qd H) : Loops (Itt K a) H0 Qd Body := by
  refine ⟨fun i m H => m + i = xs.length ∧ Pv i H, ⟨xs.length, Nat.add_zero _, h0⟩, fun i m H h => ?_⟩
  obtain ⟨e, p⟩ := h
  have q := hl i H p
  cases m with
  | zero =>
    have e : i = xs.length := by omega
    subst e
    exact .inl ⟨⟨xs, q, Nat.le_refl _⟩, hd H p⟩
  | succ m =>
    have lt : i < xs.length := by omega
    refine .inr ⟨⟨xs, xs[i], q, List.getElem?_eq_getElem lt⟩, Pv (i + 1), fun H' p' => ⟨m, Nat.lt_succ_self _, by omega, p'⟩, fun x H' y => ?_⟩
    obtain ⟨rfl, y⟩ := y
    exact hs i x _ (y xs q) p
theorem loop_lst (Pv : Nat → Hp → Prop) (h0 : Pv 0 H0) (hl : ∀ i H, Pv i H → SqL K H a xs) (hs : ∀ i x H, xs[i]? = some x → Pv i H → Body x H (Pv (i + 1))) (hd : ∀ H, Pv xs.length H → Qd H) : Loops (Itl K a) H0 Qd Body := by
  refine ⟨fun i m H => m + i = xs.length ∧ Pv i H, ⟨xs.length, Nat.add_zero _, h0⟩, fun i m H h => ?_⟩
  obtain ⟨e, p⟩ := h
  have q := hl i H p
  cases m with
  | zero =>
    have e : i = xs.length := by omega
    subst e
    exact .inl ⟨⟨xs, q, Nat.le_refl _⟩, hd H p⟩
  | succ m =>
    have lt : i < xs.length := by omega
    refine .inr ⟨⟨xs, xs[i], q, List.getElem?_eq_getElem lt⟩, Pv (i + 1), fun H' p' => ⟨m, Nat.lt_succ_self _, by omega, p'⟩, fun x H' y => ?_⟩
    obtain ⟨rfl, y⟩ := y
    exact hs i x _ (y xs q) p
theorem loop_rg {lo : Int} {n : Nat} (Pv : Nat → Hp → Prop) (h0 : Pv 0 H0) (hs : ∀ (i : Nat) H, i < n → Pv i H → Body (.int (lo + (i : Int))) H (Pv (i + 1))) (hd : ∀ H, Pv n H → Qd H) : Loops (Itr lo n) H0 Qd Body := by
  refine ⟨fun i m H => m + i = n ∧ Pv i H, ⟨n, Nat.add_zero _, h0⟩, fun i m H h => ?_⟩
  obtain ⟨e, p⟩ := h
  cases m with
  | zero =>
    have e : i = n := by omega
    subst e
    exact .inl ⟨Nat.le_refl _, hd H p⟩
  | succ m =>
    have lt : i < n := by omega
    refine .inr ⟨lt, Pv (i + 1), fun H' p' => ⟨m, Nat.lt_succ_self _, by omega, p'⟩, fun x H' y => ?_⟩
    obtain ⟨rfl, rfl⟩ := y
    exact hs i _ lt p
end
/-! ### the keys of a dict of nested keys -/
/-- the dict at a, the object o -/
def DicFO (P : Program) (w : World) (a : Addr) (o : Obj) (L : List KA) : HO := .ext fun h => h.get? a = some o ∧ DicK0 P w h a L
def Itn (P : Program) (w : World) (d : Addr) (o : Obj) (L : List KA) : It where
  go := fun i H => H d = some (DicFO P w d o L) ∧ i < L.length
  yld := fun i H x H' => H' = H ∧ ∃ p, L[i]? = some p ∧ x = .ref p.1
  stop := fun i H => H d = some (DicFO P w d o L) ∧ L.length ≤ i
theorem dicF_at {P : Program} {w : World} {H : Hp} {h : Heap} {d : Addr} {o : Obj} {L : List KA} {es : Array DictEntry} {ep : Nat} (ok : HOk P w H h) (e : H d = some (DicFO P w d o L)) (hod : o.data = .dict es ep) :
    h.get? d = some o ∧ es.size = L.length ∧ ∀ (i : Nat) (p : KA), L[i]? = some p → ∃ en : DictEntry, es[i]? = some en ∧ en.key = .ref p.1 := by
  obtain ⟨g, sy, o', es', ep', ho, hx, hd, he, hn⟩ := (show h.get? d = some o ∧ DicK0 P w h d L from (ok d _ e).1)
  obtain rfl : o = o' := Option.some.inj (g.symm.trans ho)
  obtain ⟨rfl, rfl⟩ := dict_ep hod hd
  have sz : es'.size = L.length := by rw [size_of_entries he, List.length_map]
  refine ⟨g, sz, fun i p hp => ?_⟩
  have z := entry_at he i
  rw [List.getElem?_map, hp] at z
  exact ⟨_, z, rfl⟩
theorem turn_n {P : Program} {w : World} {K : PySem.W.Frag} {tg : Expr} {d it : Addr} {o : Obj} {L : List KA} {es : Array DictEntry} {ep : Nat} (hod : o.data = .dict es ep) :
    Turn P w K tg (Itn P w d o L) [it] it (fun i h => h.IsKeyIter it d i L.length ep) where
  mem := List.mem_singleton.mpr rfl
  obj := fun i h k b hb => by
    rw [List.mem_singleton.mp hb]
    obtain ⟨x, hx, _, hf⟩ := k
    refine ⟨x, hx, fun v z => ?_⟩
    rw [hf] at z
    cases z
  keep := fun i h h' k st => k.at fun x e => st it (List.mem_singleton.mpr rfl) x e
  item := by
    intro X eP eW eK calm i pins s σ H E I fine key g
    subst eP eW eK
    obtain ⟨gd, sz, at'⟩ := dicF_at I.hok g.1 hod
    obtain ⟨p, hp⟩ : ∃ p, L[i]? = some p := ⟨_, List.getElem?_eq_getElem g.2⟩
    obtain ⟨en, hen, hk⟩ := at' i p hp
    obtain ⟨y0, y1, y2, y3, y4, y5⟩ := fine it (List.mem_singleton.mpr rfl)
    refine next_key_item key gd hod sz hen fun hh key' same => ?_
    have J := I.turned (t' := s.toks) (fun b x nb e => (same.2 b nb).trans e) y0 y1 y3 y4 y5
    obtain ⟨x, hx, hc, hf⟩ := id key'
    refine ⟨en.key, rfl, ?_⟩
    refine go_of (s := { s with heap := hh }) hx hc hf (by decide) ?_
    exact ⟨.ref p.1, H, J, by rw [hk]; rfl, ⟨rfl, p, hp, rfl⟩, key', fun b hb => (fine b hb).1⟩
  done := by
    intro X eP eW eK calm i pins s σ H E I fine key g
    subst eP eW eK
    obtain ⟨gd, sz, _⟩ := dicF_at I.hok g.1 hod
    obtain ⟨y0, y1, y2, y3, y4, y5⟩ := fine it (List.mem_singleton.mpr rfl)
    refine next_key_end (I.ok.hd calm) key gd hod sz g.2 fun hh eb => ⟨rfl, ?_⟩
    exact I.turned (t' := s.toks) (fun b x nb e => eb b x nb e) y0 y1 y3 y4 y5
  self := fun A i s Q E key q => by
    refine wpAny_pyIter_slot key.typeIs F.slot_dict_keyiterator_iter ?_
    refine wpAny_call_entry F.slot_dict_keyiterator_iter key.typeIs F.entry_dict_keyiterator_iter ?_ (F.args_dict_keyiterator_iter_1 _)
    exact wpAny_pure ⟨_, rfl, "dict_keyiterator", _, key.typeIs, F.slot_dict_keyiterator_next.lookup, q⟩
/-- for k in d -/
def iKeysN (P : Program) (w : World) (td : TE) : TI := fun σ H R => td σ H fun x H1 => ∃ d L, x = .ref d ∧ H1 d = some (DicKO P w d L) ∧ ∀ o, R (Itn P w d o L) (upd H1 d (DicFO P w d o L))
theorem pi_keysN {X : Cx} {tg e : Expr} {td : TE} (he : PE X e td) : PI X tg e (iKeysN X.prog X.w td) := by
  constructor
  intro pins s σ H R I h
  refine thn (he.run pins s σ H _ I h) fun u s1 q1 => ?_
  obtain ⟨x, H1, I1, rx, d, L, ex, hd, q⟩ := q1
  subst ex
  obtain rfl : u = Value.ref d := rx
  have S : DicK0 X.prog X.w s1.heap d L := (I1.hok d _ hd).1
  obtain ⟨sy, o, es, ep, ho, hx, hdt, hes, hn⟩ := id S
  have I2 : Inv X pins σ (upd H1 d (DicFO X.prog X.w d o L)) s1 := by
    refine I1.write (h' := s1.heap) (e := d) (t' := s1.toks) (by rw [hd]; trivial) (.inl rfl) (fun b x _ e => e) ⟨o, ho⟩ ⟨⟨ho, S⟩, ⟨o, ho⟩, fun h1 h2 p k => ?_⟩
    obtain ⟨g1, sy', o', es', ep', ho', r'⟩ := (show h1.get? d = some o ∧ DicK0 X.prog X.w h1 d L from p)
    exact ⟨k o g1, sy', o', es', ep', k o' ho', r'⟩
  refine iter_keys sy ho hx hdt ?_
  refine pi_one (tk := s1.toks) I2 _ (turn_n hdt) ⟨_, Heap.get?_push_size _ rfl, rfl, ?_⟩ (q o)
  rw [size_of_entries hes, List.length_map] <;> rfl
section
variable {P : Program} {w : World} {d : Addr} {o : Obj} {L : List KA} {H0 : Hp} {Qd : Hp → Prop} {Body : V → Hp → (Hp → Prop) → Prop}
theorem loop_keys (Pv : Nat → Hp → Prop) (h0 : Pv 0 H0) (hl : ∀ i H, Pv i H → H d = some (DicFO P w d o L)) (hs : ∀ i p H, L[i]? = some p → Pv i H → Body (.ref p.1) H (Pv (i + 1))) (hd : ∀ H, Pv L.length H → Qd H) : Loops (Itn P w d o L) H0 Qd Body := by
  refine ⟨fun i m H => m + i = L.length ∧ Pv i H, ⟨L.length, Nat.add_zero _, h0⟩, fun i m H h => ?_⟩
  obtain ⟨e, p⟩ := h
  cases m with
  | zero =>
    have e : i = L.length := by omega
    subst e
    exact .inl ⟨⟨hl _ H p, Nat.le_refl _⟩, hd H p⟩
  | succ m =>
    have lt : i < L.length := by omega
    refine .inr ⟨⟨hl i H p, lt⟩, Pv (i + 1), fun H' p' => ⟨m, Nat.lt_succ_self _, by omega, p'⟩, fun x H' y => ?_⟩
    obtain ⟨rfl, k, hk, rfl⟩ := y
    exact hs i k _ hk p
end
end Ask
namespace P20
open PySem PySem.Spec PyProof.Rows L2 AskG Ask
theorem RowAt.keepT {H H' : Hp} {b : Addr} {ρ : RowD} (h : RowAt H b ρ) (k : KeepT H H') : RowAt H' b ρ := h.keep k
theorem span_at {ws : List Cell} {s : Span} {j : Nat} (h : j < (mn s.2.1 s.2.2 + 1 - s.1).toNat) : (spanRows ws s)[j]? = some (rowOn ws (s.1 + (j : Int)) s.2.2) := by
  unfold spanRows daysOf
  rw [List.getElem?_map, List.getElem?_map, List.getElem?_range h]
  rfl
theorem span_n (ws : List Cell) (s : Span) : (spanRows ws s).length = (mn s.2.1 s.2.2 + 1 - s.1).toNat := by
  unfold spanRows
  rw [List.length_map, days_len]
theorem SpanOk.few {s : Span} (h : SpanOk s) : (mn s.2.1 s.2.2 + 1 - s.1).toNat ≤ 10 := by
  obtain ⟨a, b, c, d, _⟩ := h
  unfold mn
  split <;> omega
section
variable {P : Program} {w : World} {K : PySem.W.Frag} {mg : Str → Option Value} {base : Heap}
variable {fR : Addr} {fdR : FuncData}
def prRS : Pr := fun vs H Q => ∃ (a l : Addr) (R : Rt) (S : List Span), vs = [.ref a, .ref l] ∧ RightAt H a R ∧ R.ws.length ≤ 3 ∧ SpansAt H l S ∧ S.length ≤ 2 ∧ (∀ s ∈ S, SpanOk s) ∧
  ∀ H' p bs, Same H H' → H' p = some (.lst (bs.map V.ref)) → Paired (RowAt H') bs (S.flatMap (spanRows R.ws)) → Q (.ref p) H'
theorem flat_snoc' {ws : List Cell} {S : List Span} {i : Nat} {s : Span} (h : S[i]? = some s) : (S.take (i + 1)).flatMap (spanRows ws) = (S.take i).flatMap (spanRows ws) ++ spanRows ws s := by
  rw [List.take_add_one, h, List.flatMap_append]
  show _ ++ (spanRows ws s ++ []) = _
  rw [List.append_nil]
theorem flat_few {ws : List Cell} {S : List Span} (h : ∀ s ∈ S, SpanOk s) : (S.flatMap (spanRows ws)).length ≤ S.length * 10 := by
  induction S with
  | nil => exact Nat.zero_le _
  | cons s S ih =>
    rw [List.flatMap_cons, List.length_append, span_n, List.length_cons, Nat.succ_mul]
    have h1 := (h s List.mem_cons_self).few
    have h2 := ih fun x hx => h x (List.mem_cons_of_mem _ hx)
    omega
theorem ok_rs {f : Addr} {fd : FuncData} {k : Nat} (F : Fun K "rows_of_spans" "rows_of_spans" sRS f fd)
    (FR : Fun K "row_on_days" "row_on_days" sOnDays fR fdR) (bR : Binds K fdR ["right", "low", "high"] []) (gR : mg "row_on_days" = some (.ref fR))
    (mt : mg "tuple" = none) (mr : mg "range" = none) (mn' : mg "min" = none) : FnG P w K mg base (k + 2) f fd ["right", "spans"] prRS := by
  have GR : FnG P w K mg base (k + 1) fR fdR ["right", "low", "high"] prOnDays := ok_onDays FR mt mr
  refine okG F scRS (fun vs H Q h => ?_) (fun cdv A outer s H vs Q hr h => ?_)
  · obtain ⟨_, _, _, _, rfl, _⟩ := h
    rfl
  · obtain ⟨a, l, R, S, rfl, hR, l3, ⟨sp, hl, hsp⟩, s2, sok, q⟩ := h
    have big := sizeBig
    refine ⟨_, pss_cons (ps_set (i := 2) scRS.nd rfl (.inl rfl) (pe_lst pa_nil))
      (pss_cons (ps_for PassesOwn.never rfl (pi_list (pv 1)) (pg_tup rfl (pgs_cons (pg_name (i := 3) scRS.nd rfl (.inl rfl)) (pgs_cons (pg_name (i := 4) scRS.nd rfl (.inl rfl)) (pgs_cons (pg_name (i := 5) scRS.nd rfl (.inr rfl)) pgs_nil))))
        (pss_one (ps_expr (pe_bm PySem.F.plainAttrs_list PySem.F.slot_list_extend PySem.F.type_list_extend mt_extend (pv 2) (pa_cons
          (pe_lc (own := [("begin", 6)]) (g := gName 6) (tt := tYes) rfl scRS.nd (pi_range2 (by rfl) mr (pa_cons (pv 3) (pa_cons (pe_op op_add (pe_callB (call_min2 rfl) (by rfl) mn' (by decide +kernel) (pa_cons (pv 4) (pa_cons (pv 5) pa_nil))) pe_int) pa_nil)))
            (blkOk_by (N := NRS) (sc := defScope sRS) (by decide +kernel)) (fun _ _ _ _ _ => pg_name (i := 6) scRS.nd rfl (.inl rfl)) (fun _ _ _ _ _ => pts_nil)
            (fun _ _ _ _ _ => pe_g GR hr (by rfl) gR FR.kp bR .nil (pa_cons (pv 0) (pa_cons (pv 6) (pa_cons (pv 5) pa_nil))))) pa_nil)))))
      (pss_one (ps_ret (pv 2)))), ?_⟩
    refine iSeq (iAsg ⟨Nat.zero_le _, fun Lr hLr => ?_⟩)
    have s1 := same_new (o := .lst []) hLr
    refine iName ?_
    dsimp only
    have nl : l ≠ Lr := ne_of_none hl hLr
    refine iSeq ?_
    refine ⟨.ref l, rfl, l, rfl, ⟨_, sqL (s1 _ _ hl)⟩, ?_⟩
    refine for_list (xs := sp.map V.ref) (fun i σ' H' => (∃ x3 x4 x5, σ' = [some (.ref a), some (.ref l), some (.ref Lr), x3, x4, x5, none]) ∧ Same H H' ∧ ∃ bs, H' Lr = some (.lst (bs.map V.ref)) ∧ Paired (RowAt H') bs ((S.take i).flatMap (spanRows R.ws)))
      ⟨⟨_, _, _, rfl⟩, s1, [], upd_same, .nil⟩ (fun i σ' H' _ h => sqL (h.2.1 _ _ hl)) (fun i x σ' H' hx h => ?_) (fun σ' H' h => ?_)
    · obtain ⟨⟨x3, x4, x5, rfl⟩, sm, bs, hbs, hbb⟩ := h
      rw [List.getElem?_map] at hx
      obtain ⟨pi, hpi, rfl⟩ := Option.map_eq_some_iff.mp hx
      obtain ⟨s0, hs0, hs⟩ := paired_at' hsp hpi
      have so := sok s0 (List.mem_of_getElem? hs0)
      have few := so.few
      obtain ⟨o1, o2, o3, o4, o5⟩ := id so
      have mn0 : 0 ≤ mn s0.2.1 s0.2.2 := le_mn o5 o3
      have mnb : mn s0.2.1 s0.2.2 ≤ 9 := by
        unfold mn
        split <;> omega
      refine ⟨pi, _, rfl, sqT (sm _ _ hs), rfl, .int s0.1, _, rfl, .int s0.2.1, _, rfl, .int s0.2.2, _, rfl, rfl, ?_⟩
      dsimp only
      refine iDrop' ⟨.ref Lr, rfl, .inl ⟨rfl, _, sqL hbs⟩, ?_⟩
      refine ⟨.int s0.1, rfl, .int s0.2.1, rfl, .int s0.2.2, rfl, s0.2.1, s0.2.2, rfl, mn s0.2.1 s0.2.2, 1, rfl, rfl, s0.1, mn s0.2.1 s0.2.2 + 1, rfl, ⟨by omega, by omega, by omega, by omega⟩, fun D hD => ?_⟩
      refine loop_rg (lo := s0.1) (n := (mn s0.2.1 s0.2.2 + 1 - s0.1).toNat) (fun j H2 => Same H' H2 ∧ ∃ cs, H2 D = some (.lst (cs.map V.ref)) ∧ Paired (RowAt H2) cs ((spanRows R.ws s0).take j)) ⟨same_new hD, [], upd_same, by rw [List.take_zero]; exact .nil⟩ (fun j H2 hj h => ?_) (fun H2 h => ?_)
      · obtain ⟨sm2, cs, hcs, hcc⟩ := h
        have cl := Paired.length hcc
        rw [List.length_take] at cl
        refine ⟨wipe1, iYes (iteT ?_)⟩
        refine ⟨.ref a, rfl, .int (s0.1 + (j : Int)), rfl, .int s0.2.2, rfl, a, R, s0.1 + (j : Int), s0.2.2, rfl, (hR.keep (KeepT.of sm)).keep (KeepT.of sm2), l3, by omega, by omega, by omega, by omega, fun H3 p s3 hp => ?_⟩
        have hDp := s3 _ _ hcs
        refine ⟨_, hDp, by rw [List.length_map]; omega, fun b o e => ?_, cs ++ [p], by rw [upd_same, List.map_append]; rfl, ?_⟩
        · rw [upd_ne (ne_of_none e hD)]
          exact s3 _ _ (sm2 _ _ e)
        · have kp : KeepT _ (upd _ D (.lst (cs.map V.ref ++ [.ref p]))) := KeepT.put hDp fun _ z => nomatch z
          rw [List.take_add_one, span_at hj]
          exact Paired.snoc (Paired.mapP hcc fun _ _ z => (z.keep (KeepT.of s3)).keep kp) (hp.keep kp)
      · obtain ⟨sm2, cs, hcs, hcc⟩ := h
        rw [← span_n R.ws, List.take_length] at hcc
        have cl := Paired.length hcc
        rw [span_n] at cl
        have bl := Paired.length hbb
        have fw := flat_few (ws := R.ws) (S := S.take i) fun x hx => sok x (List.mem_of_mem_take hx)
        rw [List.length_take] at fw
        refine ⟨Lr, D, bs.map V.ref, cs.map V.ref, rfl, rfl, sm2 _ _ hbs, hcs, by rw [List.length_map, List.length_map]; omega, ?_⟩
        have kp : KeepT _ (upd _ Lr (.lst (bs.map V.ref ++ cs.map V.ref))) := KeepT.put (sm2 _ _ hbs) fun _ z => nomatch z
        refine ⟨⟨_, _, _, rfl⟩, fun b o e => ?_, bs ++ cs, by rw [upd_same, List.map_append], ?_⟩
        · rw [upd_ne (ne_of_none e hLr)]
          exact sm2 _ _ (sm _ _ e)
        · rw [flat_snoc' hs0]
          exact paired_app (Paired.mapP hbb fun _ _ z => (z.keep (KeepT.of sm2)).keep kp) (Paired.mapP hcc fun _ _ z => z.keep kp)
    · obtain ⟨⟨x3, x4, x5, rfl⟩, sm, bs, hbs, hbb⟩ := h
      dsimp only
      rw [List.length_map, Paired.length hsp, List.take_length] at hbb
      exact iRet ⟨.ref Lr, rfl, q _ Lr bs sm hbs hbb⟩
end
end P20
namespace P20
open PySem PySem.Spec PyProof.Rows L2 AskG Ask
abbrev sFR : Stmt := topS 8
abbrev sNR : Stmt := topS 9
abbrev NFR : List Str := ["rights", "day", "name", "right", "row"]
theorem scFR : FnScope NFR ["rights", "day"] (defScope sFR) := ⟨rfl, rfl, rfl, by decide +kernel, rfl, by decide +kernel, by decide +kernel⟩
theorem scNR : FnScope NFR ["rights", "day"] (defScope sNR) := ⟨rfl, rfl, rfl, by decide +kernel, rfl, by decide +kernel, by decide +kernel⟩
def NamedAt (H : Hp) (p : Addr) (x : Str × Rt) : Prop := ∃ r, H p = some (.tup [.str x.1, .ref r]) ∧ RightAt H r x.2
theorem NamedAt.keep {H H' : Hp} {p : Addr} {x : Str × Rt} (h : NamedAt H p x) (k : KeepT H H') : NamedAt H' p x := by
  obtain ⟨r, h1, h2⟩ := h
  exact ⟨r, k _ _ h1, h2.keep k⟩
def RightsAt (H : Hp) (a : Addr) (rs : List (Str × Rt)) : Prop := ∃ ps : List Addr, H a = some (.tup (ps.map V.ref)) ∧ Paired (NamedAt H) ps rs
theorem RightsAt.keep {H H' : Hp} {a : Addr} {rs : List (Str × Rt)} (h : RightsAt H a rs) (k : KeepT H H') : RightsAt H' a rs := by
  obtain ⟨ps, h1, h2⟩ := h
  exact ⟨ps, k _ _ h1, Paired.mapP h2 fun _ _ z => z.keep k⟩
def TupRows (H : Hp) (p : Addr) (ys : List RowD) : Prop := ∃ bs : List Addr, H p = some (.tup (bs.map V.ref)) ∧ Paired (RowAt H) bs ys
theorem TupRows.keep {H H' : Hp} {p : Addr} {ys : List RowD} (h : TupRows H p ys) (k : KeepT H H') : TupRows H' p ys := by
  obtain ⟨bs, h1, h2⟩ := h
  exact ⟨bs, k _ _ h1, Paired.mapP h2 fun _ _ z => z.keep k⟩
/-- rights that a law draws -/
structure RsOk (rs : List (Str × Rt)) (m : Nat) : Prop where
  all : ∀ x ∈ rs, RtOk x.2 ∧ RtDay x.2 ∧ NamesUp x.2.ws ∧ (x.2.last - x.2.first + 1).toNat + 1 ≤ m
  few : rs.length * m ≤ 30
  m1 : 1 ≤ m
def Strict (ys : List RowD) : Prop := ys.Pairwise fun a b => ltR a b = true
def prRows (S : Rt → Int → List RowD) : Pr := fun vs H Q => ∃ (a : Addr) (rs : List (Str × Rt)) (T : Int) (m : Nat), vs = [.ref a, .int T] ∧ RightsAt H a rs ∧ RsOk rs m ∧ 0 ≤ T ∧ T ≤ 9 ∧
  ∀ H' p ys, Same H H' → TupRows H' p ys → Strict ys → (∀ ρ, ρ ∈ ys ↔ ∃ x ∈ rs, ρ ∈ S x.2 T) → ys.length ≤ 30 → Q (.ref p) H'
theorem futS_ok {R : Rt} (h : RtOk R) (d : RtDay R) {T : Int} (t0 : 0 ≤ T) (t9 : T ≤ 9) : (futS R T).length ≤ 1 ∧ ∀ s ∈ futS R T, SpanOk s := by
  unfold futS
  have sg := soon_gt R T
  by_cases c : soon R T > R.last
  · rw [if_pos c]
    exact ⟨Nat.zero_le _, fun s hs => absurd hs (by simp)⟩
  · rw [if_neg c]
    refine ⟨Nat.le_refl _, fun s hs => ?_⟩
    rw [List.mem_singleton.mp hs]
    have l9 := d.l9
    obtain ⟨b1, b2, b3, b4⟩ := kind_bounds h.kind (t := soon R T) (by omega) (by omega)
    have b5 := (kind_bounds h.kind (t := R.last) h.l0 l9).1
    refine ⟨b1, b2, ?_, ?_, b5⟩
    · show 0 ≤ mn (R.kind.hi (soon R T)) T
      unfold mn
      split <;> omega
    · show mn (R.kind.hi (soon R T)) T ≤ 9
      unfold mn
      split <;> omega
theorem needS_ok {R : Rt} (h : RtOk R) (d : RtDay R) {T : Int} (t0 : 0 ≤ T) (t9 : T ≤ 9) : (needS R T).length ≤ 2 ∧ ∀ s ∈ needS R T, SpanOk s := by
  obtain ⟨f1, f2⟩ := futS_ok h d t0 t9
  unfold needS useS
  obtain ⟨b1, b2, b3, b4⟩ := kind_bounds h.kind t0 t9
  refine ⟨?_, fun s hs => ?_⟩
  · rw [List.length_append]
    have : (if usedB R T = true then [(R.kind.lo T, R.kind.lo T, R.kind.hi T)] else []).length ≤ 1 := by
      split
      · exact Nat.le_refl _
      · exact Nat.zero_le _
    omega
  · cases List.mem_append.mp hs with
    | inl m => exact f2 s m
    | inr m =>
      by_cases u : usedB R T = true
      · rw [if_pos u] at m
        rw [List.mem_singleton.mp m]
        exact ⟨b1, b2, b4, b3, b1⟩
      · rw [if_neg u] at m
        exact absurd m (by simp)
theorem flat_take {α β : Type} {S : α → List β} {rs : List α} {i : Nat} {x : α} (h : rs[i]? = some x) (ρ : β) : (∃ y ∈ rs.take (i + 1), ρ ∈ S y) ↔ (∃ y ∈ rs.take i, ρ ∈ S y) ∨ ρ ∈ S x := by
  rw [List.take_add_one, h]
  constructor
  · rintro ⟨y, hy, m⟩
    cases List.mem_append.mp hy with
    | inl hy => exact .inl ⟨y, hy, m⟩
    | inr hy =>
      rw [List.mem_singleton.mp hy] at m
      exact .inr m
  · rintro (⟨y, hy, m⟩ | m)
    · exact ⟨y, List.mem_append_left _ hy, m⟩
    · exact ⟨x, List.mem_append_right _ (List.mem_singleton.mpr rfl), m⟩
theorem rowsIn_keep {H H' : Hp} {L : List (Addr × NestedKey)} (h : RowsIn H L) (k : KeepT H H') : RowsIn H' L := fun p hp => by
  obtain ⟨ρ, h1, h2, h3⟩ := h p hp
  exact ⟨ρ, h1, h2, h3.keep k⟩
/-- the set has the rows that M says -/
structure SetHas (w : World) (H : Hp) (D : Addr) (M : RowD → Prop) (n : Nat) : Prop where
  ex : ∃ L, H D = some (SetKO w D L) ∧ RowsIn H L ∧ (∀ ρ, rowK ρ ∈ L.map Prod.snd ↔ M ρ) ∧ L.length ≤ n
section
variable {P : Program} {w : World} {K : PySem.W.Frag} {mg : Str → Option Value} {base : Heap}
variable {fS fR : Addr} {fdS fdR : FuncData}
theorem fut_ne {R : Rt} {T : Int} {ρ : RowD} (ne : R.ws ≠ []) (h : ρ ∈ futR R T) : ρ ≠ [] := ((fut_lat ne ρ).mp h).2
theorem need_ne {R : Rt} {T : Int} {ρ : RowD} (ne : R.ws ≠ []) (h : ρ ∈ needR R T) : ρ ≠ [] := by
  rcases (mem_need ne ρ).mp h with z | z
  · exact fut_ne ne z
  · exact z.2.2
theorem ok_fr {f : Addr} {fd : FuncData} {k : Nat} (F : Fun K "future_rows" "future_rows" sFR f fd)
    (FS : Fun K "future_spans" "future_spans" sFS fS fdS) (bS : Binds K fdS ["right", "day"] []) (gS : mg "future_spans" = some (.ref fS)) (GS : FnG P w K mg base (k + 3) fS fdS ["right", "day"] (prSpans futS))
    (FR : Fun K "rows_of_spans" "rows_of_spans" sRS fR fdR) (bR : Binds K fdR ["right", "spans"] []) (gR : mg "rows_of_spans" = some (.ref fR)) (GR : FnG P w K mg base (k + 3) fR fdR ["right", "spans"] prRS)
    (mt : mg "tuple" = none) (ms : mg "sorted" = none) : FnG P w K mg base (k + 4) f fd ["rights", "day"] (prRows futR) := by
  refine okG F scFR (fun vs H Q h => ?_) (fun cdv A outer s H vs Q hr h => ?_)
  · obtain ⟨_, _, _, _, rfl, _⟩ := h
    rfl
  · obtain ⟨a, rs, T, m, rfl, hRs, ok, t0, t9, q⟩ := h
    have big := sizeBig
    have hun := hr.room.units
    have hu8 := Nat.lt_of_le_of_lt (Nat.add_le_add_left (by decide : 8 ≤ 64) _) hun
    have hu10 := Nat.lt_of_le_of_lt (Nat.add_le_add_left (by decide : 10 ≤ 64) _) hun
    obtain ⟨ps, h1, h2⟩ := id hRs
    refine ⟨_, pss_one (ps_ret (pe_callTy call_tuple_of (by rfl) mt (by decide +kernel) (pa_cons (pe_callB (cr_sortSR rfl hu8) (by rfl) ms (by decide +kernel) (pa_cons
      (pe_sc2 (own := [("name", 2), ("right", 3), ("row", 4)]) (vs1 := [4]) (g := g2 K 2 3) (g1 := gName 4) hu10 rfl scFR.nd (pi_tup (pv 0)) (blkOk_by (N := NFR) (sc := defScope sFR) (by decide +kernel)) (by decide)
        (fun _ _ _ _ _ => pg_tup rfl (pgs_cons (pg_name (i := 2) scFR.nd rfl (.inl rfl)) (pgs_cons (pg_name (i := 3) scFR.nd rfl (.inl rfl)) pgs_nil)))
        (fun _ _ _ _ _ => (pi_list (pe_g GR hr (by rfl) gR FR.kp bR .nil (pa_cons (pv 3) (pa_cons (pe_g GS hr (by rfl) gS FS.kp bS .nil (pa_cons (pv 3) (pa_cons (pv 1) pa_nil))) pa_nil))) : PI _ _ _ (iList K _)))
        (fun _ _ _ _ _ => pg_name (i := 4) scFR.nd rfl (.inl rfl))
        (fun _ _ _ _ _ => pv 4)) pa_nil)) pa_nil))), ?_⟩
    refine iRet ⟨.ref a, rfl, a, rfl, ⟨_, sqT h1⟩, fun D hD => ?_⟩
    have sD := same_new (o := SetKO w D []) hD
    refine loop_tup (K := K) (a := a) (xs := ps.map V.ref) (fun i H' => Same H H' ∧ SetHas w H' D (fun ρ => ∃ x ∈ rs.take i, ρ ∈ futR x.2 T) (i * m)) ⟨sD, [], upd_same, fun p hp => absurd hp (by simp), fun ρ => ⟨fun z => absurd z (by simp), fun z => by obtain ⟨x, hx, _⟩ := z; rw [List.take_zero] at hx; cases hx⟩, Nat.zero_le _⟩ (fun i H' h => sqT (h.1 _ _ h1)) (fun i x H' hx h => ?_) (fun H' h => ?_)
    · obtain ⟨sm, L, hL, rin, mem, few⟩ := h
      rw [List.getElem?_map] at hx
      obtain ⟨pi, hpi, rfl⟩ := Option.map_eq_some_iff.mp hx
      obtain ⟨⟨nm, R⟩, hc, r, hr1, hR⟩ := paired_at' h2 hpi
      have il : i < rs.length := (List.getElem?_eq_some_iff.mp hc).1
      obtain ⟨okR, okD, up, cm⟩ := ok.all _ (List.mem_of_getElem? hc)
      have fewA := ok.few
      have im : (i + 1) * m ≤ rs.length * m := Nat.mul_le_mul_right _ il
      rw [Nat.succ_mul] at im
      have rl : (futR R T).length ≤ m := Nat.le_trans (Nat.le_succ_of_le (fut_len R T)) cm
      obtain ⟨sl, sok⟩ := futS_ok okR okD t0 t9
      have hR' := hR.keep (KeepT.of sm)
      refine ⟨pi, _, rfl, sqT (sm _ _ hr1), rfl, .str nm, _, rfl, .ref r, _, rfl, rfl, rfl, ?_⟩
      refine ⟨.ref r, rfl, .ref r, rfl, .int T, rfl, r, R, T, rfl, hR', fun H1 p s1 hpn hS => ?_⟩
      refine ⟨r, p, R, futS R T, rfl, hR'.keep (KeepT.of s1), okR.many, hS, Nat.le_succ_of_le sl, sok, fun H2 p2 bs s2 hp2 hbs => ?_⟩
      have s12 := s1.trans s2
      have nD : p2 ≠ D := fun z => by
        rw [z, s12 _ _ hL] at hp2
        cases hp2
      refine ⟨p2, rfl, ⟨_, sqL hp2⟩, ?_⟩
      have hlen : bs.length = (futR R T).length := Paired.length hbs
      refine loop_lst (K := K) (a := p2) (xs := bs.map V.ref) (fun j H' => Same H H' ∧ H' p2 = some (.lst (bs.map V.ref)) ∧ Paired (RowAt H') bs (futR R T) ∧ SetHas w H' D (fun ρ => (∃ x ∈ rs.take i, ρ ∈ futR x.2 T) ∨ ρ ∈ (futR R T).take j) (i * m + j))
        ⟨sm.trans s12, hp2, hbs, L, s12 _ _ hL, rowsIn_keep rin (KeepT.of s12), fun ρ => by rw [mem, List.take_zero]; exact ⟨.inl, fun z => z.elim id fun z => absurd z (by simp)⟩, few⟩ (fun j H' h => sqL h.2.1) (fun j x H' hx h => ?_) (fun H' h => ?_)
      · obtain ⟨sm', hp', hbs', L', hL', rin', mem', few'⟩ := h
        rw [List.getElem?_map] at hx
        obtain ⟨b, hb, rfl⟩ := Option.map_eq_some_iff.mp hx
        obtain ⟨ρ, hρ, hrow⟩ := paired_at' hbs' hb
        have jl : j < (futR R T).length := (List.getElem?_eq_some_iff.mp hρ).1
        have ne : ρ ≠ [] := fut_ne okD.some (List.mem_of_getElem? hρ)
        refine ⟨wipe1, .ref b, rfl, b, L', rowK ρ, rfl, hL', rin'.keys, by omega, row_key hrow, rowK_deep ρ, fun L2 g1 g2' => ?_⟩
        have kp : KeepT H' (upd H' D (SetKO w D L2)) := KeepT.put hL' fun _ z => nomatch z
        refine ⟨fun c o e => ?_, ?_, Paired.mapP hbs' fun _ _ z => z.keep kp, L2, upd_same, ?_, fun π => ?_, ?_⟩
        · rw [upd_ne (ne_of_none e hD)]
          exact sm' _ _ e
        · rw [upd_ne nD]
          exact hp'
        all_goals by_cases c : rowK ρ ∈ L'.map Prod.snd
        · intro p hp
          rw [g1 c] at hp
          exact (rowsIn_keep rin' kp) p hp
        · intro p hp
          cases List.mem_cons.mp ((g2' c).mem_iff.mp hp) with
          | inl e =>
            rw [e]
            exact ⟨ρ, ne, rfl, hrow.keep kp⟩
          | inr z => exact (rowsIn_keep rin' kp) p z
        · rw [g1 c, mem', List.take_add_one, hρ, List.mem_append]
          refine ⟨fun z => z.elim .inl fun z => .inr (.inl z), fun z => ?_⟩
          rcases z with z | z | z
          · exact .inl z
          · exact .inr z
          · rw [List.mem_singleton.mp z]
            exact (mem' ρ).mp c
        · rw [((g2' c).map Prod.snd).mem_iff, List.map_cons, List.mem_cons, mem', List.take_add_one, hρ, List.mem_append]
          constructor
          · rintro (z | z | z)
            · rw [rowK_inj z]
              exact .inr (.inr (List.mem_singleton.mpr rfl))
            · exact .inl z
            · exact .inr (.inl z)
          · rintro (z | z | z)
            · exact .inr (.inl z)
            · exact .inr (.inr z)
            · rw [List.mem_singleton.mp z]
              exact .inl rfl
        · rw [g1 c]
          omega
        · rw [(g2' c).length_eq, List.length_cons]
          omega
      · obtain ⟨sm', hp', hbs', L', hL', rin', mem', few'⟩ := h
        rw [List.length_map, hlen] at mem' few'
        rw [List.take_length] at mem'
        refine ⟨sm', L', hL', rin', fun ρ => ?_, ?_⟩
        · rw [mem', flat_take (S := fun x => futR x.2 T) hc]
        · rw [Nat.succ_mul]
          have : (futR R T).length ≤ m := rl
          show L'.length ≤ i * m + m
          have few' : L'.length ≤ i * m + (futR R T).length := few'
          omega
    · obtain ⟨sm, L, hL, rin, mem, few⟩ := h
      rw [List.length_map, Paired.length h2] at few
      rw [List.length_map, Paired.length h2, List.take_length] at mem
      have fewA := ok.few
      refine ⟨D, L, rfl, hL, rin, fun ys bs p my ly sy py hp => ?_⟩
      have s5 := same_new (o := .lst (bs.map V.ref)) hp
      refine ⟨p, _, rfl, .inl ⟨sqL upd_same, fun p2 hp2 => ?_⟩⟩
      have s6 := same_new (o := .tup (bs.map V.ref)) hp2
      refine q _ p2 ys ((sm.trans s5).trans s6) ⟨bs, upd_same, Paired.mapP py fun _ _ z => z.keep (KeepT.of (s5.trans s6))⟩ sy (fun ρ => (my ρ).trans (mem ρ)) (by omega)
theorem ok_nr {f : Addr} {fd : FuncData} {k : Nat} (F : Fun K "needed_rows" "needed_rows" sNR f fd)
    (FS : Fun K "needed_spans" "needed_spans" sNS fS fdS) (bS : Binds K fdS ["right", "day"] []) (gS : mg "needed_spans" = some (.ref fS)) (GS : FnG P w K mg base (k + 3) fS fdS ["right", "day"] (prSpans needS))
    (FR : Fun K "rows_of_spans" "rows_of_spans" sRS fR fdR) (bR : Binds K fdR ["right", "spans"] []) (gR : mg "rows_of_spans" = some (.ref fR)) (GR : FnG P w K mg base (k + 3) fR fdR ["right", "spans"] prRS)
    (mt : mg "tuple" = none) (ms : mg "sorted" = none) : FnG P w K mg base (k + 4) f fd ["rights", "day"] (prRows needR) := by
  refine okG F scNR (fun vs H Q h => ?_) (fun cdv A outer s H vs Q hr h => ?_)
  · obtain ⟨_, _, _, _, rfl, _⟩ := h
    rfl
  · obtain ⟨a, rs, T, m, rfl, hRs, ok, t0, t9, q⟩ := h
    have big := sizeBig
    have hun := hr.room.units
    have hu8 := Nat.lt_of_le_of_lt (Nat.add_le_add_left (by decide : 8 ≤ 64) _) hun
    have hu10 := Nat.lt_of_le_of_lt (Nat.add_le_add_left (by decide : 10 ≤ 64) _) hun
    obtain ⟨ps, h1, h2⟩ := id hRs
    refine ⟨_, pss_one (ps_ret (pe_callTy call_tuple_of (by rfl) mt (by decide +kernel) (pa_cons (pe_callB (cr_sortSR rfl hu8) (by rfl) ms (by decide +kernel) (pa_cons
      (pe_sc2 (own := [("name", 2), ("right", 3), ("row", 4)]) (vs1 := [4]) (g := g2 K 2 3) (g1 := gName 4) hu10 rfl scNR.nd (pi_tup (pv 0)) (blkOk_by (N := NFR) (sc := defScope sNR) (by decide +kernel)) (by decide)
        (fun _ _ _ _ _ => pg_tup rfl (pgs_cons (pg_name (i := 2) scNR.nd rfl (.inl rfl)) (pgs_cons (pg_name (i := 3) scNR.nd rfl (.inl rfl)) pgs_nil)))
        (fun _ _ _ _ _ => (pi_list (pe_g GR hr (by rfl) gR FR.kp bR .nil (pa_cons (pv 3) (pa_cons (pe_g GS hr (by rfl) gS FS.kp bS .nil (pa_cons (pv 3) (pa_cons (pv 1) pa_nil))) pa_nil))) : PI _ _ _ (iList K _)))
        (fun _ _ _ _ _ => pg_name (i := 4) scNR.nd rfl (.inl rfl))
        (fun _ _ _ _ _ => pv 4)) pa_nil)) pa_nil))), ?_⟩
    refine iRet ⟨.ref a, rfl, a, rfl, ⟨_, sqT h1⟩, fun D hD => ?_⟩
    have sD := same_new (o := SetKO w D []) hD
    refine loop_tup (K := K) (a := a) (xs := ps.map V.ref) (fun i H' => Same H H' ∧ SetHas w H' D (fun ρ => ∃ x ∈ rs.take i, ρ ∈ needR x.2 T) (i * m)) ⟨sD, [], upd_same, fun p hp => absurd hp (by simp), fun ρ => ⟨fun z => absurd z (by simp), fun z => by obtain ⟨x, hx, _⟩ := z; rw [List.take_zero] at hx; cases hx⟩, Nat.zero_le _⟩ (fun i H' h => sqT (h.1 _ _ h1)) (fun i x H' hx h => ?_) (fun H' h => ?_)
    · obtain ⟨sm, L, hL, rin, mem, few⟩ := h
      rw [List.getElem?_map] at hx
      obtain ⟨pi, hpi, rfl⟩ := Option.map_eq_some_iff.mp hx
      obtain ⟨⟨nm, R⟩, hc, r, hr1, hR⟩ := paired_at' h2 hpi
      have il : i < rs.length := (List.getElem?_eq_some_iff.mp hc).1
      obtain ⟨okR, okD, up, cm⟩ := ok.all _ (List.mem_of_getElem? hc)
      have fewA := ok.few
      have im : (i + 1) * m ≤ rs.length * m := Nat.mul_le_mul_right _ il
      rw [Nat.succ_mul] at im
      have rl : (needR R T).length ≤ m := Nat.le_trans (need_len R T) cm
      obtain ⟨sl, sok⟩ := needS_ok okR okD t0 t9
      have hR' := hR.keep (KeepT.of sm)
      refine ⟨pi, _, rfl, sqT (sm _ _ hr1), rfl, .str nm, _, rfl, .ref r, _, rfl, rfl, rfl, ?_⟩
      refine ⟨.ref r, rfl, .ref r, rfl, .int T, rfl, r, R, T, rfl, hR', fun H1 p s1 hpn hS => ?_⟩
      refine ⟨r, p, R, needS R T, rfl, hR'.keep (KeepT.of s1), okR.many, hS, sl, sok, fun H2 p2 bs s2 hp2 hbs => ?_⟩
      have s12 := s1.trans s2
      have nD : p2 ≠ D := fun z => by
        rw [z, s12 _ _ hL] at hp2
        cases hp2
      refine ⟨p2, rfl, ⟨_, sqL hp2⟩, ?_⟩
      have hlen : bs.length = (needR R T).length := Paired.length hbs
      refine loop_lst (K := K) (a := p2) (xs := bs.map V.ref) (fun j H' => Same H H' ∧ H' p2 = some (.lst (bs.map V.ref)) ∧ Paired (RowAt H') bs (needR R T) ∧ SetHas w H' D (fun ρ => (∃ x ∈ rs.take i, ρ ∈ needR x.2 T) ∨ ρ ∈ (needR R T).take j) (i * m + j))
        ⟨sm.trans s12, hp2, hbs, L, s12 _ _ hL, rowsIn_keep rin (KeepT.of s12), fun ρ => by rw [mem, List.take_zero]; exact ⟨.inl, fun z => z.elim id fun z => absurd z (by simp)⟩, few⟩ (fun j H' h => sqL h.2.1) (fun j x H' hx h => ?_) (fun H' h => ?_)
      · obtain ⟨sm', hp', hbs', L', hL', rin', mem', few'⟩ := h
        rw [List.getElem?_map] at hx
        obtain ⟨b, hb, rfl⟩ := Option.map_eq_some_iff.mp hx
        obtain ⟨ρ, hρ, hrow⟩ := paired_at' hbs' hb
        have jl : j < (needR R T).length := (List.getElem?_eq_some_iff.mp hρ).1
        have ne : ρ ≠ [] := need_ne okD.some (List.mem_of_getElem? hρ)
        refine ⟨wipe1, .ref b, rfl, b, L', rowK ρ, rfl, hL', rin'.keys, by omega, row_key hrow, rowK_deep ρ, fun L2 g1 g2' => ?_⟩
        have kp : KeepT H' (upd H' D (SetKO w D L2)) := KeepT.put hL' fun _ z => nomatch z
        refine ⟨fun c o e => ?_, ?_, Paired.mapP hbs' fun _ _ z => z.keep kp, L2, upd_same, ?_, fun π => ?_, ?_⟩
        · rw [upd_ne (ne_of_none e hD)]
          exact sm' _ _ e
        · rw [upd_ne nD]
          exact hp'
        all_goals by_cases c : rowK ρ ∈ L'.map Prod.snd
        · intro p hp
          rw [g1 c] at hp
          exact (rowsIn_keep rin' kp) p hp
        · intro p hp
          cases List.mem_cons.mp ((g2' c).mem_iff.mp hp) with
          | inl e =>
            rw [e]
            exact ⟨ρ, ne, rfl, hrow.keep kp⟩
          | inr z => exact (rowsIn_keep rin' kp) p z
        · rw [g1 c, mem', List.take_add_one, hρ, List.mem_append]
          refine ⟨fun z => z.elim .inl fun z => .inr (.inl z), fun z => ?_⟩
          rcases z with z | z | z
          · exact .inl z
          · exact .inr z
          · rw [List.mem_singleton.mp z]
            exact (mem' ρ).mp c
        · rw [((g2' c).map Prod.snd).mem_iff, List.map_cons, List.mem_cons, mem', List.take_add_one, hρ, List.mem_append]
          constructor
          · rintro (z | z | z)
            · rw [rowK_inj z]
              exact .inr (.inr (List.mem_singleton.mpr rfl))
            · exact .inl z
            · exact .inr (.inl z)
          · rintro (z | z | z)
            · exact .inr (.inl z)
            · exact .inr (.inr z)
            · rw [List.mem_singleton.mp z]
              exact .inl rfl
        · rw [g1 c]
          omega
        · rw [(g2' c).length_eq, List.length_cons]
          omega
      · obtain ⟨sm', hp', hbs', L', hL', rin', mem', few'⟩ := h
        rw [List.length_map, hlen] at mem' few'
        rw [List.take_length] at mem'
        refine ⟨sm', L', hL', rin', fun ρ => ?_, ?_⟩
        · rw [mem', flat_take (S := fun x => needR x.2 T) hc]
        · rw [Nat.succ_mul]
          have : (needR R T).length ≤ m := rl
          show L'.length ≤ i * m + m
          have few' : L'.length ≤ i * m + (needR R T).length := few'
          omega
    · obtain ⟨sm, L, hL, rin, mem, few⟩ := h
      rw [List.length_map, Paired.length h2] at few
      rw [List.length_map, Paired.length h2, List.take_length] at mem
      have fewA := ok.few
      refine ⟨D, L, rfl, hL, rin, fun ys bs p my ly sy py hp => ?_⟩
      have s5 := same_new (o := .lst (bs.map V.ref)) hp
      refine ⟨p, _, rfl, .inl ⟨sqL upd_same, fun p2 hp2 => ?_⟩⟩
      have s6 := same_new (o := .tup (bs.map V.ref)) hp2
      refine q _ p2 ys ((sm.trans s5).trans s6) ⟨bs, upd_same, Paired.mapP py fun _ _ z => z.keep (KeepT.of (s5.trans s6))⟩ sy (fun ρ => (my ρ).trans (mem ρ)) (by omega)
end
end P20
/-! AskVa: dict(pairs), the keys nested and all different, the values True. -/
namespace Ask
open PySem PySem.Spec PyProof.Rows L2 AskG
theorem putD_new {L : List KA} {b : Addr} {k : NestedKey} (h : k ∉ L.map Prod.snd) : putD L b k = L ++ [(b, k)] := if_neg h
theorem stored_all : ∀ (M L : List KA), ((L ++ M).map Prod.snd).Nodup → storedAllH (asEnt L) (asEnt M) = asEnt (L ++ M)
  | [], L, _ => by rw [List.append_nil]; rfl
  | p :: M, L, h => by
    show storedAllH (storedH (asEnt L) p.2 p.1 (Value.bool true)) (asEnt M) = _
    have nk : p.2 ∉ L.map Prod.snd := fun m => by
      rw [List.map_append, List.map_cons] at h
      exact (List.nodup_append.mp h).2.2 _ m _ List.mem_cons_self rfl
    rw [stored_put, putD_new nk, stored_all M (L ++ [(p.1, p.2)]) (by rw [List.append_assoc]; exact h), List.append_assoc]
    rfl
def TruePair (K : PySem.W.Frag) (H : Hp) (p : Addr) (x : KA) : Prop := SqT K H p [.ref x.1, .bl true]
theorem pairsN_of {X : Cx} {pins : List (Addr × Obj)} {σ : L2.St} {H : Hp} {s : Shared} (I : Inv X pins σ H s) : ∀ {ps : List Addr} {L : List KA}, Paired (TruePair X.K H) ps L →
    ∀ (j : Nat) (x : KA), L[j]? = some x → ∃ b : Addr, ps[j]? = some b ∧ IsTup s.heap b #[.ref x.1, .bool true]
  | _, _, .nil, j, x, e => by cases j <;> cases e
  | _, _, .cons (a := p) (b := y) h t, j, x, e => by
    cases j with
    | zero =>
      cases e
      obtain ⟨its, rv, ht, _⟩ := I.tuple h
      obtain ⟨u, z, ei, ru, rz⟩ := vals2 rv
      subst ei
      cases ru
      cases rz
      exact ⟨p, rfl, ht⟩
    | succ j => exact pairsN_of I t j x e
theorem call_dictN {X : Cx} (hc : X.calm = true) (hu : X.A.units + 12 < cLine) : CallR X (.type "dict") (fun xs H Q => ∃ (a : Addr) (ps : List Addr) (L : List KA), xs = [.ref a] ∧ SqL X.K H a (ps.map V.ref) ∧ Paired (TruePair X.K H) ps L ∧ KeysAt X.K H L ∧ (L.map Prod.snd).Nodup ∧
    ∀ p, H p = none → Q (.ref p) (upd H p (DicKO X.prog X.w p L))) := by
  intro pins s σ H xs us Q I r q
  obtain ⟨a, ps, L, ex, hq, hp, hk, nd, q⟩ := q
  subst ex
  obtain ⟨u, eu, rx⟩ := vals1 r
  subst eu
  cases rx
  obtain ⟨its, rv, pl, hz⟩ := I.list hq
  have ei := refs_at rv
  subst ei
  rw [List.length_map] at hz
  have at' := pairsN_of I hp
  have hl : ps.length = L.length := Paired.length hp
  obtain ⟨o, n, ho, hcl, hd, hdat⟩ := pl
  have isK : ∀ (hh : Heap), (∀ b o, s.heap.get? b = some o → hh.get? b = some o) → ∀ x ∈ asEnt L, (nestedKind X.prog X.w).is hh x.1 x.2.1 := fun hh kp x hx => by
    obtain ⟨y, hy, rfl⟩ := List.mem_map.mp hx
    exact hk.are (I.kept (t' := s.toks) kp) y hy
  let pr : List (Value × Value) := L.map fun y => (Value.ref y.1, Value.bool true)
  have pit : PairItems s.heap (ps.map Value.ref).toArray (fun j => ps.getD j 0) pr := by
    refine ⟨by simp [pr, hl], fun j k' v e => ?_⟩
    rw [List.getElem?_map] at e
    cases em : L[j]? with
    | none =>
      rw [em] at e
      cases e
    | some y =>
      rw [em] at e
      obtain ⟨b, e1, e2⟩ := at' j y em
      cases e
      have eg : ps.getD j 0 = b := by rw [List.getD_eq_getElem?_getD, e1]; rfl
      constructor
      · show _ = some (Value.ref (ps.getD j 0))
        rw [eg]
        simp [e1]
      · show PairAt s.heap (ps.getD j 0) _ _
        rw [eg]
        exact .inl e2
  have A1 := PairArg.list (prog := X.prog) (w := X.w) a (ps.map Value.ref).toArray (fun j => ps.getD j 0) pr
  refine call_dict_pairsH (knd := nestedKind X.prog X.w) (ps := asEnt L) A1 (I.ok.hd hc) (show X.A.in1.in1.units + 8 < cLine by rw [Around.in1_units, Around.in1_units]; omega) ⟨⟨o, n, ho, hcl, hd, hdat⟩, pit⟩ ⟨by simp [pr], fun i key v e => ?_⟩ (fun hh kk x hx => ?_) (by simp [pr]; omega) fun hh tk hdd kp => ?_
  · have e : pr[i]? = some (key, v) := e
    rw [List.getElem?_map] at e
    cases em : L[i]? with
    | none =>
      rw [em] at e
      cases e
    | some y =>
      rw [em] at e
      cases e
      exact ⟨y.2, y.1, by rw [List.getElem?_map, em]; rfl, rfl⟩
  · exact isK hh (fun b o e => kk b o (Nat.ne_of_lt (Heap.lt_size e)) (by simp) e) x hx
  · have kp' : ∀ b o, s.heap.get? b = some o → hh.get? b = some o := fun b o e => kp b o (by simp) e
    have fr : H s.heap.objs.size = none := I.hok.fresh (Nat.le_refl _)
    have hdd : hh.DictOfH (nestedKind X.prog X.w) s.heap.objs.size (asEnt L) := by
      have e : storedAllH [] (asEnt L) = asEnt L := stored_all L [] nd
      rw [e] at hdd
      exact hdd
    obtain ⟨od, es, ep, god, hx, hdt, he, _, hn⟩ := hdd
    refine ⟨.ref s.heap.objs.size, _, I.laid (t' := tk) kp' (Nat.le_refl _) (dicKO_ok ⟨beq_eq_false_iff_ne.mpr (Nat.ne_of_gt I.big), od, es, ep, god, hx, hdt, he, nd⟩), rfl, q _ fr⟩
end Ask
namespace P20
open PySem PySem.Spec PyProof.Rows L2 AskG Ask
abbrev sCut : Stmt := topS 16
abbrev sLat : Stmt := topS 17
abbrev NCut : List Str := ["_law_row", "_law_day_nows", "_law_pair"]
abbrev NLat : List Str := ["_law_rights_nows", "_law_day_nows", "_law_found", "_law_name", "_law_right", "_law_one", "_law_row"]
theorem scCut : FnScope NCut ["_law_row", "_law_day_nows"] (defScope sCut) := ⟨rfl, rfl, rfl, by decide +kernel, rfl, by decide +kernel, by decide +kernel⟩
theorem scLat : FnScope NLat ["_law_rights_nows", "_law_day_nows"] (defScope sLat) := ⟨rfl, rfl, rfl, by decide +kernel, rfl, by decide +kernel, by decide +kernel⟩
theorem fresh_ne {H : Hp} {a b : Addr} {o : HO} (h : H a = some o) (g : H b = none) : a ≠ b := ne_of_none h g
theorem shaped_row {ρ : RowD} (h : ∀ x ∈ ρ, PyData.strOk x.1.1 = true) : SeqAt.shaped (rowPD ρ) = true := by
  have h1 : PyData.canLayAll0 (ρ.map AskG.pairD) = true := can_all fun x hx => by
    show ((PyData.strOk x.1.1 && (true && true)) && (true && true)) = true
    rw [h x hx]
    rfl
  have h2 : PyData.depthAll (ρ.map AskG.pairD) ≤ 2 := depth_all fun x _ => by
    show max (max 0 (max 0 0) + 1) (max 0 0) + 1 ≤ 2
    decide
  show (PyData.canLayAll0 (ρ.map AskG.pairD) && decide (PyData.depthAll (ρ.map AskG.pairD) + 1 ≤ 64)) = true
  rw [h1, decide_eq_true (by omega)]
  rfl
theorem shaped_tnil : SeqAt.shaped (.tuple []) = true := by decide
/-- is the row not () -/
theorem row_ne (ρ : RowD) : (!PyData.eqv (rowPD ρ) (.tuple [])) = decide (ρ ≠ []) := by
  cases ρ with
  | nil => rfl
  | cons x ρ =>
    rw [decide_eq_true (by intro z; cases z)]
    rfl
theorem lat_at {R : Rt} {T : Int} {j : Nat} (h : j < (R.last + 1 - soon R T).toNat) : (latR R T)[j]? = some (cutR (rowQ R (soon R T + (j : Int))) T) := by
  unfold latR daysOf
  rw [List.getElem?_map, List.getElem?_map, List.getElem?_range h]
  rfl
theorem lat_n (R : Rt) (T : Int) : (latR R T).length = (R.last + 1 - soon R T).toNat := by
  unfold latR
  rw [List.length_map, days_len]
theorem mem_rowOn {ws : List Cell} {lo hi : Int} {x : Cell × Int} (h : x ∈ rowOn ws lo hi) : ∃ c ∈ ws, ∃ d, lo ≤ d ∧ d ≤ hi ∧ x = ((c.1, d), c.2) := by
  obtain ⟨c, hc, hx⟩ := List.mem_flatMap.mp h
  obtain ⟨d, hd, rfl⟩ := List.mem_map.mp hx
  have := mem_days.mp hd
  exact ⟨c, hc, d, this.1, this.2, rfl⟩
/-- rows of a right, on few days -/
structure Row30 (ρ : RowD) : Prop where
  many : ρ.length ≤ 30
  cells : ∀ x ∈ ρ, CellOk x.1
  lit : ∀ x ∈ ρ, x.2.natAbs.log2 < 1920
theorem row30 {R : Rt} (h : RtOk R) {lo hi : Int} (l0 : 0 ≤ lo) (h9 : hi ≤ 9) : Row30 (rowOn R.ws lo hi) := by
  refine ⟨?_, fun x hx => ?_, fun x hx => ?_⟩
  · rw [rowOn_len]
    have : R.ws.length * (hi + 1 - lo).toNat ≤ 3 * 10 := Nat.mul_le_mul h.many (by omega)
    omega
  · obtain ⟨c, hc, d, d0, d9, rfl⟩ := mem_rowOn hx
    have k := h.ws c hc
    exact ⟨k.short, k.plain, k.ok, small_lit (i := d) (by omega)⟩
  · obtain ⟨c, hc, d, d0, d9, rfl⟩ := mem_rowOn hx
    exact (h.ws c hc).lit
theorem lat30 {R : Rt} (h : RtOk R) (d : RtDay R) {T : Int} (t0 : 0 ≤ T) {ρ : RowD} (m : ρ ∈ latR R T) : Row30 ρ := by
  obtain ⟨t, h1, h2, rfl⟩ := mem_lat.mp m
  have sg := soon_gt R T
  have l9 := d.l9
  obtain ⟨b1, b2, b3, b4⟩ := kind_bounds h.kind (t := t) (by omega) (by omega)
  exact row30 h b1 (by unfold mn; split <;> omega)
/-- the dict has the rows that M says -/
def Rows0 (H : Hp) (L : List KA) : Prop := ∀ p ∈ L, ∃ ρ, p.2 = rowK ρ ∧ RowAt H p.1 ρ
theorem Rows0.keep {H H' : Hp} {L : List KA} (h : Rows0 H L) (k : KeepT H H') : Rows0 H' L := fun p hp => by
  obtain ⟨ρ, h1, h2⟩ := h p hp
  exact ⟨ρ, h1, h2.keep k⟩
theorem Rows0.keys {K : PySem.W.Frag} {H : Hp} {L : List KA} (h : Rows0 H L) : KeysAt K H L := fun p hp => by
  obtain ⟨ρ, e, hr⟩ := h p hp
  rw [e]
  exact ⟨row_key hr, rowK_deep ρ⟩
structure DicHas (P : Program) (w : World) (H : Hp) (D : Addr) (M : RowD → Prop) (n : Nat) : Prop where
  ex : ∃ L, H D = some (DicKO P w D L) ∧ Rows0 H L ∧ (∀ ρ, rowK ρ ∈ L.map Prod.snd ↔ M ρ) ∧ L.length ≤ n ∧ (L.map Prod.snd).Nodup
theorem put_len (L : List KA) (b : Addr) (k : NestedKey) : (putD L b k).length ≤ L.length + 1 := by
  unfold putD
  split
  · exact Nat.le_succ _
  · rw [List.length_append]
    exact Nat.le_refl _
theorem put_mem (L : List KA) (b : Addr) (k q : NestedKey) : q ∈ (putD L b k).map Prod.snd ↔ q ∈ L.map Prod.snd ∨ q = k := by
  unfold putD
  split
  · rename_i h
    exact ⟨.inl, fun z => z.elim id fun z => z ▸ h⟩
  · rw [List.map_append, List.mem_append]
    exact ⟨fun z => z.elim .inl fun z => .inr (List.mem_singleton.mp z), fun z => z.elim .inl fun z => .inr (List.mem_singleton.mpr z)⟩
theorem put_nodup {L : List KA} {b : Addr} {k : NestedKey} (h : (L.map Prod.snd).Nodup) : ((putD L b k).map Prod.snd).Nodup := by
  unfold putD
  split
  · exact h
  · rename_i c
    rw [List.map_append]
    refine List.nodup_append.mpr ⟨h, List.pairwise_singleton _ _, fun a ha b' hb => ?_⟩
    rw [List.mem_singleton.mp hb]
    intro e
    exact c ((show a = k from e) ▸ ha)
theorem put_in {L : List KA} {b : Addr} {k : NestedKey} {p : KA} (h : p ∈ putD L b k) : p ∈ L ∨ p = (b, k) := by
  unfold putD at h
  split at h
  · exact .inl h
  · exact (List.mem_append.mp h).imp id List.mem_singleton.mp
/-- d[row] = True -/
theorem DicHas.put {P : Program} {w : World} {H : Hp} {D b : Addr} {M M' : RowD → Prop} {n : Nat} {L : List KA} {ρ : RowD} (hD : H D = some (DicKO P w D L)) (hL : Rows0 H L) (mem : ∀ ρ, rowK ρ ∈ L.map Prod.snd ↔ M ρ) (few : L.length ≤ n) (nd : (L.map Prod.snd).Nodup) (hb : RowAt H b ρ)
    (hM : ∀ π, M' π ↔ M π ∨ π = ρ) : DicHas P w (upd H D (DicKO P w D (putD L b (rowK ρ)))) D M' (n + 1) := by
  have kp : KeepT H (upd H D (DicKO P w D (putD L b (rowK ρ)))) := KeepT.put hD fun _ z => nomatch z
  refine ⟨putD L b (rowK ρ), upd_same, fun p hp => ?_, fun π => ?_, Nat.le_trans (put_len _ _ _) (Nat.succ_le_succ few), put_nodup nd⟩
  · rcases put_in hp with z | z
    · exact (hL.keep kp) p z
    · rw [z]
      exact ⟨ρ, rfl, hb.keep kp⟩
  · rw [put_mem, mem, hM]
    exact ⟨fun z => z.imp id rowK_inj, fun z => z.imp id fun z => by rw [z]⟩
theorem strict_of {ys ts : List RowD} (h : ys.Pairwise fun a b => ltR b a = false) (p : ys.Perm ts) (n : ts.Nodup) : Strict ys := strictR h (p.nodup_iff.mpr n)
section
variable {P : Program} {w : World} {K : PySem.W.Frag} {mg : Str → Option Value} {base : Heap}
theorem weak {k : Nat} {f : Addr} {fd : FuncData} {ps : List Str} {pr pr' : Pr} (F : FnG P w K mg base k f fd ps pr) (h : ∀ vs H Q, pr' vs H Q → pr vs H Q) : FnG P w K mg base k f fd ps pr' :=
  ⟨fun vs H Q p => F.many vs H Q (h vs H Q p), fun A outer s H args us vs Q hr e hb hv p => F.goes A outer s H args us vs Q hr e hb hv (h vs H Q p)⟩
def prLQ' : Pr := fun vs H Q => ∃ (a : Addr) (R : Rt) (t : Int), vs = [.ref a, .int t] ∧ RightAt H a R ∧ RtOk R ∧ NamesUp R.ws ∧ 0 ≤ t ∧ t ≤ 9 ∧ ∀ H', Same H H' → ∀ v, OptAt H' v (qOf R t) → Q v H'
theorem lq_weak : ∀ vs H Q, prLQ' vs H Q → prLQ vs H Q := by
  rintro vs H Q ⟨a, R, t, rfl, hR, ok, up, t0, t9, q⟩
  exact ⟨a, R, t, rfl, hR, ok, up, t0, t9, fun H' s => q_opt (q H' s)⟩
variable {fC fQ : Addr} {fdC fdQ : FuncData}
def prCut : Pr := fun vs H Q => ∃ (r : Addr) (ρ : RowD) (T : Int), vs = [.ref r, .int T] ∧ RowAt H r ρ ∧ ρ.length ≤ 100 ∧ ∀ H' p, Same H H' → RowAt H' p (cutR ρ T) → Q (.ref p) H'
theorem ok_cut {f : Addr} {fd : FuncData} {k : Nat} (F : Fun K "_law_cut" "_law_cut" sCut f fd) (mt : mg "tuple" = none) : FnG P w K mg base (k + 1) f fd ["_law_row", "_law_day_nows"] prCut := by
  refine okG F scCut (fun vs H Q h => ?_) (fun cdv A outer s H vs Q hr h => ?_)
  · obtain ⟨_, _, _, rfl, _⟩ := h
    rfl
  · obtain ⟨r, ρ, T, rfl, ⟨ps, h1, h2⟩, l1, q⟩ := h
    have big := sizeBig
    refine ⟨_, pss_one (ps_ret (pe_callTy call_tuple_of (by rfl) mt (by decide +kernel) (pa_cons (pe_lc (own := [("_law_pair", 2)]) (g := gName 2) rfl scCut.nd (pi_tup (pv 0)) (blkOk_by (N := NCut) (sc := defScope sCut) (by decide +kernel))
      (fun _ _ _ _ _ => pg_name (i := 2) scCut.nd rfl (.inl rfl)) (fun _ _ _ _ _ => pts_one (pt_cmpR op_le (pe_ix (ix_tup : IxR _ (rIxT K)) (pe_ix (ix_tup : IxR _ (rIxT K)) (pv 2) pe_int (fun _ _ => rfl)) pe_int (fun _ _ => rfl)) (pv 1) (nomark _))) (fun _ _ _ _ _ => pv 2)) pa_nil))), ?_⟩
    refine iRet ⟨.ref r, rfl, r, rfl, ⟨_, sqT h1⟩, fun D hD => ?_⟩
    refine loop_tup (K := K) (a := r) (xs := ps.map V.ref) (fun i H' => Same H H' ∧ ∃ qs, H' D = some (.lst (qs.map V.ref)) ∧ Paired (PairRow H') qs (cutR (ρ.take i) T)) ⟨same_new hD, [], upd_same, .nil⟩ (fun i H' h => sqT (h.1 _ _ h1)) (fun i x H' hx h => ?_) (fun H' h => ?_)
    · obtain ⟨sm, qs, hqs, hqq⟩ := h
      rw [List.getElem?_map] at hx
      obtain ⟨p, hp, rfl⟩ := Option.map_eq_some_iff.mp hx
      obtain ⟨x, hxx, b, hb1, hb2⟩ := paired_at' h2 hp
      have ql := Paired.length hqq
      have fl : (cutR (ρ.take i) T).length ≤ ρ.length := Nat.le_trans (List.length_filter_le _ _) (by rw [List.length_take]; exact Nat.min_le_right _ _)
      have step : cutR (ρ.take (i + 1)) T = cutR (ρ.take i) T ++ if x.1.2 ≤ T then [x] else [] := by
        unfold cutR
        rw [List.take_add_one, hxx, List.filter_append]
        congr 1
        show List.filter _ [x] = _
        by_cases c : x.1.2 ≤ T
        · rw [if_pos c, List.filter_cons_of_pos (by exact decide_eq_true c)]
          rfl
        · rw [if_neg c, List.filter_cons_of_neg (by intro z; exact c (of_decide_eq_true z))]
          rfl
      refine ⟨wipe1, .ref p, rfl, p, _, _, _, rfl, rfl, sqT (sm _ _ hb1), atI_nat (j := 0) rfl, b, _, _, _, rfl, rfl, sqT (sm _ _ hb2), atI_nat (j := 1) rfl, .int T, rfl, x.1.2, T, rfl, rfl, _, rfl, ?_⟩
      by_cases c : x.1.2 ≤ T
      · rw [decide_eq_true c]
        rw [if_pos c] at step
        refine iteT ⟨.ref p, rfl, _, hqs, by rw [List.length_map]; omega, fun b' o e => ?_, qs ++ [p], by rw [upd_same, List.map_append]; rfl, ?_⟩
        · rw [upd_ne (ne_of_none e hD)]
          exact sm _ _ e
        · have kp : KeepT _ (upd _ D (.lst (qs.map V.ref ++ [.ref p]))) := KeepT.put hqs fun _ z => nomatch z
          rw [step]
          exact Paired.snoc (Paired.mapP hqq fun _ _ z => z.keep kp) ⟨b, kp _ _ (sm _ _ hb1), kp _ _ (sm _ _ hb2)⟩
      · rw [decide_eq_false c]
        rw [if_neg c, List.append_nil] at step
        exact iteF ⟨sm, qs, hqs, step ▸ hqq⟩
    · obtain ⟨sm, qs, hqs, hqq⟩ := h
      rw [List.length_map, Paired.length h2, List.take_length] at hqq
      refine ⟨D, _, rfl, .inl ⟨sqL hqs, fun p hp => ?_⟩⟩
      have s5 := same_new (o := .tup (qs.map V.ref)) hp
      exact q _ p (sm.trans s5) ⟨qs, upd_same, Paired.mapP hqq fun _ _ z => z.keep (KeepT.of s5)⟩
def prLat : Pr := fun vs H Q => ∃ (a : Addr) (rs : List (Str × Rt)) (T : Int) (m : Nat), vs = [.ref a, .int T] ∧ RightsAt H a rs ∧ RsOk rs m ∧ 0 ≤ T ∧ T ≤ 9 ∧
  ∀ H' p ys, Same H H' → TupRows H' p ys → Strict ys → (∀ ρ, ρ ∈ ys ↔ ∃ x ∈ rs, ρ ∈ latR x.2 T ∧ ρ ≠ []) → ys.length ≤ 30 → Q (.ref p) H'
theorem ok_lat {f : Addr} {fd : FuncData} {k : Nat} (F : Fun K "_law_later_rows" "_law_later_rows" sLat f fd)
    (FC : Fun K "_law_cut" "_law_cut" sCut fC fdC) (bC : Binds K fdC ["_law_row", "_law_day_nows"] []) (gC : mg "_law_cut" = some (.ref fC)) (GC : FnG P w K mg base (k + 2) fC fdC ["_law_row", "_law_day_nows"] prCut)
    (FQ : Fun K "_law_question" "_law_question" sLQ fQ fdQ) (bQ : Binds K fdQ ["_law_right", "_law_day_nows"] []) (gQ : mg "_law_question" = some (.ref fQ)) (GQ : FnG P w K mg base (k + 2) fQ fdQ ["_law_right", "_law_day_nows"] prLQ)
    (mt : mg "tuple" = none) (ms : mg "sorted" = none) (mr : mg "range" = none) (mx : mg "max" = none) : FnG P w K mg base (k + 3) f fd ["_law_rights_nows", "_law_day_nows"] prLat := by
  have GQ := weak GQ lq_weak
  refine okG F scLat (fun vs H Q h => ?_) (fun cdv A outer s H vs Q hr h => ?_)
  · obtain ⟨_, _, _, _, rfl, _⟩ := h
    rfl
  · obtain ⟨a, rs, T, m, rfl, hRs, ok, t0, t9, q⟩ := h
    have big := sizeBig
    have hun := hr.room.units
    have hu8 := Nat.lt_of_le_of_lt (Nat.add_le_add_left (by decide : 8 ≤ 64) _) hun
    have hu10 := Nat.lt_of_le_of_lt (Nat.add_le_add_left (by decide : 10 ≤ 64) _) hun
    have hu12 := Nat.lt_of_le_of_lt (Nat.add_le_add_left (by decide : 12 ≤ 64) _) hun
    obtain ⟨ps, h1, h2⟩ := id hRs
    refine ⟨_, pss_cons (ps_set (i := 2) scLat.nd rfl (.inl rfl) pe_dnewN)
      (pss_cons (ps_for PassesOwn.never rfl (pi_tup (pv 0)) (pg_tup rfl (pgs_cons (pg_name (i := 3) scLat.nd rfl (.inl rfl)) (pgs_cons (pg_name (i := 4) scLat.nd rfl (.inl rfl)) pgs_nil)))
        (pss_one (ps_for PassesOwn.never rfl (pi_range2 (by rfl) mr (pa_cons (pe_callB (call_max2 rfl) (by rfl) mx (by decide +kernel) (pa_cons (pe_ix (ix_tup : IxR _ (rIxT K)) (pv 4) pe_int (fun _ _ => rfl)) (pa_cons (pe_op op_add (pv 1) pe_int) pa_nil))) (pa_cons (pe_op op_add (pe_ix (ix_tup : IxR _ (rIxT K)) (pv 4) pe_int (fun _ _ => rfl)) pe_int) pa_nil))) (pg_name (i := 5) scLat.nd rfl (.inl rfl))
          (pss_one (ps_dputN hu10 (pv 2) (pe_g GC hr (by rfl) gC FC.kp bC .nil (pa_cons (pe_g GQ hr (by rfl) gQ FQ.kp bQ .nil (pa_cons (pv 4) (pa_cons (pv 5) pa_nil))) (pa_cons (pv 1) pa_nil))) pe_bl rfl)))))
      (pss_one (ps_ret (pe_callTy call_tuple_of (by rfl) mt (by decide +kernel) (pa_cons (pe_callB (cr_sortLR hu8) (by rfl) ms (by decide +kernel) (pa_cons
        (pe_lc (own := [("_law_row", 6)]) (g := gName 6) rfl scLat.nd (pi_keysN (pv 2)) (blkOk_by (N := NLat) (sc := defScope sLat) (by decide +kernel)) (fun _ _ _ _ _ => pg_name (i := 6) scLat.nd rfl (.inl rfl))
          (fun _ _ _ _ _ => pts_one (pt_cmpR (op_neD hun : OpR _ _ (rNeD K)) (pv 6) (pe_tup pa_nil) (nomark _))) (fun _ _ _ _ _ => pv 6)) pa_nil)) pa_nil))))), ?_⟩
    refine iSeq (iAsg fun Df hDf => ?_)
    have s1 := same_new (o := DicKO P w Df []) hDf
    refine iName ?_
    dsimp only
    refine iSeq ?_
    refine split_s (fun σ' H' => (∃ x3 x4 x5, σ' = [some (.ref a), some (.int T), some (.ref Df), x3, x4, x5, none]) ∧ Same H H' ∧ DicHas P w H' Df (fun ρ => ∃ x ∈ rs, ρ ∈ latR x.2 T) (rs.length * m)) (fun nx hnx => ?_) (fun σ' H' hx => ?_)
    · refine ⟨.ref a, rfl, a, rfl, ⟨_, sqT (s1 _ _ h1)⟩, ?_⟩
      refine for_tup (xs := ps.map V.ref) (fun i σ' H' => (∃ x3 x4 x5, σ' = [some (.ref a), some (.int T), some (.ref Df), x3, x4, x5, none]) ∧ Same H H' ∧ DicHas P w H' Df (fun ρ => ∃ x ∈ rs.take i, ρ ∈ latR x.2 T) (i * m))
        ⟨⟨none, none, none, rfl⟩, s1, [], upd_same, fun p hp => absurd hp (by simp), fun ρ => ⟨fun z => absurd z (by simp), fun z => by obtain ⟨x, hx, _⟩ := z; rw [List.take_zero] at hx; cases hx⟩, Nat.zero_le _, List.nodup_nil⟩ (fun i σ' H' _ h => sqT (h.2.1 _ _ h1)) (fun i x σ' H' hx h => ?_) (fun σ' H' h => ?_)
      · obtain ⟨⟨x3, x4, x5, rfl⟩, sm, L, hL, rin, mem, few, nd⟩ := h
        rw [List.getElem?_map] at hx
        obtain ⟨pi, hpi, rfl⟩ := Option.map_eq_some_iff.mp hx
        obtain ⟨⟨nm, R⟩, hc, r, hr1, hR⟩ := paired_at' h2 hpi
        have il : i < rs.length := (List.getElem?_eq_some_iff.mp hc).1
        obtain ⟨okR, okD, up, cm⟩ : RtOk R ∧ RtDay R ∧ NamesUp R.ws ∧ (R.last - R.first + 1).toNat + 1 ≤ m := ok.all _ (List.mem_of_getElem? hc)
        have fewA := ok.few
        have im : (i + 1) * m ≤ rs.length * m := Nat.mul_le_mul_right _ il
        rw [Nat.succ_mul] at im
        have sg := soon_gt R T
        have sf : R.first ≤ soon R T := by unfold soon; split <;> omega
        have l9 := okD.l9
        have l0 := okR.l0
        have f1 := okR.f1
        have s40 : soon R T ≤ 40 := by unfold soon; split <;> omega
        have nb : (R.last + 1 - soon R T).toNat ≤ m := by
          have cm : (R.last - R.first + 1).toNat + 1 ≤ m := cm
          omega
        have hR' := hR.keep (KeepT.of sm)
        obtain ⟨wa, qs, ka, g1, _⟩ := id hR'
        refine ⟨pi, _, rfl, sqT (sm _ _ hr1), rfl, .str nm, _, rfl, .ref r, _, rfl, rfl, ?_⟩
        dsimp only
        refine ⟨.ref r, rfl, r, _, _, _, rfl, rfl, sqT g1, atI_nat (j := 2) rfl, .int T, rfl, T, 1, rfl, rfl, R.first, T + 1, rfl, .ref r, rfl, r, _, _, _, rfl, rfl, sqT g1, atI_nat (j := 3) rfl, R.last, 1, rfl, rfl, soon R T, R.last + 1, rfl, ⟨by omega, by omega, by omega, by omega⟩, ?_⟩
        refine for_range (lo := soon R T) (n := (R.last + 1 - soon R T).toNat) (fun j σ' H' => (∃ x5, σ' = [some (.ref a), some (.int T), some (.ref Df), some (.str nm), some (.ref r), x5, none]) ∧ Same H H' ∧ DicHas P w H' Df (fun ρ => (∃ x ∈ rs.take i, ρ ∈ latR x.2 T) ∨ ρ ∈ (latR R T).take j) (i * m + j))
          ⟨⟨_, rfl⟩, sm, L, hL, rin, fun ρ => by rw [mem, List.take_zero]; exact ⟨.inl, fun z => z.elim id fun z => absurd z (by simp)⟩, few, nd⟩ (fun j σ' H' hj h => ?_) (fun σ' H' h => ?_)
        · obtain ⟨⟨y5, rfl⟩, sm', L', hL', rin', mem', few', nd'⟩ := h
          refine iName ?_
          dsimp only
          have hRj := hR.keep (KeepT.of sm')
          have us : usedB R (soon R T + (j : Int)) = true := by
            unfold usedB
            rw [decide_eq_true (by omega), decide_eq_true (by omega)]
            rfl
          refine ⟨.ref Df, rfl, .ref r, rfl, .int (soon R T + (j : Int)), rfl, r, R, soon R T + (j : Int), rfl, hRj, okR, up, by omega, by omega, fun H1 s1' v hv => ?_⟩
          have eq : qOf R (soon R T + (j : Int)) = some (rowQ R (soon R T + (j : Int))) := if_pos us
          have rok := qOf_ok okR (t := soon R T + (j : Int)) (by omega) (by omega) _ eq
          rw [eq] at hv
          obtain ⟨p, rfl, hp⟩ := hv
          refine ⟨.int T, rfl, p, _, T, rfl, hp, rok.many, fun H2 p2 s2 hp2 => ?_⟩
          have s12 := s1'.trans s2
          have hD2 := s12 _ _ hL'
          have rin2 := rin'.keep (KeepT.of s12)
          refine ⟨Df, p2, L', rowK (cutR (rowQ R (soon R T + (j : Int))) T), rfl, rfl, rfl, hD2, rin2.keys, by omega, row_key hp2, rowK_deep _, ?_⟩
          refine ⟨⟨_, rfl⟩, fun c o e => ?_, DicHas.put hD2 rin2 mem' few' nd' hp2 fun π => ?_⟩
          · rw [upd_ne (ne_of_none e hDf)]
            exact s12 _ _ (sm' _ _ e)
          · rw [List.take_add_one, lat_at hj, List.mem_append, or_assoc]
            exact or_congr Iff.rfl (or_congr Iff.rfl List.mem_singleton)
        · obtain ⟨⟨y5, rfl⟩, sm', L', hL', rin', mem', few', nd'⟩ := h
          rw [← lat_n, List.take_length] at mem'
          refine ⟨⟨_, _, _, rfl⟩, sm', L', hL', rin', fun ρ => ?_, ?_, nd'⟩
          · rw [mem', flat_take (S := fun x => latR x.2 T) hc]
          · rw [Nat.succ_mul]
            omega
      · obtain ⟨σe, sm, has⟩ := h
        rw [List.length_map, Paired.length h2, List.take_length] at has
        exact hnx _ _ ⟨σe, sm, has⟩
    · obtain ⟨⟨x3, x4, x5, rfl⟩, sm, L, hL, rin, mem, few, nd⟩ := hx
      dsimp only
      have fewA := ok.few
      have oks : ∀ ρ, rowK ρ ∈ L.map Prod.snd → Row30 ρ := fun ρ hm => by
        obtain ⟨x, hx, hl⟩ := (mem ρ).mp hm
        obtain ⟨okR, okD, up, cm⟩ := ok.all _ hx
        exact lat30 okR okD t0 hl
      refine iRet ⟨.ref Df, rfl, Df, L, rfl, hL, fun o D hD => ?_⟩
      have kF : KeepT H' (upd H' Df (DicFO P w Df o L)) := KeepT.put hL fun _ z => nomatch z
      have sF : Same H (upd H' Df (DicFO P w Df o L)) := fun c o e => by
        rw [upd_ne (ne_of_none e hDf)]
        exact sm _ _ e
      have hF : (upd H' Df (DicFO P w Df o L)) Df = some (DicFO P w Df o L) := upd_same
      have rF := rin.keep kF
      refine loop_keys (fun i H2 => Same (upd H' Df (DicFO P w Df o L)) H2 ∧ ∃ cs ts, H2 D = some (.lst (cs.map V.ref)) ∧ Paired (RowAt H2) cs ts ∧ (∀ ρ, ρ ∈ ts ↔ ρ ≠ [] ∧ rowK ρ ∈ (L.take i).map Prod.snd) ∧ ts.length ≤ i ∧ ts.Nodup)
        ⟨same_new hD, [], [], upd_same, .nil, fun ρ => ⟨fun z => absurd z (by simp), fun z => by rw [List.take_zero] at z; exact absurd z.2 (by simp)⟩, Nat.zero_le _, List.nodup_nil⟩ (fun i H2 h => h.1 _ _ hF) (fun i p H2 hp h => ?_) (fun H2 h => ?_)
      · obtain ⟨sm2, cs, ts, hcs, hct, mt2, lt2, nt2⟩ := h
        obtain ⟨ρ, ek, hrow⟩ := rF p (List.mem_of_getElem? hp)
        have hrow2 := hrow.keep (KeepT.of sm2)
        have ok30 := oks ρ (ek ▸ List.mem_map_of_mem (List.mem_of_getElem? hp))
        have ilt : i < L.length := (List.getElem?_eq_some_iff.mp hp).1
        refine ⟨wipe1, .ref p.1, rfl, Nat.zero_le _, fun e he => ?_⟩
        have s3 := same_new (o := .tup []) he
        refine ⟨rowPD ρ, .tuple [], dp_row (hrow2.keep (KeepT.of s3)), .tup (sqT upd_same) .nil, shaped_row fun x hx => (ok30.cells x hx).ok, shaped_tnil, _, rfl, ?_⟩
        rw [row_ne]
        have tk : (L.take (i + 1)).map Prod.snd = (L.take i).map Prod.snd ++ [rowK ρ] := by
          rw [List.take_add_one, hp, List.map_append, ← ek]
          rfl
        by_cases c : ρ = []
        · rw [decide_eq_false (fun z => z c)]
          refine iteF ⟨sm2.trans s3, cs, ts, s3 _ _ hcs, Paired.mapP hct fun _ _ z => z.keep (KeepT.of s3), fun π => ?_, by omega, nt2⟩
          rw [mt2, tk, List.mem_append]
          refine ⟨fun z => ⟨z.1, .inl z.2⟩, fun z => ⟨z.1, z.2.elim id fun y => ?_⟩⟩
          exact absurd (rowK_inj (List.mem_singleton.mp y) ▸ c) z.1
        · rw [decide_eq_true c]
          have hDp := s3 _ _ hcs
          have cl := Paired.length hct
          refine iteT ⟨.ref p.1, rfl, _, hDp, by rw [List.length_map]; omega, fun b o e => ?_, cs ++ [p.1], ts ++ [ρ], by rw [upd_same, List.map_append]; rfl, ?_, fun π => ?_, by rw [List.length_append]; show _ + 1 ≤ _; omega, ?_⟩
          · rw [upd_ne (ne_of_none e hD)]
            exact s3 _ _ (sm2 _ _ e)
          · have kp : KeepT _ (upd _ D (.lst (cs.map V.ref ++ [.ref p.1]))) := KeepT.put hDp fun _ z => nomatch z
            exact Paired.snoc (Paired.mapP hct fun _ _ z => (z.keep (KeepT.of s3)).keep kp) ((hrow2.keep (KeepT.of s3)).keep kp)
          · rw [tk, List.mem_append, List.mem_append, mt2]
            constructor
            · rintro (z | z)
              · exact ⟨z.1, .inl z.2⟩
              · rw [List.mem_singleton.mp z]
                exact ⟨c, .inr (List.mem_singleton.mpr rfl)⟩
            · rintro ⟨z1, z2 | z2⟩
              · exact .inl ⟨z1, z2⟩
              · exact .inr (List.mem_singleton.mpr (rowK_inj (List.mem_singleton.mp z2)))
          · refine List.nodup_append.mpr ⟨nt2, List.pairwise_singleton _ _, fun x hx y hy => ?_⟩
            rw [List.mem_singleton.mp hy]
            intro z
            have := ((mt2 x).mp hx).2
            rw [z] at this
            have nd2 : ((L.take (i + 1)).map Prod.snd).Nodup := nd.sublist ((List.take_sublist _ _).map _)
            rw [tk] at nd2
            exact (List.nodup_append.mp nd2).2.2 _ this _ (List.mem_singleton.mpr rfl) rfl
      · obtain ⟨sm2, cs, ts, hcs, hct, mt2, lt2, nt2⟩ := h
        rw [List.take_length] at mt2
        refine ⟨D, cs, ts, rfl, sqL hcs, hct, fun ρ hm => ((mt2 ρ).mp hm).1, fun ys zs p pm st py hp => ?_⟩
        have s5 := same_new (o := .lst (ys.map V.ref)) hp
        refine ⟨p, _, rfl, .inl ⟨sqL upd_same, fun p2 hp2 => ?_⟩⟩
        have s6 := same_new (o := .tup (ys.map V.ref)) hp2
        refine q _ p2 zs (((sF.trans sm2).trans s5).trans s6) ⟨ys, upd_same, Paired.mapP py fun _ _ z => z.keep (KeepT.of (s5.trans s6))⟩ (strict_of st pm nt2) (fun ρ => ?_) (by rw [pm.length_eq]; omega)
        rw [pm.mem_iff, mt2, mem]
        constructor
        · rintro ⟨z1, x, hx, z2⟩
          exact ⟨x, hx, z2, z1⟩
        · rintro ⟨x, hx, z2, z1⟩
          exact ⟨z1, x, hx, z2⟩
end
end P20
namespace P20
open PySem PySem.Spec PyProof.Rows L2 AskG Ask
abbrev sNeed : Stmt := topS 18
abbrev NNeed : List Str := ["_law_rights_nows", "_law_day_nows", "_law_found", "_law_name", "_law_right", "_law_row"]
theorem scNeed : FnScope NNeed ["_law_rights_nows", "_law_day_nows"] (defScope sNeed) := ⟨rfl, rfl, rfl, by decide +kernel, rfl, by decide +kernel, by decide +kernel⟩
def useR (R : Rt) (T : Int) : List RowD := if usedB R T = true ∧ rowQ R T ≠ [] then [rowQ R T] else []
theorem mem_use {R : Rt} {T : Int} {ρ : RowD} : ρ ∈ useR R T ↔ usedB R T = true ∧ ρ = rowQ R T ∧ ρ ≠ [] := by
  unfold useR
  by_cases c : usedB R T = true ∧ rowQ R T ≠ []
  · rw [if_pos c, List.mem_singleton]
    exact ⟨fun z => ⟨c.1, z, z ▸ c.2⟩, fun z => z.2.1⟩
  · rw [if_neg c]
    exact ⟨fun z => absurd z (by simp), fun z => absurd ⟨z.1, z.2.1 ▸ z.2.2⟩ c⟩
theorem lat_fut {rs : List (Str × Rt)} {m : Nat} (ok : RsOk rs m) {T : Int} (ρ : RowD) : (∃ x ∈ rs, ρ ∈ latR x.2 T ∧ ρ ≠ []) ↔ ∃ x ∈ rs, ρ ∈ futR x.2 T := by
  constructor
  · rintro ⟨x, hx, z⟩
    exact ⟨x, hx, (fut_lat (ok.all x hx).2.1.some ρ).mpr z⟩
  · rintro ⟨x, hx, z⟩
    exact ⟨x, hx, (fut_lat (ok.all x hx).2.1.some ρ).mp z⟩
theorem use_need {rs : List (Str × Rt)} {m : Nat} (ok : RsOk rs m) {T : Int} (ρ : RowD) : ((∃ x ∈ rs, ρ ∈ futR x.2 T) ∨ ∃ x ∈ rs, ρ ∈ useR x.2 T) ↔ ∃ x ∈ rs, ρ ∈ needR x.2 T := by
  constructor
  · rintro (⟨x, hx, z⟩ | ⟨x, hx, z⟩)
    · exact ⟨x, hx, (mem_need (ok.all x hx).2.1.some ρ).mpr (.inl z)⟩
    · exact ⟨x, hx, (mem_need (ok.all x hx).2.1.some ρ).mpr (.inr (mem_use.mp z))⟩
  · rintro ⟨x, hx, z⟩
    rcases (mem_need (ok.all x hx).2.1.some ρ).mp z with z | z
    · exact .inl ⟨x, hx, z⟩
    · exact .inr ⟨x, hx, mem_use.mpr z⟩
theorem nodup_len : ∀ {l m : List RowD}, l.Nodup → (∀ x ∈ l, x ∈ m) → l.length ≤ m.length
  | [], _, _, _ => Nat.zero_le _
  | x :: l, m, h, s => by
    obtain ⟨h1, h2⟩ := List.pairwise_cons.mp h
    have e := List.length_erase_of_mem (s x List.mem_cons_self)
    have p : 0 < m.length := List.length_pos_of_mem (s x List.mem_cons_self)
    have ih := nodup_len (m := m.erase x) h2 fun y hy => (List.mem_erase_of_ne (fun z => h1 y hy z.symm)).mpr (s y (List.mem_cons_of_mem _ hy))
    rw [List.length_cons]
    omega
def TP (H : Hp) (p : Addr) (x : KA) : Prop := H p = some (.tup [.ref x.1, .bl true])
theorem TP.keep {H H' : Hp} {p : Addr} {x : KA} (h : TP H p x) (k : KeepT H H') : TP H' p x := k _ _ h
theorem take_many {rs : List (Str × Rt)} {m : Nat} (ok : RsOk rs m) (T : Int) : ∀ {ys : List RowD}, ys.Nodup → (∀ ρ ∈ ys, ∃ x ∈ rs, ρ ∈ needR x.2 T) → ys.length ≤ 30 := by
  intro ys nd h
  have sub : ys.length ≤ (rs.flatMap fun x => needR x.2 T).length := by
    refine nodup_len nd fun ρ hρ => ?_
    obtain ⟨x, hx, z⟩ := h ρ hρ
    exact List.mem_flatMap.mpr ⟨x, hx, z⟩
  have len : ∀ (l : List (Str × Rt)), (∀ x ∈ l, x ∈ rs) → (l.flatMap fun x => needR x.2 T).length ≤ l.length * m := by
    intro l
    induction l with
    | nil => exact fun _ => Nat.zero_le _
    | cons y l ih =>
      intro hl
      rw [List.flatMap_cons, List.length_append, List.length_cons, Nat.succ_mul]
      have h1 := ih fun x hx => hl x (List.mem_cons_of_mem _ hx)
      have h2 := Nat.le_trans (need_len y.2 T) (ok.all y (hl y List.mem_cons_self)).2.2.2
      omega
  have := len rs fun _ h => h
  have := ok.few
  omega
section
variable {P : Program} {w : World} {K : PySem.W.Frag} {mg : Str → Option Value} {base : Heap}
variable {fL fQ : Addr} {fdL fdQ : FuncData}
theorem lat_weak : ∀ vs H Q, prRows futR vs H Q → prLat vs H Q := by
  rintro vs H Q ⟨a, rs, T, m, rfl, hRs, ok, t0, t9, q⟩
  exact ⟨a, rs, T, m, rfl, hRs, ok, t0, t9, fun H' p ys s1 h1 h2 h3 h4 => q H' p ys s1 h1 h2 (fun ρ => (h3 ρ).trans (lat_fut ok ρ)) h4⟩
theorem use_ok {R : Rt} (h : RtOk R) {T : Int} (t0 : 0 ≤ T) (t9 : T ≤ 9) : ∀ ρ, qOf R T = some ρ → ∀ x ∈ ρ, PyData.strOk x.1.1 = true := fun ρ e x hx => ((qOf_ok h t0 t9 ρ e).cells x hx).ok
theorem ok_need {f : Addr} {fd : FuncData} {k : Nat} (F : Fun K "_law_needed" "_law_needed" sNeed f fd)
    (FL : Fun K "_law_later_rows" "_law_later_rows" sLat fL fdL) (bL : Binds K fdL ["_law_rights_nows", "_law_day_nows"] []) (gL : mg "_law_later_rows" = some (.ref fL)) (GL : FnG P w K mg base (k + 3) fL fdL ["_law_rights_nows", "_law_day_nows"] prLat)
    (FQ : Fun K "_law_question" "_law_question" sLQ fQ fdQ) (bQ : Binds K fdQ ["_law_right", "_law_day_nows"] []) (gQ : mg "_law_question" = some (.ref fQ)) (GQ : FnG P w K mg base (k + 3) fQ fdQ ["_law_right", "_law_day_nows"] prLQ)
    (mt : mg "tuple" = none) (ms : mg "sorted" = none) (md : mg "dict" = none) : FnG P w K mg base (k + 4) f fd ["_law_rights_nows", "_law_day_nows"] (prRows needR) := by
  have GQ := weak GQ lq_weak
  have GL := weak GL lat_weak
  refine okG F scNeed (fun vs H Q h => ?_) (fun cdv A outer s H vs Q hr h => ?_)
  · obtain ⟨_, _, _, _, rfl, _⟩ := h
    rfl
  · obtain ⟨a, rs, T, m, rfl, hRs, ok, t0, t9, q⟩ := h
    have big := sizeBig
    have hun := hr.room.units
    have hu8 := Nat.lt_of_le_of_lt (Nat.add_le_add_left (by decide : 8 ≤ 64) _) hun
    have hu10 := Nat.lt_of_le_of_lt (Nat.add_le_add_left (by decide : 10 ≤ 64) _) hun
    have hu12 := Nat.lt_of_le_of_lt (Nat.add_le_add_left (by decide : 12 ≤ 64) _) hun
    obtain ⟨ps, h1, h2⟩ := id hRs
    refine ⟨_, pss_cons (ps_set (i := 2) scNeed.nd rfl (.inl rfl) (pe_callTy (call_dictN rfl hu12) (by rfl) md (by decide +kernel) (pa_cons
        (pe_lc (own := [("_law_row", 5)]) (g := gName 5) (tt := tYes) rfl scNeed.nd (pi_tup (pe_g GL hr (by rfl) gL FL.kp bL .nil (pa_cons (pv 0) (pa_cons (pv 1) pa_nil)))) (blkOk_by (N := NNeed) (sc := defScope sNeed) (by decide +kernel)) (fun _ _ _ _ _ => pg_name (i := 5) scNeed.nd rfl (.inl rfl))
          (fun _ _ _ _ _ => pts_nil) (fun _ _ _ _ _ => pe_tup (pa_cons (pv 5) (pa_cons pe_bl pa_nil)))) pa_nil)))
      (pss_cons (ps_for PassesOwn.never rfl (pi_tup (pv 0)) (pg_tup rfl (pgs_cons (pg_name (i := 3) scNeed.nd rfl (.inl rfl)) (pgs_cons (pg_name (i := 4) scNeed.nd rfl (.inl rfl)) pgs_nil)))
        (pss_cons (ps_set (i := 5) scNeed.nd rfl (.inl rfl) (pe_g GQ hr (by rfl) gQ FQ.kp bQ .nil (pa_cons (pv 4) (pa_cons (pv 1) pa_nil))))
        (pss_one (ps_if (PW.pt (pw_and (pt_cmpR op_notN (pv 5) pe_non (nomark _)) (pw_and1 (pt_cmpR (op_neD hun) (pv 5) (pe_tup pa_nil) (nomark _))))) (pss_one (ps_dputN hu10 (pv 2) (pv 5) pe_bl rfl)) pss_nil))))
      (pss_one (ps_ret (pe_callTy call_tuple_of (by rfl) mt (by decide +kernel) (pa_cons (pe_callB (cr_sortDR rfl hu8) (by rfl) ms (by decide +kernel) (pa_cons (pv 2) pa_nil)) pa_nil))))), ?_⟩
    refine iSeq (iAsg ⟨.ref a, rfl, .int T, rfl, a, rs, T, m, rfl, hRs, ok, t0, t9, fun H1 pl ys s1 hys st mem ylen => ?_⟩)
    obtain ⟨bs, hpl, hbs⟩ := hys
    have nd : ys.Nodup := st.imp fun {a b} h e => by
      rw [e, ltR_irr] at h
      cases h
    refine ⟨pl, rfl, ⟨_, sqT hpl⟩, fun D hD => ?_⟩
    have bl := Paired.length hbs
    refine loop_tup (K := K) (a := pl) (xs := bs.map V.ref) (fun i H' => Same H1 H' ∧ ∃ qs, H' D = some (.lst (qs.map V.ref)) ∧ Paired (TP H') qs ((bs.zip (ys.map rowK)).take i)) ⟨same_new hD, [], upd_same, by rw [List.take_zero]; exact .nil⟩ (fun i H' h => sqT (h.1 _ _ hpl)) (fun i x H' hx h => ?_) (fun H' h => ?_)
    · obtain ⟨sm, qs, hqs, hqq⟩ := h
      rw [List.getElem?_map] at hx
      obtain ⟨b, hb, rfl⟩ := Option.map_eq_some_iff.mp hx
      obtain ⟨ρ, hρ, hrow⟩ := paired_at' hbs hb
      have ql := Paired.length hqq
      rw [List.length_take, List.length_zip, List.length_map] at ql
      refine ⟨wipe1, iYes (iteT ⟨.ref b, rfl, by show 2 ≤ sizeLine; omega, fun p hp => ?_⟩)⟩
      have s3 := same_new (o := .tup [.ref b, .bl true]) hp
      have hDp := s3 _ _ hqs
      have kp : KeepT _ (upd _ D (.lst (qs.map V.ref ++ [.ref p]))) := KeepT.put hDp fun _ z => nomatch z
      refine ⟨_, hDp, by rw [List.length_map]; omega, fun c o e => ?_, qs ++ [p], by rw [upd_same, List.map_append]; rfl, ?_⟩
      · rw [upd_ne (ne_of_none e hD)]
        exact s3 _ _ (sm _ _ e)
      · have ez : (bs.zip (ys.map rowK))[i]? = some (b, rowK ρ) := by
          rw [List.getElem?_zip_eq_some]
          exact ⟨hb, by rw [List.getElem?_map, hρ]; rfl⟩
        rw [List.take_add_one, ez]
        exact Paired.snoc (Paired.mapP hqq fun _ _ z => (z.keep (KeepT.of s3)).keep kp) (kp _ _ upd_same)
    · obtain ⟨sm, qs, hqs, hqq⟩ := h
      rw [List.length_map, List.take_of_length_le (by rw [List.length_zip]; exact Nat.min_le_left _ _)] at hqq
      have hbs' := Paired.mapP hbs fun _ _ z => z.keep (KeepT.of sm)
      have zk : (bs.zip (ys.map rowK)).map Prod.snd = ys.map rowK := by
        rw [List.map_snd_zip]
        rw [List.length_map]
        omega
      have r0 : ∀ {H2 : Hp}, Paired (RowAt H2) bs ys → Rows0 H2 (bs.zip (ys.map rowK)) := fun {H2} hp2 p hp => by
        obtain ⟨i, hi⟩ := List.getElem?_of_mem hp
        rw [List.getElem?_zip_eq_some] at hi
        obtain ⟨ρ, hρ, hrow⟩ := paired_at' hp2 hi.1
        have e := hi.2
        rw [List.getElem?_map, hρ] at e
        exact ⟨ρ, (Option.some.inj e).symm, hrow⟩
      refine ⟨D, qs, bs.zip (ys.map rowK), rfl, sqL hqs, paired_imp (fun _ _ z => sqT z) hqq, (r0 hbs').keys, by rw [zk]; exact (List.pairwise_map.mpr (nd.imp fun h e => h (rowK_inj e))), fun Df hDf => ?_⟩
      have hDn : H Df = none := fresh_of (s1.trans sm) hDf
      have s4 := same_new (o := DicKO P w Df (bs.zip (ys.map rowK))) hDf
      refine iName ?_
      dsimp only
      have h0 : DicHas P w (upd H' Df (DicKO P w Df (bs.zip (ys.map rowK)))) Df (fun ρ => (∃ x ∈ rs, ρ ∈ futR x.2 T) ∨ ∃ x ∈ rs.take 0, ρ ∈ useR x.2 T) (30 + 0) := by
        refine ⟨_, upd_same, r0 (Paired.mapP hbs' fun _ _ z => z.keep (KeepT.of s4)), fun ρ => ?_, by rw [List.length_zip]; omega, by rw [zk]; exact (List.pairwise_map.mpr (nd.imp fun h e => h (rowK_inj e)))⟩
        rw [zk, ← mem ρ]
        constructor
        · intro z
          obtain ⟨π, hπ, e⟩ := List.mem_map.mp z
          rw [← rowK_inj e]
          exact .inl hπ
        · rintro (z | ⟨x, hx, _⟩)
          · exact List.mem_map_of_mem z
          · rw [List.take_zero] at hx
            cases hx
      have s0 := (s1.trans sm).trans s4
      refine iSeq ?_
      refine split_s (fun σ' H' => (∃ x3 x4 x5, σ' = [some (.ref a), some (.int T), some (.ref Df), x3, x4, x5]) ∧ Same H H' ∧ DicHas P w H' Df (fun ρ => (∃ x ∈ rs, ρ ∈ futR x.2 T) ∨ ∃ x ∈ rs, ρ ∈ useR x.2 T) (30 + rs.length)) (fun nx hnx => ?_) (fun σ' H' hx => ?_)
      · refine ⟨.ref a, rfl, a, rfl, ⟨_, sqT (s0 _ _ h1)⟩, ?_⟩
        refine for_tup (xs := ps.map V.ref) (fun i σ' H' => (∃ x3 x4 x5, σ' = [some (.ref a), some (.int T), some (.ref Df), x3, x4, x5]) ∧ Same H H' ∧ DicHas P w H' Df (fun ρ => (∃ x ∈ rs, ρ ∈ futR x.2 T) ∨ ∃ x ∈ rs.take i, ρ ∈ useR x.2 T) (30 + i))
          ⟨⟨none, none, none, rfl⟩, s0, h0⟩ (fun i σ' H' _ h => sqT (h.2.1 _ _ h1)) (fun i x σ' H' hx h => ?_) (fun σ' H' h => ?_)
        · obtain ⟨⟨x3, x4, x5, rfl⟩, sm, L, hL, rin, mem, few, nd⟩ := h
          rw [List.getElem?_map] at hx
          obtain ⟨pi, hpi, rfl⟩ := Option.map_eq_some_iff.mp hx
          obtain ⟨⟨nm, R⟩, hc, r, hr1, hR⟩ := paired_at' h2 hpi
          have il : i < rs.length := (List.getElem?_eq_some_iff.mp hc).1
          obtain ⟨okR, okD, up, cm⟩ : RtOk R ∧ RtDay R ∧ NamesUp R.ws ∧ (R.last - R.first + 1).toNat + 1 ≤ m := ok.all _ (List.mem_of_getElem? hc)
          have fewA := ok.few
          have m1 := ok.m1
          have rl : rs.length * 1 ≤ rs.length * m := Nat.mul_le_mul_left _ m1
          have hR' := hR.keep (KeepT.of sm)
          have stepU : ∀ ρ, (∃ x ∈ rs.take (i + 1), ρ ∈ useR x.2 T) ↔ (∃ x ∈ rs.take i, ρ ∈ useR x.2 T) ∨ ρ ∈ useR R T := fun ρ => flat_take (S := fun x => useR x.2 T) hc ρ
          have idle : ∀ {H2 : Hp}, Same H' H2 → (∀ ρ, ρ ∉ useR R T) → DicHas P w H2 Df (fun ρ => (∃ x ∈ rs, ρ ∈ futR x.2 T) ∨ ∃ x ∈ rs.take (i + 1), ρ ∈ useR x.2 T) (30 + (i + 1)) := fun {H2} s2 no => by
            refine ⟨L, s2 _ _ hL, rin.keep (KeepT.of s2), fun ρ => ?_, by omega, nd⟩
            rw [mem, stepU]
            exact or_congr Iff.rfl ⟨.inl, fun z => z.elim id fun y => absurd y (no ρ)⟩
          refine ⟨pi, _, rfl, sqT (sm _ _ hr1), rfl, .str nm, _, rfl, .ref r, _, rfl, rfl, ?_⟩
          dsimp only
          refine iSeq (iAsg ⟨.ref r, rfl, .int T, rfl, r, R, T, rfl, hR', okR, up, t0, t9, fun H2 s2 v hv => ?_⟩)
          refine iName ?_
          dsimp only
          have so := use_ok okR t0 t9
          cases e : qOf R T with
          | none =>
            rw [e] at hv
            obtain rfl : v = .non := hv
            have nu : ∀ ρ, ρ ∉ useR R T := fun ρ z => by
              have := (mem_use.mp z).1
              unfold qOf at e
              rw [if_pos this] at e
              cases e
            refine ⟨.non, rfl, rfl, _, rfl, ?_⟩
            exact iteF (iteF ⟨⟨_, _, _, rfl⟩, sm.trans s2, idle s2 nu⟩)
          | some ρ =>
            rw [e] at hv
            have ee : usedB R T = true ∧ ρ = rowQ R T := by
              unfold qOf at e
              by_cases u : usedB R T = true
              · rw [if_pos u] at e
                exact ⟨u, (Option.some.inj e).symm⟩
              · rw [if_neg u] at e
                cases e
            obtain ⟨p, rfl, hp⟩ := hv
            refine ⟨.ref p, rfl, rfl, _, rfl, iteT ?_⟩
            refine ⟨.ref p, rfl, Nat.zero_le _, fun e1 he1 => ?_⟩
            have s3 := same_new (o := .tup []) he1
            have hp3 := hp.keep (KeepT.of s3)
            refine ⟨rowPD ρ, .tuple [], dp_row hp3, .tup (sqT upd_same) .nil, shaped_row (so ρ e), shaped_tnil, _, rfl, ?_⟩
            rw [row_ne]
            have s23 := s2.trans s3
            by_cases c : ρ = []
            · rw [decide_eq_false (fun z => z c)]
              refine iteF ⟨⟨_, _, _, rfl⟩, sm.trans s23, idle s23 fun π z => ?_⟩
              have := mem_use.mp z
              rw [← ee.2, c] at this
              exact this.2.2 this.2.1
            · rw [decide_eq_true c]
              refine iteT ?_
              have hL3 := s23 _ _ hL
              have rin3 := rin.keep (KeepT.of s23)
              refine ⟨.ref Df, rfl, .ref p, rfl, Df, p, L, rowK ρ, rfl, rfl, rfl, hL3, rin3.keys, by omega, row_key hp3, rowK_deep _, ?_⟩
              refine ⟨⟨_, _, _, rfl⟩, fun c o e => ?_, DicHas.put hL3 rin3 mem few nd hp3 fun π => ?_⟩
              · rw [upd_ne (ne_of_none e hDn)]
                exact s23 _ _ (sm _ _ e)
              · rw [stepU, or_assoc]
                refine or_congr Iff.rfl (or_congr Iff.rfl ?_)
                rw [mem_use, ← ee.2]
                exact ⟨fun z => z.2.1, fun z => ⟨ee.1, z, z ▸ c⟩⟩
        · obtain ⟨σe, sm, has⟩ := h
          rw [List.length_map, Paired.length h2, List.take_length] at has
          exact hnx _ _ ⟨σe, sm, has⟩
      · obtain ⟨⟨x3, x4, x5, rfl⟩, sm, L, hL, rin, mem, few, nd⟩ := hx
        dsimp only
        have memN : ∀ ρ, rowK ρ ∈ L.map Prod.snd ↔ ∃ x ∈ rs, ρ ∈ needR x.2 T := fun ρ => (mem ρ).trans (use_need ok ρ)
        have fewA := ok.few
        have m1 := ok.m1
        have rl : rs.length * 1 ≤ rs.length * m := Nat.mul_le_mul_left _ m1
        refine iRet ⟨.ref Df, rfl, Df, L, rfl, hL, fun p hp => ?_, by omega, fun zs cs p my ly sy py hp => ?_⟩
        · obtain ⟨ρ, e1, e2⟩ := rin p hp
          refine ⟨ρ, ?_, e1, e2⟩
          obtain ⟨x, hx, z⟩ := (memN ρ).mp (e1 ▸ List.mem_map_of_mem hp)
          exact need_ne (ok.all x hx).2.1.some z
        · have s5 := same_new (o := .lst (cs.map V.ref)) hp
          refine ⟨p, _, rfl, .inl ⟨sqL upd_same, fun p2 hp2 => ?_⟩⟩
          have s6 := same_new (o := .tup (cs.map V.ref)) hp2
          have ndz : zs.Nodup := sy.imp fun {a b} h e => by
            rw [e, ltR_irr] at h
            cases h
          have memZ : ∀ ρ, ρ ∈ zs ↔ ∃ x ∈ rs, ρ ∈ needR x.2 T := fun ρ => (my ρ).trans (memN ρ)
          exact q _ p2 zs ((sm.trans s5).trans s6) ⟨cs, upd_same, Paired.mapP py fun _ _ z => z.keep (KeepT.of (s5.trans s6))⟩ sy memZ (take_many ok T ndz fun ρ hρ => (memZ ρ).mp hρ)
end
end P20
namespace P20
open PySem PySem.Spec PyProof.Rows L2 AskG Ask
abbrev sBH : Stmt := topS 23
abbrev NBH : List Str := ["_law_window", "_law_total", "_law_rights_now", "_law_long_row", "_law_today"]
theorem scBH : FnScope NBH [] (defScope sBH) := ⟨rfl, rfl, rfl, by decide +kernel, rfl, by decide +kernel, by decide +kernel⟩
def kindB (k : KindM) : Bool := match k with
  | .tot s => decide (0 ≤ s) && decide (s ≤ 30)
  | .win l => decide (0 ≤ l) && decide (l ≤ 30)
  | .per b e => decide (0 ≤ b) && decide (b ≤ 30) && (decide (0 ≤ e) && decide (e ≤ 30))
theorem kind_of {k : KindM} (h : kindB k = true) : k.Ok := by
  refine ⟨?_⟩
  cases k with
  | tot s =>
    simp only [kindB, Bool.and_eq_true, decide_eq_true_eq] at h
    exact h
  | win l =>
    simp only [kindB, Bool.and_eq_true, decide_eq_true_eq] at h
    exact h
  | per b e =>
    simp only [kindB, Bool.and_eq_true, decide_eq_true_eq] at h
    exact ⟨h.1.1, h.1.2, h.2.1, h.2.2⟩
def rtB (R : Rt) : Bool := cellB (R.person, 0) && decide (R.ws.length ≤ 3) && R.ws.all cellB && (decide (0 ≤ R.first) && decide (R.first ≤ 30) && (decide (0 ≤ R.last) && decide (R.last ≤ 30))) && kindB R.kind
theorem rt_of {R : Rt} (h : rtB R = true) : RtOk R := by
  unfold rtB at h
  simp only [Bool.and_eq_true, decide_eq_true_eq] at h
  obtain ⟨⟨⟨⟨h1, h2⟩, h3⟩, ⟨h4, h5⟩, h6, h7⟩, h8⟩ := h
  exact ⟨cellOk_of h1, h2, fun x hx => cellOk_of (List.all_eq_true.mp h3 x hx), h4, h5, h6, h7, kind_of h8⟩
def handW : Rt := ⟨"ann", [("a", 1)], 1, 3, .win 2⟩
def handT : Rt := ⟨"bob", [("a", 1), ("b", -1)], 2, 2, .tot 0⟩
def handRs : List (Str × Rt) := [("r", handW), ("s", handT)]
def longRs : List (Str × Rt) := [("p", Rw), ("q", Rp)]
def namedD (x : Str × Rt) : PyData := .tuple [.str x.1, rightD x.2]
def rsD (rs : List (Str × Rt)) : PyData := .tuple (rs.map namedD)
def rowsD (ys : List RowD) : PyData := .tuple (ys.map rowPD)
def longRow : RowD := [(("a", 0), 1), (("a", 1), 1), (("b", 0), -1), (("b", 1), -1)]
def todayRow : RowD := [(("a", 0), 1), (("a", 1), 1)]
def aRow : RowD := [(("a", 1), 1)]
def lA : Unit → List (Nat × PyData) := fun _ => [(0, rightD handW), (1, rightD handT)]
def lB : Unit → List (Nat × PyData) := fun _ => [(3, rowPD longRow), (4, rowPD todayRow)]
theorem one_ok {R : Rt} {m : Nat} (h1 : rtB R = true) (h2 : R.ws ≠ []) (h3 : R.last ≤ 9) (h4 : NamesUp R.ws) (h5 : (R.last - R.first + 1).toNat + 1 ≤ m) : RtOk R ∧ RtDay R ∧ NamesUp R.ws ∧ (R.last - R.first + 1).toNat + 1 ≤ m := ⟨rt_of h1, ⟨h2, h3⟩, h4, h5⟩
theorem hand_rs : RsOk handRs 4 := by
  refine ⟨fun x hx => ?_, by decide, by decide⟩
  simp only [handRs, List.mem_cons, List.not_mem_nil, or_false] at hx
  rcases hx with rfl | rfl
  · exact one_ok (by decide +kernel) (by intro z; cases z) (by decide) (by unfold NamesUp; decide +kernel) (by decide)
  · exact one_ok (by decide +kernel) (by intro z; cases z) (by decide) (by unfold NamesUp; decide +kernel) (by decide)
theorem long_rs : RsOk longRs 11 := by
  refine ⟨fun x hx => ?_, by decide, by decide⟩
  simp only [longRs, List.mem_cons, List.not_mem_nil, or_false] at hx
  rcases hx with rfl | rfl
  · exact one_ok (by decide +kernel) (by intro z; cases z) (by decide) (by unfold NamesUp; decide +kernel) (by decide)
  · exact one_ok (by decide +kernel) (by intro z; cases z) (by decide) (by unfold NamesUp; decide +kernel) (by decide)
theorem none_rs : RsOk [] 1 := ⟨fun _ h => absurd h (by simp), by decide, by decide⟩
theorem dhs_named {D : Addr} {H : Hp} : ∀ {rs : List (Str × Rt)} {xs : List V}, DHs D H xs (rs.map namedD) → ∃ ps : List Addr, xs = ps.map V.ref ∧ Paired (NamedAt H) ps rs
  | [], _, .nil => ⟨[], rfl, .nil⟩
  | x :: rs, _, .cons h t => by
    obtain ⟨ps, rfl, hp⟩ := dhs_named t
    obtain ⟨a, p, q, rfl, ha, h1, h2⟩ := DH.pair_inv h
    obtain rfl := h1.str_inv
    obtain ⟨r, rfl, hr⟩ := right_inv h2
    exact ⟨a :: ps, rfl, .cons ⟨r, ha, hr⟩ hp⟩
theorem rights_inv {D : Addr} {H : Hp} {v : V} {rs : List (Str × Rt)} (h : DH D H v (rsD rs)) : ∃ a, v = .ref a ∧ RightsAt H a rs := by
  obtain ⟨a, xs, rfl, ha, t⟩ := DH.tup_inv h
  obtain ⟨ps, rfl, hp⟩ := dhs_named t
  exact ⟨a, rfl, ps, ha, hp⟩
theorem dp_rows {K : PySem.W.Frag} {H : Hp} {p : Addr} {ys : List RowD} (h : TupRows H p ys) : Dp K H (.ref p) (rowsD ys) := by
  obtain ⟨bs, h1, h2⟩ := h
  exact .tup (sqT h1) (dp_all (f := rowPD) (R := RowAt H) (fun _ _ z => dp_row z) h2)
theorem fine30 {ρ : RowD} (h : Row30 ρ) : Fine 3 231213 (rowPD ρ) := by
  refine Fine.tup (k := 2) (n := 7705) (m := 30) (fun d hd => ?_) (by rw [List.length_map]; exact h.many)
  obtain ⟨x, hx, rfl⟩ := List.mem_map.mp hd
  exact fine_pair (h.cells x hx) (h.lit x hx)
theorem fine_rows {ys : List RowD} (h : ∀ ρ ∈ ys, Row30 ρ) (l : ys.length ≤ 30) : Fine 4 6936453 (rowsD ys) := by
  refine Fine.tup (k := 3) (n := 231213) (m := 30) (fun d hd => ?_) (by rw [List.length_map]; exact l)
  obtain ⟨x, hx, rfl⟩ := List.mem_map.mp hd
  exact fine30 (h x hx)
theorem need30 {R : Rt} (h : RtOk R) (d : RtDay R) {T : Int} (t0 : 0 ≤ T) (t9 : T ≤ 9) {ρ : RowD} (m : ρ ∈ needR R T) : Row30 ρ := by
  rcases (mem_need d.some ρ).mp m with z | ⟨_, rfl, _⟩
  · exact lat30 h d t0 ((fut_lat d.some ρ).mp z).1
  · obtain ⟨b1, b2, b3, b4⟩ := kind_bounds h.kind t0 t9
    exact row30 h b1 b3
theorem rs30 {rs : List (Str × Rt)} {m : Nat} (ok : RsOk rs m) {T : Int} (t0 : 0 ≤ T) (t9 : T ≤ 9) {ρ : RowD} : ((∃ x ∈ rs, ρ ∈ futR x.2 T) → Row30 ρ) ∧ ((∃ x ∈ rs, ρ ∈ needR x.2 T) → Row30 ρ) := by
  have n : (∃ x ∈ rs, ρ ∈ needR x.2 T) → Row30 ρ := fun ⟨x, hx, z⟩ => need30 (ok.all x hx).1 (ok.all x hx).2.1 t0 t9 z
  exact ⟨fun ⟨x, hx, z⟩ => n ⟨x, hx, (mem_need (ok.all x hx).2.1.some ρ).mpr (.inl z)⟩, n⟩
/-- the rows of rights given by hand -/
theorem by_hand {ys zs l : List RowD} {rs : List (Str × Rt)} {S : Rt → Int → List RowD} {T : Int} (sy : Strict ys) (mem : ∀ ρ, ρ ∈ ys ↔ ∃ x ∈ rs, ρ ∈ S x.2 T) (e : (rs.flatMap fun x => S x.2 T) = l) (sz : Strict zs) (hl : ∀ ρ, ρ ∈ l ↔ ρ ∈ zs) : ys = zs := by
  refine rows_one sy sz fun ρ => ?_
  rw [mem, ← hl, ← e, List.mem_flatMap]
theorem hand_f : (handRs.flatMap fun x => futR x.2 1) = [aRow, longRow] := by decide +kernel
theorem hand_n : (handRs.flatMap fun x => needR x.2 1) = [aRow, todayRow, longRow] := by decide +kernel
theorem hand_9 : (handRs.flatMap fun x => needR x.2 9) = [] := by decide +kernel
theorem st_f : Strict [longRow, aRow] := by unfold Strict; decide +kernel
theorem st_n : Strict [todayRow, longRow, aRow] := by unfold Strict; decide +kernel
theorem shaped_0 : SeqAt.shaped (rowsD []) = true := by decide
section
variable {P : Program} {w : World} {K : PySem.W.Frag} {mg : Str → Option Value} {base : Heap}
variable {fF fN : Addr} {fdF fdN : FuncData}
theorem iIfS' {c : TT} {t u : TS} {D : Ends} {σ : L2.St} {H : Hp} (h : c σ H fun b H1 => if b = true then t D σ H1 else u D σ H1) : tIfS c t u D σ H := h
def prBH : Pr := fun vs H Q => vs = [] ∧ (∃ D, Taken H D) ∧ ∀ H', Same H H' → Q (.bl true) H'
theorem ok_bh {f : Addr} {fd : FuncData} {k : Nat} (F : Fun K "_law_by_hand" "_law_by_hand" sBH f fd)
    (FF : Fun K "future_rows" "future_rows" sFR fF fdF) (bF : Binds K fdF ["rights", "day"] []) (gF : mg "future_rows" = some (.ref fF)) (GF : FnG P w K mg base (k + 4) fF fdF ["rights", "day"] (prRows futR))
    (FN : Fun K "needed_rows" "needed_rows" sNR fN fdN) (bN : Binds K fdN ["rights", "day"] []) (gN : mg "needed_rows" = some (.ref fN)) (GN : FnG P w K mg base (k + 4) fN fdN ["rights", "day"] (prRows needR))
    (mp : mg "repr" = none) : FnG P w K mg base (k + 5) f fd [] prBH := by
  refine okG F scBH (fun vs H Q h => by rw [h.1]; rfl) (fun cdv A outer s H vs Q hr h => ?_)
  obtain ⟨rfl, ⟨D0, hD0⟩, q⟩ := h
  have big := sizeBig
  have hun := hr.room.units
  refine ⟨_, pss_cons (ps_asg (pe_tup (pa_cons (show PE _ _ (tNew (rightD handW)) from (new_tup (news_cons (new_str pe_str) (news_cons (new_tup (news_cons (new_tup (news_cons (new_str pe_str) (news_cons (new_int pe_int) news_nil)) (by decide)) news_nil) (by decide)) (news_cons (new_int pe_int) (news_cons (new_int pe_int) (news_cons (new_tup (news_cons (new_str pe_str) (news_cons (new_int pe_int) news_nil)) (by decide)) news_nil))))) (by decide))) (pa_cons (show PE _ _ (tNew (rightD handT)) from (new_tup (news_cons (new_str pe_str) (news_cons (new_tup (news_cons (new_tup (news_cons (new_str pe_str) (news_cons (new_int pe_int) news_nil)) (by decide)) (news_cons (new_tup (news_cons (new_str pe_str) (news_cons (new_neg (pe_un un_neg pe_int)) news_nil)) (by decide)) news_nil)) (by decide)) (news_cons (new_int pe_int) (news_cons (new_int pe_int) (news_cons (new_tup (news_cons (new_str pe_str) (news_cons (new_int pe_int) news_nil)) (by decide)) news_nil))))) (by decide))) pa_nil))) (pg_tup (by rfl) (pgs_cons (pg_name (i := 0) scBH.nd rfl (.inl rfl)) (pgs_cons (pg_name (i := 1) scBH.nd rfl (.inl rfl)) pgs_nil))))
    (pss_cons (ps_set (i := 2) scBH.nd rfl (.inl rfl) (show PE _ _ (tFm lA fun _ => rsD handRs) from (fm_tup (fm_cons (fm_tup (fm_cons (fm_new (new_str pe_str)) (fm_cons (fm_var (pv 0) (fun _ => (.head _))) fm_nil)) (fun _ => by show 2 ≤ 1000; decide)) (fm_cons (fm_tup (fm_cons (fm_new (new_str pe_str)) (fm_cons (fm_var (pv 1) (fun _ => (.tail _ (.head _)))) fm_nil)) (fun _ => by show 2 ≤ 1000; decide)) fm_nil)) (fun _ => by show 2 ≤ 1000; decide))))
    (pss_cons (ps_set (i := 3) scBH.nd rfl (.inl rfl) (show PE _ _ (tNew (rowPD longRow)) from (new_tup (news_cons (new_tup (news_cons (new_tup (news_cons (new_str pe_str) (news_cons (new_int pe_int) news_nil)) (by decide)) (news_cons (new_int pe_int) news_nil)) (by decide)) (news_cons (new_tup (news_cons (new_tup (news_cons (new_str pe_str) (news_cons (new_int pe_int) news_nil)) (by decide)) (news_cons (new_int pe_int) news_nil)) (by decide)) (news_cons (new_tup (news_cons (new_tup (news_cons (new_str pe_str) (news_cons (new_int pe_int) news_nil)) (by decide)) (news_cons (new_neg (pe_un un_neg pe_int)) news_nil)) (by decide)) (news_cons (new_tup (news_cons (new_tup (news_cons (new_str pe_str) (news_cons (new_int pe_int) news_nil)) (by decide)) (news_cons (new_neg (pe_un un_neg pe_int)) news_nil)) (by decide)) news_nil)))) (by decide))))
    (pss_cons (ps_set (i := 4) scBH.nd rfl (.inl rfl) (show PE _ _ (tNew (rowPD todayRow)) from (new_tup (news_cons (new_tup (news_cons (new_tup (news_cons (new_str pe_str) (news_cons (new_int pe_int) news_nil)) (by decide)) (news_cons (new_int pe_int) news_nil)) (by decide)) (news_cons (new_tup (news_cons (new_tup (news_cons (new_str pe_str) (news_cons (new_int pe_int) news_nil)) (by decide)) (news_cons (new_int pe_int) news_nil)) (by decide)) news_nil)) (by decide))))
    (pss_cons (ps_if (pt_cmpR op_ne (pe_callB (call_reprV hr) (by rfl) mp (by decide +kernel) (pa_cons (pe_g GF hr (by rfl) gF FF.kp bF .nil (pa_cons (pv 2) (pa_cons pe_int pa_nil))) pa_nil)) (pe_callB (call_reprV hr) (by rfl) mp (by decide +kernel) (pa_cons (show PE _ _ (tFm lB fun _ => rowsD [longRow, aRow]) from (fm_tup (fm_cons (fm_var (pv 3) (fun _ => (.head _))) (fm_cons (fm_tup (fm_cons (fm_tup (fm_cons (fm_tup (fm_cons (fm_new (new_str pe_str)) (fm_cons (fm_new (new_int pe_int)) fm_nil)) (fun _ => by show 2 ≤ 1000; decide)) (fm_cons (fm_new (new_int pe_int)) fm_nil)) (fun _ => by show 2 ≤ 1000; decide)) fm_nil) (fun _ => by show 1 ≤ 1000; decide)) fm_nil)) (fun _ => by show 2 ≤ 1000; decide))) pa_nil)) (nomark _)) (pss_one (ps_ret pe_bl)) pss_nil)
    (pss_cons (ps_if (pt_cmpR op_ne (pe_callB (call_reprV hr) (by rfl) mp (by decide +kernel) (pa_cons (pe_g GN hr (by rfl) gN FN.kp bN .nil (pa_cons (pv 2) (pa_cons pe_int pa_nil))) pa_nil)) (pe_callB (call_reprV hr) (by rfl) mp (by decide +kernel) (pa_cons (show PE _ _ (tFm lB fun _ => rowsD [todayRow, longRow, aRow]) from (fm_tup (fm_cons (fm_var (pv 4) (fun _ => (.tail _ (.head _)))) (fm_cons (fm_var (pv 3) (fun _ => (.head _))) (fm_cons (fm_tup (fm_cons (fm_tup (fm_cons (fm_tup (fm_cons (fm_new (new_str pe_str)) (fm_cons (fm_new (new_int pe_int)) fm_nil)) (fun _ => by show 2 ≤ 1000; decide)) (fm_cons (fm_new (new_int pe_int)) fm_nil)) (fun _ => by show 2 ≤ 1000; decide)) fm_nil) (fun _ => by show 1 ≤ 1000; decide)) fm_nil))) (fun _ => by show 3 ≤ 1000; decide))) pa_nil)) (nomark _)) (pss_one (ps_ret pe_bl)) pss_nil)
    (pss_one (ps_ret (pe_and (pe_cmpR (op_eqD hun) (pe_g GF hr (by rfl) gF FF.kp bF .nil (pa_cons (pe_tup pa_nil) (pa_cons pe_int pa_nil))) (pe_tup pa_nil) (nomark _)) (pe_one (pe_cmpR (op_eqD hun) (pe_g GN hr (by rfl) gN FN.kp bN .nil (pa_cons (pv 2) (pa_cons pe_int pa_nil))) (pe_tup pa_nil) (nomark _))))))))))), ?_⟩
  refine iSeq (iAsg (fun H1 v1 s1 n1 => fun H2' v2 s2' n2 => ⟨by show 2 ≤ sizeLine; omega, fun p0 hp0 => ?_⟩))
  have s20 := same_new (o := .tup [v1, v2]) hp0
  refine ⟨p0, _, rfl, sqT upd_same, rfl, v1, _, rfl, v2, _, rfl, rfl, ?_⟩
  dsimp only
  have s2 := s2'.trans s20
  have d1 := (n1 D0 hD0).keep (KeepD.of s2)
  have d2 := (n2 D0 (hD0.keep s1)).keep (KeepD.of s20)
  have t2 := (hD0.keep s1).keep s2
  refine iSeq (iAsg ⟨(), D0, ⟨fun x hx => ?_, t2⟩, fun H3 v3 s3 h3 => ?_⟩)
  · simp only [lA, List.mem_cons, List.not_mem_nil, or_false] at hx
    rcases hx with rfl | rfl
    · exact ⟨v1, rfl, d1⟩
    · exact ⟨v2, rfl, d2⟩
  obtain ⟨ra, rfl, hra⟩ := rights_inv h3
  refine iName ?_
  dsimp only
  have t3 := t2.keep s3
  refine iSeq (iAsg fun H4 v4 s4 n4 => ?_)
  refine iName ?_
  dsimp only
  refine iSeq (iAsg fun H5 v5 s5 n5 => ?_)
  refine iName ?_
  dsimp only
  have t5 := (t3.keep s4).keep s5
  have d4 := (n4 D0 t3).keep (KeepD.of s5)
  have d5 := n5 D0 (t3.keep s4)
  have s05 := (((s1.trans s2).trans s3).trans s4).trans s5
  have hr5 := hra.keep (KeepT.of (s4.trans s5))
  clear n1 n2 n4 n5 d1 d2 h3 hra
  refine iSeq (iIfS' ?_)
  refine ⟨.ref ra, rfl, ra, handRs, 1, 4, rfl, hr5, hand_rs, by decide, by decide, fun H6 p6 y6 s6 h6 st6 m6 l6 => ?_⟩
  obtain rfl := by_hand st6 m6 hand_f st_f fun ρ => by simp only [List.mem_cons, List.not_mem_nil, or_false]; exact Or.comm
  have k6 : Fine 4 6936453 (rowsD [longRow, aRow]) := fine_rows (fun ρ hρ => (rs30 hand_rs (T := 1) (by decide) (by decide)).1 ((m6 ρ).mp hρ)) l6
  try dsimp only
  refine iNil ?_
  try dsimp only
  refine reprV_ref (dp_rows h6) k6 (by decide) (by decide) ?_
  refine ⟨(), D0, ⟨fun x hx => ?_, t5.keep s6⟩, fun H7 v7 s7 h7 => ?_⟩
  · simp only [lB, List.mem_cons, List.not_mem_nil, or_false] at hx
    rcases hx with rfl | rfl
    · exact ⟨v4, rfl, d4.keep (KeepD.of s6)⟩
    · exact ⟨v5, rfl, d5.keep (KeepD.of s6)⟩
  obtain ⟨b7, xs7, rfl, hb7, _⟩ := DH.tup_inv h7
  try dsimp only
  refine iNil ?_
  try dsimp only
  refine reprV_ref h7.dp k6 (by decide) (by decide) ?_
  refine ⟨rfl, _, rfl, ?_⟩
  rw [decide_eq_true rfl]
  refine iteF (iNext ?_)
  dsimp only
  have s57 := s6.trans s7
  have hr7 := hr5.keep (KeepT.of s57)
  refine iSeq (iIfS' ?_)
  refine ⟨.ref ra, rfl, ra, handRs, 1, 4, rfl, hr7, hand_rs, by decide, by decide, fun H8 p8 y8 s8 h8 st8 m8 l8 => ?_⟩
  obtain rfl := by_hand st8 m8 hand_n st_n fun ρ => by
    simp only [List.mem_cons, List.not_mem_nil, or_false]
    constructor
    · rintro (z | z | z)
      · exact .inr (.inr z)
      · exact .inl z
      · exact .inr (.inl z)
    · rintro (z | z | z)
      · exact .inr (.inl z)
      · exact .inr (.inr z)
      · exact .inl z
  have k8 : Fine 4 6936453 (rowsD [todayRow, longRow, aRow]) := fine_rows (fun ρ hρ => (rs30 hand_rs (T := 1) (by decide) (by decide)).2 ((m8 ρ).mp hρ)) l8
  try dsimp only
  refine iNil ?_
  try dsimp only
  refine reprV_ref (dp_rows h8) k8 (by decide) (by decide) ?_
  have s58 := s57.trans s8
  refine ⟨(), D0, ⟨fun x hx => ?_, t5.keep s58⟩, fun H9 v9 s9 h9 => ?_⟩
  · simp only [lB, List.mem_cons, List.not_mem_nil, or_false] at hx
    rcases hx with rfl | rfl
    · exact ⟨v4, rfl, d4.keep (KeepD.of s58)⟩
    · exact ⟨v5, rfl, d5.keep (KeepD.of s58)⟩
  obtain ⟨b9, xs9, rfl, hb9, _⟩ := DH.tup_inv h9
  try dsimp only
  refine iNil ?_
  try dsimp only
  refine reprV_ref h9.dp k8 (by decide) (by decide) ?_
  refine ⟨rfl, _, rfl, ?_⟩
  rw [decide_eq_true rfl]
  refine iteF (iNext ?_)
  dsimp only
  have s59 := s58.trans s9
  have hr9 := hr5.keep (KeepT.of s59)
  refine iRet ⟨Nat.zero_le _, fun e1 he1 => ?_⟩
  have s10 := same_new (o := .tup []) he1
  refine ⟨e1, [], 3, 1, rfl, ⟨[], upd_same, .nil⟩, none_rs, by decide, by decide, fun Ha pa ya sa ha sta ma la => ?_⟩
  obtain rfl := by_hand (zs := []) sta ma (l := []) rfl List.Pairwise.nil fun ρ => Iff.rfl
  refine ⟨Nat.zero_le _, fun e2 he2 => ?_⟩
  have sb := same_new (o := .tup []) he2
  refine ⟨rowsD [], .tuple [], dp_rows (ha.keep (KeepT.of sb)), .tup (sqT upd_same) .nil, shaped_0, shaped_tnil, _, rfl, iteT ?_⟩
  have s5b := ((s59.trans s10).trans sa).trans sb
  refine ⟨.ref ra, rfl, ra, handRs, 9, 4, rfl, hr5.keep (KeepT.of s5b), hand_rs, by decide, by decide, fun Hc pc yc sc hc stc mc lc => ?_⟩
  obtain rfl := by_hand (zs := []) stc mc hand_9 List.Pairwise.nil fun ρ => Iff.rfl
  refine ⟨Nat.zero_le _, fun e3 he3 => ?_⟩
  have sd := same_new (o := .tup []) he3
  refine ⟨rowsD [], .tuple [], dp_rows (hc.keep (KeepT.of sd)), .tup (sqT upd_same) .nil, shaped_0, shaped_tnil, ?_⟩
  exact q _ (((s05.trans s5b).trans sc).trans sd)
end
end P20
/-! != of two lists of the same texts. -/
namespace AskG
open PySem PySem.Spec PyProof.Rows L2
def rNeS (K : PySem.W.Frag) : R2 := fun x y H Q => ∃ (a b : Addr) (xs : List Str), x = .ref a ∧ y = .ref b ∧ SqL K H a (xs.map V.str) ∧ SqL K H b (xs.map V.str) ∧ Q (.bl false) H
theorem vals_strs : ∀ {xs : List Str} {us : List Value}, Vals (xs.map V.str) us → ∀ j (h : j < us.length), ∃ x t, xs[j]? = some x ∧ us[j] = .str x t
  | [], _, .nil, j, h => absurd h (by simp)
  | x :: xs, _, .cons h1 t, 0, h => by
    obtain ⟨tk, rfl⟩ := h1
    exact ⟨x, tk, rfl, rfl⟩
  | x :: xs, _, .cons h1 t, j + 1, h => by
    obtain ⟨y, tk, e1, e2⟩ := vals_strs t j (by simpa using h)
    exact ⟨y, tk, e1, by simpa using e2⟩
theorem op_neS {X : Cx} (hu : X.A.units + 64 < cLine) : OpR X (compareOp .NotEq) (rNeS X.K) := by
  intro pins s σ H x y v u Q I rx ry h
  obtain ⟨a, b, xs, rfl, rfl, ha, hb, q⟩ := h
  cases rx
  cases ry
  obtain ⟨us, ru, pu, _⟩ := I.list ha
  obtain ⟨ws, rw', pw, _⟩ := I.list hb
  have hsz : us.toArray.size = ws.toArray.size := by
    rw [List.size_toArray, List.size_toArray, ← ru.length, ← rw'.length]
  have R := SeqAt.RcNeAt.lists (A := X.A) (s := s) (e := fun _ => true) pu.isList pw.isList hsz (by omega) (fun j h1 h2 => by
    obtain ⟨x1, t1, e1, e2⟩ := vals_strs ru j (by simpa using h1)
    obtain ⟨x2, t2, e3, e4⟩ := vals_strs rw' j (by simpa using h2)
    rw [e1] at e3
    cases e3
    have g1 : us.toArray[j] = .str x1 t1 := by simpa using e2
    have g2 : ws.toArray[j] = .str x1 t2 := by simpa using e4
    rw [g1, g2]
    have := SeqAt.EqAt.str_str (A := X.A.in1) (s := s) x1 t1 x1 t2
    rw [beq_self_eq_true] at this
    exact this)
  have z : wpAny (model X.prog X.w) X.A (compareOp .NotEq (.ref a) (.ref b)) (EP X pins σ Q) X.xe s := by
    refine R X.prog X.w X.xe (EP X pins σ Q) ⟨.bl false, H, I, ?_, q⟩
    show Value.bool _ = Value.bool false
    congr 1
    simp
  exact z
end AskG
namespace P20
open PySem PySem.Spec PyProof.Rows L2 AskG Ask
abbrev sLaw : Stmt := topS 24
abbrev NL : List Str := ["_law_script", "_law_feed_here", "_law_day_nows", "_law_rights_nows", "_law_expected", "_law_turn", "_law_accounts_here", "_law_rights_now", "_law_name", "_law_right", "_law_seen", "_law_day_now", "_law_told"]
theorem scLaw : FnScope NL ["_law_script"] (defScope sLaw) := ⟨rfl, rfl, rfl, by decide +kernel, rfl, by decide +kernel, by decide +kernel⟩
theorem fine_kind {k : KindM} (h : k.Ok) : Fine 1 9999 k.data := by
  have lit : ∀ {i : Int}, 0 ≤ i → i ≤ 30 → Fine 0 1921 (.int i) := fun h1 h2 => fine_int (small_lit (by omega))
  have st : ∀ {x : Str}, cellB (x, 0) = true → Fine 0 1921 (.str x) := fun h => fine_str (cellOk_of h).short (cellOk_of h).plain
  have nn := h.nn
  cases k with
  | tot s =>
    refine (Fine.tup (k := 0) (n := 1921) (m := 3) (fun d hd => ?_) (by show 2 ≤ 3; decide)).mono (by decide) (by decide)
    simp only [List.mem_cons, List.not_mem_nil, or_false] at hd
    rcases hd with rfl | rfl
    · exact st (by decide +kernel)
    · exact lit nn.1 nn.2
  | win l =>
    refine (Fine.tup (k := 0) (n := 1921) (m := 3) (fun d hd => ?_) (by show 2 ≤ 3; decide)).mono (by decide) (by decide)
    simp only [List.mem_cons, List.not_mem_nil, or_false] at hd
    rcases hd with rfl | rfl
    · exact st (by decide +kernel)
    · exact lit nn.1 nn.2
  | per b e =>
    refine (Fine.tup (k := 0) (n := 1921) (m := 3) (fun d hd => ?_) (by show 3 ≤ 3; decide)).mono (by decide) (by decide)
    simp only [List.mem_cons, List.not_mem_nil, or_false] at hd
    rcases hd with rfl | rfl | rfl
    · exact st (by decide +kernel)
    · exact lit nn.1 nn.2.1
    · exact lit nn.2.2.1 nn.2.2.2
theorem fine_right {R : Rt} (h : RtOk R) : Fine 3 99999 (rightD R) := by
  have ws : Fine 2 11556 (.tuple (R.ws.map AskG.cellD)) := Fine.tup (k := 1) (n := 3849) (m := 3) (fun d hd => by
    obtain ⟨x, hx, rfl⟩ := List.mem_map.mp hd
    exact fine_cell (h.ws x hx)) (by rw [List.length_map]; exact h.many)
  refine (Fine.tup (k := 2) (n := 11556) (m := 5) (fun d hd => ?_) (by show 5 ≤ 5; decide)).mono (Nat.le_refl _) (by decide)
  simp only [List.mem_cons, List.not_mem_nil, or_false] at hd
  rcases hd with rfl | rfl | rfl | rfl | rfl
  · exact (fine_str h.name.short h.name.plain).mono (by decide) (by decide)
  · exact ws
  · exact (fine_int (small_lit (by have := h.f0; have := h.f1; omega))).mono (by decide) (by decide)
  · exact (fine_int (small_lit (by have := h.l0; have := h.l1; omega))).mono (by decide) (by decide)
  · exact (fine_kind h.kind).mono (by decide) (by decide)
/-- rights under names -/
def NamedOk (x : Str × Rt) : Prop := CellOk (x.1, 0) ∧ RtOk x.2 ∧ RtDay x.2 ∧ NamesUp x.2.ws ∧ x.2.last ≤ x.2.first + 3
theorem fine_named {x : Str × Rt} (h : NamedOk x) : Fine 4 200005 (namedD x) := by
  refine Fine.tup (k := 3) (n := 99999) (m := 2) (fun d hd => ?_) (by show 2 ≤ 2; decide)
  simp only [List.mem_cons, List.not_mem_nil, or_false] at hd
  rcases hd with rfl | rfl
  · exact (fine_str h.1.short h.1.plain).mono (by decide) (by decide)
  · exact fine_right h.2.1
theorem fine_rs {rs : List (Str × Rt)} (h : ∀ x ∈ rs, NamedOk x) (l : rs.length ≤ 6) : Fine 5 1200045 (rsD rs) := by
  refine Fine.tup (k := 4) (n := 200005) (m := 6) (fun d hd => ?_) (by rw [List.length_map]; exact l)
  obtain ⟨x, hx, rfl⟩ := List.mem_map.mp hd
  exact fine_named (h x hx)
theorem rs_ok {rs : List (Str × Rt)} (h : ∀ x ∈ rs, NamedOk x) (l : rs.length ≤ 6) : RsOk rs 5 := by
  refine ⟨fun x hx => ?_, by omega, by decide⟩
  obtain ⟨_, h1, h2, h3, h4⟩ := h x hx
  exact ⟨h1, h2, h3, by omega⟩
theorem dp_named {K : PySem.W.Frag} {H : Hp} {p : Addr} {x : Str × Rt} (h : NamedAt H p x) : Dp K H (.ref p) (namedD x) := by
  obtain ⟨r, h1, h2⟩ := h
  exact .tup (sqT h1) (.cons (.str _) (.cons (dp_right h2) .nil))
theorem dp_rs {K : PySem.W.Frag} {H : Hp} {a : Addr} {rs : List (Str × Rt)} (h : RightsAt H a rs) : Dp K H (.ref a) (rsD rs) := by
  obtain ⟨ps, h1, h2⟩ := h
  exact .tup (sqT h1) (dp_all (f := namedD) (R := NamedAt H) (fun _ _ z => dp_named z) h2)
theorem kind_lay {k : KindM} : k.data.canLay0 = true := by
  cases k with
  | tot s =>
    show ((PyData.strOk "total") && (true && true)) = true
    decide +kernel
  | win l =>
    show ((PyData.strOk "window") && (true && true)) = true
    decide +kernel
  | per b e =>
    show ((PyData.strOk "period") && (true && (true && true))) = true
    decide +kernel
theorem kind_dep {k : KindM} : k.data.depth ≤ 1 := by
  cases k with
  | tot s =>
    show max 0 (max 0 0) + 1 ≤ 1
    decide
  | win l =>
    show max 0 (max 0 0) + 1 ≤ 1
    decide
  | per b e =>
    show max 0 (max 0 (max 0 0)) + 1 ≤ 1
    decide
theorem shaped_named {rs : List (Str × Rt)} (h : ∀ x ∈ rs, NamedOk x) : SeqAt.shaped (.list (rs.map namedD)) = true := by
  have h1 : PyData.canLayAll0 (rs.map namedD) = true := can_all fun x hx => by
    obtain ⟨n, r, _⟩ := h x hx
    have w : PyData.canLayAll0 (x.2.ws.map AskG.cellD) = true := can_all fun c hc => by
      show ((PyData.strOk c.1) && (true && true)) = true
      rw [(r.ws c hc).ok]
      rfl
    show ((PyData.strOk x.1) && (((PyData.strOk x.2.person) && ((PyData.canLayAll0 (x.2.ws.map AskG.cellD)) && (true && (true && (x.2.kind.data.canLay0 && true))))) && true)) = true
    rw [n.ok, r.name.ok, w, kind_lay]
    rfl
  have h2 : PyData.depthAll (rs.map namedD) ≤ 4 := depth_all fun x _ => by
    have w : PyData.depthAll (x.2.ws.map AskG.cellD) ≤ 1 := depth_all fun c _ => by
      show max 0 (max 0 0) + 1 ≤ 1
      decide
    have kd := kind_dep (k := x.2.kind)
    show max 0 (max (max 0 (max (PyData.depthAll (x.2.ws.map AskG.cellD) + 1) (max 0 (max 0 (max x.2.kind.data.depth 0)))) + 1) 0) + 1 ≤ 4
    omega
  show (PyData.canLayAll0 (rs.map namedD) && decide (PyData.depthAll (rs.map namedD) + 1 ≤ 64)) = true
  rw [h1, decide_eq_true (by omega)]
  rfl
/-- a list of two tuples of rows -/
def TwoAt (H : Hp) (l : Addr) (ys zs : List RowD) : Prop := ∃ p q, H l = some (.lst [.ref p, .ref q]) ∧ TupRows H p ys ∧ TupRows H q zs
def twoD (ys zs : List RowD) : PyData := .list [rowsD ys, rowsD zs]
theorem dp_two {K : PySem.W.Frag} {H : Hp} {l : Addr} {ys zs : List RowD} (h : TwoAt H l ys zs) : Dp K H (.ref l) (twoD ys zs) := by
  obtain ⟨p, q, h1, h2, h3⟩ := h
  exact .lst (sqL h1) (.cons (dp_rows h2) (.cons (dp_rows h3) .nil))
theorem fine_two {ys zs : List RowD} (h1 : ∀ ρ ∈ ys, Row30 ρ) (l1 : ys.length ≤ 30) (h2 : ∀ ρ ∈ zs, Row30 ρ) (l2 : zs.length ≤ 30) : Fine 5 13872913 (twoD ys zs) := by
  refine Fine.lst (k := 4) (n := 6936453) (m := 2) (fun d hd => ?_) (by show 2 ≤ 2; decide)
  simp only [List.mem_cons, List.not_mem_nil, or_false] at hd
  rcases hd with rfl | rfl
  · exact fine_rows h1 l1
  · exact fine_rows h2 l2
theorem TwoAt.same {H H' : Hp} {l : Addr} {ys zs : List RowD} (h : TwoAt H l ys zs) (s : Same H H') : TwoAt H' l ys zs := by
  obtain ⟨p, q, h1, h2, h3⟩ := h
  exact ⟨p, q, s _ _ h1, h2.keep (KeepT.of s), h3.keep (KeepT.of s)⟩
/-- what ys and zs are, for rs on T -/
structure Told (rs : List (Str × Rt)) (T : Int) (ys zs : List RowD) : Prop where
  sy : Strict ys
  sz : Strict zs
  my : ∀ ρ, ρ ∈ ys ↔ ∃ x ∈ rs, ρ ∈ futR x.2 T
  mz : ∀ ρ, ρ ∈ zs ↔ ∃ x ∈ rs, ρ ∈ needR x.2 T
  ly : ys.length ≤ 30
  lz : zs.length ≤ 30
theorem Told.one {rs : List (Str × Rt)} {T : Int} {ys zs ys' zs' : List RowD} (h : Told rs T ys zs) (g : Told rs T ys' zs') : ys' = ys ∧ zs' = zs :=
  ⟨rows_one g.sy h.sy fun ρ => (g.my ρ).trans (h.my ρ).symm, rows_one g.sz h.sz fun ρ => (g.mz ρ).trans (h.mz ρ).symm⟩
theorem Told.fine {rs : List (Str × Rt)} {m : Nat} (ok : RsOk rs m) {T : Int} (t0 : 0 ≤ T) (t9 : T ≤ 9) {ys zs : List RowD} (h : Told rs T ys zs) : Fine 5 13872913 (twoD ys zs) :=
  fine_two (fun ρ hρ => (rs30 ok t0 t9).1 ((h.my ρ).mp hρ)) h.ly (fun ρ hρ => (rs30 ok t0 t9).2 ((h.mz ρ).mp hρ)) h.lz
theorem vals_getD {vs : List V} {us : List Value} (r : Vals vs us) : ∀ i : Nat, RelV (vs.getD i .non) (us.getD i .none) := by
  induction r with
  | nil =>
    intro i
    cases i <;> rfl
  | cons h t ih =>
    intro i
    cases i with
    | zero => exact h
    | succ j => exact ih j
abbrev swapL {α : Type} (d : α) (_ ws : List α) : List α := [ws.getD 1 d, ws.getD 0 d]
theorem kb_swap {K : PySem.W.Frag} {x qual : Str} {st : Stmt} {f : Addr} {fd : FuncData} {p1 p2 : Str} (F : Fun K x qual st f fd)
    (h : ∀ (kV doc pm : Value) (an : Option Addr) (cdv ct a b : Value), bindArgs (PySem.W.fnOf x qual (defArgs st) (defBody st) (defScope st) .none kV doc pm an cdv ct) ⟨[], [(p2, a), (p1, b)]⟩ = pure [(p1, b), (p2, a)]) :
    KBn K fd [p1, p2] 0 [p2, p1] (swapL .none) (swapL .non) := by
  obtain ⟨oc, od, kV, doc, pm, an, cdv, ct, osl, rfl, lk, hcd⟩ := F.ex
  refine ⟨fun s us ws _ hu hw => ?_, fun r rz => .cons (vals_getD rz 1) (.cons (vals_getD rz 0) .nil)⟩
  match us, ws, hu, hw with
  | [], [a, b], _, _ => exact .of_eq (h kV doc pm an cdv ct a b)
def six : List Str := ["p", "q", "r", "s", "t", "u"]
theorem six_ok : ∀ n ∈ six, CellOk (n, 0) := by
  have h : (six.all fun n => cellB (n, 0)) = true := by decide +kernel
  exact fun n hn => cellOk_of (List.all_eq_true.mp h n hn)
theorem cut_six {lo hi : Option Int} {i : Nat} {x : V} (h : (cutV (six.map V.str) lo hi)[i]? = some x) : ∃ n ∈ six, x = .str n := by
  have m := List.mem_of_getElem? h
  unfold cutV at m
  have m := List.mem_of_mem_drop (List.mem_of_mem_take m)
  obtain ⟨n, hn, rfl⟩ := List.mem_map.mp m
  exact ⟨n, hn, rfl⟩
section
variable {P : Program} {w : World} {K : PySem.W.Frag} {mg : Str → Option Value} {base : Heap}
def prLaw (K : PySem.W.Frag) : Pr := fun vs H Q => ∃ (a : Addr) (ns : List Int), vs = [.ref a] ∧ SqL K H a (ns.map V.int) ∧ ∀ H', Q (.bl true) H'
variable {fF fB fG fL fN fT fE fA fD fR : Addr} {fdF fdB fdG fdL fdN fdT fdE fdA fdD fdR : FuncData}
theorem ok_law {f : Addr} {fd : FuncData} {k : Nat} (F : Fun K "law" "law" sLaw f fd)
    (FF : Fun K "_law_feed" "_law_feed" sFeed fF fdF) (bF : Binds K fdF ["_law_script"] []) (gF : mg "_law_feed" = some (.ref fF)) (GF : FnG P w K mg base (k + 5) fF fdF ["_law_script"] (prFeed K))
    (FB : Fun K "_law_by_hand" "_law_by_hand" sBH fB fdB) (bB : Binds K fdB [] []) (gB : mg "_law_by_hand" = some (.ref fB)) (GB : FnG P w K mg base (k + 5) fB fdB [] prBH)
    (FG : Fun K "_law_long_rights" "_law_long_rights" sLong fG fdG) (bG : Binds K fdG [] []) (gG : mg "_law_long_rights" = some (.ref fG)) (GG : FnG P w K mg base (k + 5) fG fdG [] (prData longD))
    (FL : Fun K "_law_later_rows" "_law_later_rows" sLat fL fdL) (bL : Binds K fdL ["_law_rights_nows", "_law_day_nows"] []) (gL : mg "_law_later_rows" = some (.ref fL)) (GL : FnG P w K mg base (k + 5) fL fdL ["_law_rights_nows", "_law_day_nows"] (prRows futR))
    (FN : Fun K "_law_needed" "_law_needed" sNeed fN fdN) (bN : Binds K fdN ["_law_rights_nows", "_law_day_nows"] []) (gN : mg "_law_needed" = some (.ref fN)) (GN : FnG P w K mg base (k + 5) fN fdN ["_law_rights_nows", "_law_day_nows"] (prRows needR))
    (FT : Fun K "future_rows" "future_rows" sFR fT fdT) (bT : Binds K fdT ["rights", "day"] []) (gT : mg "future_rows" = some (.ref fT)) (GT : FnG P w K mg base (k + 5) fT fdT ["rights", "day"] (prRows futR))
    (FE : Fun K "needed_rows" "needed_rows" sNR fE fdE) (bE : Binds K fdE ["rights", "day"] []) (gE : mg "needed_rows" = some (.ref fE)) (GE : FnG P w K mg base (k + 5) fE fdE ["rights", "day"] (prRows needR))
    (FA : Fun K "_law_accounts" "_law_accounts" sAcc fA fdA) (bA : Binds K fdA ["_law_feed_here"] []) (gA : mg "_law_accounts" = some (.ref fA)) (GA : FnG P w K mg base (k + 5) fA fdA ["_law_feed_here"] prAcc)
    (FD : Fun K "_law_draw" "_law_draw" sDraw fD fdD) (bD : Binds K fdD ["_law_feed_here", "_law_many"] []) (gD : mg "_law_draw" = some (.ref fD)) (GD : FnG P w K mg base (k + 5) fD fdD ["_law_feed_here", "_law_many"] prDraw)
    (FR : Fun K "_law_some_right" "_law_some_right" sRt fR fdR) (bR : Binds K fdR ["_law_feed_here", "_law_accounts_here", "_law_day_nows"] []) (gR : mg "_law_some_right" = some (.ref fR)) (GR : FnG P w K mg base (k + 5) fR fdR ["_law_feed_here", "_law_accounts_here", "_law_day_nows"] prRt)
    (mt : mg "tuple" = none) (mr : mg "range" = none) (mp : mg "repr" = none) : FnG P w K mg base (k + 6) f fd ["_law_script"] (prLaw K) := by
  refine okG F scLaw (fun vs H Q h => ?_) (fun cdv A outer s H vs Q hr h => ?_)
  · obtain ⟨_, _, rfl, _⟩ := h
    rfl
  · obtain ⟨a, ns, rfl, hS, q⟩ := h
    have big := sizeBig
    have hun := hr.room.units
    have kT : KBn K fdT ["rights", "day"] 0 ["day", "rights"] (swapL .none) (swapL .non) := kb_swap FT fun _ _ _ _ _ _ _ _ => rfl
    have kE : KBn K fdE ["rights", "day"] 0 ["day", "rights"] (swapL .none) (swapL .non) := kb_swap FE fun _ _ _ _ _ _ _ _ => rfl
    refine ⟨_, pss_cons (ps_set (i := 1) scLaw.nd rfl (.inl rfl) (pe_g GF hr (by rfl) gF FF.kp bF .nil (pa_cons (pv 0) pa_nil)))
      (pss_cons (ps_if (pt_not (pt_val (pe_g0 GB hr (by rfl) gB FB.kp bB .nil))) (pss_one (ps_ret pe_bl)) pss_nil)
      (pss_cons (ps_for PassesOwn.never rfl (pi_range1 rfl mr (pa_cons pe_int pa_nil)) (pg_name (i := 2) scLaw.nd rfl (.inl rfl))
        (pss_cons (ps_set (i := 3) scLaw.nd rfl (.inl rfl) (pe_g0 GG hr (by rfl) gG FG.kp bG .nil))
        (pss_cons (ps_set (i := 4) scLaw.nd rfl (.inl rfl) (pe_lst (pa_cons (pe_g GL hr (by rfl) gL FL.kp bL .nil (pa_cons (pv 3) (pa_cons (pv 2) pa_nil))) (pa_cons (pe_g GN hr (by rfl) gN FN.kp bN .nil (pa_cons (pv 3) (pa_cons (pv 2) pa_nil))) pa_nil))))
        (pss_one (ps_if (pt_cmpR op_ne (pe_callB (call_reprV hr) (by rfl) mp (by decide +kernel) (pa_cons (pe_lst (pa_cons (pe_g GT hr (by rfl) gT FT.kp bT .nil (pa_cons (pv 3) (pa_cons (pv 2) pa_nil))) (pa_cons (pe_g GE hr (by rfl) gE FE.kp bE .nil (pa_cons (pv 3) (pa_cons (pv 2) pa_nil))) pa_nil))) pa_nil)) (pe_callB (call_reprV hr) (by rfl) mp (by decide +kernel) (pa_cons (pv 4) pa_nil)) (nomark _)) (pss_one (ps_ret pe_bl)) pss_nil)))))
      (pss_cons (ps_for PassesOwn.never rfl (pi_range1 rfl mr (pa_cons pe_int pa_nil)) (pg_name (i := 5) scLaw.nd rfl (.inl rfl))
        (pss_cons (ps_par (by rfl) scLaw.nd (i := 6) (j := 7) rfl rfl (by decide) rfl rfl (pa_cons (pe_g GA hr (by rfl) gA FA.kp bA .nil (pa_cons (pv 1) pa_nil)) (pa_cons (pe_lst pa_nil) pa_nil)) (by rfl))
        (pss_cons (ps_for PassesOwn.never rfl (pi_list (pe_slice sl_list (pe_lst (pa_cons pe_str (pa_cons pe_str (pa_cons pe_str (pa_cons pe_str (pa_cons pe_str (pa_cons pe_str pa_nil))))))) po_none (po_some (pe_g GD hr (by rfl) gD FD.kp bD .nil (pa_cons (pv 1) (pa_cons pe_int pa_nil)))))) (pg_name (i := 8) scLaw.nd rfl (.inl rfl))
          (pss_cons (ps_set (i := 9) scLaw.nd rfl (.inl rfl) (pe_g GR hr (by rfl) gR FR.kp bR .nil (pa_cons (pv 1) (pa_cons (pv 6) (pa_cons (pe_g GD hr (by rfl) gD FD.kp bD .nil (pa_cons (pv 1) (pa_cons pe_int pa_nil))) pa_nil)))))
          (pss_one (ps_expr (pe_bm PySem.F.plainAttrs_list PySem.F.slot_list_append PySem.F.type_list_append mt_append (pv 7) (pa_cons (pe_tup (pa_cons (pv 8) (pa_cons
            (pe_ifExp (PW.pt (pw_and (pt_cmpR (op_neD hun) (pv 7) (pe_lst pa_nil) (nomark _)) (pw_and1 (pt_cmpR op_eq (pe_g GD hr (by rfl) gD FD.kp bD .nil (pa_cons (pv 1) (pa_cons pe_int pa_nil))) pe_int (nomark _))))) (pe_ix (ix_tup : IxR _ (rIxT K)) (pe_ix (ix_list : IxR _ (rIxL K)) (pv 7) pe_int (fun _ _ => rfl)) pe_int (fun _ _ => rfl)) (pv 9)) pa_nil))) pa_nil))))))
        (pss_cons (ps_set (i := 7) scLaw.nd rfl (.inl rfl) (pe_callTy call_tuple_of (by rfl) mt (by decide +kernel) (pa_cons (pv 7) pa_nil)))
        (pss_cons (ps_set (i := 10) scLaw.nd rfl (.inl rfl) (pe_callB (call_reprV hr) (by rfl) mp (by decide +kernel) (pa_cons (pv 7) pa_nil)))
        (pss_cons (ps_for PassesOwn.never rfl (pi_range3 rfl mr (pa_cons pe_int (pa_cons pe_int (pa_cons pe_int pa_nil)))) (pg_name (i := 11) scLaw.nd rfl (.inl rfl))
          (pss_cons (ps_set (i := 4) scLaw.nd rfl (.inl rfl) (pe_lst (pa_cons (pe_g GL hr (by rfl) gL FL.kp bL .nil (pa_cons (pv 7) (pa_cons (pv 11) pa_nil))) (pa_cons (pe_g GN hr (by rfl) gN FN.kp bN .nil (pa_cons (pv 7) (pa_cons (pv 11) pa_nil))) pa_nil))))
          (pss_cons (ps_if (pt_cmpR op_ne (pe_callB (call_reprV hr) (by rfl) mp (by decide +kernel) (pa_cons (pe_lst (pa_cons (pe_g GT hr (by rfl) gT FT.kp bT .nil (pa_cons (pv 7) (pa_cons (pv 11) pa_nil))) (pa_cons (pe_g GE hr (by rfl) gE FE.kp bE .nil (pa_cons (pv 7) (pa_cons (pv 11) pa_nil))) pa_nil))) pa_nil)) (pe_callB (call_reprV hr) (by rfl) mp (by decide +kernel) (pa_cons (pv 4) pa_nil)) (nomark _)) (pss_one (ps_ret pe_bl)) pss_nil)
          (pss_cons (ps_set (i := 12) scLaw.nd rfl (.inl rfl) (pe_lst (pa_cons (pe_gn0 GT hr (by rfl) gT FT.kp kT (pk_cons (pv 11) (pk_cons (pv 7) pk_nil))) (pa_cons (pe_gn0 GE hr (by rfl) gE FE.kp kE (pk_cons (pv 11) (pk_cons (pv 7) pk_nil))) pa_nil))))
          (pss_one (ps_if (pt_cmpR op_ne (pe_callB (call_reprV hr) (by rfl) mp (by decide +kernel) (pa_cons (pv 12) pa_nil)) (pe_callB (call_reprV hr) (by rfl) mp (by decide +kernel) (pa_cons (pv 4) pa_nil)) (nomark _)) (pss_one (ps_ret pe_bl)) pss_nil))))))
        (pss_one (ps_if (pt_cmpR op_ne (pe_callB (call_reprV hr) (by rfl) mp (by decide +kernel) (pa_cons (pv 7) pa_nil)) (pv 10) (nomark _)) (pss_one (ps_ret pe_bl)) pss_nil))))))))
      (pss_one (ps_ret pe_bl))))), ?_⟩
    -- the feed
    refine iSeq (iAsg ⟨.ref a, rfl, a, ns, rfl, hS, fun H1 Fd L s1 hF => ?_⟩)
    refine iName ?_
    dsimp only
    have tk : ∀ {H'}, FeedAt H' Fd L → ∃ D, Taken H' D := fun h => by
      obtain ⟨_, _, _, _, e, _⟩ := h
      exact ⟨Fd, _, e⟩
    refine iSeq (iIfS' ?_)
    refine ⟨rfl, tk hF, fun H2 s2 => ⟨true, rfl, ?_⟩⟩
    refine iteF (iNext ?_)
    dsimp only
    have hF2 := hF.same s2
    -- long rights
    refine iSeq ?_
    refine split_s (fun σ' H' => (∃ x2 x3 x4, σ' = [some (.ref a), some (.ref Fd), x2, x3, x4, none, none, none, none, none, none, none, none]) ∧ FeedAt H' Fd L) (fun nx hnx => ?_) (fun σ' H' hx => ?_)
    · refine ⟨10, rfl, by decide, by decide, ?_⟩
      refine for_range (lo := 0) (n := 10) (fun i σ' H' => (∃ x2 x3 x4, σ' = [some (.ref a), some (.ref Fd), x2, x3, x4, none, none, none, none, none, none, none, none]) ∧ FeedAt H' Fd L) ⟨⟨none, none, none, rfl⟩, hF2⟩ (fun i σ' H' hi h => ?_) (fun σ' H' h => hnx _ _ h)
      obtain ⟨⟨x2, x3, x4, rfl⟩, hF3⟩ := h
      refine iName ?_
      dsimp only
      refine iSeq (iAsg ⟨rfl, tk hF3, fun H4 v4 D4 s4 h4 => ?_⟩)
      obtain ⟨ra, rfl, hra⟩ := rights_inv (rs := longRs) h4
      refine iName ?_
      dsimp only
      have T0 : (0 : Int) ≤ 0 + (i : Int) := by omega
      have T9 : (0 : Int) + (i : Int) ≤ 9 := by omega
      refine iSeq (iAsg ?_)
      refine ⟨.ref ra, rfl, .int (0 + (i : Int)), rfl, ra, longRs, 0 + (i : Int), 11, rfl, hra, long_rs, T0, T9, fun H5 p5 y5 s5 h5 st5 m5 l5 => ?_⟩
      have hr5 := hra.keep (KeepT.of s5)
      refine ⟨.ref ra, rfl, .int (0 + (i : Int)), rfl, ra, longRs, 0 + (i : Int), 11, rfl, hr5, long_rs, T0, T9, fun H6 p6 y6 s6 h6 st6 m6 l6 => ?_⟩
      have td : Told longRs (0 + (i : Int)) y5 y6 := ⟨st5, st6, m5, m6, l5, l6⟩
      have fin := td.fine long_rs T0 T9
      refine ⟨by show 2 ≤ sizeLine; omega, fun lx hlx => ?_⟩
      have s7 := same_new (o := .lst [.ref p5, .ref p6]) hlx
      have two : TwoAt (upd H6 lx (.lst [.ref p5, .ref p6])) lx y5 y6 := ⟨p5, p6, upd_same, (h5.keep (KeepT.of s6)).keep (KeepT.of s7), h6.keep (KeepT.of s7)⟩
      have s47 := (s5.trans s6).trans s7
      generalize upd H6 lx (.lst [.ref p5, .ref p6]) = H7 at two s47 ⊢
      refine iName ?_
      try dsimp only
      have hr7 := hra.keep (KeepT.of s47)
      refine iIfS' ?_
      refine ⟨.ref ra, rfl, .int (0 + (i : Int)), rfl, ra, longRs, 0 + (i : Int), 11, rfl, hr7, long_rs, T0, T9, fun H8 p8 y8 s8 h8 st8 m8 l8 => ?_⟩
      refine ⟨.ref ra, rfl, .int (0 + (i : Int)), rfl, ra, longRs, 0 + (i : Int), 11, rfl, hr7.keep (KeepT.of s8), long_rs, T0, T9, fun H9 p9 y9 s9 h9 st9 m9 l9 => ?_⟩
      obtain ⟨rfl, rfl⟩ := td.one (⟨st8, st9, m8, m9, l8, l9⟩ : Told longRs (0 + (i : Int)) y8 y9)
      refine ⟨by show 2 ≤ sizeLine; omega, fun ly hly => ?_⟩
      have s10 := same_new (o := .lst [.ref p8, .ref p9]) hly
      try dsimp only
      refine iNil ?_
      try dsimp only
      refine reprV_ref (dp_two (l := ly) ⟨p8, p9, upd_same, (h8.keep (KeepT.of s9)).keep (KeepT.of s10), h9.keep (KeepT.of s10)⟩) fin (by decide) (by decide) ?_
      refine ⟨.ref lx, rfl, ?_⟩
      try dsimp only
      refine iNil ?_
      try dsimp only
      have s710 := (s8.trans s9).trans s10
      refine reprV_ref (dp_two (two.same s710)) fin (by decide) (by decide) ?_
      refine ⟨rfl, _, rfl, ?_⟩
      rw [decide_eq_true rfl]
      exact iteF ⟨⟨_, _, _, rfl⟩, hF3.same ((s4.trans s47).trans s710)⟩
    · obtain ⟨⟨x2, x3, x4, rfl⟩, hF3⟩ := hx
      dsimp only
      -- the drawn rights
      refine iSeq ⟨6, rfl, by decide, by decide, ?_⟩
      refine for_range (lo := 0) (n := 6) (fun i σ' H' => (∃ x4 x5 x6 x7 x8 x9 x10 x11 x12, σ' = [some (.ref a), some (.ref Fd), x2, x3, x4, x5, x6, x7, x8, x9, x10, x11, x12]) ∧ FeedAt H' Fd L) ⟨⟨_, _, _, _, _, _, _, _, _, rfl⟩, hF3⟩ (fun i σ' H' hi h => ?_) (fun σ' H' h => ?_)
      · obtain ⟨⟨x4, x5, x6, x7, x8, x9, x10, x11, x12, rfl⟩, hF4⟩ := h
        refine iName ?_
        dsimp only
        refine iSeq ⟨.ref Fd, rfl, Fd, L, rfl, hF4, fun H5 pa nm k5 hF5 hpa okn => ?_⟩
        refine ⟨Nat.zero_le _, fun Lr hLr => ⟨.ref pa, .ref Lr, rfl, ?_⟩⟩
        have s6 := same_new (o := .lst []) hLr
        dsimp only
        have hpa6 := s6 _ _ hpa
        have hF6 := hF5.same s6
        have hLr6 : (upd H5 Lr (.lst [])) Lr = some (.lst []) := upd_same
        generalize upd H5 Lr (.lst []) = H6 at hpa6 hF6 hLr6 ⊢
        have nLF : Lr ≠ Fd := by
          obtain ⟨_, _, _, _, e, _⟩ := hF6
          exact ne_of hLr6 e fun z => nomatch z
        have nLL : Lr ≠ L := by
          obtain ⟨_, _, _, _, _, e⟩ := hF5
          exact (ne_of_none e hLr).symm
        refine iSeq ?_
        refine split_s (fun σ' H' => (∃ x8 x9, σ' = [some (.ref a), some (.ref Fd), x2, x3, x4, some (.int (0 + (i : Int))), some (.ref pa), some (.ref Lr), x8, x9, x10, x11, x12]) ∧ FeedAt H' Fd L ∧ ∃ ps rs, H' Lr = some (.lst (ps.map V.ref)) ∧ Paired (NamedAt H') ps rs ∧ (∀ x ∈ rs, NamedOk x) ∧ rs.length ≤ 6) (fun nx hnx => ?_) (fun σ' H' hx => ?_)
        · refine ⟨by show 6 ≤ sizeLine; omega, fun l6 hl6 => ?_⟩
          have s7 := same_new (o := .lst (six.map V.str)) hl6
          refine ⟨.ref Fd, rfl, Fd, L, 7, rfl, hF6.same s7, by decide, by decide, fun d H8 d0 d1 k8 hF8 => ?_⟩
          have nl6 : l6 ≠ Fd := by
            obtain ⟨_, _, _, _, e, _⟩ := hF6
            exact (ne_of_none e hl6).symm
          refine ⟨d, rfl, l6, six.map V.str, rfl, sqL (k8 _ _ nl6 upd_same), fun lc hlc => ?_⟩
          have s9 := same_new (o := .lst (cutV (six.map V.str) none (some d))) hlc
          have clen := cutV_length (six.map V.str) none (some d)
          rw [List.length_map] at clen
          have clen : (cutV (six.map V.str) none (some d)).length ≤ 6 := clen
          have hF9 := hF8.same s9
          have nlcF : lc ≠ Fd := by
            obtain ⟨_, _, _, _, e, _⟩ := hF8
            exact (ne_of_none e hlc).symm
          have hL8 : H8 Lr = some (.lst []) := k8 _ _ nLF (s7 _ _ hLr6)
          have nlcr : lc ≠ Lr := (ne_of_none hL8 hlc).symm
          have hpa9 := s9 _ _ (k8.tup (hF6.same s7) _ _ (s7 _ _ hpa6))
          have hLr9 := s9 _ _ hL8
          have hlc9 : (upd H8 lc (.lst (cutV (six.map V.str) none (some d)))) lc = some (.lst (cutV (six.map V.str) none (some d))) := upd_same
          generalize upd H8 lc (.lst (cutV (six.map V.str) none (some d))) = H9 at hF9 hpa9 hLr9 hlc9 ⊢
          refine ⟨lc, rfl, ⟨_, sqL hlc9⟩, ?_⟩
          refine for_list (xs := cutV (six.map V.str) none (some d)) (fun j σ' H' => (∃ x8 x9, σ' = [some (.ref a), some (.ref Fd), x2, x3, x4, some (.int (0 + (i : Int))), some (.ref pa), some (.ref Lr), x8, x9, x10, x11, x12]) ∧ FeedAt H' Fd L ∧ H' lc = some (.lst (cutV (six.map V.str) none (some d))) ∧ H' pa = some (.tup (nm.map V.str)) ∧ ∃ ps rs, H' Lr = some (.lst (ps.map V.ref)) ∧ Paired (NamedAt H') ps rs ∧ (∀ x ∈ rs, NamedOk x) ∧ rs.length ≤ j)
            ⟨⟨_, _, rfl⟩, hF9, hlc9, hpa9, [], [], hLr9, .nil, fun x hx => absurd hx (by simp), Nat.zero_le _⟩ (fun j σ' H' _ h => sqL h.2.2.1) (fun j x σ' H' hx h => ?_) (fun σ' H' h => ?_)
          · obtain ⟨⟨y8, y9, rfl⟩, hFa, hlca, hpaa, ps, rs, hps, hpp, okr, rl⟩ := h
            obtain ⟨n, hn, rfl⟩ := cut_six hx
            have jl : j < 6 := Nat.lt_of_lt_of_le (List.getElem?_eq_some_iff.mp hx).1 clen
            refine iName ?_
            dsimp only
            refine iSeq (iAsg ⟨.ref Fd, rfl, .ref pa, rfl, .ref Fd, rfl, Fd, L, 8, rfl, hFa, by decide, by decide, fun t Hb t0 t1 kb hFb => ?_⟩)
            refine ⟨Fd, L, pa, nm, t, rfl, hFb, kb.tup hFa _ _ hpaa, okn, t0, by omega, fun Hc r R kc hFc hR okR up day l3 => ?_⟩
            refine iName ?_
            dsimp only
            have kac := kb.trans kc
            have hpsc := kac _ _ nLF hps
            have hppc := Paired.mapP hpp fun _ _ z => z.keep (kac.tup hFa)
            have hlcc := kac _ _ nlcF hlca
            have hpac := kac.tup hFa _ _ hpaa
            have pl := Paired.length hppc
            refine iDrop' ⟨.ref Lr, rfl, .inl ⟨rfl, _, sqL hpsc⟩, ?_⟩
            refine ⟨.str n, rfl, ?_⟩
            -- which right
            refine split_k (fun v H' => ∃ r' R', v = .ref r' ∧ RightAt H' r' R' ∧ NamedOk (n, R') ∧ FeedAt H' Fd L ∧ KeepF Fd Hc H') (fun Q' hQ' => ?_) (fun v Hd hv => ?_)
            · refine ⟨.ref Lr, rfl, Nat.zero_le _, fun e1 he1 => ?_⟩
              have sd := same_new (o := .lst []) he1
              refine ⟨.list (rs.map namedD), .list [], .lst (sqL (sd _ _ hpsc)) (dp_all (f := namedD) (R := NamedAt _) (fun _ _ z => dp_named (z.keep (KeepT.of sd))) hppc), .lst (sqL upd_same) .nil, shaped_named okr, shaped_nil, _, rfl, ?_⟩
              have hFd' := hFc.same sd
              have hR2 := hR.keep (KeepT.of sd)
              cases rs with
              | nil => exact iteF (iteF ⟨.ref r, rfl, hQ' _ _ ⟨r, R, rfl, hR2, ⟨six_ok n hn, okR, day, up, l3⟩, hFd', KeepF.of sd⟩⟩)
              | cons x0 rs0 =>
                refine iteT ?_
                refine ⟨.ref Fd, rfl, Fd, L, 6, rfl, hFd', by decide, by decide, fun d2 He d20 d21 ke hFe => ?_⟩
                refine ⟨rfl, _, rfl, ?_⟩
                refine ite2 (fun e => ?_) (fun e => ?_)
                · cases hppc with
                  | cons h0 t0' =>
                    obtain ⟨r0, hr0, hR0⟩ := h0
                    have nlr : Lr ≠ Fd := nLF
                    have ke2 := (KeepF.of (F := Fd) sd).trans ke
                    have kt := ke2.tup hFc
                    refine ⟨.ref Lr, rfl, Lr, _, _, _, rfl, rfl, sqL (ke2 _ _ nLF hpsc), atI_nat (j := 0) rfl, _, _, _, _, rfl, rfl, sqT (kt _ _ hr0), atI_nat (j := 1) rfl, ?_⟩
                    obtain ⟨_, o1, o2, o3, o4⟩ := okr x0 List.mem_cons_self
                    exact hQ' _ _ ⟨r0, x0.2, rfl, hR0.keep kt, ⟨six_ok n hn, o1, o2, o3, o4⟩, hFe, ke2⟩
                · have ke2 := (KeepF.of (F := Fd) sd).trans ke
                  exact ⟨.ref r, rfl, hQ' _ _ ⟨r, R, rfl, hR.keep (ke2.tup hFc), ⟨six_ok n hn, okR, day, up, l3⟩, hFe, ke2⟩⟩
            · obtain ⟨r', R', rfl, hR', okN, hFd', kd⟩ := hv
              refine ⟨by show 2 ≤ sizeLine; omega, fun pt hpt => ?_⟩
              have se := same_new (o := .tup [.str n, .ref r']) hpt
              have ktd := kd.tup hFc
              have hps2 := se _ _ (kd _ _ nLF hpsc)
              refine ⟨Lr, ps.map V.ref, .ref pt, rfl, rfl, hps2, by rw [List.length_map]; omega, ?_⟩
              have kp : KeepT _ (upd _ Lr (.lst (ps.map V.ref ++ [.ref pt]))) := KeepT.put hps2 fun _ z => nomatch z
              have kall := (ktd.trans (KeepT.of se)).trans kp
              refine ⟨⟨_, _, rfl⟩, ?_, ?_, kall _ _ hpac, ps ++ [pt], rs ++ [(n, R')], by rw [upd_same, List.map_append]; rfl, ?_, fun x hx => ?_, by rw [List.length_append]; show _ + 1 ≤ _; omega⟩
              · obtain ⟨ns', a1, l1', n1, e1, e2⟩ := hFd'.same se
                exact ⟨ns', a1, l1', n1, by rw [upd_ne nLF.symm]; exact e1, by rw [upd_ne nLL.symm]; exact e2⟩
              · rw [upd_ne nlcr]
                exact se _ _ (kd _ _ nlcF hlcc)
              · exact Paired.snoc (Paired.mapP hppc fun _ _ z => z.keep kall) ⟨r', kp _ _ upd_same, (hR'.keep (KeepT.of se)).keep kp⟩
              · rcases List.mem_append.mp hx with z | z
                · exact okr x z
                · rw [List.mem_singleton.mp z]
                  exact okN
          · obtain ⟨σe, hFa, _, _, ps, rs, hps, hpp, okr, rl⟩ := h
            exact hnx _ _ ⟨σe, hFa, ps, rs, hps, hpp, okr, by omega⟩
        · obtain ⟨⟨y8, y9, rfl⟩, hF7, ps, rs, hps, hpp, okr, rl⟩ := hx
          dsimp only
          have okR := rs_ok okr rl
          refine iSeq (iAsg ⟨.ref Lr, rfl, Lr, _, rfl, .inl ⟨sqL hps, fun ra hra => ?_⟩⟩)
          have s8 := same_new (o := .tup (ps.map V.ref)) hra
          have hR8 : RightsAt (upd H' ra (.tup (ps.map V.ref))) ra rs := ⟨ps, upd_same, Paired.mapP hpp fun _ _ z => z.keep (KeepT.of s8)⟩
          have hF8 := hF7.same s8
          generalize upd H' ra (.tup (ps.map V.ref)) = H8 at hR8 hF8 ⊢
          refine iName ?_
          dsimp only
          refine iSeq (iAsg ⟨.ref ra, rfl, ?_⟩)
          try dsimp only
          refine iNil ?_
          try dsimp only
          refine reprV_ref (dp_rs hR8) (fine_rs okr rl) (by decide) (by decide) ?_
          refine iName ?_
          try dsimp only
          refine iSeq ?_
          refine split_s (fun σ' H' => (∃ z4 z11 z12, σ' = [some (.ref a), some (.ref Fd), x2, x3, z4, some (.int (0 + (i : Int))), some (.ref pa), some (.ref ra), y8, y9, some (.str (rsD rs).shown), z11, z12]) ∧ Same H8 H') (fun nx hnx => ?_) (fun σ' H' hx => ?_)
          · refine ⟨0, 10, 2, 5, rfl, ⟨by decide, by decide, by decide, by decide⟩, ?_⟩
            refine for_rangeC (lo := 0) (c := 2) (n := 5) (fun j σ' H' => (∃ z4 z11 z12, σ' = [some (.ref a), some (.ref Fd), x2, x3, z4, some (.int (0 + (i : Int))), some (.ref pa), some (.ref ra), y8, y9, some (.str (rsD rs).shown), z11, z12]) ∧ Same H8 H') ⟨⟨_, _, _, rfl⟩, Same.refl _⟩ (fun j σ' H' hj h => ?_) (fun σ' H' h => hnx _ _ h)
            obtain ⟨⟨z4, z11, z12, rfl⟩, sm⟩ := h
            refine iName ?_
            dsimp only
            obtain ⟨T, eT⟩ : ∃ T : Int, 0 + (j : Int) * 2 = T := ⟨_, rfl⟩
            rw [eT]
            have T0 : 0 ≤ T := by omega
            have T9 : T ≤ 9 := by omega
            have hRm := hR8.keep (KeepT.of sm)
            refine iSeq (iAsg ?_)
            refine ⟨.ref ra, rfl, .int T, rfl, ra, rs, T, 5, rfl, hRm, okR, T0, T9, fun H5 p5 y5 s5 h5 st5 m5 l5 => ?_⟩
            refine ⟨.ref ra, rfl, .int T, rfl, ra, rs, T, 5, rfl, hRm.keep (KeepT.of s5), okR, T0, T9, fun H6 p6 y6 s6 h6 st6 m6 l6 => ?_⟩
            have td : Told rs T y5 y6 := ⟨st5, st6, m5, m6, l5, l6⟩
            have fin := td.fine okR T0 T9
            refine ⟨by show 2 ≤ sizeLine; omega, fun lx hlx => ?_⟩
            have s7 := same_new (o := .lst [.ref p5, .ref p6]) hlx
            have two : TwoAt (upd H6 lx (.lst [.ref p5, .ref p6])) lx y5 y6 := ⟨p5, p6, upd_same, (h5.keep (KeepT.of s6)).keep (KeepT.of s7), h6.keep (KeepT.of s7)⟩
            have s47 := (s5.trans s6).trans s7
            generalize upd H6 lx (.lst [.ref p5, .ref p6]) = H7 at two s47 ⊢
            refine iName ?_
            try dsimp only
            have hr7 := hRm.keep (KeepT.of s47)
            refine iSeq (iIfS' ?_)
            refine ⟨.ref ra, rfl, .int T, rfl, ra, rs, T, 5, rfl, hr7, okR, T0, T9, fun H8' p8 y8' s8' h8 st8 m8 l8 => ?_⟩
            refine ⟨.ref ra, rfl, .int T, rfl, ra, rs, T, 5, rfl, hr7.keep (KeepT.of s8'), okR, T0, T9, fun H9 p9 y9' s9 h9 st9 m9 l9 => ?_⟩
            obtain ⟨rfl, rfl⟩ := td.one (⟨st8, st9, m8, m9, l8, l9⟩ : Told rs T y8' y9')
            refine ⟨by show 2 ≤ sizeLine; omega, fun ly hly => ?_⟩
            have s10 := same_new (o := .lst [.ref p8, .ref p9]) hly
            try dsimp only
            refine iNil ?_
            try dsimp only
            refine reprV_ref (dp_two (l := ly) ⟨p8, p9, upd_same, (h8.keep (KeepT.of s9)).keep (KeepT.of s10), h9.keep (KeepT.of s10)⟩) fin (by decide) (by decide) ?_
            refine ⟨.ref lx, rfl, ?_⟩
            try dsimp only
            refine iNil ?_
            try dsimp only
            have s710 := (s8'.trans s9).trans s10
            have two2 := two.same s710
            refine reprV_ref (dp_two two2) fin (by decide) (by decide) ?_
            refine ⟨rfl, _, rfl, ?_⟩
            rw [decide_eq_true rfl]
            refine iteF (iNext ?_)
            try dsimp only
            have hr10 := hr7.keep (KeepT.of s710)
            refine iSeq (iAsg ?_)
            refine ⟨.int T, rfl, .ref ra, rfl, rfl, rfl, ra, rs, T, 5, rfl, hr10, okR, T0, T9, fun Ha pa' ya sa ha sta ma la => ?_⟩
            refine ⟨.int T, rfl, .ref ra, rfl, rfl, rfl, ra, rs, T, 5, rfl, hr10.keep (KeepT.of sa), okR, T0, T9, fun Hb pb yb sb hb stb mb lb => ?_⟩
            obtain ⟨rfl, rfl⟩ := td.one (⟨sta, stb, ma, mb, la, lb⟩ : Told rs T ya yb)
            refine ⟨by show 2 ≤ sizeLine; omega, fun lz hlz => ?_⟩
            have sc := same_new (o := .lst [.ref pa', .ref pb]) hlz
            have twoZ : TwoAt (upd Hb lz (.lst [.ref pa', .ref pb])) lz ya yb := ⟨pa', pb, upd_same, (ha.keep (KeepT.of sb)).keep (KeepT.of sc), hb.keep (KeepT.of sc)⟩
            have sac := (sa.trans sb).trans sc
            generalize upd Hb lz (.lst [.ref pa', .ref pb]) = Hc at twoZ sac ⊢
            refine iName ?_
            try dsimp only
            refine iIfS' ⟨.ref lz, rfl, ?_⟩
            try dsimp only
            refine iNil ?_
            try dsimp only
            refine reprV_ref (dp_two twoZ) fin (by decide) (by decide) ?_
            refine ⟨.ref lx, rfl, ?_⟩
            try dsimp only
            refine iNil ?_
            try dsimp only
            refine reprV_ref (dp_two (two2.same sac)) fin (by decide) (by decide) ?_
            refine ⟨rfl, _, rfl, ?_⟩
            rw [decide_eq_true rfl]
            exact iteF ⟨⟨_, _, _, rfl⟩, ((sm.trans s47).trans s710).trans sac⟩
          · obtain ⟨⟨z4, z11, z12, rfl⟩, sm⟩ := hx
            try dsimp only
            refine iIfS' ⟨.ref ra, rfl, ?_⟩
            try dsimp only
            refine iNil ?_
            try dsimp only
            refine reprV_ref (dp_rs (hR8.keep (KeepT.of sm))) (fine_rs okr rl) (by decide) (by decide) ?_
            refine ⟨_, rfl, rfl, _, rfl, ?_⟩
            rw [decide_eq_true rfl]
            exact iteF ⟨⟨_, _, _, _, _, _, _, _, _, rfl⟩, hF8.same sm⟩
      · obtain ⟨⟨_, _, _, _, _, _, _, _, _, rfl⟩, _⟩ := h
        dsimp only
        exact iRet (q _)
end
end P20
/-! The end of a law's row, by a promise of its def that holds where nothing is being shown. -/
namespace AskG
open PySem PySem.Spec PyProof.Rows L2
/-- from an abstract heap that tracks at most the script -/
theorem lawG_core {P : Program} {w : World} {K : PySem.W.Frag} {mg mb : Str → Option Value} {k : Nat} {fa a : Addr} {fd : FuncData} {x : Str} {pr : Pr}
    {s₁ : Shared} {vs : List Value} {H : Hp}
    (inK : K.In s₁.heap) (ns1 : s₁.heap.Ns mainGlobals mg) (ns2 : s₁.heap.Ns builtinsNs mb)
    (bb : ∀ x : Str, x ≠ "__name__" → mb x = bootBuiltins x) (lim : s₁.heap.NoLimit) (gn : s₁.gens = #[])
    (ha : s₁.heap.get? a = some { cls := .type "list", data := .seq vs.toArray }) (hr : RG k callerA)
    (F : ∀ base : Heap, K.In base → base.Ns mainGlobals mg → FnG P w K mg base k fa fd [x] pr)
    (bind : ∀ (s : Shared) (u : Value), BindsTo s fd ⟨[u], []⟩ [(x, u)])
    (only : Only H) (hok : HOk P w H s₁.heap) (at_a : ∀ b, H b ≠ none → b = a) (noK : H a ≠ none → K.lookup a = none)
    (hp : pr [.ref a] H fun v _ => v = .bl true) :
    codeAny (model P w) callerA (.call (.ref fa) ⟨[.ref a], []⟩)
      (fun r s' => r = .ok (.ret (.bool true)) ∧ OldK s₁.heap s'.heap ∧ s'.os = s₁.os ∧ AllBare s'.gens) s₁ := by
  have hid : ∀ {b : Addr} {o : Obj}, s₁.heap.get? b = some o → H b = none → (hidT s₁.heap H).get? b = some o :=
    fun e n => hidT_get e n
  have notA : ∀ {b : Addr} {o : Obj} {es : Array DictEntry} {ep : Nat}, s₁.heap.get? b = some o → o.data = .dict es ep → H b = none := by
    intro b o es ep e d
    cases q : H b with
    | none => rfl
    | some u =>
      have eb : b = a := at_a b (by rw [q]; simp)
      rw [eb, ha] at e
      cases e
      cases (show Data.seq vs.toArray _ = Data.dict es ep from d)
  have nsH : ∀ {b : Addr} {m : Str → Option Value}, s₁.heap.Ns b m → (hidT s₁.heap H).Ns b m := by
    rintro b m ⟨o, es, ep, e, d, r⟩
    exact ⟨o, es, ep, hid e (notA e d), d, r⟩
  have inH : K.In (hidT s₁.heap H) := by
    intro b o e
    refine hid (inK b o e) ?_
    cases q : H b with
    | none => rfl
    | some u =>
      have eb : b = a := at_a b (by rw [q]; simp)
      rw [eb, noK (by rw [← eb, q]; simp)] at e
      cases e
  have M : Mod K mg (hidT s₁.heap H) :=
    ⟨inH, nsH ns1, ⟨mb, nsH ns2, bb⟩, lim.elim fun mc h => ⟨mc, nsH h.1, h.2⟩⟩
  have e0 : Env0 P w K mg (hidT s₁.heap H) callerA [] s₁ H :=
    ⟨rfl, M, fun b o e => of_hidT e, Nat.le_of_eq (hidT_size _ _), trivial,
      fun b hb => absurd (show b ∈ ([] : List Addr) from hb) (by simp), hok, .of_eq gn⟩
  refine codeAny_mono ((F _ inH (nsH ns1)).goes callerA [] s₁ H ⟨[.ref a], []⟩ [.ref a] [.ref a] _ hr e0
    (bind s₁ (.ref a)) (.cons rfl .nil) hp) fun r s' h => ?_
  match r, h with
  | .error e, h => exact h.elim
  | .ok .next, h => exact h.elim
  | .ok .brk, h => exact h.elim
  | .ok .cont, h => exact h.elim
  | .ok (.ret u), h =>
    obtain ⟨v, H', os, bare, un, hok', r', q⟩ := h
    have q : v = .bl true := q
    subst q
    obtain rfl : u = Value.bool true := r'
    refine ⟨rfl, OldK.of_keep fun b o e => ?_, os, bare⟩
    cases hb : H b with
    | none =>
      exact un.keep b o e hb (fun z => absurd (show b ∈ ([] : List Addr) from z) (by simp)) (by simp)
    | some u =>
      rcases only b with z | ⟨ob, xs, z⟩
      · rw [hb] at z
        cases z
      · obtain ⟨e1, _⟩ := hok b _ z
        obtain ⟨e2, _⟩ := hok' b _ (un.frzs b ob _ z)
        rw [e] at e1
        cases e1
        exact e2
theorem lawG {P : Program} {w : World} {K : PySem.W.Frag} {mg mb : Str → Option Value} {k : Nat} {fa a : Addr} {fd : FuncData} {x : Str} {pr : Pr}
    {s₁ : Shared} {vs : List Value} {ns : List Int}
    (inK : K.In s₁.heap) (ns1 : s₁.heap.Ns mainGlobals mg) (ns2 : s₁.heap.Ns builtinsNs mb)
    (bb : ∀ x : Str, x ≠ "__name__" → mb x = bootBuiltins x) (lim : s₁.heap.NoLimit) (gn : s₁.gens = #[])
    (ha : s₁.heap.get? a = some { cls := .type "list", data := .seq vs.toArray }) (hi : IntsAre vs ns) (hl : ns.length ≤ sizeLine) (hr : RG k callerA)
    (F : ∀ base : Heap, K.In base → base.Ns mainGlobals mg → FnG P w K mg base k fa fd [x] pr)
    (bind : ∀ (s : Shared) (u : Value), BindsTo s fd ⟨[u], []⟩ [(x, u)])
    (hp : ∀ H : Hp, Only H → SqL K H a (ns.map V.int) → pr [.ref a] H fun v _ => v = .bl true) :
    codeAny (model P w) callerA (.call (.ref fa) ⟨[.ref a], []⟩)
      (fun r s' => r = .ok (.ret (.bool true)) ∧ OldK s₁.heap s'.heap ∧ s'.os = s₁.os ∧ AllBare s'.gens) s₁ := by
  have rv := vals_ints hi
  cases hk : K.lookup a with
  | some o =>
    have e := inK a o hk
    rw [ha] at e
    cases e
    refine lawG_core (H := fun _ => none) inK ns1 ns2 bb lim gn ha hr F bind (fun _ => .inl rfl)
      (fun b u z => nomatch (show (none : Option HO) = some u from z)) (fun b z => absurd rfl z) (fun z => absurd rfl z) ?_
    refine hp _ (fun _ => .inl rfl) (.inr ⟨_, vs.toArray, _, hk, rfl, rfl, rfl, ?_, by simpa using rv⟩)
    rw [List.size_toArray, hi.length]
    exact hl
  | none =>
    have at1 : (fun b => if b = a then some (HO.frz { cls := .type "list", data := .seq vs.toArray } (.lst (ns.map V.int))) else none : Hp) a =
        some (.frz { cls := .type "list", data := .seq vs.toArray } (.lst (ns.map V.int))) := if_pos rfl
    have else1 : ∀ b, b ≠ a → (fun b => if b = a then some (HO.frz { cls := .type "list", data := .seq vs.toArray } (.lst (ns.map V.int))) else none : Hp) b = none :=
      fun b h => if_neg h
    generalize (fun b => if b = a then some (HO.frz { cls := .type "list", data := .seq vs.toArray } (.lst (ns.map V.int))) else none : Hp) = H at at1 else1
    have only : Only H := fun b => by
      by_cases h : b = a
      · rw [h]
        exact .inr ⟨_, _, at1⟩
      · exact .inl (else1 b h)
    refine lawG_core (H := H) inK ns1 ns2 bb lim gn ha hr F bind only (fun b u z => ?_) (fun b z => ?_) (fun _ => hk) (hp H only (.inl (.inr ⟨_, at1⟩)))
    · by_cases h : b = a
      · subst h
        rw [at1] at z
        cases z
        exact ⟨ha, by rw [List.length_map]; exact hl, vs, _, rv, ha⟩
      · rw [else1 b h] at z
        cases z
    · by_cases h : b = a
      · exact h
      · exact absurd (else1 b h) z
/-- the goal behind the head -/
theorem walkG {l : PySem.W.OpenLaw} {n k : Nat} {q : Program} {loose : List Str} {XP : (Str → Option Value) → Heap → Prop} {YP : World → Heap → Prop} {d : DefRec}
    {K : Params → PySem.W.Frag} {pr : PySem.W.Frag → Pr} {x : Str}
    (hn : l.most = some n) (hn2 : n ≤ sizeLine) (hdf : d.params.defaults = []) (hr : RG k callerA)
    (hY : ∀ (w : World) (h : Heap), YP w h → (K w.params).In h)
    (F : ∀ (w : World) (mg : Str → Option Value) (fa : Addr) (h : Heap), (K w.params).In h → h.Ns mainGlobals mg → mg d.name = some (.ref fa) →
      ∃ fd : FuncData, (∀ (s : Shared) (u : Value), BindsTo s fd ⟨[u], []⟩ [(x, u)]) ∧
        ∀ base : Heap, (K w.params).In base → base.Ns mainGlobals mg → FnG l.prog w (K w.params) mg base k fa fd [x] (pr (K w.params)))
    (hp : ∀ (K : PySem.W.Frag) (H : Hp) (a : Addr) (ns : List Int), ns.length ≤ n → SqL K H a (ns.map V.int) → pr K [.ref a] H fun v _ => v = .bl true) :
    PySem.W.WalkO q loose XP YP l.row.toRowW d [] (fun f vs => PySem.call f vs) := by
  refine Att.attach_call hn hdf ?_
  intro w s₀ s₁ mg mb fa o pm cd doc a vs ns G Y ho hd hcd hmg hobj hints hlen hg
  have inK := hY w _ Y
  obtain ⟨fd, hb, hF⟩ := F w mg fa _ inK G.T.g hmg
  exact lawG inK G.T.g G.T.b G.T.builtins G.T.nolimit hg hobj hints (Nat.le_trans hlen hn2) hr hF hb fun H _ hS => hp _ H a ns hlen hS
end AskG
namespace P20
open PySem PySem.Spec PyProof.Rows L2 AskG
/-- what the top has written -/
theorem all_mk {l : PySem.W.OpenLaw} {w : World} {K : PySem.W.Frag} {h : Heap} {mg : Str → Option Value} {fa : Addr} (X : K.In h) (G : h.Ns mainGlobals mg) (hfa : mg "law" = some (.ref fa))
    {f1 f2 f3 f4 f5 f6 f7 f8 f9 f10 f11 f12 f13 f14 f15 f16 f17 f18 f19 f20 f21 f22 : Addr} {od1 an1 od2 an2 od3 an3 od4 an4 od5 an5 od6 an6 od7 an7 od8 an8 od9 an9 od10 an10 od11 an11 od12 an12 od13 an13 od14 an14 od15 an15 od16 an16 od17 an17 od18 an18 od19 an19 od20 an20 od21 an21 od22 an22 : Option Addr} {sl1 sl2 sl3 sl4 sl5 sl6 sl7 sl8 sl9 sl10 sl11 sl12 sl13 sl14 sl15 sl16 sl17 sl18 sl19 sl20 sl21 sl22 : Array (Option Value)} {oc1 kV1 dc1 pm1 cd1 ct1 oc2 kV2 dc2 pm2 cd2 ct2 oc3 kV3 dc3 pm3 cd3 ct3 oc4 kV4 dc4 pm4 cd4 ct4 oc5 kV5 dc5 pm5 cd5 ct5 oc6 kV6 dc6 pm6 cd6 ct6 oc7 kV7 dc7 pm7 cd7 ct7 oc8 kV8 dc8 pm8 cd8 ct8 oc9 kV9 dc9 pm9 cd9 ct9 oc10 kV10 dc10 pm10 cd10 ct10 oc11 kV11 dc11 pm11 cd11 ct11 oc12 kV12 dc12 pm12 cd12 ct12 oc13 kV13 dc13 pm13 cd13 ct13 oc14 kV14 dc14 pm14 cd14 ct14 oc15 kV15 dc15 pm15 cd15 ct15 oc16 kV16 dc16 pm16 cd16 ct16 oc17 kV17 dc17 pm17 cd17 ct17 oc18 kV18 dc18 pm18 cd18 ct18 oc19 kV19 dc19 pm19 cd19 ct19 oc20 kV20 dc20 pm20 cd20 ct20 oc21 kV21 dc21 pm21 cd21 ct21 oc22 kV22 dc22 pm22 cd22 ct22 : Value}
    (a1 : PySem.W.nsIn K mainGlobals "is_used_on" = some (some (.ref f1))) (l1 : K.lookup f1 = some ⟨oc1, od1, .func (PySem.W.fnOf "is_used_on" "is_used_on" (defArgs sUsed) (defBody sUsed) (defScope sUsed) .none kV1 dc1 pm1 an1 cd1 ct1), sl1⟩) (c1 : PySem.W.codeIn K cd1 "is_used_on" = true) (k1 : PySem.W.keepIn K (.ref f1) = true)
    (a2 : PySem.W.nsIn K mainGlobals "asked_days" = some (some (.ref f2))) (l2 : K.lookup f2 = some ⟨oc2, od2, .func (PySem.W.fnOf "asked_days" "asked_days" (defArgs sAsked) (defBody sAsked) (defScope sAsked) .none kV2 dc2 pm2 an2 cd2 ct2), sl2⟩) (c2 : PySem.W.codeIn K cd2 "asked_days" = true) (k2 : PySem.W.keepIn K (.ref f2) = true)
    (a3 : PySem.W.nsIn K mainGlobals "row_on_days" = some (some (.ref f3))) (l3 : K.lookup f3 = some ⟨oc3, od3, .func (PySem.W.fnOf "row_on_days" "row_on_days" (defArgs sOnDays) (defBody sOnDays) (defScope sOnDays) .none kV3 dc3 pm3 an3 cd3 ct3), sl3⟩) (c3 : PySem.W.codeIn K cd3 "row_on_days" = true) (k3 : PySem.W.keepIn K (.ref f3) = true)
    (a4 : PySem.W.nsIn K mainGlobals "future_spans" = some (some (.ref f4))) (l4 : K.lookup f4 = some ⟨oc4, od4, .func (PySem.W.fnOf "future_spans" "future_spans" (defArgs sFS) (defBody sFS) (defScope sFS) .none kV4 dc4 pm4 an4 cd4 ct4), sl4⟩) (c4 : PySem.W.codeIn K cd4 "future_spans" = true) (k4 : PySem.W.keepIn K (.ref f4) = true)
    (a5 : PySem.W.nsIn K mainGlobals "needed_spans" = some (some (.ref f5))) (l5 : K.lookup f5 = some ⟨oc5, od5, .func (PySem.W.fnOf "needed_spans" "needed_spans" (defArgs sNS) (defBody sNS) (defScope sNS) .none kV5 dc5 pm5 an5 cd5 ct5), sl5⟩) (c5 : PySem.W.codeIn K cd5 "needed_spans" = true) (k5 : PySem.W.keepIn K (.ref f5) = true)
    (a6 : PySem.W.nsIn K mainGlobals "rows_of_spans" = some (some (.ref f6))) (l6 : K.lookup f6 = some ⟨oc6, od6, .func (PySem.W.fnOf "rows_of_spans" "rows_of_spans" (defArgs sRS) (defBody sRS) (defScope sRS) .none kV6 dc6 pm6 an6 cd6 ct6), sl6⟩) (c6 : PySem.W.codeIn K cd6 "rows_of_spans" = true) (k6 : PySem.W.keepIn K (.ref f6) = true)
    (a7 : PySem.W.nsIn K mainGlobals "future_rows" = some (some (.ref f7))) (l7 : K.lookup f7 = some ⟨oc7, od7, .func (PySem.W.fnOf "future_rows" "future_rows" (defArgs sFR) (defBody sFR) (defScope sFR) .none kV7 dc7 pm7 an7 cd7 ct7), sl7⟩) (c7 : PySem.W.codeIn K cd7 "future_rows" = true) (k7 : PySem.W.keepIn K (.ref f7) = true)
    (a8 : PySem.W.nsIn K mainGlobals "needed_rows" = some (some (.ref f8))) (l8 : K.lookup f8 = some ⟨oc8, od8, .func (PySem.W.fnOf "needed_rows" "needed_rows" (defArgs sNR) (defBody sNR) (defScope sNR) .none kV8 dc8 pm8 an8 cd8 ct8), sl8⟩) (c8 : PySem.W.codeIn K cd8 "needed_rows" = true) (k8 : PySem.W.keepIn K (.ref f8) = true)
    (a9 : PySem.W.nsIn K mainGlobals "_law_feed" = some (some (.ref f9))) (l9 : K.lookup f9 = some ⟨oc9, od9, .func (PySem.W.fnOf "_law_feed" "_law_feed" (defArgs sFeed) (defBody sFeed) (defScope sFeed) .none kV9 dc9 pm9 an9 cd9 ct9), sl9⟩) (c9 : PySem.W.codeIn K cd9 "_law_feed" = true) (k9 : PySem.W.keepIn K (.ref f9) = true)
    (a10 : PySem.W.nsIn K mainGlobals "_law_draw" = some (some (.ref f10))) (l10 : K.lookup f10 = some ⟨oc10, od10, .func (PySem.W.fnOf "_law_draw" "_law_draw" (defArgs sDraw) (defBody sDraw) (defScope sDraw) .none kV10 dc10 pm10 an10 cd10 ct10), sl10⟩) (c10 : PySem.W.codeIn K cd10 "_law_draw" = true) (k10 : PySem.W.keepIn K (.ref f10) = true)
    (a11 : PySem.W.nsIn K mainGlobals "_law_any" = some (some (.ref f11))) (l11 : K.lookup f11 = some ⟨oc11, od11, .func (PySem.W.fnOf "_law_any" "_law_any" (defArgs sAny) (defBody sAny) (defScope sAny) .none kV11 dc11 pm11 an11 cd11 ct11), sl11⟩) (c11 : PySem.W.codeIn K cd11 "_law_any" = true) (k11 : PySem.W.keepIn K (.ref f11) = true)
    (a12 : PySem.W.nsIn K mainGlobals "_law_days_of" = some (some (.ref f12))) (l12 : K.lookup f12 = some ⟨oc12, od12, .func (PySem.W.fnOf "_law_days_of" "_law_days_of" (defArgs sDays) (defBody sDays) (defScope sDays) .none kV12 dc12 pm12 an12 cd12 ct12), sl12⟩) (c12 : PySem.W.codeIn K cd12 "_law_days_of" = true) (k12 : PySem.W.keepIn K (.ref f12) = true)
    (a13 : PySem.W.nsIn K mainGlobals "_law_question" = some (some (.ref f13))) (l13 : K.lookup f13 = some ⟨oc13, od13, .func (PySem.W.fnOf "_law_question" "_law_question" (defArgs sLQ) (defBody sLQ) (defScope sLQ) .none kV13 dc13 pm13 an13 cd13 ct13), sl13⟩) (c13 : PySem.W.codeIn K cd13 "_law_question" = true) (k13 : PySem.W.keepIn K (.ref f13) = true)
    (a14 : PySem.W.nsIn K mainGlobals "_law_cut" = some (some (.ref f14))) (l14 : K.lookup f14 = some ⟨oc14, od14, .func (PySem.W.fnOf "_law_cut" "_law_cut" (defArgs sCut) (defBody sCut) (defScope sCut) .none kV14 dc14 pm14 an14 cd14 ct14), sl14⟩) (c14 : PySem.W.codeIn K cd14 "_law_cut" = true) (k14 : PySem.W.keepIn K (.ref f14) = true)
    (a15 : PySem.W.nsIn K mainGlobals "_law_later_rows" = some (some (.ref f15))) (l15 : K.lookup f15 = some ⟨oc15, od15, .func (PySem.W.fnOf "_law_later_rows" "_law_later_rows" (defArgs sLat) (defBody sLat) (defScope sLat) .none kV15 dc15 pm15 an15 cd15 ct15), sl15⟩) (c15 : PySem.W.codeIn K cd15 "_law_later_rows" = true) (k15 : PySem.W.keepIn K (.ref f15) = true)
    (a16 : PySem.W.nsIn K mainGlobals "_law_needed" = some (some (.ref f16))) (l16 : K.lookup f16 = some ⟨oc16, od16, .func (PySem.W.fnOf "_law_needed" "_law_needed" (defArgs sNeed) (defBody sNeed) (defScope sNeed) .none kV16 dc16 pm16 an16 cd16 ct16), sl16⟩) (c16 : PySem.W.codeIn K cd16 "_law_needed" = true) (k16 : PySem.W.keepIn K (.ref f16) = true)
    (a17 : PySem.W.nsIn K mainGlobals "_law_some_weights" = some (some (.ref f17))) (l17 : K.lookup f17 = some ⟨oc17, od17, .func (PySem.W.fnOf "_law_some_weights" "_law_some_weights" (defArgs sWs) (defBody sWs) (defScope sWs) .none kV17 dc17 pm17 an17 cd17 ct17), sl17⟩) (c17 : PySem.W.codeIn K cd17 "_law_some_weights" = true) (k17 : PySem.W.keepIn K (.ref f17) = true)
    (a18 : PySem.W.nsIn K mainGlobals "_law_some_right" = some (some (.ref f18))) (l18 : K.lookup f18 = some ⟨oc18, od18, .func (PySem.W.fnOf "_law_some_right" "_law_some_right" (defArgs sRt) (defBody sRt) (defScope sRt) .none kV18 dc18 pm18 an18 cd18 ct18), sl18⟩) (c18 : PySem.W.codeIn K cd18 "_law_some_right" = true) (k18 : PySem.W.keepIn K (.ref f18) = true)
    (a19 : PySem.W.nsIn K mainGlobals "_law_accounts" = some (some (.ref f19))) (l19 : K.lookup f19 = some ⟨oc19, od19, .func (PySem.W.fnOf "_law_accounts" "_law_accounts" (defArgs sAcc) (defBody sAcc) (defScope sAcc) .none kV19 dc19 pm19 an19 cd19 ct19), sl19⟩) (c19 : PySem.W.codeIn K cd19 "_law_accounts" = true) (k19 : PySem.W.keepIn K (.ref f19) = true)
    (a20 : PySem.W.nsIn K mainGlobals "_law_long_rights" = some (some (.ref f20))) (l20 : K.lookup f20 = some ⟨oc20, od20, .func (PySem.W.fnOf "_law_long_rights" "_law_long_rights" (defArgs sLong) (defBody sLong) (defScope sLong) .none kV20 dc20 pm20 an20 cd20 ct20), sl20⟩) (c20 : PySem.W.codeIn K cd20 "_law_long_rights" = true) (k20 : PySem.W.keepIn K (.ref f20) = true)
    (a21 : PySem.W.nsIn K mainGlobals "_law_by_hand" = some (some (.ref f21))) (l21 : K.lookup f21 = some ⟨oc21, od21, .func (PySem.W.fnOf "_law_by_hand" "_law_by_hand" (defArgs sBH) (defBody sBH) (defScope sBH) .none kV21 dc21 pm21 an21 cd21 ct21), sl21⟩) (c21 : PySem.W.codeIn K cd21 "_law_by_hand" = true) (k21 : PySem.W.keepIn K (.ref f21) = true)
    (a22 : PySem.W.nsIn K mainGlobals "law" = some (some (.ref f22))) (l22 : K.lookup f22 = some ⟨oc22, od22, .func (PySem.W.fnOf "law" "law" (defArgs sLaw) (defBody sLaw) (defScope sLaw) .none kV22 dc22 pm22 an22 cd22 ct22), sl22⟩) (c22 : PySem.W.codeIn K cd22 "law" = true) (k22 : PySem.W.keepIn K (.ref f22) = true)
    (z1 : PySem.W.nsIn K mainGlobals "sorted" = some none)
    (z2 : PySem.W.nsIn K mainGlobals "tuple" = some none)
    (z3 : PySem.W.nsIn K mainGlobals "list" = some none)
    (z4 : PySem.W.nsIn K mainGlobals "len" = some none)
    (z5 : PySem.W.nsIn K mainGlobals "range" = some none)
    (z6 : PySem.W.nsIn K mainGlobals "int" = some none)
    (z7 : PySem.W.nsIn K mainGlobals "repr" = some none)
    (z8 : PySem.W.nsIn K mainGlobals "max" = some none)
    (z9 : PySem.W.nsIn K mainGlobals "min" = some none)
    (z10 : PySem.W.nsIn K mainGlobals "dict" = some none) :
    ∃ fd : FuncData, (∀ (s : Shared) (v : Value), BindsTo s fd ⟨[v], []⟩ [("_law_script", v)]) ∧ ∀ base : Heap, K.In base → base.Ns mainGlobals mg → FnG l.prog w K mg base 6 fa fd ["_law_script"] (prLaw K) := by
  have e := hfa.symm.trans (PySem.W.mg_of X G a22)
  cases e
  have F1 := fun_mk (st := sUsed) l1 c1 k1
  have b1 := F1.binds (ps := ["right", "day"]) fun _ _ _ _ _ _ us hl => match us, hl with | [_, _], _ => rfl
  have g1 := PySem.W.mg_of X G a1
  have F2 := fun_mk (st := sAsked) l2 c2 k2
  have b2 := F2.binds (ps := ["right", "day"]) fun _ _ _ _ _ _ us hl => match us, hl with | [_, _], _ => rfl
  have g2 := PySem.W.mg_of X G a2
  have F3 := fun_mk (st := sOnDays) l3 c3 k3
  have b3 := F3.binds (ps := ["right", "low", "high"]) fun _ _ _ _ _ _ us hl => match us, hl with | [_, _, _], _ => rfl
  have g3 := PySem.W.mg_of X G a3
  have F4 := fun_mk (st := sFS) l4 c4 k4
  have b4 := F4.binds (ps := ["right", "day"]) fun _ _ _ _ _ _ us hl => match us, hl with | [_, _], _ => rfl
  have g4 := PySem.W.mg_of X G a4
  have F5 := fun_mk (st := sNS) l5 c5 k5
  have b5 := F5.binds (ps := ["right", "day"]) fun _ _ _ _ _ _ us hl => match us, hl with | [_, _], _ => rfl
  have g5 := PySem.W.mg_of X G a5
  have F6 := fun_mk (st := sRS) l6 c6 k6
  have b6 := F6.binds (ps := ["right", "spans"]) fun _ _ _ _ _ _ us hl => match us, hl with | [_, _], _ => rfl
  have g6 := PySem.W.mg_of X G a6
  have F7 := fun_mk (st := sFR) l7 c7 k7
  have b7 := F7.binds (ps := ["rights", "day"]) fun _ _ _ _ _ _ us hl => match us, hl with | [_, _], _ => rfl
  have g7 := PySem.W.mg_of X G a7
  have F8 := fun_mk (st := sNR) l8 c8 k8
  have b8 := F8.binds (ps := ["rights", "day"]) fun _ _ _ _ _ _ us hl => match us, hl with | [_, _], _ => rfl
  have g8 := PySem.W.mg_of X G a8
  have F9 := fun_mk (st := sFeed) l9 c9 k9
  have b9 := F9.binds (ps := ["_law_script"]) fun _ _ _ _ _ _ us hl => match us, hl with | [_], _ => rfl
  have g9 := PySem.W.mg_of X G a9
  have F10 := fun_mk (st := sDraw) l10 c10 k10
  have b10 := F10.binds (ps := ["_law_feed_here", "_law_many"]) fun _ _ _ _ _ _ us hl => match us, hl with | [_, _], _ => rfl
  have g10 := PySem.W.mg_of X G a10
  have F11 := fun_mk (st := sAny) l11 c11 k11
  have b11 := F11.binds (ps := ["_law_feed_here", "_law_some"]) fun _ _ _ _ _ _ us hl => match us, hl with | [_, _], _ => rfl
  have g11 := PySem.W.mg_of X G a11
  have F12 := fun_mk (st := sDays) l12 c12 k12
  have b12 := F12.binds (ps := ["_law_right", "_law_day_nows"]) fun _ _ _ _ _ _ us hl => match us, hl with | [_, _], _ => rfl
  have g12 := PySem.W.mg_of X G a12
  have F13 := fun_mk (st := sLQ) l13 c13 k13
  have b13 := F13.binds (ps := ["_law_right", "_law_day_nows"]) fun _ _ _ _ _ _ us hl => match us, hl with | [_, _], _ => rfl
  have g13 := PySem.W.mg_of X G a13
  have F14 := fun_mk (st := sCut) l14 c14 k14
  have b14 := F14.binds (ps := ["_law_row", "_law_day_nows"]) fun _ _ _ _ _ _ us hl => match us, hl with | [_, _], _ => rfl
  have g14 := PySem.W.mg_of X G a14
  have F15 := fun_mk (st := sLat) l15 c15 k15
  have b15 := F15.binds (ps := ["_law_rights_nows", "_law_day_nows"]) fun _ _ _ _ _ _ us hl => match us, hl with | [_, _], _ => rfl
  have g15 := PySem.W.mg_of X G a15
  have F16 := fun_mk (st := sNeed) l16 c16 k16
  have b16 := F16.binds (ps := ["_law_rights_nows", "_law_day_nows"]) fun _ _ _ _ _ _ us hl => match us, hl with | [_, _], _ => rfl
  have g16 := PySem.W.mg_of X G a16
  have F17 := fun_mk (st := sWs) l17 c17 k17
  have b17 := F17.binds (ps := ["_law_feed_here", "_law_accounts_here"]) fun _ _ _ _ _ _ us hl => match us, hl with | [_, _], _ => rfl
  have g17 := PySem.W.mg_of X G a17
  have F18 := fun_mk (st := sRt) l18 c18 k18
  have b18 := F18.binds (ps := ["_law_feed_here", "_law_accounts_here", "_law_day_nows"]) fun _ _ _ _ _ _ us hl => match us, hl with | [_, _, _], _ => rfl
  have g18 := PySem.W.mg_of X G a18
  have F19 := fun_mk (st := sAcc) l19 c19 k19
  have b19 := F19.binds (ps := ["_law_feed_here"]) fun _ _ _ _ _ _ us hl => match us, hl with | [_], _ => rfl
  have g19 := PySem.W.mg_of X G a19
  have F20 := fun_mk (st := sLong) l20 c20 k20
  have b20 := F20.binds (ps := []) fun _ _ _ _ _ _ us hl => match us, hl with | [], _ => rfl
  have g20 := PySem.W.mg_of X G a20
  have F21 := fun_mk (st := sBH) l21 c21 k21
  have b21 := F21.binds (ps := []) fun _ _ _ _ _ _ us hl => match us, hl with | [], _ => rfl
  have g21 := PySem.W.mg_of X G a21
  have F22 := fun_mk (st := sLaw) l22 c22 k22
  have m1 := PySem.W.mg_none_of X G z1
  have m2 := PySem.W.mg_none_of X G z2
  have m3 := PySem.W.mg_none_of X G z3
  have m4 := PySem.W.mg_none_of X G z4
  have m5 := PySem.W.mg_none_of X G z5
  have m6 := PySem.W.mg_none_of X G z6
  have m7 := PySem.W.mg_none_of X G z7
  have m8 := PySem.W.mg_none_of X G z8
  have m9 := PySem.W.mg_none_of X G z9
  have m10 := PySem.W.mg_none_of X G z10
  refine ⟨PySem.W.fnOf "law" "law" (defArgs sLaw) (defBody sLaw) (defScope sLaw) .none kV22 dc22 pm22 an22 cd22 ct22, fun s v => .of_eq rfl, fun base _ _ => ?_⟩
  have GFS : FnG l.prog w K mg base 2 f4 _ ["right", "day"] (prSpans futS) := ok_fs (k := 0) F4 F2 b2 g2 m8 m9
  have GNS : FnG l.prog w K mg base 3 f5 _ ["right", "day"] (prSpans needS) := ok_ns (k := 0) F5 F4 b4 g4 F1 b1 g1 F2 b2 g2 m8 m9
  have GRS : FnG l.prog w K mg base 2 f6 _ ["right", "spans"] prRS := ok_rs (k := 0) F6 F3 b3 g3 m2 m5 m9
  have GFR : FnG l.prog w K mg base 4 f7 _ ["rights", "day"] (prRows futR) := ok_fr (k := 0) F7 F4 b4 g4 (GFS.mono (by decide)) F6 b6 g6 (GRS.mono (by decide)) m2 m1
  have GNR : FnG l.prog w K mg base 4 f8 _ ["rights", "day"] (prRows needR) := ok_nr (k := 0) F8 F5 b5 g5 GNS F6 b6 g6 (GRS.mono (by decide)) m2 m1
  have GF : FnG l.prog w K mg base 1 f9 _ ["_law_script"] (prFeed K) := ok_feed (k := 0) F9 m3
  have GD : FnG l.prog w K mg base 1 f10 _ ["_law_feed_here", "_law_many"] prDraw := ok_draw (k := 0) F10 m4
  have GLQ : FnG l.prog w K mg base 2 f13 _ ["_law_right", "_law_day_nows"] prLQ := ok_lq (k := 0) F13 F12 b12 g12 m8 m9 m3 m5 m2 m1
  have GC : FnG l.prog w K mg base 1 f14 _ ["_law_row", "_law_day_nows"] prCut := ok_cut (k := 0) F14 m2
  have GL : FnG l.prog w K mg base 3 f15 _ ["_law_rights_nows", "_law_day_nows"] prLat := ok_lat (k := 0) F15 F14 b14 g14 (GC.mono (by decide)) F13 b13 g13 GLQ m2 m1 m5 m8
  have GN : FnG l.prog w K mg base 4 f16 _ ["_law_rights_nows", "_law_day_nows"] (prRows needR) := ok_need (k := 0) F16 F15 b15 g15 GL F13 b13 g13 (GLQ.mono (by decide)) m2 m1 m10
  have GT : FnG l.prog w K mg base 4 f18 _ ["_law_feed_here", "_law_accounts_here", "_law_day_nows"] prRt := ok_rt (k := 0) F18 F10 b10 g10 F11 b11 g11 F17 b17 g17 m4 m2 m6 m8 m9
  have GA : FnG l.prog w K mg base 2 f19 _ ["_law_feed_here"] prAcc := ok_acc (k := 0) F19 F10 b10 g10 m4
  have GG : FnG l.prog w K mg base 1 f20 _ [] (prData longD) := ok_long (k := 0) F20
  have GB : FnG l.prog w K mg base 5 f21 _ [] prBH := ok_bh (k := 0) F21 F7 b7 g7 GFR F8 b8 g8 GNR m7
  have GLw : FnG l.prog w K mg base 3 f15 _ ["_law_rights_nows", "_law_day_nows"] (prRows futR) := weak GL lat_weak
  exact ok_law (k := 0) F22 F9 b9 g9 (GF.mono (by decide)) F21 b21 g21 GB F20 b20 g20 (GG.mono (by decide)) F15 b15 g15 (GLw.mono (by decide)) F16 b16 g16 (GN.mono (by decide)) F7 b7 g7 (GFR.mono (by decide)) F8 b8 g8 (GNR.mono (by decide)) F19 b19 g19 (GA.mono (by decide)) F10 b10 g10 (GD.mono (by decide)) F18 b18 g18 (GT.mono (by decide)) m2 m5 m7
end P20
open PySem PySem.W PyProof.Rows
set_option maxHeartbeats 0 in
theorem PySem.Challenge.cw_askrights_k20_rows_needed_told_holds : PySem.Challenge.rw_askrights_k20_rows_needed_told.Holds := by
  w_on; o_law; k_head; (case hw => w_witness2)
  k_fill
  refine AskG.walkG (l := PySem.Challenge.rw_askrights_k20_rows_needed_told) (n := 63) (k := 6) (x := "_law_script") (pr := P20.prLaw) rfl (by decide) rfl ⟨⟨rfl, by decide, by decide⟩, rfl⟩ (fun w h Y => PySem.W.kIn_of Y) ?F (fun _ _ a ns _ hS => ⟨a, ns, rfl, hS, fun _ => rfl⟩)
  case F =>
    intro w mg fa h KX G hmg
    refine' P20.all_mk KX G hmg ?a1 ?l1 ?c1 ?k1 ?a2 ?l2 ?c2 ?k2 ?a3 ?l3 ?c3 ?k3 ?a4 ?l4 ?c4 ?k4 ?a5 ?l5 ?c5 ?k5 ?a6 ?l6 ?c6 ?k6 ?a7 ?l7 ?c7 ?k7 ?a8 ?l8 ?c8 ?k8 ?a9 ?l9 ?c9 ?k9 ?a10 ?l10 ?c10 ?k10 ?a11 ?l11 ?c11 ?k11 ?a12 ?l12 ?c12 ?k12 ?a13 ?l13 ?c13 ?k13 ?a14 ?l14 ?c14 ?k14 ?a15 ?l15 ?c15 ?k15 ?a16 ?l16 ?c16 ?k16 ?a17 ?l17 ?c17 ?k17 ?a18 ?l18 ?c18 ?k18 ?a19 ?l19 ?c19 ?k19 ?a20 ?l20 ?c20 ?k20 ?a21 ?l21 ?c21 ?k21 ?a22 ?l22 ?c22 ?k22 ?z1 ?z2 ?z3 ?z4 ?z5 ?z6 ?z7 ?z8 ?z9 ?z10
    (case a1 => k_is)
    (case l1 => k_is)
    (case c1 => k_is)
    (case k1 => k_is)
    (case a2 => k_is)
    (case l2 => k_is)
    (case c2 => k_is)
    (case k2 => k_is)
    (case a3 => k_is)
    (case l3 => k_is)
    (case c3 => k_is)
    (case k3 => k_is)
    (case a4 => k_is)
    (case l4 => k_is)
    (case c4 => k_is)
    (case k4 => k_is)
    (case a5 => k_is)
    (case l5 => k_is)
    (case c5 => k_is)
    (case k5 => k_is)
    (case a6 => k_is)
    (case l6 => k_is)
    (case c6 => k_is)
    (case k6 => k_is)
    (case a7 => k_is)
    (case l7 => k_is)
    (case c7 => k_is)
    (case k7 => k_is)
    (case a8 => k_is)
    (case l8 => k_is)
    (case c8 => k_is)
    (case k8 => k_is)
    (case a9 => k_is)
    (case l9 => k_is)
    (case c9 => k_is)
    (case k9 => k_is)
    (case a10 => k_is)
    (case l10 => k_is)
    (case c10 => k_is)
    (case k10 => k_is)
    (case a11 => k_is)
    (case l11 => k_is)
    (case c11 => k_is)
    (case k11 => k_is)
    (case a12 => k_is)
    (case l12 => k_is)
    (case c12 => k_is)
    (case k12 => k_is)
    (case a13 => k_is)
    (case l13 => k_is)
    (case c13 => k_is)
    (case k13 => k_is)
    (case a14 => k_is)
    (case l14 => k_is)
    (case c14 => k_is)
    (case k14 => k_is)
    (case a15 => k_is)
    (case l15 => k_is)
    (case c15 => k_is)
    (case k15 => k_is)
    (case a16 => k_is)
    (case l16 => k_is)
    (case c16 => k_is)
    (case k16 => k_is)
    (case a17 => k_is)
    (case l17 => k_is)
    (case c17 => k_is)
    (case k17 => k_is)
    (case a18 => k_is)
    (case l18 => k_is)
    (case c18 => k_is)
    (case k18 => k_is)
    (case a19 => k_is)
    (case l19 => k_is)
    (case c19 => k_is)
    (case k19 => k_is)
    (case a20 => k_is)
    (case l20 => k_is)
    (case c20 => k_is)
    (case k20 => k_is)
    (case a21 => k_is)
    (case l21 => k_is)
    (case c21 => k_is)
    (case k21 => k_is)
    (case a22 => k_is)
    (case l22 => k_is)
    (case c22 => k_is)
    (case k22 => k_is)
    (case z1 => k_is)
    (case z2 => k_is)
    (case z3 => k_is)
    (case z4 => k_is)
    (case z5 => k_is)
    (case z6 => k_is)
    (case z7 => k_is)
    (case z8 => k_is)
    (case z9 => k_is)
    (case z10 => k_is)
