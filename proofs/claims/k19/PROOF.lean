import PyProof.Rows.All
import Wide.All
import OpenK.AllK
import Wide.FinOn
import HandS.Words
import HandS.List
import PyProof.Rows.ReprR
import HandS.SortRule
import HandS.Conv
import KE.KDictPairs
import HandS.More
import HandS.DictComp
import HandS.Defaults
import PyProof.ReprLen
import PyProof.FitsInt
import HandS.TupLe
import HandS.IsInst
import HandS.Walk
import HandS.Style
import HandS.TupAny
import PyProof.Rows.IntBool
import PyProof.Rows.EqBoolInt
import PyProof.CallStr
import HandS.Text
import HandS.TupMul
import HandS.Comp
import HandS.NoneIn
import PyProof.NeKinds
import HandS.Ends
import HandS.ForMost
import PySem.Challenge.RW_askrights_k19_questions_told
set_option Elab.async false
set_option linter.all false
set_option maxRecDepth 100000
set_option maxHeartbeats 8000000
/-! Defs that are only called while nothing is being shown: calls whose surroundings hold no guard, so that repr gives the plain text. -/
namespace AskG
open PySem PySem.Spec PyProof.Rows L2

/-- what a def promises, nothing being raised -/
abbrev Pr := List V → Hp → VK → Prop

/-- room for k calls, and no guard around -/
structure RG (k : Nat) (A : Around) : Prop where
  room : Room k A
  still : A.guards = some []
theorem RG.mono {j k : Nat} {A : Around} (r : RG k A) (h : j ≤ k) : RG j A :=
  ⟨r.room.mono h, r.still⟩
theorem RG.deeper {k : Nat} {A : Around} (r : RG (k + 1) A) (env : Env) : RG k (A.deeper env) :=
  ⟨r.room.deeper env, r.still⟩

section
variable (P : Program) (w : World) (K : PySem.W.Frag) (mg : Str → Option Value) (base : Heap)
structure FnG (k : Nat) (f : Addr) (fd : FuncData) (ps : List Str) (pr : Pr) : Prop where
  many : ∀ vs H Q, pr vs H Q → vs.length = ps.length
  goes : ∀ (A : Around) (outer : List Env) (s : Shared) (H : Hp) (args : Args)
    (us : List Value) (vs : List V) (Q : VK), RG k A → Env0 P w K mg base A outer s H →
    BindsTo s fd args (ps.zip us) → Vals vs us → pr vs H Q →
    codeAny (model P w) A (.call (.ref f) args) (CR CX0 outer P w H s Q E0) s
end

section
variable {P : Program} {w : World} {K : PySem.W.Frag} {mg : Str → Option Value} {base : Heap}
theorem FnG.mono {j k : Nat} {f : Addr} {fd : FuncData} {ps : List Str} {pr : Pr}
    (F : FnG P w K mg base j f fd ps pr) (h : j ≤ k) : FnG P w K mg base k f fd ps pr :=
  ⟨F.many, fun A outer s H args us vs Q hr => F.goes A outer s H args us vs Q (hr.mono h)⟩

/-- a def of the text, by its body -/
theorem fnG_of {k : Nat} {f : Addr} {name qual : Str} {params : Arguments} {body : List Stmt}
    {scope : Scope} {dV kV doc pm cdv ct oc : Value} {an od : Option Addr}
    {osl : Array (Option Value)} {N ps : List Str} {pr : Pr}
    (at_f : K.lookup f = some ⟨oc, od, .func (PySem.W.fnOf name qual params body scope dV kV doc pm an cdv ct), osl⟩)
    (code : PySem.W.codeIn K cdv qual = true) (S : FnScope N ps scope)
    (many : ∀ vs H Q, pr vs H Q → vs.length = ps.length)
    (body_ok : ∀ (A : Around) (outer : List Env) (s : Shared) (H : Hp) (vs : List V) (Q : VK),
      RG k (A.deeper (envOfC qual scope s.heap.objs.size f cdv)) → pr vs H Q →
      ∃ t, PSs (cxOf CX0 P w K mg base N qual scope f cdv A outer s H E0).nox body t ∧
        t { nx := fun _ H' => Q .non H', rt := Q } (start N vs) H) :
    FnG P w K mg base (k + 1) f
      (PySem.W.fnOf name qual params body scope dV kV doc pm an cdv ct) ps pr := by
  constructor
  · exact many
  intro A outer s H args us vs Q hr e0 hb hv hp
  have hl := many _ _ _ hp
  have inK : K.In s.heap := e0.mod.kin.keeps fun b o q => (e0.bs b o q).1
  have nl : s.heap.NoLimit := e0.mod.nolimit.keeps fun b o q => (e0.bs b o q).1
  have kinds : ∀ y ∈ ps.zip us, scope.names.lookup y.1 = some .local ∨
      (scope.names.lookup y.1 = some .cell ∧
        ((cellsFrom (s.heap.objs.size + 1) scope.names []).lookup y.1).isSome = true) := by
    rintro ⟨n, v⟩ hy
    cases S.par n (List.of_mem_zip hy).1 with
    | inl q => exact Or.inl q
    | inr q => exact Or.inr ⟨q, PySem.W.cellsFrom_some _ _ _ (Or.inl q)⟩
  refine codeAny_call_function hr.room.depth (inK _ _ at_f) rfl S.co S.gen rfl
    (PySem.W.codeRec_of inK code) (hb _ _ _ _ ?_)
  refine wpAny_newFunctionEnv_cells S.kind kinds fun env he s1 x => ?_
  subst he
  refine ⟨nl.keeps x.toInCall.keep, codeAny_func ?_⟩
  obtain ⟨t, ht, hq⟩ := body_ok A outer s H vs Q (hr.deeper _) hp
  have I : Inv (cxOf CX0 P w K mg base N qual scope f cdv A outer s H E0) [] (start N vs) H s1 :=
    inv_start S hr.room.hd e0 hl hv x
  refine wpAny_mono (ht.nox.run [] s1 (start N vs) H _ I hq) (fun fl s' hs => ?_)
    fun e s' hs => hs
  cases fl with
  | ret u =>
    obtain ⟨v, σ', H', J, rv, q⟩ := hs
    exact ⟨v, H', J.os, J.bare, J.base, J.hok, rv, q⟩
  | next =>
    obtain ⟨σ', H', J, q⟩ := hs
    exact ⟨V.non, H', J.os, J.bare, J.base, J.hok, rfl, q⟩
  | brk => exact hs.elim fun _ z => z.elim fun _ z => False.elim z.2
  | cont => exact hs.elim fun _ z => z.elim fun _ z => False.elim z.2

theorem okG {x qual : Str} {st : Stmt} {f : Addr} {fd : FuncData} {N ps : List Str} {k : Nat} {pr : Pr}
    (F : Fun K x qual st f fd) (S : FnScope N ps (defScope st))
    (many : ∀ vs H Q, pr vs H Q → vs.length = ps.length)
    (body_ok : ∀ (cdv : Value) (A : Around) (outer : List Env) (s : Shared) (H : Hp) (vs : List V) (Q : VK),
      RG k (A.deeper (envOfC qual (defScope st) s.heap.objs.size f cdv)) → pr vs H Q →
      ∃ t, PSs (cxOf CX0 P w K mg base N qual (defScope st) f cdv A outer s H E0).nox (defBody st) t ∧
        t { nx := fun _ H' => Q .non H', rt := Q } (start N vs) H) :
    FnG P w K mg base (k + 1) f fd ps pr := by
  obtain ⟨oc, od, kV, doc, pm, an, cdv, ct, osl, rfl, lk, hcd⟩ := F.ex
  exact fnG_of lk hcd S many fun A outer s H vs Q hr hp => body_ok cdv A outer s H vs Q hr hp
end

/-! ### calls -/
/-- f(..): the written arguments, then the defaults -/
def tCallG (pr : Pr) (dvs : List V) (t : TA) : TE := fun σ H Q => t σ H fun vs H1 => pr (vs ++ dvs) H1 Q
/-- f(.., k = ..) -/
def tCallKG (pr : Pr) (gV : List V → List V → List V) (t tk : TA) : TE := fun σ H Q =>
  t σ H fun vs H1 => tk σ H1 fun zs H2 => pr (gV vs zs) H2 Q

section
variable {X : Cx} {k : Nat} {f : Addr} {fd : FuncData} {ps : List Str} {pr : Pr}
theorem goG {pins : List (Addr × Obj)} {σ : L2.St} {H : Hp} {s : Shared} {Q : VK} {args : Args}
    {us : List Value} {vs : List V} (F : FnG X.prog X.w X.K X.mg X.base k f fd ps pr)
    (hr : RG k X.A) (I : Inv X pins σ H s) (hb : BindsTo s fd args (ps.zip us)) (r : Vals vs us)
    (h : pr vs H Q) : wpAny (model X.prog X.w) X.A (call (.ref f) args.pos args.kw) (EP X pins σ Q) X.xe s := by
  refine wpAny_call (codeAny_mono (F.goes X.A X.stack s H args us vs Q hr I.env0 hb r h)
    fun r s' hq => ?_)
  match r, hq with
  | .error e, hq => exact hq.elim
  | .ok (.ret u), hq => exact I.after hq
  | .ok .next, hq => exact hq.elim
  | .ok .brk, hq => exact hq.elim
  | .ok .cont, hq => exact hq.elim
end
section
variable {X : Cx} {k : Nat} {f : Addr} {fd : FuncData} {ps : List Str} {pr : Pr} {dvs : List V} {ds : List Value}
  {x : Str} {p pos : Pos} {e : Expr} {es : List Expr} {t : TA}
theorem goP {pins : List (Addr × Obj)} {σ : L2.St} {H : Hp} {s : Shared} {Q : VK} {us : List Value} {vs : List V}
    (F : FnG X.prog X.w X.K X.mg X.base k f fd ps pr) (hr : RG k X.A) (hb : Binds X.K fd ps ds) (hd : Vals dvs ds)
    (I : Inv X pins σ H s) (r : Vals vs us) (h : pr (vs ++ dvs) H Q) :
    wpAny (model X.prog X.w) X.A (call (.ref f) us) (EP X pins σ Q) X.xe s := by
  have r2 : Vals (vs ++ dvs) (us ++ ds) := r.append hd
  have hl : (us ++ ds).length = ps.length := r2.length.symm.trans (F.many _ _ _ h)
  exact goG (args := ⟨us, []⟩) F hr I (hb s us I.kIn hl) r2 h

/-- f(e, ..) -/
theorem pe_g (F : FnG X.prog X.w X.K X.mg X.base k f fd ps pr) (hr : RG k X.A) (hg : Gl X x)
    (hm : X.mg x = some (.ref f)) (hk : PySem.W.keepIn X.K (.ref f) = true) (hb : Binds X.K fd ps ds) (hd : Vals dvs ds)
    (ha : PA X (e :: es) t) (hdb : (x == ("__debug__" : Str)) = false := by decide)
    (he : starEach (e :: es) X.env = (false, eval e X.env) :: starEach es X.env := by rfl)
    (hpl : (backTo pos (starEach es X.env)).any (·.1) = false := by rfl) :
    PE X (.Call (.Name x p) (e :: es) [] pos) (tCallG pr dvs t) := by
  constructor
  intro pins s σ H Q I h
  refine wpAny_Call_Name_kw (ld_glob I hg hm ?_ hdb)
  refine PySem.W.callWith_K (h₀ := X.base) I.ok.mod.kin hk (thn (ha.run pos pins s σ H _ I h) ?_) he hpl
  rintro us s1 ⟨vs, H1, I1, r, q⟩
  exact ⟨I1.kIn, goP F hr hb hd I1 r q⟩
/-- f() -/
theorem pe_g0 (F : FnG X.prog X.w X.K X.mg X.base k f fd ps pr) (hr : RG k X.A) (hg : Gl X x)
    (hm : X.mg x = some (.ref f)) (hk : PySem.W.keepIn X.K (.ref f) = true) (hb : Binds X.K fd ps ds) (hd : Vals dvs ds)
    (hdb : (x == ("__debug__" : Str)) = false := by decide) : PE X (.Call (.Name x p) [] [] pos) (tCallG pr dvs tNil) := by
  constructor
  intro pins s σ H Q I h
  refine wpAny_Call_Name_kw (ld_glob I hg hm ?_ hdb)
  exact PySem.W.callWith_K0 I.kIn hk (goP (us := []) F hr hb hd I .nil h)
variable {ks : List Str} {g : List Value → List Value → List Value} {gV : List V → List V → List V} {kws : List Keyword} {tk : TA}
theorem goK {pins : List (Addr × Obj)} {σ : L2.St} {H : Hp} {s : Shared} {Q : VK} {us ws : List Value} {vs zs : List V}
    (F : FnG X.prog X.w X.K X.mg X.base k f fd ps pr) (hr : RG k X.A) (hb : KBinds X.K fd ps ks g gV)
    (I : Inv X pins σ H s) (r : Vals vs us) (rz : Vals zs ws) (h : pr (gV vs zs) H Q) :
    wpAny (model X.prog X.w) X.A (call (.ref f) us (ks.zip ws)) (EP X pins σ Q) X.xe s := by
  have r2 := hb.rel r rz
  have hl : (g us ws).length = ps.length := r2.length.symm.trans (F.many _ _ _ h)
  exact goG (args := ⟨us, ks.zip ws⟩) F hr I (hb.to s us ws I.kIn hl) r2 h
/-- f(e, .., k = v, ..) -/
theorem pe_gk (F : FnG X.prog X.w X.K X.mg X.base k f fd ps pr) (hr : RG k X.A) (hg : Gl X x)
    (hm : X.mg x = some (.ref f)) (hk : PySem.W.keepIn X.K (.ref f) = true) (hb : KBinds X.K fd ps ks g gV)
    (ha : PA X (e :: es) t) (hkw : PK X kws tk)
    (hall : (backToKw pos (keywordEach kws X.env)).all (·.1.isSome) = true := by rfl)
    (hks : (backToKw pos (keywordEach kws X.env)).filterMap (·.1) = ks := by rfl)
    (hdb : (x == ("__debug__" : Str)) = false := by decide)
    (he : starEach (e :: es) X.env = (false, eval e X.env) :: starEach es X.env := by rfl)
    (hpl : ((backTo pos (starEach (e :: es) X.env)).any (·.1) || (backToKw pos (keywordEach kws X.env)).any (·.1.isNone)) = false := by rfl) :
    PE X (.Call (.Name x p) (e :: es) kws pos) (tCallKG pr gV t tk) := by
  constructor
  intro pins s σ H Q I h
  refine wpAny_Call_Name_kw (ld_glob I hg hm ?_ hdb)
  refine PySem.W.callWith_KW (h₀ := X.base) I.ok.mod.kin hk hall (thn (ha.run pos pins s σ H _ I h) ?_) hpl he
  rintro us s1 ⟨vs, H1, I1, r, q⟩
  refine thn (hkw.run pos pins s1 σ H1 _ I1 q) ?_
  rintro ws s2 ⟨zs, H2, I2, rz, q2⟩
  refine ⟨I2.kIn, ?_⟩
  rw [hks]
  exact goK F hr hb I2 r rz q2
end

/-! ### repr of data -/
section
variable {X : Cx}
def rRepr (K : PySem.W.Frag) : List V → Hp → VK → Prop := fun xs H Q => ∃ (a : Addr) (d : PyData), xs = [.ref a] ∧
  Dp K H (.ref a) d ∧ d.showable = true ∧ d.hasDict = false ∧ d.depth ≤ 60 ∧ d.shown.length ≤ sizeLine ∧ Q (.str d.shown) H
theorem call_repr {k : Nat} (hr : RG k X.A) : CallR X (.builtin "repr") (rRepr X.K) := by
  intro pins s σ H xs us Q I r q
  obtain ⟨a, d, ex, hD, hs, hnd, hdp, hsz, q⟩ := q
  subst ex
  obtain ⟨u, eu, rx⟩ := vals1 r
  subst eu
  cases rx
  obtain ⟨as, rd⟩ := Dp.reads I d (.ref a) (.ref a) hD rfl
  have hu := hr.room.units
  exact repr_of_reads' rd hs (PyData.noDict_hsm hnd) hr.still (by omega) (fun _ _ z => z)
    (fun h' u tk hk => ⟨.str d.shown, H, I.kept hk, ⟨u, rfl⟩, q⟩) hsz
end
end AskG
/-! Cells (a text, an int) as keys of dicts: their order, sorted(d). -/
namespace AskG
open PySem PySem.Spec PyProof.Rows L2

abbrev Cell := Str × Int
/-- a cell as a key -/
abbrev ck (c : Cell) : List Key := [Sum.inr c.1, Sum.inl c.2]
/-- the order of cells -/
def ltC (p q : Cell) : Bool := if p.1 = q.1 then decide (p.2 < q.2) else decide (p.1.cps.toList < q.1.cps.toList)

theorem str_ext {x y : Str} (h : x.cps.toList = y.cps.toList) : x = y := by
  obtain ⟨⟨a⟩⟩ := x
  obtain ⟨⟨b⟩⟩ := y
  have h : a = b := h
  rw [h]
theorem ltC_iff {p q : Cell} : ltC p q = true ↔ (p.1.cps.toList < q.1.cps.toList) ∨ (p.1 = q.1 ∧ p.2 < q.2) := by
  unfold ltC
  by_cases e : p.1 = q.1
  · rw [if_pos e, decide_eq_true_eq]
    constructor
    · intro h
      exact Or.inr ⟨e, h⟩
    · rintro (h | h)
      · rw [e] at h
        exact absurd h (List.lt_irrefl _)
      · exact h.2
  · rw [if_neg e, decide_eq_true_eq]
    constructor
    · intro h
      exact Or.inl h
    · rintro (h | h)
      · exact h
      · exact absurd h.1 e
theorem codes_tri (x y : List Nat) : x < y ∨ x = y ∨ y < x := by
  by_cases h1 : x < y
  · exact Or.inl h1
  · by_cases h2 : y < x
    · exact Or.inr (Or.inr h2)
    · exact Or.inr (Or.inl (List.le_antisymm (List.not_lt.mp h2) (List.not_lt.mp h1)))
theorem ltC_tri (p q : Cell) : ltC p q = true ∨ p = q ∨ ltC q p = true := by
  rcases codes_tri p.1.cps.toList q.1.cps.toList with h | h | h
  · exact Or.inl (ltC_iff.mpr (Or.inl h))
  · have e := str_ext h
    rcases Int.lt_trichotomy p.2 q.2 with g | g | g
    · exact Or.inl (ltC_iff.mpr (Or.inr ⟨e, g⟩))
    · exact Or.inr (Or.inl (Prod.ext e g))
    · exact Or.inr (Or.inr (ltC_iff.mpr (Or.inr ⟨e.symm, g⟩)))
  · exact Or.inr (Or.inr (ltC_iff.mpr (Or.inl h)))
theorem ltC_trans {p q r : Cell} (h1 : ltC p q = true) (h2 : ltC q r = true) : ltC p r = true := by
  refine ltC_iff.mpr ?_
  rcases ltC_iff.mp h1 with a | ⟨a, a'⟩ <;> rcases ltC_iff.mp h2 with b | ⟨b, b'⟩
  · exact Or.inl (List.lt_trans a b)
  · exact Or.inl (b ▸ a)
  · exact Or.inl (a ▸ b)
  · exact Or.inr ⟨a.trans b, Int.lt_trans a' b'⟩
theorem ltC_irr (p : Cell) : ltC p p = false := by
  cases h : ltC p p with
  | false => rfl
  | true =>
    rcases ltC_iff.mp h with a | ⟨_, a⟩
    · exact absurd a (List.lt_irrefl _)
    · exact absurd a (Int.lt_irrefl _)
theorem ltC_asym {p q : Cell} (h : ltC p q = true) : ltC q p = false := by
  cases g : ltC q p with
  | false => rfl
  | true =>
    have := ltC_trans h g
    rw [ltC_irr] at this
    cases this
theorem swo_cells {α : Type} (k : α → Cell) : SrtO.Swo fun v u => ltC (k v) (k u) := by
  refine ⟨fun x y h => ltC_asym h, fun x y z h1 h2 => ?_⟩
  cases g : ltC (k z) (k x) with
  | false => rfl
  | true =>
    rcases ltC_tri (k x) (k y) with a | a | a
    · have := ltC_trans g a
      rw [h2] at this
      cases this
    · rw [← a, g] at h2
      cases h2
    · rw [h1] at a
      cases a

/-- the value is a tuple of a text and an int -/
def IsCl (h : Heap) (v : Value) (c : Cell) : Prop := ∃ (a : Addr) (t u : Tok), v = .ref a ∧ IsTup h a #[.str c.1 t, .int c.2 u]
section
variable {prog : Program} {w : World} {A : Around} {E : Value → Shared → Prop} {s : Shared}
theorem cell_cmp {vs : List Value} {k : Value → Cell} (hp : ∀ v ∈ vs, IsCl s.heap v (k v)) :
    SrtO.Cmp prog w A s (tuples' true) (fun p => p.1 ∈ vs) (SrtO.lt2 fun v u => ltC (k v) (k u)) := by
  intro p q hm hm'
  have h1 := hp _ hm
  have h2 := hp _ hm'
  show wpAny (model prog w) A (keyLt' (tuples' true) p.1 q.1) (fun r s' => s' = s ∧ r = ltC (k p.1) (k q.1)) (fun _ _ => False) s
  generalize k p.1 = c at h1 ⊢
  generalize k q.1 = d at h2 ⊢
  obtain ⟨a, t, u, e, o, ho, hc, n, hd⟩ := h1
  obtain ⟨a', t', u', e', o', ho', hc', n', hd'⟩ := h2
  rw [e, e']
  refine PySem.W.kat_lt ho hd ho' hd' ?_
  show PySem.W.KatLex prog w A true (decide (2 < 2)) _ [(.str c.1 t, .str d.1 t'), (.int c.2 u, .int d.2 u')] 0 s
  refine PySem.W.kat_cons (SeqAt.EqAt.str_str c.1 t d.1 t' prog w _ _ ?_)
  refine PySem.W.kat_go (fun e1 => ?_) (fun e1 => ?_)
  · have ex : c.1 = d.1 := by simpa using e1
    refine PySem.W.kat_yes (PySem.W.kat_cons (SeqAt.EqAt.int_int c.2 u d.2 u' prog w _ _ ?_))
    refine PySem.W.kat_go (fun e2 => ?_) (fun e2 => ?_)
    · have ey : c.2 = d.2 := by simpa using e2
      have e3 : ltC c d = false := by
        rw [show c = d from Prod.ext ex ey]
        exact ltC_irr d
      exact PySem.W.kat_yes (PySem.W.kat_nil ⟨rfl, e3.symm⟩)
    · have e3 : ltC c d = decide (c.2 < d.2) := if_pos ex
      refine PySem.W.kat_no (PySem.W.kat_one _ _ (PyProof.Rows.lt_int ?_))
      exact (show s = s ∧ decide (c.2 < d.2) = ltC c d from ⟨rfl, e3.symm⟩)
  · have ex : ¬ c.1 = d.1 := by simpa using e1
    have e3 : ltC c d = decide (c.1.cps.toList < d.1.cps.toList) := if_neg ex
    exact PySem.W.kat_no (oneLt_str ⟨rfl, e3.symm⟩)
theorem cell_firsts {h : Heap} : ∀ {vs : List Value}, (∀ v ∈ vs, ∃ c, IsCl h v c) →
    ∃ fs : List Value, PySem.W.KatTups h vs fs ∧ fs.length = vs.length ∧ ∀ f ∈ fs, ∃ x t, f = Value.str x t
  | [], _ => ⟨[], .nil, rfl, fun f hf => absurd hf (by simp)⟩
  | v :: vs, x => by
    obtain ⟨fs, k, hl, hi⟩ := cell_firsts (vs := vs) fun u hu => x u (List.mem_cons_of_mem _ hu)
    obtain ⟨c, a, t, u, rfl, o, ho, hc, n, hd⟩ := x v List.mem_cons_self
    refine ⟨.str c.1 t :: fs, .cons ho hc hd rfl k, congrArg (· + 1) hl, fun f hf => ?_⟩
    rcases List.mem_cons.mp hf with rfl | hf
    · exact ⟨_, _, rfl⟩
    · exact hi f hf
theorem IsCl.keeps {h h' : Heap} {v : Value} {c : Cell} (x : IsCl h v c) (k : ∀ b o, h.get? b = some o → o.cls = .type "tuple" → h'.get? b = some o) : IsCl h' v c := by
  obtain ⟨a, t, u, e, o, ho, hc, r⟩ := x
  exact ⟨a, t, u, e, o, k _ _ ho hc, hc, r⟩
theorem cells_sortable {a : Addr} {vs : List Value} {k : Value → Cell} (h0 : 0 < vs.length) (hp : ∀ v ∈ vs, IsCl s.heap v (k v))
    (ha : ∀ o, s.heap.get? a = some o → o.cls ≠ .type "tuple") : SrtO.SortableO prog w A s a vs fun v u => ltC (k v) (k u) := by
  intro h' keep
  have hp' : ∀ v ∈ vs, IsCl h' v (k v) := fun v hm => (hp v hm).keeps fun b o e c => keep b o (fun z => by subst z; exact ha o e c) e
  obtain ⟨fs, h1, h2, h3⟩ := cell_firsts fun v hm => ⟨_, hp' v hm⟩
  refine ⟨tuples' true, fun Q E hq => ?_, cell_cmp hp'⟩
  refine PySem.W.kat_kind (T := .type "str") h1 (by omega) (fun f hm => ?_) (by rfl) ?_
  · obtain ⟨x, t, rfl⟩ := h3 f hm
    exact PySem.W.Looks.now
  · have e : (Value.type "str" != Value.type "tuple") = true := by first | decide +kernel | rfl | decide
    rw [e]
    exact hq
end
end AskG
/-! sorted(d), dict(pairs) of dicts whose keys are cells. -/
namespace AskG
open PySem PySem.Spec PyProof.Rows L2

/-- a tracked tuple of a text and an int -/
def CellAt (H : Hp) (b : Addr) (c : Cell) : Prop := H b = some (.tup [.str c.1, .int c.2])
/-- the cell that stands behind a value -/
def cellOf (H : Hp) : Value → Cell
  | .ref a => match H a with
    | some (.tup [.str x, .int y]) => (x, y)
    | _ => (⟨#[]⟩, 0)
  | _ => (⟨#[]⟩, 0)
theorem cellOf_at {H : Hp} {b : Addr} {c : Cell} (h : CellAt H b c) : cellOf H (.ref b) = c := by
  unfold CellAt at h
  show (match H b with
    | some (.tup [.str x, .int y]) => (x, y)
    | _ => ((⟨#[]⟩, 0) : Cell)) = c
  rw [h]
theorem isCl_of {P : Program} {w : World} {H : Hp} {h : Heap} {b : Addr} {c : Cell} (ok : HOk P w H h) (e : CellAt H b c) : IsCl h (.ref b) c := by
  obtain ⟨_, its, r, ht⟩ := (show ObjOk P w H h b (.tup [.str c.1, .int c.2]) from ok b _ e)
  obtain ⟨x, y, ei, rx, ry⟩ := vals2 r
  obtain ⟨t, rfl⟩ := rx
  obtain ⟨u, rfl⟩ := ry
  subst ei
  exact ⟨b, t, u, rfl, ht⟩
theorem ck_inj {c d : Cell} (h : ck c = ck d) : c = d := by
  injection h with h1 h2
  injection h1 with h1
  injection h2 with h2 _
  injection h2 with h2
  exact Prod.ext h1 h2

/-- sorted(d), d a dict whose keys are the cells cs -/
def rSortT : List V → Hp → VK → Prop := fun xs H Q => ∃ (d : Addr) (kvs : List (List Key × V)) (cs : List Cell),
  xs = [.ref d] ∧ Rd H d (.dT kvs) ∧ kvs.map (·.1) = cs.map ck ∧
  ∀ (ys : List Cell) (bs : List Addr) (p : Addr), ys.Perm cs → ys.Pairwise (fun a b => ltC a b = true) →
    Paired (CellAt H) bs ys → H p = none → Q (.ref p) (upd H p (.lst (bs.map V.ref)))
theorem paired_of {α β : Type} {R : α → β → Prop} (f : α → β) : ∀ {l : List α}, (∀ x ∈ l, R x (f x)) → Paired R l (l.map f)
  | [], _ => .nil
  | x :: l, h => .cons (h x List.mem_cons_self) (paired_of f fun y hy => h y (List.mem_cons_of_mem _ hy))
theorem strict_of : ∀ {ys : List Cell}, ys.Pairwise (fun a b => ltC b a = false) → ys.Nodup → ys.Pairwise (fun a b => ltC a b = true) := by
  intro ys h n
  refine (h.and n).imp ?_
  rintro a b ⟨h1, h2⟩
  rcases ltC_tri a b with g | g | g
  · exact g
  · exact absurd g h2
  · rw [h1] at g
    cases g
section
variable {X : Cx}
theorem cr_sortT (hc : X.calm = true) : CallR X (.builtin "sorted") rSortT := by
  intro pins s σ H xs us Q I r q
  obtain ⟨d, kvs, cs, ex, hd, hks, q⟩ := q
  subst ex
  obtain ⟨u, eu, rx⟩ := vals1 r
  subst eu
  cases rx
  obtain ⟨z, hs, ks, pr, o, es, ep, ho, hx, hdt, he, hn⟩ :=
    (show ObjOk X.prog X.w H s.heap d (.dT kvs) from hd.ok I.hok)
  have l1 : es.size = ks.length := size_of_entries he
  have l2 : kvs.length = ks.length := Paired.length pr
  have hkk : ks.map (·.1) = cs.map ck := by
    rw [← hks]
    clear q he hn hd l1 l2 hks z
    induction pr with
    | nil => rfl
    | cons h t ih => rw [List.map_cons, List.map_cons, ih, h.1]
  have atK : ∀ x ∈ ks, H x.2.1 = some (.tup (x.1.map kV)) := by
    clear q he hn hd l1 l2 hks z hkk
    induction pr with
    | nil => exact fun x hx => absurd hx (by simp)
    | cons h t ih =>
      intro x hx
      rcases List.mem_cons.mp hx with e | hx
      · subst e
        rw [← h.1]
        exact h.2.1
      · exact ih x hx
  have atC : ∀ x ∈ ks, ∃ c, x.1 = ck c ∧ CellAt H x.2.1 c := by
    intro x hx
    have : x.1 ∈ cs.map ck := by
      rw [← hkk]
      exact List.mem_map_of_mem hx
    obtain ⟨c, _, ec⟩ := List.mem_map.mp this
    refine ⟨c, ec.symm, ?_⟩
    have := atK x hx
    rw [← ec] at this
    exact this
  refine Calls.call_function_entry PyProof.Rows.kind_sorted PyProof.Rows.plain_sorted
    PyProof.Rows.entry_sorted (PyProof.Rows.args_sorted1 _) ?_
  unfold Builtin.«sorted»
  refine wpAny_bind (m := checkCount "sorted" 1 1 _) (wpAny_pure ?_)
  refine wpAny_bind (PySem.W.kdu_collect (A := X.A.in1) (kdl_raw hs hx hdt) (I.ok.hd hc) ho (by omega) ?_)
  intro h' tk acc hk it
  have ea : acc.toList = ks.map fun x => Value.ref x.2.1 := by
    have hl : acc.toList.length = ks.length := by
      rw [Array.length_toList, it.1]
      exact l1
    apply List.ext_getElem?
    intro j
    rw [List.getElem?_map]
    cases hj : acc.toList[j]? with
    | none =>
      have h1 := List.getElem?_eq_none_iff.mp hj
      rw [List.getElem?_eq_none (by omega)]
      all_goals rfl
    | some v =>
      obtain ⟨en, hen, hv⟩ := it.2 j v (by rw [← Array.getElem?_toList]; exact hj)
      have qe := entry_at he j
      rw [hen] at qe
      cases hb : ks[j]? with
      | none =>
        rw [hb] at qe
        exact nomatch (show some en = none from qe)
      | some b =>
        rw [hb] at qe
        have e2 : en = entryOfKey (tupleKind (mixKind X.prog X.w)) b := Option.some.inj qe
        rw [hv, e2]
        all_goals rfl
  generalize acc.toList = vs at ea ⊢
  subst ea
  have hz : (ks.map fun x => Value.ref x.2.1).length ≤ sizeLine := by
    rw [List.length_map]
    omega
  have I1 : Inv X pins σ H { s with heap := h', toks := tk } := I.kept hk
  refine wpAny_bind (wpAny_newList ?_ hz)
  generalize hvs : (ks.map fun x => Value.ref x.2.1) = vs at hz ⊢
  have hoL : (h'.push (seqObj "list" vs.toArray 0)).get? h'.objs.size = some (seqObj "list" vs.toArray 0) :=
    Heap.get?_push_size _ rfl
  have hcl : ∀ v ∈ vs, ∃ b c, v = .ref b ∧ CellAt H b c := by
    intro v hv
    rw [← hvs] at hv
    obtain ⟨x, hx, rfl⟩ := List.mem_map.mp hv
    obtain ⟨c, _, hc⟩ := atC x hx
    exact ⟨_, c, rfl, hc⟩
  show wpAny _ _ _ _ _ { s with heap := h'.push (seqObj "list" vs.toArray 0), toks := tk }
  refine wpAny_bind (wpAny_holding (wpAny_call_entry PyProof.Rows.slot_list_sort ⟨_, hoL, rfl⟩ PyProof.Rows.entry_list_sort
    (SrtO.list_sort_ord (ltv := fun v u => ltC (cellOf H v) (cellOf H u)) (swo_cells _) hoL hz (fun h2 => ?_) (fun out hs hb => ⟨_, rfl, ?_⟩))
    (PyProof.Rows.args_list_sort _)))
  · refine cells_sortable (by omega) (fun v hv => ?_) fun o' eo => ?_
    · obtain ⟨b, c, rfl, hc⟩ := hcl v hv
      rw [cellOf_at hc]
      exact (isCl_of I1.hok hc).keeps fun b o e _ => Heap.get?_push_of_some _ e
    · have e' : some o' = some (seqObj "list" vs.toArray 0) := eo.symm.trans hoL
      cases e'
      intro c
      exact absurd (Value.type.inj c) (by decide)
  · obtain ⟨e', he'⟩ := PyProof.Rows.sortedHeap_at (vs := vs) (out := out.toArray) hoL
    have hout : ∀ v ∈ out, ∃ b c, v = .ref b ∧ CellAt H b c := fun v hv => hcl v (hb.perm.mem_iff.mp hv)
    have hbs : ∃ bs : List Addr, out = bs.map Value.ref := by
      clear hb hs he'
      induction out with
      | nil => exact ⟨[], rfl⟩
      | cons v l ih =>
        obtain ⟨bs, rfl⟩ := ih fun u hu => hout u (List.mem_cons_of_mem _ hu)
        obtain ⟨b, c, rfl, _⟩ := hout v List.mem_cons_self
        exact ⟨b :: bs, rfl⟩
    obtain ⟨bs, rfl⟩ := hbs
    have hcs : (vs.map (cellOf H)) = cs := by
      rw [← hvs, List.map_map]
      have inj : ∀ {a b : List Cell}, a.map ck = b.map ck → a = b := by
        intro a
        induction a with
        | nil =>
          intro b h
          cases b with
          | nil => rfl
          | cons _ _ => cases h
        | cons x a ih =>
          intro b h
          cases b with
          | nil => cases h
          | cons y b =>
            rw [List.map_cons, List.map_cons] at h
            injection h with h1 h2
            rw [ck_inj h1, ih h2]
      refine inj ?_
      rw [List.map_map, ← hkk]
      refine List.map_congr_left fun x hx => ?_
      obtain ⟨c, ec, hc⟩ := atC x hx
      show ck (cellOf H (.ref x.2.1)) = x.1
      rw [cellOf_at hc, ec]
    have perm : ((bs.map Value.ref).map (cellOf H)).Perm cs := by
      rw [← hcs]
      exact hb.perm.map _
    have hcn : cs.Nodup := by
      have := hn
      rw [hkk] at this
      exact (List.pairwise_map.mp this).imp fun h e => h (congrArg ck e)
    have hst := strict_of (List.pairwise_map.mpr hs) (perm.nodup_iff.mpr hcn)
    have hlen : (bs.map V.ref).length ≤ sizeLine := by
      have := hb.perm.length_eq
      rw [List.length_map] at this ⊢
      omega
    refine wpAny_pure ⟨_, rfl, .ref h'.objs.size, upd H h'.objs.size (.lst (bs.map V.ref)), I1.laid (t' := tk) (fun b u e => ?_) (Nat.le_refl _)
      (show ObjOk X.prog X.w _ _ _ (.lst (bs.map V.ref)) from ⟨hlen, bs.map Value.ref, e', vals_refs _, he'⟩), rfl,
      q _ bs _ perm hst ?_ (I1.hok.fresh (Nat.le_refl _))⟩
    · have hb : b < h'.objs.size := Heap.lt_size e
      rw [PyProof.Rows.sortedHeap_old (Nat.ne_of_lt hb) (by rw [size_push']; exact Nat.lt_succ_of_lt hb)]
      exact Heap.get?_push_of_some _ e
    · rw [List.map_map]
      refine paired_of _ fun b hb' => ?_
      obtain ⟨b2, c, e2, hc⟩ := hout (.ref b) (List.mem_map_of_mem hb')
      cases e2
      show CellAt H b (cellOf H (.ref b))
      rw [cellOf_at hc]
      exact hc

/-! ### dict(pairs) -/
/-- one after another, later ones win -/
def putAll (kvs more : List (List Key × V)) : List (List Key × V) := more.foldl (fun acc kv => putK acc kv.1 kv.2) kvs
theorem length_putAll : ∀ (more kvs : List (List Key × V)), (putAll kvs more).length ≤ kvs.length + more.length
  | [], kvs => Nat.le_refl _
  | m :: more, kvs => by
    have h1 := length_putAll more (putK kvs m.1 m.2)
    have h2 := length_putK kvs m.1 m.2
    rw [List.length_cons]
    show (putAll (putK kvs m.1 m.2) more).length ≤ _
    omega
theorem ktAll {H : Hp} {more : List (List Key × V)} {ms : List (List Key × Addr × Value)} (r : KT H more ms) :
    ∀ {kvs : List (List Key × V)} {xs : List (List Key × Addr × Value)}, KT H kvs xs → KT H (putAll kvs more) (storedAllH xs ms) := by
  induction r with
  | nil => exact fun h => h
  | @cons p q _ _ h t ih =>
    intro kvs xs g
    show KT H (putAll (putK kvs p.1 p.2) _) (storedAllH (storedH xs q.1 q.2.1 q.2.2) _)
    refine ih ?_
    have := KT.put g p.1 (b := q.2.1) h.2.1 h.2.2
    rw [h.1] at this ⊢
    exact this
/-- a tracked pair: a key tuple and a value -/
def PairAt' (K : PySem.W.Frag) (H : Hp) (p : Addr) (kv : List Key × V) : Prop := ∃ b, SqT K H p [.ref b, kv.2] ∧ H b = some (.tup (kv.1.map kV))
theorem pairsT_of {pins : List (Addr × Obj)} {σ : L2.St} {H : Hp} {s : Shared} (I : Inv X pins σ H s) : ∀ {ps : List Addr} {kvs : List (List Key × V)}, Paired (PairAt' X.K H) ps kvs →
    ∃ ms : List (List Key × Addr × Value), KT H kvs ms ∧ ms.length = ps.length ∧ ∀ (j : Nat) (q : List Key × Addr × Value), ms[j]? = some q → ∃ b : Addr, ps[j]? = some b ∧ IsTup s.heap b #[.ref q.2.1, q.2.2]
  | _, _, .nil => ⟨[], .nil, rfl, fun j q e => by simp at e⟩
  | _, _, .cons (a := p) (b := kv) h t => by
    obtain ⟨ms, r, hl, hp⟩ := pairsT_of I t
    obtain ⟨b, hb, hk⟩ := h
    obtain ⟨its, rv, ht, _⟩ := I.tuple hb
    obtain ⟨u, y, ei, ru, ry⟩ := vals2 rv
    subst ei
    cases ru
    refine ⟨(kv.1, b, y) :: ms, .cons ⟨rfl, hk, ry⟩ r, congrArg (· + 1) hl, fun j q e => ?_⟩
    cases j with
    | zero =>
      have e' : (kv.1, b, y) = q := Option.some.inj e
      subst e'
      exact ⟨p, rfl, ht⟩
    | succ j =>
      obtain ⟨b', e1, e2⟩ := hp j q (by simpa using e)
      exact ⟨b', by simpa using e1, e2⟩
/-- dict(xs), xs a list of pairs whose keys are tuples -/
theorem call_dictT {k : Nat} (hc : X.calm = true) (hr : Room k X.A) : CallR X (.type "dict") (fun xs H Q => ∃ (a : Addr) (ps : List Addr) (kvs : List (List Key × V)), xs = [.ref a] ∧ SqL X.K H a (ps.map V.ref) ∧ Paired (PairAt' X.K H) ps kvs ∧
    ∀ p, H p = none → Q (.ref p) (upd H p (.dT (putAll [] kvs)))) := by
  intro pins s σ H xs us Q I r q
  obtain ⟨a, ps, kvs, ex, hq, hp, q⟩ := q
  subst ex
  obtain ⟨u, eu, rx⟩ := vals1 r
  subst eu
  cases rx
  obtain ⟨its, rv, pl, hz⟩ := I.list hq
  have ei := refs_at rv
  subst ei
  rw [List.length_map] at hz
  obtain ⟨ms, rel, hl, hpr⟩ := pairsT_of I hp
  obtain ⟨o, n, ho, hcl, hd, hdat⟩ := pl
  have hu := hr.units
  have isK : ∀ (h' : Heap), (∀ b o, s.heap.get? b = some o → h'.get? b = some o) → ∀ x ∈ ms, (tupleKind (mixKind X.prog X.w)).is h' x.1 x.2.1 := by
    intro h' kp x hx
    have ok' : HOk X.prog X.w H h' := (I.kept (t' := s.toks) kp).hok
    have all : ∀ {l : List (List Key × V)} {m : List (List Key × Addr × Value)}, KT H l m → ∀ x ∈ m, H x.2.1 = some (.tup (x.1.map kV)) := by
      intro l m q
      induction q with
      | nil => exact fun x hx => absurd hx (by simp)
      | cons h t ih =>
        intro x hx
        rcases List.mem_cons.mp hx with e | hx
        · subst e
          rw [← h.1]
          exact h.2.1
        · exact ih x hx
    exact key_of ok' (all rel x hx)
  have pit : PairItems s.heap (ps.map Value.ref).toArray (fun j => ps.getD j 0) (ms.map fun q => (Value.ref q.2.1, q.2.2)) := by
    refine ⟨by simp [hl], fun j k' v e => ?_⟩
    rw [List.getElem?_map] at e
    cases em : ms[j]? with
    | none =>
      rw [em] at e
      cases e
    | some q' =>
      rw [em] at e
      obtain ⟨b, e1, e2⟩ := hpr j q' em
      have e3 : (Value.ref q'.2.1, q'.2.2) = (k', v) := Option.some.inj e
      injection e3 with e4 e5
      have eg : ps.getD j 0 = b := by rw [List.getD_eq_getElem?_getD, e1]; rfl
      refine ⟨?_, ?_⟩
      · show _ = some (Value.ref (ps.getD j 0))
        rw [eg]
        simp [e1]
      · show PairAt s.heap (ps.getD j 0) k' v
        rw [eg, ← e4, ← e5]
        exact .inl e2
  have hsz : ms.length ≤ sizeLine := by rw [hl]; exact hz
  have P := PairArg.list (prog := X.prog) (w := X.w) a (ps.map Value.ref).toArray (fun j => ps.getD j 0) (ms.map fun q => (Value.ref q.2.1, q.2.2))
  refine call_dict_pairsH (knd := tupleKind (mixKind X.prog X.w)) (ps := ms) P (I.ok.hd hc) (tupleKind_room_in1 (A := X.A.in1) (by show X.A.units + 1 + 1 < _; omega)) ⟨⟨o, n, ho, hcl, hd, hdat⟩, pit⟩ ⟨by rw [List.length_map], fun i key v e => ?_⟩ (fun h' hk' x hx => ?_) (by rw [List.length_map]; exact hsz) fun h' tk hd' kp => ?_
  · have e : (ms.map fun q => (Value.ref q.2.1, q.2.2))[i]? = some (key, v) := e
    rw [List.getElem?_map] at e
    cases em : ms[i]? with
    | none =>
      rw [em] at e
      cases e
    | some q' =>
      rw [em] at e
      have e3 : (Value.ref q'.2.1, q'.2.2) = (key, v) := Option.some.inj e
      injection e3 with e4 e5
      exact ⟨q'.1, q'.2.1, by rw [← e5], e4.symm⟩
  · exact isK h' (fun b o e => hk' b o (Nat.ne_of_lt (Heap.lt_size e)) (by simp) e) x hx
  · have kp' : ∀ b o, s.heap.get? b = some o → h'.get? b = some o := fun b o e => kp b o (by simp) e
    have hm : (s.heap.objs.size == sysModules) = false := beq_eq_false_iff_ne.mpr (Nat.ne_of_gt I.big)
    have hfr : H s.heap.objs.size = none := I.hok.fresh (Nat.le_refl _)
    have hlen : (putAll [] kvs).length ≤ sizeLine := by
      refine Nat.le_trans (length_putAll kvs []) ?_
      rw [List.length_nil, Nat.zero_add, Paired.length rel]
      exact hsz
    obtain ⟨q1, es, ep, h1, h2, h3, h4, _, h5⟩ := hd'
    refine ⟨.ref s.heap.objs.size, upd H s.heap.objs.size (.dT (putAll [] kvs)), I.laid (t' := tk) kp' (Nat.le_refl _)
      (show ObjOk X.prog X.w _ _ _ (.dT (putAll [] kvs)) from ⟨hlen, hm, storedAllH [] ms, (ktAll rel .nil).keeps fun c ys ec => ?_, q1, es, ep, h1, h2, h3, h4, h5⟩), rfl, q _ hfr⟩
    rw [upd_ne (ne_of_none ec hfr)]
    exact ec
end
end AskG
/-! {k: v for .. in ..}, the keys tuples. -/
namespace AskG
open PySem PySem.Spec PyProof.Rows L2

theorem setT {X : Cx} {pins : List (Addr × Obj)} {σ : L2.St} {H : Hp} {s : Shared} {E : Value → Shared → Prop} {D b : Addr}
    {kvs : List (List Key × V)} {k : List Key} {v : V} {r : Value} {Q : Unit → Shared → Prop} (hu : X.A.units + 1 < cLine)
    (I : Inv X pins σ H s) (hD : H D = some (.dT kvs)) (hb : H b = some (.tup (k.map kV))) (hz : kvs.length < sizeLine)
    (rv : RelV v r) (h : ∀ s', Inv X pins σ (upd H D (.dT (putK kvs k v))) s' → Q () s') :
    wpAny (model X.prog X.w) X.A (dictSet D (.ref b) r) Q E s := by
  obtain ⟨z, hd, xs, rel, dd⟩ := dt_of I.hok hD
  have hx : xs.length ≤ sizeLine := by
    rw [← Paired.length rel]
    exact z
  have hl : (putK kvs k v).length ≤ sizeLine := by
    have := length_putK kvs k v
    omega
  refine wpAny_dictSet_heap (hsz := hx) (knd := tupleKind (mixKind X.prog X.w)) (show X.A.units < cLine by omega)
    (key_of I.hok hb) dd fun h' dd' hs => h _ ?_
  obtain ⟨q, es, ep, hq, h2, h3, h4, _, h5⟩ := dd'
  refine d_write I (by rw [hD]; exact True.intro) hs ⟨q, hq⟩
    ⟨hl, hd, _, (rel.put k hb rv).keeps fun c ys ec => ?_, q, es, ep, hq, h2, h3, h4, h5⟩
  rw [upd_ne (ne_of ec hD (fun z => nomatch z))]
  exact ec

/-- the reading: D the new dict -/
def tDcT (wi : TI) (g : TG) (tk tv : TE) (vs : List Nat) : TE := fun σ H Q => wi σ H fun J H1 => ∀ D, H1 D = none →
  ∃ W : Nat → Nat → Hp → Prop, (∃ m, W 0 m (upd H1 D (.dT []))) ∧ ∀ i m H, W i m H →
    (J.stop i H ∧ Q (.ref D) H) ∨ (J.go i H ∧ ∃ Nx : Hp → Prop, (∀ H', Nx H' → ∃ m', m' < m ∧ W (i + 1) m' H') ∧
      ∀ x H', J.yld i H x H' → g x (wipe σ vs) H' fun σ2 H2 => wipe σ2 vs = wipe σ vs ∧
        tk σ2 H2 fun y H4 => tv σ2 H4 fun z H5 => ∃ b kvs k, y = .ref b ∧ H5 b = some (.tup (k.map kV)) ∧
          H5 D = some (.dT kvs) ∧ kvs.length < sizeLine ∧ Nx (upd H5 D (.dT (putK kvs k z))))

section
variable {X : Cx}
theorem pe_dcT {kx vx tg iter : Expr} {scope : Scope} {own : List (Str × Nat)} {pos : Pos} {wi : TI} {g : TG} {tk tv : TE}
    (hu : X.A.units + 1 < cLine) (hc : X.calm = true) (hN : X.N.Nodup) (hi : PI X tg iter wi) (ok : BlkOk X.N X.env.scope scope own)
    (hg : ∀ (s : Shared) (H : Hp) (C : Addr) (cl : List (Str × Addr)) (fp : List Addr),
      PG (X.blk s H scope (compEnvC scope cl C X.env) fp) tg g)
    (hk : ∀ (s : Shared) (H : Hp) (C : Addr) (cl : List (Str × Addr)) (fp : List Addr),
      PE (X.blk s H scope (compEnvC scope cl C X.env) fp) kx tk)
    (he : ∀ (s : Shared) (H : Hp) (C : Addr) (cl : List (Str × Addr)) (fp : List Addr),
      PE (X.blk s H scope (compEnvC scope cl C X.env) fp) vx tv)
    (hs : ∀ x, foldedSetIterable iter X.env x = pure x := by intro _; rfl) :
    PE X (.DictComp kx vx [⟨tg, iter, [], 0⟩] scope pos) (tDcT wi g tk tv (own.map (·.2))) := by
  constructor
  intro pins s σ H Q I h
  rw [arm_eval_DictComp]
  have hfree : ∀ y ∈ scope.names, y.2 = .free → ∃ c, X.env.cells.lookup y.1 = some c := by
    intro y hy e
    exact (ok.free y hy e).elim (fun k => I.ok.has _ (.inl k)) fun k => I.ok.has _ (.inr k)
  refine wpAny_comprehension_free rfl hs (closure_ok hfree) ok.kind (fun y hy e => by rw [ok.uniq y hy, e])
    (thn (hi.run pins s σ H _ I h) fun xv s1 hx => thn hx ?_)
  rintro itv s2 ⟨it, fp, tn, J, H2, e, I2, T, st2, f2, q⟩
  subst e
  refine wpAny_newObj_type (newEnv_comp ?_)
  generalize hD : s2.heap.objs.size = D
  have hDn : H2 D = none := I2.hok.fresh (Nat.le_of_eq hD)
  obtain ⟨W, ⟨m0, w0⟩, turn⟩ := q D hDn
  generalize hs3 : ({ s2 with heap := s2.heap.push { cls := .type "dict", data := .dict #[] } } : Shared) = s3
  have I3 : Inv X pins σ (upd H2 D (.dT [])) s3 := by
    rw [← hs3]
    refine I2.laid (t' := s2.toks) (fun b o e => Heap.get?_push_of_some _ e) (Nat.le_of_eq hD) ?_
    rw [← hD]
    exact dt_empty s2.heap I2.big
  have h3 : s3.heap = s2.heap.push { cls := .type "dict", data := .dict #[] } := by rw [← hs3]
  have sz : ∀ b ∈ fp, b < s2.heap.objs.size := fun b hb => (T.obj _ _ st2 b hb).elim fun o e => Heap.lt_size e.1
  have f3 : ∀ b ∈ fp, FpOk X pins (upd H2 D (.dT [])) b ∧ b < s3.heap.objs.size := by
    intro b hb
    have hlt := sz b hb
    refine ⟨⟨?_, (f2 b hb).2⟩, by rw [h3, Heap.size_push]; exact Nat.lt_succ_of_lt hlt⟩
    rw [upd_ne (by rw [← hD]; exact Nat.ne_of_lt hlt)]
    exact (f2 b hb).1
  have st3 : tn 0 s3.heap := T.keep _ _ _ st2 fun b _ o e => by
    rw [h3]
    exact Heap.get?_push_of_some _ e
  have I4 := block_start I3 ok hN f3
  have pg := hg s3 (upd H2 D (.dT [])) s3.heap.objs.size
    (cellsFrom (s3.heap.objs.size + 1) scope.names (cloFrom X.env.cells scope.names [])) fp
  have pk := hk s3 (upd H2 D (.dT [])) s3.heap.objs.size
    (cellsFrom (s3.heap.objs.size + 1) scope.names (cloFrom X.env.cells scope.names [])) fp
  have pe := he s3 (upd H2 D (.dT [])) s3.heap.objs.size
    (cellsFrom (s3.heap.objs.size + 1) scope.names (cloFrom X.env.cells scope.names [])) fp
  have nfp : ∀ b ∈ fp, (upd H2 D (.dT [])) b = none := fun b hb => (f3 b hb).1.1
  show codeAny _ _ (.compStart (.DictComp kx vx [⟨tg, iter, [], 0⟩] scope pos) 0 (.ref it) (.ref D)
    (compEnvC scope (cellsFrom (s3.heap.objs.size + 1) scope.names (cloFrom X.env.cells scope.names [])) s3.heap.objs.size X.env)) _
    { s3 with heap := pushCells (s3.heap.push { cls := .type "dict", data := .dict #[] }) scope.names }
  generalize hce : compEnvC scope (cellsFrom (s3.heap.objs.size + 1) scope.names (cloFrom X.env.cells scope.names [])) s3.heap.objs.size X.env = ce at I4 pg pk pe ⊢
  have cL : ce.locals = s3.heap.objs.size := by
    subst hce
    rfl
  generalize hH3 : upd H2 D (.dT []) = H3 at I3 I4 pg pk pe w0 nfp f3
  generalize hs4 : ({ s3 with heap := pushCells (s3.heap.push { cls := .type "dict", data := .dict #[] }) scope.names } : Shared) = s4 at I4 ⊢
  have st4 : tn 0 s4.heap := T.keep _ _ _ st3 fun b _ o e => by
    rw [← hs4]
    exact pushCells_keeps _ _ _ _ (Heap.get?_push_of_some _ e)
  have stat : ∀ {σ' : L2.St} {H' : Hp} {s' : Shared}, Inv (X.blk s3 H3 scope ce fp) [] σ' H' s' → (∀ b ∈ fp, H' b = none) →
      ∀ b ∈ fp, FpOk (X.blk s3 H3 scope ce fp) [] H' b := by
    intro σ' H' s' I' hn b hb
    exact ⟨hn b hb, (I'.ok.exf b hb).1, I'.ok.exfs b hb, .inl hb, fun x c e => (I'.ok.exf b hb).2 x c e,
      fun p hp => absurd (show p ∈ ([] : List (Addr × Obj)) ++ [] from hp) (by simp)⟩
  refine codeAny_compStart_dict ?loop (T.self X.A 0 _ _ _ st4 ?loop)
  refine compLoop_anyD (fun n s' => ∃ i H', Inv (X.blk s3 H3 scope ce fp) [] (wipe σ (own.map (·.2))) H' s' ∧ tn i s'.heap ∧
    (∀ b ∈ fp, H' b = none) ∧ W i n H') ?_ m0 ⟨0, H3, I4, st4, nfp, w0⟩
  rintro n s5 ⟨i, H5, I5, st5, n5, w5⟩
  rcases turn i n H5 w5 with ⟨stop, qq⟩ | ⟨go, Nx, hNx, step⟩
  · have td := T.done (X.blk s3 H3 scope ce fp) rfl rfl rfl hc i [] s5 _ H5 (fun _ _ => False) I5 (stat I5 n5) st5 stop
    refine thnF td ?_
    rintro r s6 ⟨hr, I6⟩
    subst hr
    have I7 : Inv X pins σ H5 s6 := I3.call' (ch := fp) I6.os I6.base I6.hok I6.bare fun b hb =>
      ⟨(f3 b hb).1.2.2.2.1, (f3 b hb).1.2.1, (f3 b hb).1.2.2.2.2.1, (f3 b hb).1.2.2.2.2.2⟩
    have nC : H5 s3.heap.objs.size = none := by
      have z : H5 ce.locals = none := I6.free
      rw [cL] at z
      exact z
    obtain ⟨m, hn, _⟩ := I6.loc
    have hn : s6.heap.Ns ce.locals m := hn
    rw [cL] at hn
    obtain ⟨f0, f1, f2, f3, f4, f5⟩ := I3.fpOk (Nat.le_refl _) nC
    refine ⟨m, hn, fun h'' sb => ?_⟩
    exact ⟨.ref D, H5, I7.turned (t' := s6.toks) (fun b o hb e => (sb.2 b hb).trans e) f0 f1 f3 f4 f5, rfl, qq⟩
  · have ti := T.item (X.blk s3 H3 scope ce fp) rfl rfl rfl hc i [] s5 _ H5 (fun _ _ => False) I5 (stat I5 n5) st5 go
    refine thnF ti ?_
    rintro r s6 ⟨u, hr, h6⟩
    subst hr
    refine thnF h6 ?_
    rintro _ s7 ⟨x, H7, I7, r7, y7, st7, n7⟩
    have I7' := I7.pinned (stat I7 n7) (T.obj _ _ st7)
    refine thnF (pg.run _ s7 _ H7 x u _ I7' r7 (step x H7 y7)) ?_
    rintro _ s8 ⟨σ8, H8, I8, hw8, q8⟩
    refine wpAny_pure ?_
    have fin : ∀ {s' : Shared} {H' : Hp}, Inv (X.blk s3 H3 scope ce fp) ([] ++ pinsAt fp s7.heap) σ8 H' s' → Nx H' →
        ∃ m, m < n ∧ ∃ i H', Inv (X.blk s3 H3 scope ce fp) [] (wipe σ (own.map (·.2))) H' s' ∧ tn i s'.heap ∧ (∀ b ∈ fp, H' b = none) ∧ W i m H' := by
      intro s' H' I' nx
      obtain ⟨m', hm, w'⟩ := hNx H' nx
      have pin' : ∀ b ∈ fp, ∀ o, s7.heap.get? b = some o → s'.heap.get? b = some o ∧ H' b = none := by
        intro b hb o e
        have z := I'.pin (b, o) (List.mem_append_right _ (List.mem_append_right _ (mem_pinsAt hb e)))
        exact ⟨z.1, z.2.1⟩
      have hl : (wipe σ (own.map (·.2))).length = σ8.length := by rw [← hw8, wipe_length]
      refine ⟨m', hm, i + 1, H', (I'.unpinned (pins := [])).weak hl (fun j v e => ?_),
        T.keep _ _ _ st7 fun b hb o e => (pin' b hb o e).1, fun b hb => ?_, w'⟩
      · rw [← hw8] at e
        exact (wipe_some e).1
      · obtain ⟨o, e, _⟩ := T.obj _ _ st7 b hb
        exact (pin' b hb o e).2
    show wpAny _ _ (eval kx ce) _ _ _
    refine thnF (pk.run _ s8 σ8 H8 _ I8 q8) ?_
    rintro z s10 ⟨yk, H10, I10, r10, q10⟩
    refine thnF (pe.run _ s10 σ8 H10 _ I10 q10) ?_
    rintro z2 s11 ⟨yv, H11, I11, r11, b, kvs, k, ek, hb, hD11, hz11, nx⟩
    subst ek
    cases r10
    exact setT (X := X.blk s3 H3 scope ce fp) hu I11 hD11 hb hz11 r11 fun s12 I12 => fin I12 nx
end
end AskG
/-! The mathematics of rows: sums, multiples, parts, effects. -/
namespace AskG
open PySem PySem.Spec PyProof.Rows L2

abbrev RowD := List (Cell × Int)
def getO (m : RowD) (c : Cell) : Option Int := (m.find? fun x => decide (x.1 = c)).map (·.2)
def get0 (m : RowD) (c : Cell) : Int := (getO m c).getD 0
def putC (m : RowD) (c : Cell) (w : Int) : RowD :=
  if m.any (fun x => decide (x.1 = c)) then m.map (fun x => if x.1 = c then (x.1, w) else x) else m ++ [(c, w)]
def keys (m : RowD) : List Cell := m.map (·.1)
/-- as the dict holds it -/
def dk (m : RowD) : List (List Key × V) := m.map fun x => (ck x.1, .int x.2)

theorem dk_keys (m : RowD) : (dk m).map (·.1) = (keys m).map ck := by
  unfold dk keys
  rw [List.map_map, List.map_map]
  rfl
theorem dk_length (m : RowD) : (dk m).length = m.length := List.length_map _
theorem getO_cons (x : Cell × Int) (m : RowD) (c : Cell) : getO (x :: m) c = if x.1 = c then some x.2 else getO m c := by
  unfold getO
  rw [List.find?_cons]
  by_cases h : x.1 = c <;> simp [h]
theorem get0_cons (x : Cell × Int) (m : RowD) (c : Cell) : get0 (x :: m) c = if x.1 = c then x.2 else get0 m c := by
  unfold get0
  rw [getO_cons]
  by_cases h : x.1 = c <;> simp [h]
theorem get0_nil (c : Cell) : get0 [] c = 0 := rfl
theorem dk_val : ∀ (m : RowD) (c : Cell), valV (dk m) (ck c) = (getO m c).map V.int
  | [], _ => rfl
  | x :: m, c => by
    rw [getO_cons]
    by_cases h : x.1 = c
    · rw [if_pos h]
      exact valV_pos (p := (ck x.1, V.int x.2)) (congrArg ck h)
    · rw [if_neg h]
      exact (valV_neg (p := (ck x.1, V.int x.2)) (fun e => h (ck_inj e))).trans (dk_val m c)
theorem dk_any (m : RowD) (c : Cell) : ((dk m).any fun kv => decide (kv.1 = ck c)) = m.any fun x => decide (x.1 = c) := by
  unfold dk
  rw [List.any_map]
  congr 1
  funext x
  show decide (ck x.1 = ck c) = decide (x.1 = c)
  by_cases h : x.1 = c
  · rw [h, decide_eq_true rfl, decide_eq_true rfl]
  · rw [decide_eq_false h, decide_eq_false fun e => h (ck_inj e)]
theorem dk_put (m : RowD) (c : Cell) (w : Int) : putK (dk m) (ck c) (.int w) = dk (putC m c w) := by
  unfold putK putC
  rw [dk_any]
  by_cases h : (m.any fun x => decide (x.1 = c)) = true
  · rw [if_pos h, if_pos h]
    unfold dk
    rw [List.map_map, List.map_map]
    refine List.map_congr_left fun x _ => ?_
    show (if ck x.1 = ck c then (ck x.1, V.int w) else (ck x.1, V.int x.2)) = _
    by_cases g : x.1 = c
    · rw [if_pos (congrArg ck g)]
      show _ = (fun x : Cell × Int => (ck x.1, V.int x.2)) (if x.1 = c then (x.1, w) else x)
      rw [if_pos g]
    · rw [if_neg fun e => g (ck_inj e)]
      show _ = (fun x : Cell × Int => (ck x.1, V.int x.2)) (if x.1 = c then (x.1, w) else x)
      rw [if_neg g]
  · rw [if_neg h, if_neg h]
    unfold dk
    rw [List.map_append]
    rfl
theorem mem_any {m : RowD} {c : Cell} : (m.any fun x => decide (x.1 = c)) = true ↔ c ∈ keys m := by
  rw [List.any_eq_true]
  unfold keys
  constructor
  · rintro ⟨x, hx, e⟩
    exact List.mem_map.mpr ⟨x, hx, of_decide_eq_true e⟩
  · intro h
    obtain ⟨x, hx, e⟩ := List.mem_map.mp h
    exact ⟨x, hx, decide_eq_true e⟩
theorem keys_put (m : RowD) (c : Cell) (w : Int) : keys (putC m c w) = if c ∈ keys m then keys m else keys m ++ [c] := by
  unfold putC
  by_cases h : (m.any fun x => decide (x.1 = c)) = true
  · rw [if_pos h, if_pos (mem_any.mp h)]
    unfold keys
    rw [List.map_map]
    refine List.map_congr_left fun x _ => ?_
    show (if x.1 = c then (x.1, w) else x).1 = x.1
    by_cases g : x.1 = c
    · rw [if_pos g]
    · rw [if_neg g]
  · rw [if_neg h, if_neg fun z => h (mem_any.mpr z)]
    unfold keys
    rw [List.map_append]
    rfl
theorem nodup_put {m : RowD} (n : (keys m).Nodup) (c : Cell) (w : Int) : (keys (putC m c w)).Nodup := by
  rw [keys_put]
  by_cases h : c ∈ keys m
  · rw [if_pos h]
    exact n
  · rw [if_neg h]
    refine List.nodup_append.mpr ⟨n, List.nodup_cons.mpr ⟨by simp, List.nodup_nil⟩, fun a ha b hb e => ?_⟩
    rw [List.mem_singleton.mp hb] at e
    exact h (e ▸ ha)
theorem length_put (m : RowD) (c : Cell) (w : Int) : (putC m c w).length ≤ m.length + 1 := by
  unfold putC
  split
  · rw [List.length_map]
    omega
  · rw [List.length_append]
    exact Nat.le_refl _
theorem mem_put {m : RowD} {c : Cell} {w : Int} {x : Cell × Int} (h : x ∈ putC m c w) : x ∈ m ∨ x = (c, w) := by
  unfold putC at h
  split at h
  · obtain ⟨y, hy, e⟩ := List.mem_map.mp h
    by_cases g : y.1 = c
    · rw [if_pos g] at e
      rw [← e, g]
      exact Or.inr rfl
    · rw [if_neg g] at e
      rw [← e]
      exact Or.inl hy
  · rcases List.mem_append.mp h with h | h
    · exact Or.inl h
    · exact Or.inr (List.mem_singleton.mp h)
theorem put_new {m : RowD} {c : Cell} {w : Int} (h : c ∉ keys m) : putC m c w = m ++ [(c, w)] := by
  unfold putC
  rw [if_neg fun z => h (mem_any.mp z)]
theorem getO_none {m : RowD} {c : Cell} (h : c ∉ keys m) : getO m c = none := by
  induction m with
  | nil => rfl
  | cons x m ih =>
    rw [getO_cons, if_neg fun e => h (by rw [← e]; exact List.mem_cons_self)]
    exact ih fun z => h (List.mem_cons_of_mem _ z)
theorem get0_none {m : RowD} {c : Cell} (h : c ∉ keys m) : get0 m c = 0 := by
  unfold get0
  rw [getO_none h]
  rfl
theorem getO_some {m : RowD} {c : Cell} (h : c ∈ keys m) : ∃ w, getO m c = some w ∧ (c, w) ∈ m := by
  induction m with
  | nil => cases h
  | cons x m ih =>
    rw [getO_cons]
    by_cases e : x.1 = c
    · rw [if_pos e]
      exact ⟨x.2, rfl, by rw [← e]; exact List.mem_cons_self⟩
    · rw [if_neg e]
      rcases List.mem_cons.mp h with g | g
      · exact absurd g.symm e
      · obtain ⟨w, h1, h2⟩ := ih g
        exact ⟨w, h1, List.mem_cons_of_mem _ h2⟩
theorem getO_mem {m : RowD} (n : (keys m).Nodup) {x : Cell × Int} (h : x ∈ m) : getO m x.1 = some x.2 := by
  induction m with
  | nil => cases h
  | cons y m ih =>
    rw [getO_cons]
    have n' := List.nodup_cons.mp n
    rcases List.mem_cons.mp h with e | h
    · rw [e, if_pos rfl]
    · rw [if_neg, ih n'.2 h]
      intro e
      refine n'.1 ?_
      show y.1 ∈ keys m
      rw [e]
      exact List.mem_map_of_mem h
theorem get0_mem {m : RowD} (n : (keys m).Nodup) {x : Cell × Int} (h : x ∈ m) : get0 m x.1 = x.2 := by
  unfold get0
  rw [getO_mem n h]
  rfl

/-! ### the dicts that are made -/
def ofRow (r : RowD) : RowD := r.foldl (fun m x => putC m x.1 x.2) []
def addF (m : RowD) (r : RowD) (t : Int) : RowD := r.foldl (fun m x => putC m x.1 (get0 m x.1 + t * x.2)) m
theorem nodup_fold (f : RowD → Cell × Int → Int) : ∀ (r m : RowD), (keys m).Nodup → (keys (r.foldl (fun m x => putC m x.1 (f m x)) m)).Nodup
  | [], _, h => h
  | x :: r, m, h => nodup_fold f r _ (nodup_put h _ _)
theorem length_fold (f : RowD → Cell × Int → Int) : ∀ (r m : RowD), (r.foldl (fun m x => putC m x.1 (f m x)) m).length ≤ m.length + r.length
  | [], m => Nat.le_refl _
  | x :: r, m => by
    have h1 := length_fold f r (putC m x.1 (f m x))
    have h2 := length_put m x.1 (f m x)
    rw [List.length_cons]
    show (r.foldl (fun m x => putC m x.1 (f m x)) (putC m x.1 (f m x))).length ≤ _
    omega
theorem ofRow_nodup (r : RowD) : (keys (ofRow r)).Nodup := nodup_fold (fun _ x => x.2) r [] List.nodup_nil
theorem addF_nodup {m : RowD} (h : (keys m).Nodup) (r : RowD) (t : Int) : (keys (addF m r t)).Nodup := nodup_fold (fun m x => get0 m x.1 + t * x.2) r m h
theorem ofRow_length (r : RowD) : (ofRow r).length ≤ r.length := by
  have := length_fold (fun _ x => x.2) r []
  rw [List.length_nil, Nat.zero_add] at this
  exact this
theorem addF_length (m r : RowD) (t : Int) : (addF m r t).length ≤ m.length + r.length := length_fold (fun m x => get0 m x.1 + t * x.2) r m
theorem fold_app : ∀ (r m : RowD), (keys (m ++ r)).Nodup → r.foldl (fun m x => putC m x.1 x.2) m = m ++ r
  | [], m, _ => (List.append_nil m).symm
  | x :: r, m, h => by
    have e : m ++ x :: r = (m ++ [x]) ++ r := by simp
    have hx : x.1 ∉ keys m := by
      unfold keys at h ⊢
      rw [List.map_append, List.map_cons] at h
      intro hm
      exact (List.nodup_append.mp h).2.2 _ hm _ List.mem_cons_self rfl
    show r.foldl _ (putC m x.1 x.2) = _
    rw [put_new hx, e]
    rw [e] at h
    exact fold_app r _ h
theorem ofRow_self {r : RowD} (h : (keys r).Nodup) : ofRow r = r := fold_app r [] h
theorem addF_app (t : Int) : ∀ (r m : RowD), (keys (m ++ r)).Nodup → addF m r t = m ++ r.map fun x => (x.1, t * x.2)
  | [], m, _ => (List.append_nil m).symm
  | x :: r, m, h => by
    have hx : x.1 ∉ keys m := by
      unfold keys at h ⊢
      rw [List.map_append, List.map_cons] at h
      intro hm
      exact (List.nodup_append.mp h).2.2 _ hm _ List.mem_cons_self rfl
    show addF (putC m x.1 (get0 m x.1 + t * x.2)) r t = _
    rw [put_new hx, get0_none hx, Int.zero_add]
    have e : (m ++ [(x.1, t * x.2)]) ++ r.map (fun x => (x.1, t * x.2)) = m ++ (x :: r).map fun x => (x.1, t * x.2) := by simp
    rw [← e]
    refine addF_app t r _ ?_
    unfold keys at h ⊢
    rw [show (m ++ [(x.1, t * x.2)] ++ r).map (·.1) = (m ++ x :: r).map (·.1) by simp]
    exact h

/-! ### sorted cells -/
def insC (c : Cell) : List Cell → List Cell
  | [] => [c]
  | d :: l => if ltC c d = true then c :: d :: l else d :: insC c l
def sortC (l : List Cell) : List Cell := l.foldr insC []
theorem insC_perm (c : Cell) : ∀ l, (insC c l).Perm (c :: l)
  | [] => List.Perm.refl _
  | d :: l => by
    unfold insC
    split
    · exact List.Perm.refl _
    · exact ((insC_perm c l).cons d).trans (List.Perm.swap c d l)
theorem sortC_perm : ∀ l, (sortC l).Perm l
  | [] => List.Perm.refl _
  | c :: l => (insC_perm c (sortC l)).trans ((sortC_perm l).cons c)
abbrev Rising (l : List Cell) : Prop := l.Pairwise fun a b => ltC a b = true
theorem insC_rising {c : Cell} : ∀ {l : List Cell}, Rising l → c ∉ l → Rising (insC c l)
  | [], _, _ => List.pairwise_singleton _ _
  | d :: l, h, n => by
    have hd := List.pairwise_cons.mp h
    unfold insC
    split
    · rename_i hc
      refine List.pairwise_cons.mpr ⟨fun a ha => ?_, h⟩
      rcases List.mem_cons.mp ha with e | ha
      · rw [e]
        exact hc
      · exact ltC_trans hc (hd.1 a ha)
    · rename_i hc
      have hdc : ltC d c = true := by
        rcases ltC_tri d c with g | g | g
        · exact g
        · exact absurd (g ▸ List.mem_cons_self) n
        · exact absurd g hc
      refine List.pairwise_cons.mpr ⟨fun a ha => ?_, insC_rising hd.2 fun z => n (List.mem_cons_of_mem _ z)⟩
      rcases List.mem_cons.mp ((insC_perm c l).mem_iff.mp ha) with e | ha
      · rw [e]
        exact hdc
      · exact hd.1 a ha
theorem sortC_rising : ∀ {l : List Cell}, l.Nodup → Rising (sortC l)
  | [], _ => List.Pairwise.nil
  | c :: l, n => insC_rising (sortC_rising (List.nodup_cons.mp n).2) fun z => (List.nodup_cons.mp n).1 ((sortC_perm l).mem_iff.mp z)
theorem rising_uniq : ∀ {a b : List Cell}, a.Perm b → Rising a → Rising b → a = b
  | [], b, p, _, _ => by
    cases b with
    | nil => rfl
    | cons y b => exact absurd (p.mem_iff.mpr List.mem_cons_self) (by simp)
  | x :: a, [], p, _, _ => absurd (p.mem_iff.mp List.mem_cons_self) (by simp)
  | x :: a, y :: b, p, ha, hb => by
    have hx := List.pairwise_cons.mp ha
    have hy := List.pairwise_cons.mp hb
    have e : x = y := by
      rcases List.mem_cons.mp (p.mem_iff.mp List.mem_cons_self) with e | h1
      · exact e
      · rcases List.mem_cons.mp (p.mem_iff.mpr List.mem_cons_self) with e | h2
        · exact e.symm
        · have := ltC_trans (hx.1 _ h2) (hy.1 _ h1)
          rw [ltC_irr] at this
          cases this
    subst e
    rw [rising_uniq (List.Perm.cons_inv p) hx.2 hy.2]
theorem rising_nodup {l : List Cell} (h : Rising l) : l.Nodup := h.imp fun h e => by
  rw [e, ltC_irr] at h
  cases h
theorem sortC_self {l : List Cell} (h : Rising l) : sortC l = l := rising_uniq (sortC_perm l) (sortC_rising (rising_nodup h)) h

/-! ### tidy rows -/
def pick (m : RowD) (ys : List Cell) : RowD := (ys.map fun c => (c, get0 m c)).filter fun x => decide (x.2 ≠ 0)
def tidy (m : RowD) : RowD := pick m (sortC (keys m))
structure OkRow (r : RowD) : Prop where
  up : Rising (keys r)
  nz : ∀ x ∈ r, x.2 ≠ 0
theorem keys_pick (m : RowD) (ys : List Cell) : (keys (pick m ys)).Sublist ys := by
  unfold pick keys
  have h := (List.filter_sublist (l := ys.map fun c => (c, get0 m c)) (p := fun x => decide (x.2 ≠ 0))).map (·.1)
  rw [List.map_map] at h
  have e : ys.map ((fun x : Cell × Int => x.1) ∘ fun c => (c, get0 m c)) = ys := by
    rw [show ((fun x : Cell × Int => x.1) ∘ fun c => (c, get0 m c)) = id from rfl]
    exact List.map_id _
  rw [e] at h
  exact h
theorem ok_tidy {m : RowD} (n : (keys m).Nodup) : OkRow (tidy m) :=
  ⟨(sortC_rising n).sublist (keys_pick m _), fun x hx => of_decide_eq_true (List.mem_filter.mp hx).2⟩
theorem tidy_length (m : RowD) : (tidy m).length ≤ m.length := by
  have h := (keys_pick m (sortC (keys m))).length_le
  rw [(sortC_perm (keys m)).length_eq] at h
  unfold keys at h
  rw [List.length_map, List.length_map] at h
  exact h
theorem tidy_mem {m : RowD} (n : (keys m).Nodup) {x : Cell × Int} (h : x ∈ tidy m) : x ∈ m := by
  have h := (List.mem_filter.mp h).1
  obtain ⟨c, hc, e⟩ := List.mem_map.mp h
  obtain ⟨w, h1, h2⟩ := getO_some ((sortC_perm (keys m)).mem_iff.mp hc)
  rw [← e]
  have : get0 m c = w := by
    unfold get0
    rw [h1]
    rfl
  rw [this]
  exact h2
def addR (a b : RowD) (t : Int) : RowD := tidy (addF (ofRow a) b t)
def scaleR (r : RowD) (t : Int) : RowD := if t = 0 then [] else r.map fun x => (x.1, x.2 * t)
theorem tidy_self {r : RowD} (h : Rising (keys r)) : tidy r = r.filter fun x => decide (x.2 ≠ 0) := by
  unfold tidy pick
  rw [sortC_self h]
  have n := rising_nodup h
  have e : (keys r).map (fun c => (c, get0 r c)) = r := by
    unfold keys
    rw [List.map_map]
    have : ∀ x ∈ r, ((fun c => (c, get0 r c)) ∘ fun x : Cell × Int => x.1) x = id x := by
      intro x hx
      show (x.1, get0 r x.1) = x
      rw [get0_mem n hx]
    rw [List.map_congr_left this]
    exact List.map_id _
  rw [e]
theorem addR_nil {r : RowD} (h : OkRow r) (t : Int) : addR [] r t = scaleR r t := by
  unfold addR
  have e0 : ofRow [] = [] := rfl
  rw [e0, addF_app t r [] (rising_nodup h.up), List.nil_append]
  have hk : keys (r.map fun x => (x.1, t * x.2)) = keys r := by
    unfold keys
    rw [List.map_map]
    rfl
  rw [tidy_self (by rw [hk]; exact h.up)]
  unfold scaleR
  by_cases ht : t = 0
  · rw [if_pos ht]
    refine List.filter_eq_nil_iff.mpr fun x hx => ?_
    obtain ⟨y, _, e⟩ := List.mem_map.mp hx
    rw [← e, ht]
    simp
  · rw [if_neg ht, List.filter_eq_self.mpr fun x hx => ?_]
    · refine List.map_congr_left fun x _ => ?_
      rw [Int.mul_comm]
    · obtain ⟨y, hy, e⟩ := List.mem_map.mp hx
      rw [← e]
      exact decide_eq_true (Int.mul_ne_zero ht (h.nz y hy))

/-! ### effects -/
def effR (a b : RowD) : Int := (a.map fun x => x.2 * get0 (ofRow b) x.1).sum
theorem sum_at (c : Cell) (v : Int) : ∀ {b : RowD}, (keys b).Nodup → (b.map fun y => y.2 * (if c = y.1 then v else 0)).sum = v * get0 b c
  | [], _ => by simp [get0_nil]
  | y :: b, n => by
    have n' := List.nodup_cons.mp n
    rw [List.map_cons, List.sum_cons, sum_at c v n'.2, get0_cons]
    by_cases e : c = y.1
    · rw [if_pos e, if_pos e.symm, get0_none (by rw [e]; exact n'.1)]
      rw [Int.mul_comm]
      omega
    · rw [if_neg e, if_neg fun z => e z.symm]
      omega
theorem sum_split (f g h : Cell × Int → Int) : ∀ b : RowD, (∀ y ∈ b, f y = g y + h y) → (b.map f).sum = (b.map g).sum + (b.map h).sum
  | [], _ => rfl
  | y :: b, e => by
    rw [List.map_cons, List.map_cons, List.map_cons, List.sum_cons, List.sum_cons, List.sum_cons,
      sum_split f g h b fun z hz => e z (List.mem_cons_of_mem _ hz), e y List.mem_cons_self]
    omega
theorem sum_sym : ∀ {a b : RowD}, (keys a).Nodup → (keys b).Nodup →
    (a.map fun x => x.2 * get0 b x.1).sum = (b.map fun y => y.2 * get0 a y.1).sum
  | [], b, _, _ => by
    have : ∀ b : RowD, (b.map fun y : Cell × Int => y.2 * get0 [] y.1).sum = 0 := by
      intro b
      induction b with
      | nil => rfl
      | cons y b ih =>
        rw [List.map_cons, List.sum_cons, ih, get0_nil]
        omega
    rw [this]
    rfl
  | x :: a, b, na, nb => by
    have n' := List.nodup_cons.mp na
    rw [List.map_cons, List.sum_cons, sum_sym n'.2 nb]
    rw [sum_split (fun y => y.2 * get0 (x :: a) y.1) (fun y => y.2 * (if x.1 = y.1 then x.2 else 0)) (fun y => y.2 * get0 a y.1) b]
    · rw [sum_at x.1 x.2 nb]
    · intro y _
      show y.2 * get0 (x :: a) y.1 = y.2 * (if x.1 = y.1 then x.2 else 0) + y.2 * get0 a y.1
      rw [get0_cons]
      by_cases e : x.1 = y.1
      · rw [if_pos e, if_pos e, get0_none (by rw [← e]; exact n'.1)]
        omega
      · rw [if_neg e, if_neg e]
        omega
theorem effR_sym {a b : RowD} (ha : OkRow a) (hb : OkRow b) : effR a b = effR b a := by
  unfold effR
  rw [ofRow_self (rising_nodup ha.up), ofRow_self (rising_nodup hb.up)]
  exact sum_sym (rising_nodup ha.up) (rising_nodup hb.up)

/-! ### what a sum holds -/
theorem getO_map {m : RowD} {c d : Cell} {w : Int} : getO (m.map fun x => if x.1 = c then (x.1, w) else x) d = if d = c then (getO m d).map (fun _ => w) else getO m d := by
  induction m with
  | nil => by_cases h : d = c <;> simp [getO, h]
  | cons x m ih =>
    rw [List.map_cons, getO_cons, getO_cons, ih]
    by_cases h1 : x.1 = c
    · rw [if_pos h1]
      by_cases h2 : d = c
      · simp [h1, h2]
      · have h3 : ¬ c = d := fun e => h2 e.symm
        simp [h1, h2, h3]
    · rw [if_neg h1]
      by_cases h2 : d = c
      · have h3 : ¬ x.1 = d := fun e => h1 (e.trans h2)
        simp [h1, h2]
      · simp [h2]
theorem getO_app {m : RowD} {x : Cell × Int} {d : Cell} : getO (m ++ [x]) d = (getO m d).or (if x.1 = d then some x.2 else none) := by
  induction m with
  | nil =>
    rw [List.nil_append, getO_cons]
    rfl
  | cons y m ih =>
    rw [List.cons_append, getO_cons, getO_cons, ih]
    by_cases h : y.1 = d <;> simp [h]
theorem get0_put (m : RowD) (c d : Cell) (w : Int) : get0 (putC m c w) d = if d = c then w else get0 m d := by
  unfold putC get0
  by_cases h : (m.any fun x => decide (x.1 = c)) = true
  · rw [if_pos h, getO_map]
    by_cases e : d = c
    · rw [if_pos e, if_pos e]
      obtain ⟨v, hv, _⟩ := getO_some (mem_any.mp h)
      rw [e, hv]
      rfl
    · rw [if_neg e, if_neg e]
  · rw [if_neg h, getO_app]
    by_cases e : d = c
    · rw [if_pos e, if_pos e.symm, e, getO_none fun z => h (mem_any.mpr z)]
      rfl
    · rw [if_neg e, if_neg fun z => e z.symm]
      cases getO m d <;> rfl
theorem addF_get (t : Int) (d : Cell) : ∀ (r m : RowD), (keys r).Nodup → get0 (addF m r t) d = get0 m d + t * get0 r d
  | [], m, _ => by
    rw [get0_nil, Int.mul_zero, Int.add_zero]
    rfl
  | x :: r, m, n => by
    have n' := List.nodup_cons.mp n
    show get0 (addF (putC m x.1 (get0 m x.1 + t * x.2)) r t) d = _
    rw [addF_get t d r _ n'.2, get0_put, get0_cons]
    by_cases e : d = x.1
    · rw [if_pos e, if_pos e.symm, e, get0_none n'.1, Int.mul_zero, Int.add_zero]
    · rw [if_neg e, if_neg fun z => e z.symm]
theorem addF_keys (t : Int) (d : Cell) : ∀ (r m : RowD), d ∈ keys (addF m r t) → d ∈ keys m ∨ d ∈ keys r
  | [], m, h => Or.inl h
  | x :: r, m, h => by
    rcases addF_keys t d r _ h with h | h
    · rw [keys_put] at h
      by_cases e : x.1 ∈ keys m
      · rw [if_pos e] at h
        exact Or.inl h
      · rw [if_neg e] at h
        rcases List.mem_append.mp h with h | h
        · exact Or.inl h
        · rw [List.mem_singleton.mp h]
          exact Or.inr List.mem_cons_self
    · exact Or.inr (List.mem_cons_of_mem _ h)
theorem sub_length : ∀ {l m : List Cell}, l.Nodup → (∀ x ∈ l, x ∈ m) → l.length ≤ m.length
  | [], _, _, _ => Nat.zero_le _
  | x :: l, m, n, h => by
    have n' := List.nodup_cons.mp n
    have hx := h x List.mem_cons_self
    have := sub_length (l := l) (m := m.erase x) n'.2 fun y hy => (List.mem_erase_of_ne (a := y) (b := x) fun e => n'.1 (by rw [← e]; exact hy)).mpr (h y (List.mem_cons_of_mem _ hy))
    rw [List.length_erase_of_mem hx] at this
    have : 0 < m.length := List.length_pos_of_mem hx
    rw [List.length_cons]
    omega
/-- rows on some cells, with bounded weights -/
structure DrawnR (cs : List Cell) (B : Int) (r : RowD) : Prop where
  ok : OkRow r
  on : ∀ c ∈ keys r, c ∈ cs
  lit : ∀ c, -B ≤ get0 r c ∧ get0 r c ≤ B
theorem DrawnR.mono {cs : List Cell} {B C : Int} {r : RowD} (h : DrawnR cs B r) (e : B ≤ C) : DrawnR cs C r := ⟨h.ok, h.on, fun c => by have := h.lit c; omega⟩
theorem DrawnR.many {cs : List Cell} {B : Int} {r : RowD} (h : DrawnR cs B r) : r.length ≤ cs.length := by
  have := sub_length (rising_nodup h.ok.up) h.on
  unfold keys at this
  rw [List.length_map] at this
  exact this
theorem DrawnR.at' {cs : List Cell} {B : Int} {r : RowD} (h : DrawnR cs B r) {x : Cell × Int} (hx : x ∈ r) : -B ≤ x.2 ∧ x.2 ≤ B := by
  have := h.lit x.1
  rw [get0_mem (rising_nodup h.ok.up) hx] at this
  exact this
theorem get0_tidy {m : RowD} (n : (keys m).Nodup) (c : Cell) : get0 (tidy m) c = get0 m c := by
  by_cases h : c ∈ keys (tidy m)
  · obtain ⟨w, h1, h2⟩ := getO_some h
    have e1 : get0 (tidy m) c = w := by
      unfold get0
      rw [h1]
      rfl
    have e2 := get0_mem n (tidy_mem n h2)
    rw [e1]
    exact e2.symm
  · rw [get0_none h]
    by_cases hm : c ∈ keys m
    · by_cases h0 : get0 m c = 0
      · exact h0.symm
      · exfalso
        refine h ?_
        have : (c, get0 m c) ∈ tidy m := List.mem_filter.mpr ⟨List.mem_map.mpr ⟨c, (sortC_perm (keys m)).mem_iff.mpr hm, rfl⟩, decide_eq_true h0⟩
        exact List.mem_map_of_mem (f := fun x : Cell × Int => x.1) this
    · exact (get0_none hm).symm
theorem get0_ofRow {a : RowD} (h : OkRow a) (c : Cell) : get0 (ofRow a) c = get0 a c := by rw [ofRow_self (rising_nodup h.up)]
theorem get0_addR {a b : RowD} (ha : OkRow a) (hb : OkRow b) (t : Int) (c : Cell) : get0 (addR a b t) c = get0 a c + t * get0 b c := by
  unfold addR
  rw [get0_tidy (addF_nodup (ofRow_nodup a) b t), addF_get t c b _ (rising_nodup hb.up), get0_ofRow ha]
theorem DrawnR.sum {cs : List Cell} {B C : Int} {a b : RowD} (ha : DrawnR cs B a) (hb : DrawnR cs C b) : DrawnR cs (B + C) (addR a b 1) := by
  have n := addF_nodup (ofRow_nodup a) b 1
  refine ⟨ok_tidy n, fun c hc => ?_, fun c => ?_⟩
  · have h1 : c ∈ keys (addF (ofRow a) b 1) := by
      obtain ⟨x, hx, e⟩ := List.mem_map.mp hc
      rw [← e]
      exact List.mem_map_of_mem (tidy_mem n hx)
    rcases addF_keys 1 c b _ h1 with h | h
    · rw [ofRow_self (rising_nodup ha.ok.up)] at h
      exact ha.on c h
    · exact hb.on c h
  · rw [get0_addR ha.ok hb.ok, Int.one_mul]
    have h1 := ha.lit c
    have h2 := hb.lit c
    omega
theorem ok_nil : OkRow [] := ⟨List.Pairwise.nil, fun x hx => absurd hx (by simp)⟩
theorem drawn_nil {cs : List Cell} {B : Int} (h : 0 ≤ B) : DrawnR cs B [] := ⟨ok_nil, fun c hc => absurd hc (by simp [keys]), fun c => by rw [get0_nil]; omega⟩
theorem drawn_tidy {m : RowD} {cs : List Cell} {B : Int} (hm : keys m = cs) (n : cs.Nodup) (h0 : 0 ≤ B) (hB : ∀ x ∈ m, -B ≤ x.2 ∧ x.2 ≤ B) : DrawnR cs B (tidy m) := by
  have nm : (keys m).Nodup := by
    rw [hm]
    exact n
  refine ⟨ok_tidy nm, fun c hc => ?_, fun c => ?_⟩
  · rw [← hm]
    obtain ⟨x, hx, e⟩ := List.mem_map.mp hc
    rw [← e]
    exact List.mem_map_of_mem (tidy_mem nm hx)
  · rw [get0_tidy nm]
    by_cases h : c ∈ keys m
    · obtain ⟨w, h1, h2⟩ := getO_some h
      have : get0 m c = w := by
        unfold get0
        rw [h1]
        rfl
      rw [this]
      exact hB _ h2
    · rw [get0_none h]
      omega
end AskG
/-! Rows in the heap. -/
namespace AskG
open PySem PySem.Spec PyProof.Rows L2

def PairRow (H : Hp) (p : Addr) (x : Cell × Int) : Prop := ∃ b, H p = some (.tup [.ref b, .int x.2]) ∧ CellAt H b x.1
def RowAt (H : Hp) (r : Addr) (ρ : RowD) : Prop := ∃ ps : List Addr, H r = some (.tup (ps.map V.ref)) ∧ Paired (PairRow H) ps ρ
/-- the tuples stay -/
def KeepT (H H' : Hp) : Prop := ∀ b xs, H b = some (.tup xs) → H' b = some (.tup xs)
theorem KeepT.of {H H' : Hp} (h : Same H H') : KeepT H H' := fun b xs e => h b _ e
theorem KeepT.trans {H H1 H2 : Hp} (h : KeepT H H1) (g : KeepT H1 H2) : KeepT H H2 := fun b xs e => g b xs (h b xs e)
theorem KeepT.refl (H : Hp) : KeepT H H := fun _ _ e => e
theorem KeepT.new {H : Hp} {p : Addr} {o : HO} (h : H p = none) : KeepT H (upd H p o) := fun b xs e => by
  rw [upd_ne (ne_of_none e h)]
  exact e
theorem KeepT.put {H : Hp} {p : Addr} {o u : HO} (h : H p = some u) (n : ∀ xs, u ≠ .tup xs) : KeepT H (upd H p o) := fun b xs e => by
  rw [upd_ne (ne_of e h fun z => n xs z.symm)]
  exact e
theorem CellAt.keep {H H' : Hp} {b : Addr} {c : Cell} (h : CellAt H b c) (k : KeepT H H') : CellAt H' b c := k _ _ h
theorem PairRow.keep {H H' : Hp} {p : Addr} {x : Cell × Int} (h : PairRow H p x) (k : KeepT H H') : PairRow H' p x := by
  obtain ⟨b, h1, h2⟩ := h
  exact ⟨b, k _ _ h1, h2.keep k⟩
theorem RowAt.keep {H H' : Hp} {r : Addr} {ρ : RowD} (h : RowAt H r ρ) (k : KeepT H H') : RowAt H' r ρ := by
  obtain ⟨ps, h1, h2⟩ := h
  exact ⟨ps, k _ _ h1, Paired.mapP h2 fun _ _ z => z.keep k⟩
theorem same_new {H : Hp} {p : Addr} {o : HO} (h : H p = none) : Same H (upd H p o) := fun b x e => by
  rw [upd_ne (ne_of_none e h)]
  exact e
theorem paired_at {α β : Type} {R : α → β → Prop} : ∀ {l : List α} {m : List β}, Paired R l m → ∀ {i : Nat} {y : β}, m[i]? = some y → ∃ x, l[i]? = some x ∧ R x y
  | _, _, .nil, i, y, e => by simp at e
  | _, _, .cons (a := a) h t, 0, y, e => ⟨a, rfl, by rw [← Option.some.inj e]; exact h⟩
  | _, _, .cons h t, i + 1, y, e => by
    obtain ⟨x, h1, h2⟩ := paired_at t (i := i) (by simpa using e)
    exact ⟨x, by simpa using h1, h2⟩
theorem paired_at' {α β : Type} {R : α → β → Prop} : ∀ {l : List α} {m : List β}, Paired R l m → ∀ {i : Nat} {x : α}, l[i]? = some x → ∃ y, m[i]? = some y ∧ R x y
  | _, _, .nil, i, y, e => by simp at e
  | _, _, .cons (b := b) h t, 0, y, e => ⟨b, rfl, by rw [← Option.some.inj e]; exact h⟩
  | _, _, .cons h t, i + 1, y, e => by
    obtain ⟨x, h1, h2⟩ := paired_at' t (i := i) (by simpa using e)
    exact ⟨x, by simpa using h1, h2⟩
theorem sqT {K : PySem.W.Frag} {H : Hp} {a : Addr} {xs : List V} (h : H a = some (.tup xs)) : SqT K H a xs := .inl (.inl h)
theorem sqL {K : PySem.W.Frag} {H : Hp} {a : Addr} {xs : List V} (h : H a = some (.lst xs)) : SqL K H a xs := .inl (.inl h)

/-! ### comprehensions of dicts over a tuple -/
theorem dcT_tup {K : PySem.W.Frag} {a : Addr} {xs : List V} {g : TG} {tk tv : TE} {vs : List Nat} {σ : L2.St} {H1 : Hp} {D : Addr} {Qd : Hp → Prop}
    (Pv : Nat → Hp → Prop) (h0 : Pv 0 (upd H1 D (.dT []))) (hl : ∀ i H, i ≤ xs.length → Pv i H → SqT K H a xs)
    (hs : ∀ i x H, xs[i]? = some x → Pv i H → g x (wipe σ vs) H fun σ2 H2 => wipe σ2 vs = wipe σ vs ∧ tk σ2 H2 fun y H4 => tv σ2 H4 fun z H5 =>
      ∃ b kvs k, y = .ref b ∧ H5 b = some (.tup (k.map kV)) ∧ H5 D = some (.dT kvs) ∧ kvs.length < sizeLine ∧ Pv (i + 1) (upd H5 D (.dT (putK kvs k z))))
    (hd : ∀ H, Pv xs.length H → Qd H) :
    ∃ W : Nat → Nat → Hp → Prop, (∃ m, W 0 m (upd H1 D (.dT []))) ∧ ∀ i m H, W i m H →
      ((Itt K a).stop i H ∧ Qd H) ∨ ((Itt K a).go i H ∧ ∃ Nx : Hp → Prop, (∀ H', Nx H' → ∃ m', m' < m ∧ W (i + 1) m' H') ∧
        ∀ x H', (Itt K a).yld i H x H' → g x (wipe σ vs) H' fun σ2 H2 => wipe σ2 vs = wipe σ vs ∧ tk σ2 H2 fun y H4 => tv σ2 H4 fun z H5 =>
          ∃ b kvs k, y = .ref b ∧ H5 b = some (.tup (k.map kV)) ∧ H5 D = some (.dT kvs) ∧ kvs.length < sizeLine ∧ Nx (upd H5 D (.dT (putK kvs k z)))) := by
  refine ⟨fun i m H => m = xs.length - i ∧ i ≤ xs.length ∧ Pv i H, ⟨xs.length, by simp, Nat.zero_le _, h0⟩, ?_⟩
  rintro i m H ⟨rfl, hi, p⟩
  have q := hl i H hi p
  by_cases hlt : i < xs.length
  · refine .inr ⟨⟨xs, xs[i], q, by simp [hlt]⟩, Pv (i + 1), fun H' p' => ⟨xs.length - (i + 1), by omega, rfl, hlt, p'⟩, ?_⟩
    rintro x H' ⟨e, y⟩
    subst e
    exact hs i x _ (y xs q) p
  · obtain rfl : i = xs.length := by omega
    exact .inl ⟨⟨xs, q, Nat.le_refl _⟩, hd H p⟩

theorem set2 {σ : L2.St} {a b : Nat} {v w : V} (ha : a < σ.length) (hb : b < σ.length) (hab : a ≠ b) :
    ((σ.set a (some v)).set b (some w))[a]? = some (some v) ∧ ((σ.set a (some v)).set b (some w))[b]? = some (some w) := by
  constructor
  · rw [List.getElem?_set_ne (fun e => hab e.symm), List.getElem?_set_self ha]
  · rw [List.getElem?_set_self (by rw [List.length_set]; exact hb)]
theorem set_over {σ : L2.St} (i : Nat) (x : Option V) : (σ.set i x).set i none = σ.set i none := List.set_set ..
theorem wipe2 {σ : L2.St} {a b : Nat} {v w : V} (hab : a ≠ b) : wipe (((wipe σ [a, b]).set a (some v)).set b (some w)) [a, b] = wipe σ [a, b] := by
  show ((((((σ.set b none).set a none)).set a (some v)).set b (some w)).set b none).set a none = (σ.set b none).set a none
  rw [List.set_set, List.set_set, List.set_comm _ _ hab, List.set_set, List.set_set]
theorem sizeBig : 100000 < sizeLine := by decide

/-- {cell: weight for cell, weight in row} -/
theorem dc_row {K : PySem.W.Frag} {i a b : Nat} {σ : L2.St} {H : Hp} {Q : VK} {r : Addr} {ρ : RowD} (hi : σ[i]? = some (some (.ref r))) (R : RowAt H r ρ)
    (ha : a < σ.length) (hb : b < σ.length) (hab : a ≠ b) (hz : ρ.length ≤ 1000)
    (q : ∀ D, H D = none → Q (.ref D) (upd H D (.dT (dk (ofRow ρ))))) :
    tDcT (iTup K (tVar i)) (gTup K 2 (gCons (gName a) (gCons (gName b) gNil))) (tVar a) (tVar b) [a, b] σ H Q := by
  obtain ⟨ps, hr, hp⟩ := R
  refine ⟨.ref r, hi, r, rfl, ⟨_, sqT hr⟩, fun D hD => ?_⟩
  refine dcT_tup (xs := ps.map V.ref) (fun i H' => H' = upd H D (.dT (dk (ofRow (ρ.take i))))) rfl (fun i H' _ e => ?_) (fun i x H' hx e => ?_) (fun H' e => ?_)
  · rw [e]
    refine sqT ?_
    rw [upd_ne (ne_of_none hr hD)]
    exact hr
  · subst e
    rw [List.getElem?_map] at hx
    cases hpi : ps[i]? with
    | none =>
      rw [hpi] at hx
      cases hx
    | some p =>
      rw [hpi] at hx
      have ex : V.ref p = x := Option.some.inj hx
      subst ex
      obtain ⟨y, hy, bb, h1, h2⟩ := paired_at' hp hpi
      have kp : KeepT H (upd H D (.dT (dk (ofRow (ρ.take i))))) := KeepT.new hD
      refine ⟨p, [.ref bb, .int y.2], rfl, sqT (kp _ _ h1), rfl, .ref bb, [.int y.2], rfl, .int y.2, [], rfl, rfl, ?_⟩
      refine ⟨wipe2 hab, .ref bb, (set2 (by rw [wipe_length]; exact ha) (by rw [wipe_length]; exact hb) hab).1, .int y.2, (set2 (by rw [wipe_length]; exact ha) (by rw [wipe_length]; exact hb) hab).2, bb, dk (ofRow (ρ.take i)), ck y.1, rfl, kp _ _ h2, upd_same, ?_, ?_⟩
      · rw [dk_length]
        have h1 := ofRow_length (ρ.take i)
        have h2 := List.length_take_le i ρ
        have := sizeBig
        have h3 : (ρ.take i).length ≤ ρ.length := by
          rw [List.length_take]
          omega
        omega
      · rw [upd_upd, dk_put, List.take_add_one, hy]
        show _ = upd H D (.dT (dk ((ρ.take i ++ [y]).foldl _ [])))
        rw [List.foldl_append]
        rfl
  · have : (ps.map V.ref).length = ρ.length := by rw [List.length_map, Paired.length hp]
    rw [e, this, List.take_length]
    exact q D hD

theorem ck_kV (c : Cell) : (ck c).map kV = [V.str c.1, V.int c.2] := rfl
theorem wipe1 {σ : L2.St} {a : Nat} {v : V} : wipe ((wipe σ [a]).set a (some v)) [a] = wipe σ [a] := by
  show (((σ.set a none).set a (some v)).set a none) = σ.set a none
  rw [List.set_set, List.set_set]
theorem wipe_at {σ : L2.St} {a i : Nat} (h : i ≠ a) : (wipe σ [a])[i]? = σ[i]? := by
  show (σ.set a none)[i]? = σ[i]?
  exact List.getElem?_set_ne (fun e => h e.symm)
theorem dget_of {H : Hp} {D b : Addr} {m : RowD} {c : Cell} (hD : H D = some (.dT (dk m))) (hb : CellAt H b c) : DGet H D (.ref b) ((getO m c).map V.int) := by
  have := DGet.t (k := ck c) hD (by rw [ck_kV]; exact hb)
  rw [dk_val] at this
  exact this
/-- [(cell, weights[cell]) for cell in sorted(weights) if weights[cell] != 0] -/
theorem lc_tidy {K : PySem.W.Frag} {iw ic : Nat} {σ : L2.St} {H : Hp} {Q : VK} {D : Addr} {m : RowD} (hw : σ[iw]? = some (some (.ref D))) (hne : iw ≠ ic) (hic : ic < σ.length)
    (hD : H D = some (.dT (dk m))) (n : (keys m).Nodup) (hz : m.length ≤ 1000)
    (q : ∀ H' L ps, Same H H' → H L = none → H' L = some (.lst (ps.map V.ref)) → Paired (PairRow H') ps (tidy m) → Q (.ref L) H') :
    tLc (iList K (tCB rSortT (tCons (tVar iw) tNil))) (gName ic) (tTest (tOp rNe (tDGet (tVar iw) (tVar ic)) (tC (V.int 0))))
      (tTup (tCons (tVar ic) (tCons (tDGet (tVar iw) (tVar ic)) tNil))) [ic] σ H Q := by
  refine ⟨.ref D, hw, D, dk m, keys m, rfl, .inl hD, dk_keys m, fun ys bs p hp hup hbs hpn => ?_⟩
  have ey : ys = sortC (keys m) := rising_uniq (hp.trans (sortC_perm (keys m)).symm) hup (sortC_rising n)
  have s1 : Same H (upd H p (.lst (bs.map V.ref))) := same_new hpn
  refine ⟨p, rfl, ⟨_, sqL upd_same⟩, fun L hL => ?_⟩
  have hLH : H L = none := s1.free hL
  refine lc_list (xs := bs.map V.ref) (fun i H' => Same (upd H p (.lst (bs.map V.ref))) H' ∧ ∃ ps, H' L = some (.lst (ps.map V.ref)) ∧ Paired (PairRow H') ps (pick m (ys.take i)) ∧ ps.length ≤ i)
    ⟨same_new hL, [], upd_same, .nil, Nat.le_refl _⟩ (fun i H' _ h => sqL (h.1 _ _ upd_same)) (fun i x H' hx h => ?_) (fun H' h => ?_)
  · obtain ⟨sm, ps, hps, hpp, hpl⟩ := h
    have smH : Same H H' := s1.trans sm
    rw [List.getElem?_map] at hx
    cases hbi : bs[i]? with
    | none =>
      rw [hbi] at hx
      cases hx
    | some b =>
      rw [hbi] at hx
      have ex : V.ref b = x := Option.some.inj hx
      subst ex
      obtain ⟨c, hc, hcb⟩ := paired_at' hbs hbi
      have hcm : c ∈ keys m := hp.mem_iff.mp (List.mem_of_getElem? hc)
      obtain ⟨w, hw1, hw2⟩ := getO_some hcm
      have hcb' : CellAt H' b c := hcb.keep (KeepT.of smH)
      have dg : DGet H' D (.ref b) (some (.int w)) := by
        have := dget_of (smH _ _ hD) hcb'
        rw [hw1] at this
        exact this
      have g0 : get0 m c = w := by
        unfold get0
        rw [hw1]
        rfl
      have bl : i < bs.length := (List.getElem?_eq_some_iff.mp hbi).1
      have ysl : bs.length = ys.length := Paired.length hbs
      have yml : ys.length = m.length := by
        rw [hp.length_eq]
        exact List.length_map _
      have big := sizeBig
      have aw : ((wipe σ [ic]).set ic (some (.ref b)))[iw]? = some (some (.ref D)) := by
        rw [List.getElem?_set_ne (fun e => hne e.symm), wipe_at hne]
        exact hw
      have ac : ((wipe σ [ic]).set ic (some (.ref b)))[ic]? = some (some (.ref b)) := List.getElem?_set_self (by rw [wipe_length]; exact hic)
      have pk : pick m (ys.take (i + 1)) = pick m (ys.take i) ++ (if w ≠ 0 then [(c, w)] else []) := by
        rw [List.take_add_one, hc]
        unfold pick
        rw [List.map_append, List.filter_append]
        congr 1
        show List.filter _ [(c, get0 m c)] = _
        rw [g0]
        by_cases h0 : w = 0
        · simp [h0]
        · simp [h0]
      refine ⟨wipe1, .ref D, aw, .ref b, ac, D, .int w, rfl, dg, rfl, _, rfl, ?_⟩
      by_cases h0 : w = 0
      · rw [h0]
        refine iteF ?_
        refine ⟨sm, ps, hps, ?_, by omega⟩
        rw [pk, if_neg (by simp [h0]), List.append_nil]
        exact hpp
      · have e0 : (!decide (V.int w = V.int 0)) = true := by
          rw [decide_eq_false fun z => h0 (V.int.inj z)]
          rfl
        rw [e0]
        refine iteT ?_
        refine ⟨.ref b, ac, .ref D, aw, .ref b, ac, D, .int w, rfl, dg, by show 2 ≤ sizeLine; decide, fun t ht => ?_⟩
        have nLt : L ≠ t := ne_of_none hps ht
        refine ⟨ps.map V.ref, by rw [upd_ne nLt]; exact hps, by rw [List.length_map]; omega, ?_, ps ++ [t], ?_, ?_, ?_⟩
        · intro b' o' e'
          have nb : b' ≠ L := ne_of_none e' hL
          rw [upd_ne nb, upd_ne (ne_of_none (sm _ _ e') ht)]
          exact sm _ _ e'
        · rw [upd_same, List.map_append]
          rfl
        · have kp : KeepT H' (upd (upd H' t (.tup [.ref b, .int w])) L (.lst (ps.map V.ref ++ [.ref t]))) :=
            (KeepT.new ht).trans (KeepT.put (u := .lst (ps.map V.ref)) (by rw [upd_ne nLt]; exact hps) (fun _ z => nomatch z))
          rw [pk, if_pos h0]
          refine Paired.snoc (Paired.mapP hpp fun _ _ z => z.keep kp) ⟨b, ?_, hcb'.keep kp⟩
          rw [upd_ne nLt.symm, upd_same]
        · rw [List.length_append]
          show ps.length + 1 ≤ i + 1
          omega
  · obtain ⟨sm, ps, hps, hpp, _⟩ := h
    have e : ys.take (bs.map V.ref).length = ys := List.take_of_length_le (by rw [List.length_map, Paired.length hbs]; exact Nat.le_refl _)
    rw [e, ey] at hpp
    exact q H' L ps (s1.trans sm) hLH hps hpp

/-- the row of a made list of pairs -/
theorem row_of_list {H : Hp} {L p : Addr} {ps : List Addr} {ρ : RowD} (hp : H p = none) (h : Paired (PairRow H) ps ρ) : RowAt (upd H p (.tup (ps.map V.ref))) p ρ :=
  ⟨ps, upd_same, Paired.mapP h fun _ _ z => z.keep (KeepT.new hp)⟩

/-- for cell, weight in row: weights[cell] = weights.get(cell, 0) + t * weight -/
theorem for_add {K : PySem.W.Frag} {io iw a b : Nat} {σ : L2.St} {H : Hp} {Dn : Ends} {Dd r : Addr} {π m : RowD} {t : Int} {tv : TE}
    (hio : σ[io]? = some (some (.ref r))) (hiw : σ[iw]? = some (some (.ref Dd))) (wa : iw ≠ a) (wb : iw ≠ b) (ha : a < σ.length) (hb : b < σ.length) (hab : a ≠ b)
    (R : RowAt H r π) (hD : H Dd = some (.dT (dk m))) (hz : m.length + π.length ≤ 1000)
    (htv : ∀ (σ' : L2.St) (H' : Hp) (c : Cell) (w : Int) (m' : RowD) (bb : Addr) (Q : VK), (c, w) ∈ π → (∀ j, j ≠ a → j ≠ b → σ'[j]? = σ[j]?) → σ'[a]? = some (some (.ref bb)) → σ'[b]? = some (some (.int w)) →
      H' Dd = some (.dT (dk m')) → CellAt H' bb c → Q (.int (get0 m' c + t * w)) H' → tv σ' H' Q)
    (q : ∀ σ', (∀ j, j ≠ a → j ≠ b → σ'[j]? = σ[j]?) → σ'.length = σ.length → Dn.nx σ' (upd H Dd (.dT (dk (addF m π t))))) :
    tFor (iTup K (tVar io)) (gTup K 2 (gCons (gName a) (gCons (gName b) gNil))) (sDPut (tVar iw) (tVar a) tv) Dn σ H := by
  obtain ⟨ps, hr, hp⟩ := R
  refine ⟨.ref r, hio, r, rfl, ⟨_, sqT hr⟩, ?_⟩
  refine for_tup (xs := ps.map V.ref) (fun i σ' H' => (∀ j, j ≠ a → j ≠ b → σ'[j]? = σ[j]?) ∧ σ'.length = σ.length ∧ H' = upd H Dd (.dT (dk (addF m (π.take i) t))))
    ⟨fun _ _ _ => rfl, rfl, ?_⟩ (fun i σ' H' _ h => ?_) (fun i x σ' H' hx h => ?_) (fun σ' H' h => ?_)
  · funext c
    show H c = upd H Dd (.dT (dk m)) c
    by_cases e : c = Dd
    · rw [e, upd_same, hD]
    · rw [upd_ne e]
  · rw [h.2.2]
    refine sqT ?_
    rw [upd_ne (ne_of hr hD fun z => nomatch z)]
    exact hr
  · obtain ⟨hj, hl, rfl⟩ := h
    rw [List.getElem?_map] at hx
    cases hpi : ps[i]? with
    | none =>
      rw [hpi] at hx
      cases hx
    | some p =>
      rw [hpi] at hx
      have ex : V.ref p = x := Option.some.inj hx
      subst ex
      obtain ⟨y, hy, bb, h1, h2⟩ := paired_at' hp hpi
      have kp : KeepT H (upd H Dd (.dT (dk (addF m (π.take i) t)))) := KeepT.put hD fun _ z => nomatch z
      have s2 := set2 (v := .ref bb) (w := .int y.2) (by rw [hl]; exact ha) (by rw [hl]; exact hb) hab
      have hj' : ∀ j, j ≠ a → j ≠ b → ((σ'.set a (some (.ref bb))).set b (some (.int y.2)))[j]? = σ[j]? := fun j h1 h2 => by
        rw [List.getElem?_set_ne (fun e => h2 e.symm), List.getElem?_set_ne (fun e => h1 e.symm)]
        exact hj j h1 h2
      refine ⟨p, [.ref bb, .int y.2], rfl, sqT (kp _ _ h1), rfl, .ref bb, [.int y.2], rfl, .int y.2, [], rfl, rfl, ?_⟩
      refine htv _ _ y.1 y.2 (addF m (π.take i) t) bb _ (List.mem_of_getElem? hy) hj' s2.1 s2.2 upd_same (kp _ _ h2) ?_
      have pl : (π.take i).length ≤ π.length := by
        rw [List.length_take]
        omega
      have al := addF_length m (π.take i) t
      have big := sizeBig
      refine ⟨.ref Dd, by rw [hj' iw wa wb]; exact hiw, .ref bb, s2.1, Dd, _, rfl, DPut.t (k := ck y.1) upd_same (by rw [ck_kV]; exact kp _ _ h2) (by rw [dk_length]; omega), ?_⟩
      refine ⟨hj', by rw [List.length_set, List.length_set]; exact hl, ?_⟩
      rw [upd_upd, dk_put, List.take_add_one, hy]
      show _ = upd H Dd (.dT (dk ((π.take i ++ [y]).foldl _ m)))
      rw [List.foldl_append]
      rfl
  · obtain ⟨hj, hl, rfl⟩ := h
    have e : π.take (ps.map V.ref).length = π := List.take_of_length_le (by rw [List.length_map, Paired.length hp]; exact Nat.le_refl _)
    rw [e]
    exact q σ' hj hl

/-! ### readings, opened one at a time -/
theorem iSeq {t u : TS} {D : Ends} {σ : L2.St} {H : Hp} (h : t { D with nx := u D } σ H) : tSeq t u D σ H := h
theorem iAsg {te : TE} {g : TG} {D : Ends} {σ : L2.St} {H : Hp} (h : te σ H fun x H1 => g x σ H1 D.nx) : tAsg te g D σ H := h
theorem iRet {te : TE} {D : Ends} {σ : L2.St} {H : Hp} (h : te σ H D.rt) : tRet te D σ H := h
theorem iCB {r : List V → Hp → VK → Prop} {t : TA} {σ : L2.St} {H : Hp} {Q : VK} (h : t σ H fun vs H1 => r vs H1 Q) : tCB r t σ H Q := h
theorem iCons {ta : TE} {tr : TA} {σ : L2.St} {H : Hp} {Q : List V → Hp → Prop} (h : ta σ H fun x H1 => tr σ H1 fun xs H2 => Q (x :: xs) H2) : tCons ta tr σ H Q := h
theorem iOp {r : R2} {ta tb : TE} {σ : L2.St} {H : Hp} {Q : VK} (h : ta σ H fun x H1 => tb σ H1 fun y H2 => r x y H2 Q) : tOp r ta tb σ H Q := h
theorem iTest {t : TE} {σ : L2.St} {H : Hp} {Q : Bool → Hp → Prop} (h : t σ H fun x H' => ∃ k, x = .bl k ∧ Q k H') : tTest t σ H Q := h
theorem iNext {D : Ends} {σ : L2.St} {H : Hp} (h : D.nx σ H) : tNext D σ H := h
theorem iName {i : Nat} {v : V} {σ : L2.St} {H : Hp} {Q : L2.St → Hp → Prop} (h : Q (σ.set i (some v)) H) : gName i v σ H Q := h
/-- a value by what holds of it -/
theorem split_k {t : TE} {σ : L2.St} {H : Hp} {Q : VK} (R : V → Hp → Prop) (h1 : ∀ Q' : VK, (∀ v H', R v H' → Q' v H') → t σ H Q') (h2 : ∀ v H', R v H' → Q v H') : t σ H Q := h1 Q h2
/-- a block by what holds behind it -/
theorem split_s {t : TS} {D : Ends} {σ : L2.St} {H : Hp} (R : L2.St → Hp → Prop) (h1 : ∀ nx : L2.St → Hp → Prop, (∀ σ' H', R σ' H' → nx σ' H') → t { D with nx := nx } σ H) (h2 : ∀ σ' H', R σ' H' → D.nx σ' H') : t D σ H := h1 D.nx h2
theorem iNil {σ : L2.St} {H : Hp} {Q : List V → Hp → Prop} (h : Q [] H) : tNil σ H Q := h
end AskG
/-! Comprehensions over rows. -/
namespace AskG
open PySem PySem.Spec PyProof.Rows L2
abbrev g2 (K : PySem.W.Frag) (a b : Nat) : TG := gTup K 2 (gCons (gName a) (gCons (gName b) gNil))
/-- the slots at a turn: the two targets, all else as it was -/
structure Turn2 (σ σ' : L2.St) (a b : Nat) (v w : V) : Prop where
  fst : σ'[a]? = some (some v)
  snd : σ'[b]? = some (some w)
  old : ∀ j, j ≠ a → j ≠ b → σ'[j]? = σ[j]?
theorem turn2 {σ : L2.St} {a b : Nat} {v w : V} (ha : a < σ.length) (hb : b < σ.length) (hab : a ≠ b) :
    Turn2 σ (((wipe σ [a, b]).set a (some v)).set b (some w)) a b v w := by
  have s2 := set2 (σ := wipe σ [a, b]) (v := v) (w := w) (by rw [wipe_length]; exact ha) (by rw [wipe_length]; exact hb) hab
  refine ⟨s2.1, s2.2, fun j h1 h2 => ?_⟩
  rw [List.getElem?_set_ne (fun e => h2 e.symm), List.getElem?_set_ne (fun e => h1 e.symm)]
  show ((σ.set b none).set a none)[j]? = _
  rw [List.getElem?_set_ne (fun e => h1 e.symm), List.getElem?_set_ne (fun e => h2 e.symm)]

/-- [(cell, g weight) for cell, weight in row if ..] -/
theorem lc_rows {K : PySem.W.Frag} {i a b : Nat} {σ : L2.St} {H : Hp} {Q : VK} {r : Addr} {ρ : RowD} {tt : TT} {tw : TE} (keep : Cell × Int → Bool) (g : Cell × Int → Int)
    (hi : σ[i]? = some (some (.ref r))) (R : RowAt H r ρ) (ha : a < σ.length) (hb : b < σ.length) (hab : a ≠ b) (hz : ρ.length ≤ 1000)
    (htt : ∀ σ' H' bb x (Q : Bool → Hp → Prop), x ∈ ρ → Same H H' → Turn2 σ σ' a b (.ref bb) (.int x.2) → CellAt H' bb x.1 → (∀ H'', Same H' H'' → Q (keep x) H'') → tt σ' H' Q)
    (htw : ∀ σ' H' bb x (Q : VK), x ∈ ρ → Same H H' → Turn2 σ σ' a b (.ref bb) (.int x.2) → CellAt H' bb x.1 → Q (.int (g x)) H' → tw σ' H' Q)
    (q : ∀ H' L ps, Same H H' → H L = none → H' L = some (.lst (ps.map V.ref)) → Paired (PairRow H') ps ((ρ.filter keep).map fun x => (x.1, g x)) → Q (.ref L) H') :
    tLc (iTup K (tVar i)) (g2 K a b) tt (tTup (tCons (tVar a) (tCons tw tNil))) [a, b] σ H Q := by
  obtain ⟨qs, hr, hp⟩ := R
  refine ⟨.ref r, hi, r, rfl, ⟨_, sqT hr⟩, fun L hL => ?_⟩
  refine lc_tup (xs := qs.map V.ref) (fun i H' => Same H H' ∧ ∃ ps, H' L = some (.lst (ps.map V.ref)) ∧ Paired (PairRow H') ps (((ρ.take i).filter keep).map fun x => (x.1, g x)) ∧ ps.length ≤ i)
    ⟨same_new hL, [], upd_same, .nil, Nat.le_refl _⟩ (fun i H' _ h => sqT (h.1 _ _ hr)) (fun i x H' hx h => ?_) (fun H' h => ?_)
  · obtain ⟨sm, ps, hps, hpp, hpl⟩ := h
    rw [List.getElem?_map] at hx
    cases hqi : qs[i]? with
    | none =>
      rw [hqi] at hx
      cases hx
    | some p =>
      rw [hqi] at hx
      have ex : V.ref p = x := Option.some.inj hx
      subst ex
      obtain ⟨y, hy, bb, h1, h2⟩ := paired_at' hp hqi
      have hym := List.mem_of_getElem? hy
      have kp := KeepT.of sm
      have il : i < qs.length := (List.getElem?_eq_some_iff.mp hqi).1
      have ql : qs.length = ρ.length := Paired.length hp
      have big := sizeBig
      have T := turn2 (v := .ref bb) (w := .int y.2) ha hb hab
      refine ⟨p, [.ref bb, .int y.2], rfl, sqT (kp _ _ h1), rfl, .ref bb, [.int y.2], rfl, .int y.2, [], rfl, rfl, ?_⟩
      refine ⟨wipe2 hab, htt _ _ bb y _ hym sm T (h2.keep kp) fun H2 sm2 => ?_⟩
      have kp2 := KeepT.of sm2
      have pk : ((ρ.take (i + 1)).filter keep).map (fun x => (x.1, g x)) = ((ρ.take i).filter keep).map (fun x => (x.1, g x)) ++ (if keep y = true then [(y.1, g y)] else []) := by
        rw [List.take_add_one, hy, List.filter_append, List.map_append]
        congr 1
        show List.map _ (List.filter keep [y]) = _
        cases hk : keep y with
        | true => simp [hk]
        | false => simp [hk]
      cases hk : keep y with
      | false =>
        refine iteF ⟨sm.trans sm2, ps, sm2 _ _ hps, ?_, by omega⟩
        rw [pk, hk, if_neg (by decide), List.append_nil]
        exact Paired.mapP hpp fun _ _ z => z.keep kp2
      | true =>
        refine iteT ⟨.ref bb, T.fst, htw _ _ bb y _ hym (sm.trans sm2) T ((h2.keep kp).keep kp2) ⟨by show 2 ≤ sizeLine; decide, fun t ht => ?_⟩⟩
        have hps2 := sm2 _ _ hps
        have nLt : L ≠ t := ne_of_none hps2 ht
        refine ⟨ps.map V.ref, by rw [upd_ne nLt]; exact hps2, by rw [List.length_map]; omega, ?_, ps ++ [t], ?_, ?_, ?_⟩
        · intro b' o' e'
          have e2 := sm2 _ _ (sm _ _ e')
          rw [upd_ne (ne_of_none e' hL), upd_ne (ne_of_none e2 ht)]
          exact e2
        · rw [upd_same, List.map_append]
          rfl
        · have kp3 : KeepT H2 (upd (upd H2 t (.tup [.ref bb, .int (g y)])) L (.lst (ps.map V.ref ++ [.ref t]))) :=
            (KeepT.new ht).trans (KeepT.put (u := .lst (ps.map V.ref)) (by rw [upd_ne nLt]; exact hps2) (fun _ z => nomatch z))
          rw [pk, hk, if_pos rfl]
          refine Paired.snoc (Paired.mapP hpp fun _ _ z => (z.keep kp2).keep kp3) ⟨bb, ?_, ((h2.keep kp).keep kp2).keep kp3⟩
          rw [upd_ne nLt.symm, upd_same]
        · rw [List.length_append]
          show ps.length + 1 ≤ i + 1
          omega
  · obtain ⟨sm, ps, hps, hpp, _⟩ := h
    have e : ρ.take (qs.map V.ref).length = ρ := List.take_of_length_le (by rw [List.length_map, Paired.length hp]; exact Nat.le_refl _)
    rw [e] at hpp
    exact q H' L ps sm hL hps hpp

theorem iYes {σ : L2.St} {H : Hp} {Q : Bool → Hp → Prop} (h : Q true H) : tYes σ H Q := h
/-- [g of cell, weight for cell, weight in row] -/
theorem lc_ints {K : PySem.W.Frag} {i a b : Nat} {σ : L2.St} {H : Hp} {Q : VK} {r : Addr} {ρ : RowD} {tw : TE} (g : Cell × Int → Int)
    (hi : σ[i]? = some (some (.ref r))) (R : RowAt H r ρ) (ha : a < σ.length) (hb : b < σ.length) (hab : a ≠ b) (hz : ρ.length ≤ 1000)
    (htw : ∀ σ' H' bb x (Q : VK), x ∈ ρ → Same H H' → Turn2 σ σ' a b (.ref bb) (.int x.2) → CellAt H' bb x.1 → Q (.int (g x)) H' → tw σ' H' Q)
    (q : ∀ H' L, Same H H' → H L = none → H' L = some (.lst ((ρ.map g).map V.int)) → Q (.ref L) H') :
    tLc (iTup K (tVar i)) (g2 K a b) tYes tw [a, b] σ H Q := by
  obtain ⟨qs, hr, hp⟩ := R
  refine ⟨.ref r, hi, r, rfl, ⟨_, sqT hr⟩, fun L hL => ?_⟩
  refine lc_tup (xs := qs.map V.ref) (fun i H' => Same H H' ∧ H' L = some (.lst (((ρ.take i).map g).map V.int)))
    ⟨same_new hL, upd_same⟩ (fun i H' _ h => sqT (h.1 _ _ hr)) (fun i x H' hx h => ?_) (fun H' h => ?_)
  · obtain ⟨sm, hps⟩ := h
    rw [List.getElem?_map] at hx
    cases hqi : qs[i]? with
    | none =>
      rw [hqi] at hx
      cases hx
    | some p =>
      rw [hqi] at hx
      have ex : V.ref p = x := Option.some.inj hx
      subst ex
      obtain ⟨y, hy, bb, h1, h2⟩ := paired_at' hp hqi
      have kp := KeepT.of sm
      have big := sizeBig
      have T := turn2 (v := .ref bb) (w := .int y.2) ha hb hab
      refine ⟨p, [.ref bb, .int y.2], rfl, sqT (kp _ _ h1), rfl, .ref bb, [.int y.2], rfl, .int y.2, [], rfl, rfl, ?_⟩
      refine ⟨wipe2 hab, iYes (iteT (htw _ _ bb y _ (List.mem_of_getElem? hy) sm T (h2.keep kp) ⟨_, hps, ?_, ?_, ?_⟩))⟩
      · rw [List.length_map, List.length_map, List.length_take]
        omega
      · intro b' o' e'
        rw [upd_ne (ne_of_none e' hL)]
        exact sm _ _ e'
      · rw [upd_same, List.take_add_one, hy]
        show _ = some (HO.lst (((ρ.take i ++ [y]).map g).map V.int))
        rw [List.map_append, List.map_append]
        rfl
  · obtain ⟨sm, hps⟩ := h
    have e : ρ.take (qs.map V.ref).length = ρ := List.take_of_length_le (by rw [List.length_map, Paired.length hp]; exact Nat.le_refl _)
    rw [e] at hps
    exact q H' L sm hL hps

theorem set1_at {σ : L2.St} {a : Nat} {v : V} (ha : a < σ.length) : ((wipe σ [a]).set a (some v))[a]? = some (some v) := List.getElem?_set_self (by rw [wipe_length]; exact ha)
theorem set1_old {σ : L2.St} {a j : Nat} {v : V} (h : j ≠ a) : ((wipe σ [a]).set a (some v))[j]? = σ[j]? := by
  rw [List.getElem?_set_ne (fun e => h e.symm), wipe_at h]
/-- one turn of [pair for pair in pairs if ..] -/
theorem pairs_turn {a : Nat} {σ : L2.St} {H H' : Hp} {L : Addr} {qs : List Addr} {ρ : RowD} {tt : TT} (keep : Cell × Int → Bool)
    (ha : a < σ.length) (hp : Paired (PairRow H) qs ρ) (hz : ρ.length ≤ 1000) (hL : H L = none)
    (htt : ∀ σ' H' p x (Q : Bool → Hp → Prop), x ∈ ρ → Same H H' → σ'[a]? = some (some (.ref p)) → (∀ j, j ≠ a → σ'[j]? = σ[j]?) → PairRow H' p x → (∀ H'', Same H' H'' → Q (keep x) H'') → tt σ' H' Q)
    {i : Nat} {x : V} (hx : (qs.map V.ref)[i]? = some x) (h : Same H H' ∧ ∃ ps, H' L = some (.lst (ps.map V.ref)) ∧ Paired (PairRow H') ps ((ρ.take i).filter keep) ∧ ps.length ≤ i) :
    gName a x (wipe σ [a]) H' fun σ2 H2 => wipe σ2 [a] = wipe σ [a] ∧ tt σ2 H2 fun b H3 => if b = true then tVar a σ2 H3 fun y H4 => ∃ acc, H4 L = some (.lst acc) ∧ acc.length < sizeLine ∧
      (Same H (upd H4 L (.lst (acc ++ [y]))) ∧ ∃ ps, (upd H4 L (.lst (acc ++ [y]))) L = some (.lst (ps.map V.ref)) ∧ Paired (PairRow (upd H4 L (.lst (acc ++ [y])))) ps ((ρ.take (i + 1)).filter keep) ∧ ps.length ≤ i + 1)
      else (Same H H3 ∧ ∃ ps, H3 L = some (.lst (ps.map V.ref)) ∧ Paired (PairRow H3) ps ((ρ.take (i + 1)).filter keep) ∧ ps.length ≤ i + 1) := by
  obtain ⟨sm, ps, hps, hpp, hpl⟩ := h
  rw [List.getElem?_map] at hx
  cases hqi : qs[i]? with
  | none =>
    rw [hqi] at hx
    cases hx
  | some p =>
    rw [hqi] at hx
    have ex : V.ref p = x := Option.some.inj hx
    subst ex
    obtain ⟨y, hy, hpy⟩ := paired_at' hp hqi
    have kp := KeepT.of sm
    have il : i < qs.length := (List.getElem?_eq_some_iff.mp hqi).1
    have ql : qs.length = ρ.length := Paired.length hp
    have big := sizeBig
    refine ⟨wipe1, htt _ _ p y _ (List.mem_of_getElem? hy) sm (set1_at ha) (fun j hj => set1_old hj) (hpy.keep kp) fun H2 sm2 => ?_⟩
    have kp2 := KeepT.of sm2
    have pk : (ρ.take (i + 1)).filter keep = (ρ.take i).filter keep ++ (if keep y = true then [y] else []) := by
      rw [List.take_add_one, hy, List.filter_append]
      congr 1
      show List.filter keep [y] = _
      cases hk : keep y with
      | true => simp [hk]
      | false => simp [hk]
    cases hk : keep y with
    | false =>
      refine iteF ⟨sm.trans sm2, ps, sm2 _ _ hps, ?_, by omega⟩
      rw [pk, hk, if_neg (by decide), List.append_nil]
      exact Paired.mapP hpp fun _ _ z => z.keep kp2
    | true =>
      have hps2 := sm2 _ _ hps
      refine iteT ⟨.ref p, set1_at ha, ps.map V.ref, hps2, by rw [List.length_map]; omega, ?_, ps ++ [p], ?_, ?_, ?_⟩
      · intro b' o' e'
        rw [upd_ne (ne_of_none e' hL)]
        exact sm2 _ _ (sm _ _ e')
      · rw [upd_same, List.map_append]
        rfl
      · have kp3 : KeepT H2 (upd H2 L (.lst (ps.map V.ref ++ [.ref p]))) := KeepT.put (u := .lst (ps.map V.ref)) hps2 (fun _ z => nomatch z)
        rw [pk, hk, if_pos rfl]
        exact Paired.snoc (Paired.mapP hpp fun _ _ z => (z.keep kp2).keep kp3) (((hpy.keep kp).keep kp2).keep kp3)
      · rw [List.length_append]
        show ps.length + 1 ≤ i + 1
        omega
/-- [pair for pair in row if ..] -/
theorem lc_pairsT {K : PySem.W.Frag} {i a : Nat} {σ : L2.St} {H : Hp} {Q : VK} {r : Addr} {qs : List Addr} {ρ : RowD} {tt : TT} (keep : Cell × Int → Bool)
    (hi : σ[i]? = some (some (.ref r))) (hr : H r = some (.tup (qs.map V.ref))) (hp : Paired (PairRow H) qs ρ) (ha : a < σ.length) (hz : ρ.length ≤ 1000)
    (htt : ∀ σ' H' p x (Q : Bool → Hp → Prop), x ∈ ρ → Same H H' → σ'[a]? = some (some (.ref p)) → (∀ j, j ≠ a → σ'[j]? = σ[j]?) → PairRow H' p x → (∀ H'', Same H' H'' → Q (keep x) H'') → tt σ' H' Q)
    (q : ∀ H' L ps, Same H H' → H L = none → H' L = some (.lst (ps.map V.ref)) → Paired (PairRow H') ps (ρ.filter keep) → Q (.ref L) H') :
    tLc (iTup K (tVar i)) (gName a) tt (tVar a) [a] σ H Q := by
  refine ⟨.ref r, hi, r, rfl, ⟨_, sqT hr⟩, fun L hL => ?_⟩
  refine lc_tup (xs := qs.map V.ref) (fun i H' => Same H H' ∧ ∃ ps, H' L = some (.lst (ps.map V.ref)) ∧ Paired (PairRow H') ps ((ρ.take i).filter keep) ∧ ps.length ≤ i)
    ⟨same_new hL, [], upd_same, .nil, Nat.le_refl _⟩ (fun i H' _ h => sqT (h.1 _ _ hr)) (fun i x H' hx h => pairs_turn keep ha hp hz hL htt hx h) (fun H' h => ?_)
  obtain ⟨sm, ps, hps, hpp, _⟩ := h
  have e : ρ.take (qs.map V.ref).length = ρ := List.take_of_length_le (by rw [List.length_map, Paired.length hp]; exact Nat.le_refl _)
  rw [e] at hpp
  exact q H' L ps sm hL hps hpp
theorem lc_pairsL {K : PySem.W.Frag} {i a : Nat} {σ : L2.St} {H : Hp} {Q : VK} {r : Addr} {qs : List Addr} {ρ : RowD} {tt : TT} (keep : Cell × Int → Bool)
    (hi : σ[i]? = some (some (.ref r))) (hr : H r = some (.lst (qs.map V.ref))) (hp : Paired (PairRow H) qs ρ) (ha : a < σ.length) (hz : ρ.length ≤ 1000)
    (htt : ∀ σ' H' p x (Q : Bool → Hp → Prop), x ∈ ρ → Same H H' → σ'[a]? = some (some (.ref p)) → (∀ j, j ≠ a → σ'[j]? = σ[j]?) → PairRow H' p x → (∀ H'', Same H' H'' → Q (keep x) H'') → tt σ' H' Q)
    (q : ∀ H' L ps, Same H H' → H L = none → H' L = some (.lst (ps.map V.ref)) → Paired (PairRow H') ps (ρ.filter keep) → Q (.ref L) H') :
    tLc (iList K (tVar i)) (gName a) tt (tVar a) [a] σ H Q := by
  refine ⟨.ref r, hi, r, rfl, ⟨_, sqL hr⟩, fun L hL => ?_⟩
  refine lc_list (xs := qs.map V.ref) (fun i H' => Same H H' ∧ ∃ ps, H' L = some (.lst (ps.map V.ref)) ∧ Paired (PairRow H') ps ((ρ.take i).filter keep) ∧ ps.length ≤ i)
    ⟨same_new hL, [], upd_same, .nil, Nat.le_refl _⟩ (fun i H' _ h => sqL (h.1 _ _ hr)) (fun i x H' hx h => pairs_turn keep ha hp hz hL htt hx h) (fun H' h => ?_)
  obtain ⟨sm, ps, hps, hpp, _⟩ := h
  have e : ρ.take (qs.map V.ref).length = ρ := List.take_of_length_le (by rw [List.length_map, Paired.length hp]; exact Nat.le_refl _)
  rw [e] at hpp
  exact q H' L ps sm hL hps hpp
end AskG
/-! Calls with keywords. -/
namespace AskG
open PySem PySem.Spec PyProof.Rows L2
section
variable {P : Program} {w : World} {K : PySem.W.Frag} {mg : Str → Option Value} {base : Heap}
theorem okGD {x qual : Str} {params : Arguments} {body : List Stmt} {scope : Scope} {dvs : List V} {kws : List (Str × V)} {f : Addr} {fd : FuncData} {N ps : List Str} {k : Nat} {pr : Pr}
    (F : FunD K x qual params body scope dvs kws f fd) (S : FnScope N ps scope) (many : ∀ vs H Q, pr vs H Q → vs.length = ps.length)
    (body_ok : ∀ (cdv : Value) (A : Around) (outer : List Env) (s : Shared) (H : Hp) (vs : List V) (Q : VK),
      RG k (A.deeper (envOfC qual scope s.heap.objs.size f cdv)) → pr vs H Q →
      ∃ t, PSs (cxOf CX0 P w K mg base N qual scope f cdv A outer s H E0).nox body t ∧
        t { nx := fun _ H' => Q .non H', rt := Q } (start N vs) H) : FnG P w K mg base (k + 1) f fd ps pr := by
  obtain ⟨oc, od, dV, kV, doc, pm, an, cdv, ct, osl, rfl, lk, hcd, _, _⟩ := F.ex
  exact fnG_of lk hcd S many fun A outer s H vs Q hr hp => body_ok cdv A outer s H vs Q hr hp
end
def tCallNG (n m : Nat) (pr : Pr) (gV : List V → List V → List V) (t tk : TA) : TE := fun σ H Q =>
  t σ H fun vs H1 => tk σ H1 fun zs H2 => vs.length = n ∧ zs.length = m ∧ pr (gV vs zs) H2 Q
section
variable {X : Cx} {k n : Nat} {f : Addr} {fd : FuncData} {ps ks : List Str} {pr : Pr} {x : Str} {p pos : Pos} {e : Expr} {es : List Expr} {kws : List Keyword}
  {t tk : TA} {g : List Value → List Value → List Value} {gV : List V → List V → List V}
theorem goN {pins : List (Addr × Obj)} {σ : L2.St} {H : Hp} {s : Shared} {Q : VK} {us ws : List Value} {vs zs : List V}
    (F : FnG X.prog X.w X.K X.mg X.base k f fd ps pr) (hr : RG k X.A) (hb : KBn X.K fd ps n ks g gV)
    (I : Inv X pins σ H s) (r : Vals vs us) (rz : Vals zs ws) (l1 : vs.length = n) (l2 : zs.length = ks.length) (h : pr (gV vs zs) H Q) :
    wpAny (model X.prog X.w) X.A (call (.ref f) us (ks.zip ws)) (EP X pins σ Q) X.xe s :=
  goG (args := ⟨us, ks.zip ws⟩) F hr I (hb.to s us ws I.kIn (r.length.symm.trans l1) (rz.length.symm.trans l2)) (hb.rel r rz) h
/-- f(e, .., k = v, ..) -/
theorem pe_gn (F : FnG X.prog X.w X.K X.mg X.base k f fd ps pr) (hr : RG k X.A) (hg : Gl X x)
    (hm : X.mg x = some (.ref f)) (hk : PySem.W.keepIn X.K (.ref f) = true) (hb : KBn X.K fd ps n ks g gV)
    (ha : PA X (e :: es) t) (hkw : PK X kws tk)
    (hall : (backToKw pos (keywordEach kws X.env)).all (·.1.isSome) = true := by rfl)
    (hks : (backToKw pos (keywordEach kws X.env)).filterMap (·.1) = ks := by rfl)
    (hdb : (x == ("__debug__" : Str)) = false := by decide)
    (he : starEach (e :: es) X.env = (false, eval e X.env) :: starEach es X.env := by rfl)
    (hpl : ((backTo pos (starEach (e :: es) X.env)).any (·.1) || (backToKw pos (keywordEach kws X.env)).any (·.1.isNone)) = false := by rfl) :
    PE X (.Call (.Name x p) (e :: es) kws pos) (tCallNG n ks.length pr gV t tk) := by
  constructor
  intro pins s σ H Q I h
  refine wpAny_Call_Name_kw (ld_glob I hg hm ?_ hdb)
  refine PySem.W.callWith_KW (h₀ := X.base) I.ok.mod.kin hk hall (thn (ha.run pos pins s σ H _ I h) ?_) hpl he
  rintro us s1 ⟨vs, H1, I1, r, q⟩
  refine thn (hkw.run pos pins s1 σ H1 _ I1 q) ?_
  rintro ws s2 ⟨zs, H2, I2, rz, l1, l2, q2⟩
  refine ⟨I2.kIn, ?_⟩
  rw [hks]
  exact goN F hr hb I2 r rz l1 l2 q2
/-- f(k = v, ..) -/
theorem pe_gn0 (F : FnG X.prog X.w X.K X.mg X.base k f fd ps pr) (hr : RG k X.A) (hg : Gl X x)
    (hm : X.mg x = some (.ref f)) (hk : PySem.W.keepIn X.K (.ref f) = true) (hb : KBn X.K fd ps 0 ks g gV)
    (hkw : PK X kws tk)
    (hall : (backToKw pos (keywordEach kws X.env)).all (·.1.isSome) = true := by rfl)
    (hks : (backToKw pos (keywordEach kws X.env)).filterMap (·.1) = ks := by rfl)
    (hdb : (x == ("__debug__" : Str)) = false := by decide)
    (hpl : ((backTo pos (starEach [] X.env)).any (·.1) || (backToKw pos (keywordEach kws X.env)).any (·.1.isNone)) = false := by rfl) :
    PE X (.Call (.Name x p) [] kws pos) (tCallNG 0 ks.length pr gV tNil tk) := by
  constructor
  intro pins s σ H Q I h
  refine wpAny_Call_Name_kw (ld_glob I hg hm ?_ hdb)
  refine PySem.W.callWith_KW0 (h₀ := X.base) I.ok.mod.kin hk hall ?_ hpl
  refine thn (hkw.run pos pins s σ H _ I h) ?_
  rintro ws s2 ⟨zs, H2, I2, rz, l1, l2, q2⟩
  refine ⟨I2.kIn, ?_⟩
  rw [hks]
  exact goN (us := []) F hr hb I2 .nil rz l1 l2 q2
end
end AskG
/-! Rows as data: what repr shows of them, == with []. -/
namespace AskG
open PySem PySem.Spec PyProof.Rows L2
/-- data that repr shows in at most n signs -/
structure Fine (k n : Nat) (d : PyData) : Prop where
  shw : d.showable = true
  nod : d.hasDict = false
  dep : d.depth ≤ k
  len : d.shown.length ≤ n
theorem Fine.mono {k n k' n' : Nat} {d : PyData} (h : Fine k n d) (hk : k ≤ k') (hn : n ≤ n') : Fine k' n' d :=
  ⟨h.shw, h.nod, Nat.le_trans h.dep hk, Nat.le_trans h.len hn⟩
theorem all_fine {k n : Nat} : ∀ {ds : List PyData}, (∀ d ∈ ds, Fine k n d) →
    PyData.showableAll ds = true ∧ PyData.hasDictAll ds = false ∧ PyData.depthAll ds ≤ k ∧ ((PyData.shownAll ds).map (·.length)).sum ≤ ds.length * n ∧ (PyData.shownAll ds).length = ds.length
  | [], _ => ⟨rfl, rfl, Nat.zero_le _, Nat.zero_le _, rfl⟩
  | d :: ds, h => by
    obtain ⟨h1, h2, h3, h4, h5⟩ := all_fine (ds := ds) fun e he => h e (List.mem_cons_of_mem _ he)
    have f := h d List.mem_cons_self
    refine ⟨?_, ?_, ?_, ?_, ?_⟩
    · show (d.showable && PyData.showableAll ds) = true
      rw [f.shw, h1]
      rfl
    · show (d.hasDict || PyData.hasDictAll ds) = false
      rw [f.nod, h2]
      rfl
    · show max d.depth (PyData.depthAll ds) ≤ k
      exact Nat.max_le.mpr ⟨f.dep, h3⟩
    · show ((d.shown :: PyData.shownAll ds).map (·.length)).sum ≤ _
      rw [List.map_cons, List.sum_cons, List.length_cons, Nat.succ_mul]
      have := f.len
      omega
    · show (d.shown :: PyData.shownAll ds).length = _
      rw [List.length_cons, List.length_cons, h5]
theorem Fine.tup {k n m : Nat} {ds : List PyData} (h : ∀ d ∈ ds, Fine k n d) (hm : ds.length ≤ m) : Fine (k + 1) (m * (n + 2) + 3) (.tuple ds) := by
  obtain ⟨h1, h2, h3, h4, h5⟩ := all_fine h
  refine ⟨h1, h2, Nat.succ_le_succ h3, ?_⟩
  have := tupleText_len_le (PyData.shownAll ds)
  show (tupleText (PyData.shownAll ds)).length ≤ _
  have e : ds.length * (n + 2) ≤ m * (n + 2) := Nat.mul_le_mul_right _ hm
  have e2 : ds.length * (n + 2) = ds.length * n + 2 * ds.length := by rw [Nat.mul_add, Nat.mul_comm ds.length 2]
  rw [h5] at this
  omega
theorem Fine.lst {k n m : Nat} {ds : List PyData} (h : ∀ d ∈ ds, Fine k n d) (hm : ds.length ≤ m) : Fine (k + 1) (m * (n + 2) + 3) (.list ds) := by
  obtain ⟨h1, h2, h3, h4, h5⟩ := all_fine h
  refine ⟨h1, h2, Nat.succ_le_succ h3, ?_⟩
  have := listText_len_le (PyData.shownAll ds)
  show (listText (PyData.shownAll ds)).length ≤ _
  have e : ds.length * (n + 2) ≤ m * (n + 2) := Nat.mul_le_mul_right _ hm
  have e2 : ds.length * (n + 2) = ds.length * n + 2 * ds.length := by rw [Nat.mul_add, Nat.mul_comm ds.length 2]
  rw [h5] at this
  omega
theorem fine_int {i : Int} (h : i.natAbs.log2 < 1920) : Fine 0 1921 (.int i) :=
  ⟨decide_eq_true h, rfl, Nat.le_refl _, int_text_len_1921 h⟩
theorem fine_str {x : Str} (h : x.length ≤ 8) (hx : ∀ c ∈ x.cps.toList, c < 16 ^ 8) : Fine 0 1921 (.str x) :=
  ⟨rfl, rfl, Nat.le_refl _, by
    have := StrLaws.reprText_len x hx
    show (reprText x).length ≤ _
    omega⟩

/-- sizes of what rows hold -/
structure CellOk (c : Cell) : Prop where
  short : c.1.length ≤ 8
  plain : ∀ n ∈ c.1.cps.toList, n < 16 ^ 8
  ok : PyData.strOk c.1 = true
  lit : c.2.natAbs.log2 < 1920
def cellD (c : Cell) : PyData := .tuple [.str c.1, .int c.2]
def pairD (x : Cell × Int) : PyData := .tuple [cellD x.1, .int x.2]
def rowPD (ρ : RowD) : PyData := .tuple (ρ.map pairD)
structure RowOk (ρ : RowD) : Prop where
  many : ρ.length ≤ 100
  cells : ∀ x ∈ ρ, CellOk x.1
  lit : ∀ x ∈ ρ, x.2.natAbs.log2 < 1920
theorem fine_cell {c : Cell} (h : CellOk c) : Fine 1 3849 (cellD c) := by
  refine Fine.tup (k := 0) (n := 1921) (m := 2) (fun d hd => ?_) (Nat.le_refl _)
  rcases List.mem_cons.mp hd with e | hd
  · rw [e]
    exact fine_str h.short h.plain
  · rw [List.mem_singleton.mp hd]
    exact fine_int h.lit
theorem fine_pair {x : Cell × Int} (h : CellOk x.1) (hw : x.2.natAbs.log2 < 1920) : Fine 2 7705 (pairD x) := by
  refine Fine.tup (k := 1) (n := 3849) (m := 2) (fun d hd => ?_) (Nat.le_refl _)
  rcases List.mem_cons.mp hd with e | hd
  · rw [e]
    exact fine_cell h
  · rw [List.mem_singleton.mp hd]
    exact (fine_int hw).mono (by decide) (by decide)
theorem fine_row {ρ : RowD} (h : RowOk ρ) : Fine 3 770703 (rowPD ρ) := by
  refine Fine.tup (k := 2) (n := 7705) (m := 100) (fun d hd => ?_) (by rw [List.length_map]; exact h.many)
  obtain ⟨x, hx, rfl⟩ := List.mem_map.mp hd
  exact fine_pair (h.cells x hx) (h.lit x hx)

section
variable {K : PySem.W.Frag} {H : Hp}
theorem dp_cell {b : Addr} {c : Cell} (h : CellAt H b c) : Dp K H (.ref b) (cellD c) := .tup (sqT h) (.cons (.str _) (.cons (.int _) .nil))
theorem dp_pair {p : Addr} {x : Cell × Int} (h : PairRow H p x) : Dp K H (.ref p) (pairD x) := by
  obtain ⟨b, h1, h2⟩ := h
  exact .tup (sqT h1) (.cons (dp_cell h2) (.cons (.int _) .nil))
theorem dp_all {R : Addr → α → Prop} {f : α → PyData} (h : ∀ p x, R p x → Dp K H (.ref p) (f x)) : ∀ {ps : List Addr} {l : List α}, Paired R ps l → DpAll K H (ps.map V.ref) (l.map f)
  | _, _, .nil => .nil
  | _, _, .cons h1 t => .cons (h _ _ h1) (dp_all h t)
theorem dp_row {r : Addr} {ρ : RowD} (h : RowAt H r ρ) : Dp K H (.ref r) (rowPD ρ) := by
  obtain ⟨ps, h1, h2⟩ := h
  exact .tup (sqT h1) (dp_all (f := pairD) (R := PairRow H) (fun _ _ z => dp_pair z) h2)
end
/-! ### == of lists -/
theorem shaped_nil : SeqAt.shaped (.list []) = true := by decide
theorem can_all {f : α → PyData} : ∀ {l : List α}, (∀ x ∈ l, (f x).canLay0 = true) → PyData.canLayAll0 (l.map f) = true
  | [], _ => rfl
  | x :: l, h => by
    show ((f x).canLay0 && PyData.canLayAll0 (l.map f)) = true
    rw [h x List.mem_cons_self, can_all fun y hy => h y (List.mem_cons_of_mem _ hy)]
    rfl
theorem depth_all {f : α → PyData} {k : Nat} : ∀ {l : List α}, (∀ x ∈ l, (f x).depth ≤ k) → PyData.depthAll (l.map f) ≤ k
  | [], _ => Nat.zero_le _
  | x :: l, h => by
    show max (f x).depth (PyData.depthAll (l.map f)) ≤ k
    exact Nat.max_le.mpr ⟨h x List.mem_cons_self, depth_all fun y hy => h y (List.mem_cons_of_mem _ hy)⟩
theorem shaped_ints (ns : List Int) : SeqAt.shaped (.list (ns.map PyData.int)) = true := by
  have h1 : PyData.canLayAll0 (ns.map PyData.int) = true := can_all fun _ _ => rfl
  have h2 : PyData.depthAll (ns.map PyData.int) ≤ 0 := depth_all fun _ _ => Nat.le_refl _
  show (PyData.canLayAll0 (ns.map PyData.int) && decide (PyData.depthAll (ns.map PyData.int) + 1 ≤ 64)) = true
  rw [h1, decide_eq_true (by omega)]
  rfl
theorem shaped_pairs {ρ : RowD} (h : ∀ x ∈ ρ, CellOk x.1) : SeqAt.shaped (.list (ρ.map pairD)) = true := by
  have h1 : PyData.canLayAll0 (ρ.map pairD) = true := can_all fun x hx => by
    show (((PyData.strOk x.1.1) && (true && true)) && (true && true)) = true
    rw [(h x hx).ok]
    rfl
  have h2 : PyData.depthAll (ρ.map pairD) ≤ 2 := depth_all fun x _ => by
    show max (max 0 (max 0 0) + 1) (max 0 0) + 1 ≤ 2
    decide
  show (PyData.canLayAll0 (ρ.map pairD) && decide (PyData.depthAll (ρ.map pairD) + 1 ≤ 64)) = true
  rw [h1, decide_eq_true (by omega)]
  rfl
theorem dp_ints {K : PySem.W.Frag} {H : Hp} : ∀ ns : List Int, DpAll K H (ns.map V.int) (ns.map PyData.int)
  | [] => .nil
  | n :: ns => .cons (.int n) (dp_ints ns)
/-- the same by computation -/
def cellB (c : Cell) : Bool := decide (c.1.length ≤ 8) && c.1.cps.toList.all (fun n => decide (n < 16 ^ 8)) && PyData.strOk c.1 && decide (c.2.natAbs.log2 < 1920)
theorem cellOk_of {c : Cell} (h : cellB c = true) : CellOk c := by
  unfold cellB at h
  rw [Bool.and_eq_true, Bool.and_eq_true, Bool.and_eq_true] at h
  obtain ⟨⟨⟨h1, h2⟩, h3⟩, h4⟩ := h
  exact ⟨of_decide_eq_true h1, fun n hn => of_decide_eq_true (List.all_eq_true.mp h2 n hn), h3, of_decide_eq_true h4⟩
end AskG
/-! cell < cell -/
namespace AskG
open PySem PySem.Spec PyProof.Rows L2
def rLtC : R2 := fun x y H Q => ∃ (a b : Addr) (c d : Cell), x = .ref a ∧ y = .ref b ∧ CellAt H a c ∧ CellAt H b d ∧ Q (.bl (ltC c d)) H
theorem op_ltC {X : Cx} (hu : X.A.units < cLine) : OpR X (compareOp .Lt) rLtC := by
  intro pins s σ H x y v u Q I rx ry h
  obtain ⟨a, b, c, d, rfl, rfl, ha, hb, q⟩ := h
  cases rx
  cases ry
  obtain ⟨a', t, t', e, ht⟩ := isCl_of I.hok ha
  cases e
  obtain ⟨b', u, u', e, hu2⟩ := isCl_of I.hok hb
  cases e
  have R := Ob.RcOp.tuples_lt (A := X.A) (s := s) (e := fun j => if j = 0 then c.1 == d.1 else c.2 == d.2)
    (r := fun j => if j = 0 then decide (c.1.cps.toList < d.1.cps.toList) else decide (c.2 < d.2)) ht hu2 hu
    (fun j h1 h2 => by
      have h1 : j < 2 := h1
      match j, h1 with
      | 0, _ => exact SeqAt.EqAt.str_str c.1 t d.1 u
      | 1, _ => exact SeqAt.EqAt.int_int c.2 t' d.2 u')
    (fun j h1 h2 _ => by
      have h1 : j < 2 := h1
      match j, h1 with
      | 0, _ => exact fun _ _ _ _ h => PyProof.Rows.lt_str h
      | 1, _ => exact fun _ _ _ _ h => PyProof.Rows.lt_int h)
  have e : Ob.lexAt (fun j => if j = 0 then c.1 == d.1 else c.2 == d.2) (fun j => if j = 0 then decide (c.1.cps.toList < d.1.cps.toList) else decide (c.2 < d.2)) (decide (2 < 2)) 0 (min 2 2) = ltC c d := by
    show (if (c.1 == d.1) = true then (if (c.2 == d.2) = true then decide (2 < 2) else decide (c.2 < d.2)) else decide (c.1.cps.toList < d.1.cps.toList)) = ltC c d
    unfold ltC
    by_cases e1 : c.1 = d.1
    · rw [if_pos (beq_iff_eq.mpr e1), if_pos e1]
      by_cases e2 : c.2 = d.2
      · rw [if_pos (beq_iff_eq.mpr e2), e2, decide_eq_false (Int.lt_irrefl _)]
        rfl
      · rw [if_neg fun z => e2 (beq_iff_eq.mp z)]
    · rw [if_neg fun z => e1 (beq_iff_eq.mp z), if_neg e1]
  have R2 : Ob.RcOp .Lt X.A s (.ref a) (.ref b) (ltC c d) := by
    rw [← e]
    exact R
  have z : wpAny (model X.prog X.w) X.A (compareOp .Lt (.ref a) (.ref b)) (EP X pins σ Q) X.xe s :=
    R2 X.prog X.w X.xe (EP X pins σ Q) ⟨.bl _, H, I, rfl, q⟩
  exact z
end AskG
/-! Values of any kind, and what the kind checks say of them. -/
namespace AskG
open PySem PySem.Spec PyProof.Rows L2
mutual
/-- the data that lies at a value; D is no part of it -/
inductive DH (D : Addr) (H : Hp) : V → PyData → Prop
  | non : DH D H .non .none
  | bl (b : Bool) : DH D H (.bl b) (.bool b)
  | int (i : Int) : DH D H (.int i) (.int i)
  | str (x : Str) : DH D H (.str x) (.str x)
  | lst {a : Addr} {xs : List V} {ds : List PyData} (n : a ≠ D) (e : H a = some (.lst xs)) (t : DHs D H xs ds) : DH D H (.ref a) (.list ds)
  | tup {a : Addr} {xs : List V} {ds : List PyData} (e : H a = some (.tup xs)) (t : DHs D H xs ds) : DH D H (.ref a) (.tuple ds)
inductive DHs (D : Addr) (H : Hp) : List V → List PyData → Prop
  | nil : DHs D H [] []
  | cons {v : V} {vs : List V} {d : PyData} {ds : List PyData} (h : DH D H v d) (t : DHs D H vs ds) : DHs D H (v :: vs) (d :: ds)
end
structure KeepD (D : Addr) (H H' : Hp) : Prop where
  tup : ∀ b xs, H b = some (.tup xs) → H' b = some (.tup xs)
  lst : ∀ b xs, b ≠ D → H b = some (.lst xs) → H' b = some (.lst xs)
theorem KeepD.of {D : Addr} {H H' : Hp} (h : Same H H') : KeepD D H H' := ⟨fun b _ e => h b _ e, fun b _ _ e => h b _ e⟩
theorem KeepD.trans {D : Addr} {H H1 H2 : Hp} (h : KeepD D H H1) (g : KeepD D H1 H2) : KeepD D H H2 := ⟨fun b xs e => g.tup b xs (h.tup b xs e), fun b xs n e => g.lst b xs n (h.lst b xs n e)⟩
mutual
theorem DH.keep {D : Addr} {H H' : Hp} (k : KeepD D H H') : ∀ {v : V} {d : PyData}, DH D H v d → DH D H' v d
  | _, _, .non => .non
  | _, _, .bl b => .bl b
  | _, _, .int i => .int i
  | _, _, .str x => .str x
  | _, _, .lst n e t => .lst n (k.lst _ _ n e) (DHs.keep k t)
  | _, _, .tup e t => .tup (k.tup _ _ e) (DHs.keep k t)
theorem DHs.keep {D : Addr} {H H' : Hp} (k : KeepD D H H') : ∀ {vs : List V} {ds : List PyData}, DHs D H vs ds → DHs D H' vs ds
  | _, _, .nil => .nil
  | _, _, .cons h t => .cons (DH.keep k h) (DHs.keep k t)
end
mutual
/-- an address that is still free is no part -/
theorem DH.shun {D E : Addr} {H : Hp} (f : H E = none) : ∀ {v : V} {d : PyData}, DH D H v d → DH E H v d
  | _, _, .non => .non
  | _, _, .bl b => .bl b
  | _, _, .int i => .int i
  | _, _, .str x => .str x
  | _, _, .lst n e t => .lst (fun z => by rw [z, f] at e; cases e) e (DHs.shun f t)
  | _, _, .tup e t => .tup e (DHs.shun f t)
theorem DHs.shun {D E : Addr} {H : Hp} (f : H E = none) : ∀ {vs : List V} {ds : List PyData}, DHs D H vs ds → DHs E H vs ds
  | _, _, .nil => .nil
  | _, _, .cons h t => .cons (DH.shun f h) (DHs.shun f t)
end
mutual
theorem DH.dp {K : PySem.W.Frag} {D : Addr} {H : Hp} : ∀ {v : V} {d : PyData}, DH D H v d → Dp K H v d
  | _, _, .non => .non
  | _, _, .bl b => .bl b
  | _, _, .int i => .int i
  | _, _, .str x => .str x
  | _, _, .lst _ e t => .lst (sqL e) (DHs.dp t)
  | _, _, .tup e t => .tup (sqT e) (DHs.dp t)
theorem DHs.dp {K : PySem.W.Frag} {D : Addr} {H : Hp} : ∀ {vs : List V} {ds : List PyData}, DHs D H vs ds → DpAll K H vs ds
  | _, _, .nil => .nil
  | _, _, .cons h t => .cons (DH.dp h) (DHs.dp t)
end
theorem DHs.len {D : Addr} {H : Hp} : ∀ {vs : List V} {ds : List PyData}, DHs D H vs ds → vs.length = ds.length
  | _, _, .nil => rfl
  | _, _, .cons _ t => by rw [List.length_cons, List.length_cons, DHs.len t]
theorem DHs.at {D : Addr} {H : Hp} : ∀ {vs : List V} {ds : List PyData}, DHs D H vs ds → ∀ {i : Nat} {v : V}, vs[i]? = some v → ∃ d, ds[i]? = some d ∧ DH D H v d
  | _, _, .nil, i, v, e => by cases i <;> cases e
  | _, _, .cons h t, 0, v, e => by
    cases e
    exact ⟨_, rfl, h⟩
  | _, _, .cons h t, i + 1, v, e => DHs.at t e
theorem DHs.app {D : Addr} {H : Hp} : ∀ {vs ws : List V} {ds es : List PyData}, DHs D H vs ds → DHs D H ws es → DHs D H (vs ++ ws) (ds ++ es)
  | _, _, _, _, .nil, h => h
  | _, _, _, _, .cons h t, g => .cons h (DHs.app t g)
/-! ### sizes -/
mutual
def smallD : PyData → Bool
  | .str s => decide (s.length ≤ 1000) && PyData.strOk s
  | .list ds => decide (ds.length ≤ 1000) && smallDs ds
  | .tuple ds => decide (ds.length ≤ 1000) && smallDs ds
  | .dict _ => false
  | _ => true
def smallDs : List PyData → Bool
  | [] => true
  | d :: ds => smallD d && smallDs ds
end
theorem smallDs_at : ∀ {ds : List PyData} {i : Nat} {d : PyData}, smallDs ds = true → ds[i]? = some d → smallD d = true
  | [], i, _, _, e => by cases i <;> cases e
  | x :: ds, 0, _, h, e => by
    cases e
    unfold smallDs at h
    rw [Bool.and_eq_true] at h
    exact h.1
  | x :: ds, i + 1, _, h, e => by
    unfold smallDs at h
    rw [Bool.and_eq_true] at h
    exact smallDs_at (ds := ds) (i := i) h.2 e
theorem small_tup {ds : List PyData} (h : smallD (.tuple ds) = true) : ds.length ≤ 1000 ∧ smallDs ds = true := by
  unfold smallD at h
  rw [Bool.and_eq_true] at h
  exact ⟨of_decide_eq_true h.1, h.2⟩
theorem small_lst {ds : List PyData} (h : smallD (.list ds) = true) : ds.length ≤ 1000 ∧ smallDs ds = true := by
  unfold smallD at h
  rw [Bool.and_eq_true] at h
  exact ⟨of_decide_eq_true h.1, h.2⟩
theorem small_str {s : Str} (h : smallD (.str s) = true) : s.length ≤ 1000 := by
  unfold smallD at h
  rw [Bool.and_eq_true] at h
  exact of_decide_eq_true h.1
theorem small_strOk {s : Str} (h : smallD (.str s) = true) : PyData.strOk s = true := by
  unfold smallD at h
  rw [Bool.and_eq_true] at h
  exact h.2
mutual
theorem small_lay : ∀ {d : PyData}, smallD d = true → d.canLay0 = true
  | .none, _ => rfl
  | .bool _, _ => rfl
  | .int _, _ => rfl
  | .str _, h => small_strOk h
  | .list _, h => small_lays (small_lst h).2
  | .tuple _, h => small_lays (small_tup h).2
  | .dict _, h => by cases h
theorem small_lays : ∀ {ds : List PyData}, smallDs ds = true → PyData.canLayAll0 ds = true
  | [], _ => rfl
  | d :: ds, h => by
    unfold smallDs at h
    rw [Bool.and_eq_true] at h
    show (d.canLay0 && PyData.canLayAll0 ds) = true
    rw [small_lay h.1, small_lays h.2]
    rfl
end
/-! ### kinds -/
def tyN : PyData → String
  | .none => "NoneType"
  | .bool _ => "bool"
  | .int _ => "int"
  | .str _ => "str"
  | .list _ => "list"
  | .tuple _ => "tuple"
  | .dict _ => "dict"
theorem DH.ty {K : PySem.W.Frag} {D : Addr} {H : Hp} {v : V} {d : PyData} (h : DH D H v d) : TyX K H v (.type (tyN d)) := by
  cases h with
  | non => exact .base .non
  | bl b => exact .base (.bl b)
  | int i => exact .base (.int i)
  | str x => exact .base (.str x)
  | lst _ e _ => exact .base (.lst e)
  | tup e _ => exact .base (.tup e)
def intB : PyData → Bool
  | .bool _ => true
  | .int _ => true
  | _ => false
def boolB : PyData → Bool
  | .bool _ => true
  | _ => false
def strB : PyData → Bool
  | .str _ => true
  | _ => false
def tupB : PyData → Bool
  | .tuple _ => true
  | _ => false
theorem kit_int : ∀ d : PyData, kitB (tyN d) "int" = some (intB d)
  | .none => show kitB "NoneType" "int" = some false from by decide +kernel
  | .bool _ => show kitB "bool" "int" = some true from by decide +kernel
  | .int _ => show kitB "int" "int" = some true from by decide +kernel
  | .str _ => show kitB "str" "int" = some false from by decide +kernel
  | .list _ => show kitB "list" "int" = some false from by decide +kernel
  | .tuple _ => show kitB "tuple" "int" = some false from by decide +kernel
  | .dict _ => show kitB "dict" "int" = some false from by decide +kernel
theorem kit_bool : ∀ d : PyData, kitB (tyN d) "bool" = some (boolB d)
  | .none => show kitB "NoneType" "bool" = some false from by decide +kernel
  | .bool _ => show kitB "bool" "bool" = some true from by decide +kernel
  | .int _ => show kitB "int" "bool" = some false from by decide +kernel
  | .str _ => show kitB "str" "bool" = some false from by decide +kernel
  | .list _ => show kitB "list" "bool" = some false from by decide +kernel
  | .tuple _ => show kitB "tuple" "bool" = some false from by decide +kernel
  | .dict _ => show kitB "dict" "bool" = some false from by decide +kernel
theorem kit_str : ∀ d : PyData, kitB (tyN d) "str" = some (strB d)
  | .none => show kitB "NoneType" "str" = some false from by decide +kernel
  | .bool _ => show kitB "bool" "str" = some false from by decide +kernel
  | .int _ => show kitB "int" "str" = some false from by decide +kernel
  | .str _ => show kitB "str" "str" = some true from by decide +kernel
  | .list _ => show kitB "list" "str" = some false from by decide +kernel
  | .tuple _ => show kitB "tuple" "str" = some false from by decide +kernel
  | .dict _ => show kitB "dict" "str" = some false from by decide +kernel
theorem kit_tup : ∀ d : PyData, kitB (tyN d) "tuple" = some (tupB d)
  | .none => show kitB "NoneType" "tuple" = some false from by decide +kernel
  | .bool _ => show kitB "bool" "tuple" = some false from by decide +kernel
  | .int _ => show kitB "int" "tuple" = some false from by decide +kernel
  | .str _ => show kitB "str" "tuple" = some false from by decide +kernel
  | .list _ => show kitB "list" "tuple" = some false from by decide +kernel
  | .tuple _ => show kitB "tuple" "tuple" = some true from by decide +kernel
  | .dict _ => show kitB "dict" "tuple" = some false from by decide +kernel
def itemD (d : PyData) (i : Nat) : PyData := match d with
  | .tuple ds => ds.getD i .none
  | _ => .none
def isIntD (d : PyData) : Bool := intB d && !boolB d
def geD (d : PyData) : Bool := match d with
  | .int i => decide (0 ≤ i)
  | _ => false
def isNumD (d : PyData) : Bool := isIntD d && geD d
def lettersD : Str := "abcdefghijklmnopqrstuvwxyz"
def nameS (s : Str) : Bool := (decide (1 ≤ s.length) && decide (s.length ≤ 8)) && s.cps.toList.all fun n => decide (n ∈ lettersD.cps.toList)
def isNameD (d : PyData) : Bool := match d with
  | .str s => nameS s
  | _ => false
def isPairD (d : PyData) : Bool := match d with
  | .tuple ds => decide (ds.length = 2)
  | _ => false
def isCellD (d : PyData) : Bool := isPairD d && (isNameD (itemD d 0) && isNumD (itemD d 1))
def nzD (d : PyData) : Bool := match d with
  | .int i => decide (i ≠ 0)
  | _ => true
def isWtD (d : PyData) : Bool := isPairD d && (isCellD (itemD d 0) && (isIntD (itemD d 1) && nzD (itemD d 1)))
theorem int_of {d : PyData} (h : isIntD d = true) : ∃ i, d = .int i := by
  cases d with
  | int i => exact ⟨i, rfl⟩
  | bool b => cases h
  | none => cases h
  | str _ => cases h
  | list _ => cases h
  | tuple _ => cases h
  | dict _ => cases h
theorem pair_of {d : PyData} (h : isPairD d = true) : ∃ x y, d = .tuple [x, y] := by
  cases d with
  | tuple ds =>
    have e : ds.length = 2 := of_decide_eq_true h
    match ds, e with
    | [x, y], _ => exact ⟨x, y, rfl⟩
  | _ => cases h
theorem DH.int_inv {D : Addr} {H : Hp} {v : V} {i : Int} (h : DH D H v (.int i)) : v = .int i := by
  cases h
  rfl
theorem DH.str_inv {D : Addr} {H : Hp} {v : V} {s : Str} (h : DH D H v (.str s)) : v = .str s := by
  cases h
  rfl
theorem DH.tup_inv {D : Addr} {H : Hp} {v : V} {ds : List PyData} (h : DH D H v (.tuple ds)) : ∃ a xs, v = .ref a ∧ H a = some (.tup xs) ∧ DHs D H xs ds := by
  cases h with
  | tup e t => exact ⟨_, _, rfl, e, t⟩
theorem DH.pair_inv {D : Addr} {H : Hp} {v : V} {x y : PyData} (h : DH D H v (.tuple [x, y])) : ∃ a p q, v = .ref a ∧ H a = some (.tup [p, q]) ∧ DH D H p x ∧ DH D H q y := by
  obtain ⟨a, xs, rfl, e, t⟩ := h.tup_inv
  cases t with
  | cons h1 t =>
    cases t with
    | cons h2 t =>
      cases t
      exact ⟨a, _, _, rfl, e, h1, h2⟩
/-- a check of one value -/
def prKind (f : PyData → Bool) : Pr := fun vs H Q => ∃ (v : V) (d : PyData) (D : Addr), vs = [v] ∧ DH D H v d ∧ smallD d = true ∧ ∀ H', Same H H' → Q (.bl (f d)) H'
end AskG
/-! How long the text of data is. -/
namespace AskG
open PySem PySem.Spec PyProof.Rows L2
mutual
/-- whole numbers of at most eighty digits -/
def litD : PyData → Bool
  | .int i => decide (i.natAbs < 10 ^ 80)
  | .list ds => litDs ds
  | .tuple ds => litDs ds
  | .dict _ => false
  | _ => true
def litDs : List PyData → Bool
  | [] => true
  | d :: ds => litD d && litDs ds
end
mutual
def wtD : PyData → Nat
  | .none => 5
  | .bool _ => 5
  | .int _ => 81
  | .str s => 10 * s.length + 2
  | .list ds => wtDs ds + 2 * ds.length + 3
  | .tuple ds => wtDs ds + 2 * ds.length + 3
  | .dict _ => 0
def wtDs : List PyData → Nat
  | [] => 0
  | d :: ds => wtD d + wtDs ds
end
structure Told (d : PyData) : Prop where
  shw : d.showable = true
  nod : d.hasDict = false
  len : d.shown.length ≤ wtD d
structure Tolds (ds : List PyData) : Prop where
  shw : PyData.showableAll ds = true
  nod : PyData.hasDictAll ds = false
  len : ((PyData.shownAll ds).map (·.length)).sum ≤ wtDs ds
  cnt : (PyData.shownAll ds).length = ds.length
theorem told_int {i : Int} (h : i.natAbs < 10 ^ 80) : Told (.int i) := by
  have h2 : i.natAbs < 2 ^ 1900 := Nat.lt_trans h (by decide)
  have h3 : i.natAbs.log2 < 1920 := by
    by_cases z : i.natAbs = 0
    · rw [z]
      decide
    · have := (Nat.log2_lt z).mpr h2
      omega
  refine ⟨decide_eq_true h3, rfl, ?_⟩
  show (PySem.Str.ofString (toString i)).length ≤ 81
  rw [PySem.ofString_length]
  exact PySem.int_text_length_le10 (k := 80) (by decide) h
theorem told_str {s : Str} (h : PyData.strOk s = true) : Told (.str s) := by
  refine ⟨rfl, rfl, ?_⟩
  show (reprText s).length ≤ 10 * s.length + 2
  refine StrLaws.reprText_len s fun c hc => ?_
  have := Array.all_eq_true'.mp h c (Array.mem_toList_iff.mp hc)
  have := of_decide_eq_true this
  omega
mutual
theorem told : ∀ {d : PyData}, smallD d = true → litD d = true → Told d
  | .none, _, _ => ⟨rfl, rfl, by decide +kernel⟩
  | .bool true, _, _ => ⟨rfl, rfl, by decide +kernel⟩
  | .bool false, _, _ => ⟨rfl, rfl, by decide +kernel⟩
  | .int i, _, h => told_int (of_decide_eq_true h)
  | .str s, h, _ => told_str (small_strOk h)
  | .list ds, h, g => by
    have t := tolds (small_lst h).2 (show litDs ds = true from g)
    refine ⟨t.shw, t.nod, ?_⟩
    have := listText_len_le (PyData.shownAll ds)
    show (listText (PyData.shownAll ds)).length ≤ wtDs ds + 2 * ds.length + 3
    rw [t.cnt] at this
    have := t.len
    omega
  | .tuple ds, h, g => by
    have t := tolds (small_tup h).2 (show litDs ds = true from g)
    refine ⟨t.shw, t.nod, ?_⟩
    have := tupleText_len_le (PyData.shownAll ds)
    show (tupleText (PyData.shownAll ds)).length ≤ wtDs ds + 2 * ds.length + 3
    rw [t.cnt] at this
    have := t.len
    omega
  | .dict _, h, _ => by cases h
theorem tolds : ∀ {ds : List PyData}, smallDs ds = true → litDs ds = true → Tolds ds
  | [], _, _ => ⟨rfl, rfl, Nat.le_refl _, rfl⟩
  | d :: ds, h, g => by
    unfold smallDs at h
    unfold litDs at g
    rw [Bool.and_eq_true] at h g
    have a := told h.1 g.1
    have b := tolds h.2 g.2
    refine ⟨?_, ?_, ?_, ?_⟩
    · show (d.showable && PyData.showableAll ds) = true
      rw [a.shw, b.shw]
      rfl
    · show (d.hasDict || PyData.hasDictAll ds) = false
      rw [a.nod, b.nod]
      rfl
    · show ((d.shown :: PyData.shownAll ds).map (·.length)).sum ≤ wtD d + wtDs ds
      rw [List.map_cons, List.sum_cons]
      have := a.len
      have := b.len
      omega
    · show (d.shown :: PyData.shownAll ds).length = _
      rw [List.length_cons, List.length_cons, b.cnt]
end
theorem wtDs_app : ∀ xs ys : List PyData, wtDs (xs ++ ys) = wtDs xs + wtDs ys
  | [], ys => by
    show wtDs ys = 0 + wtDs ys
    omega
  | x :: xs, ys => by
    show wtD x + wtDs (xs ++ ys) = wtD x + wtDs xs + wtDs ys
    rw [wtDs_app xs ys]
    omega
/-- the text of data at a value -/
theorem repr_told {K : PySem.W.Frag} {D H a d} {Q : VK} (h : DH D H (.ref a) d) (s : smallD d = true) (l : litD d = true) (dep : d.depth ≤ 60) (w : wtD d ≤ 16777216) (q : Q (.str d.shown) H) : rRepr K [.ref a] H Q := by
  have t := told s l
  exact ⟨a, d, rfl, h.dp, t.shw, t.nod, dep, by rw [sizeLine_eq]; exact Nat.le_trans t.len w, q⟩
end AskG
/-! Measures of data: lengths, numbers, depth, weight; how they go with lists. -/
namespace AskG
open PySem PySem.Spec PyProof.Rows L2
/-- plain signs only -/
def ascS (s : Str) : Bool := s.cps.toList.all fun c => decide (c < 128)
theorem asc_ok {s : Str} (h : ascS s = true) : PyData.strOk s = true :=
  Array.all_eq_true'.mpr fun c hc => decide_eq_true (by
    have := of_decide_eq_true (List.all_eq_true.mp h c (Array.mem_toList_iff.mpr hc))
    omega)
theorem asc_app {s z : Str} (h : ascS s = true) (g : ascS z = true) : ascS (s ++ z) = true := by
  show ((s.cps ++ z.cps).toList.all fun c => decide (c < 128)) = true
  rw [Array.toList_append, List.all_append]
  exact Bool.and_eq_true_iff.mpr ⟨h, g⟩
theorem asc_sub {s z : Str} (h : ascS s = true) (g : ∀ c ∈ z.cps.toList, c ∈ s.cps.toList) : ascS z = true :=
  List.all_eq_true.mpr fun c hc => List.all_eq_true.mp h c (g c hc)
mutual
/-- strings of plain signs, no dicts -/
def okS : PyData → Bool
  | .str s => ascS s
  | .list ds => okSs ds
  | .tuple ds => okSs ds
  | .dict _ => false
  | _ => true
def okSs : List PyData → Bool
  | [] => true
  | d :: ds => okS d && okSs ds
end
mutual
/-- the greatest length of a string, a list, a tuple in it -/
def bigD : PyData → Nat
  | .str s => s.length
  | .list ds => max ds.length (bigDs ds)
  | .tuple ds => max ds.length (bigDs ds)
  | _ => 0
def bigDs : List PyData → Nat
  | [] => 0
  | d :: ds => max (bigD d) (bigDs ds)
end
mutual
/-- the greatest whole number in it, without sign -/
def topD : PyData → Nat
  | .int i => i.natAbs
  | .list ds => topDs ds
  | .tuple ds => topDs ds
  | _ => 0
def topDs : List PyData → Nat
  | [] => 0
  | d :: ds => max (topD d) (topDs ds)
end
mutual
theorem small_by : ∀ {d : PyData}, okS d = true → bigD d ≤ 1000 → smallD d = true
  | .none, _, _ => rfl
  | .bool _, _, _ => rfl
  | .int _, _, _ => rfl
  | .str s, h, g => by
    have h : PyData.strOk s = true := asc_ok h
    have g : s.length ≤ 1000 := g
    unfold smallD
    rw [decide_eq_true g, h]
    rfl
  | .list ds, h, g => by
    have g : max ds.length (bigDs ds) ≤ 1000 := g
    unfold smallD
    rw [decide_eq_true (by omega), smalls_by (ds := ds) h (by omega)]
    rfl
  | .tuple ds, h, g => by
    have g : max ds.length (bigDs ds) ≤ 1000 := g
    unfold smallD
    rw [decide_eq_true (by omega), smalls_by (ds := ds) h (by omega)]
    rfl
  | .dict _, h, _ => by cases h
theorem smalls_by : ∀ {ds : List PyData}, okSs ds = true → bigDs ds ≤ 1000 → smallDs ds = true
  | [], _, _ => rfl
  | d :: ds, h, g => by
    unfold okSs at h
    rw [Bool.and_eq_true] at h
    have g : max (bigD d) (bigDs ds) ≤ 1000 := g
    unfold smallDs
    rw [small_by h.1 (by omega), smalls_by h.2 (by omega)]
    rfl
end
mutual
theorem lit_by : ∀ {d : PyData}, okS d = true → topD d < 10 ^ 80 → litD d = true
  | .none, _, _ => rfl
  | .bool _, _, _ => rfl
  | .int _, _, g => decide_eq_true g
  | .str _, _, _ => rfl
  | .list ds, h, g => lits_by (ds := ds) h g
  | .tuple ds, h, g => lits_by (ds := ds) h g
  | .dict _, h, _ => by cases h
theorem lits_by : ∀ {ds : List PyData}, okSs ds = true → topDs ds < 10 ^ 80 → litDs ds = true
  | [], _, _ => rfl
  | d :: ds, h, g => by
    unfold okSs at h
    rw [Bool.and_eq_true] at h
    have g : max (topD d) (topDs ds) < 10 ^ 80 := g
    unfold litDs
    rw [lit_by h.1 (by omega), lits_by h.2 (by omega)]
    rfl
end
/-- measures of a list's items, all at once -/
structure All (b t k n : Nat) (ds : List PyData) : Prop where
  ok : okSs ds = true
  big : bigDs ds ≤ b
  top : topDs ds ≤ t
  dep : PyData.depthAll ds ≤ k
  wt : wtDs ds ≤ n
structure Of (b t k n : Nat) (d : PyData) : Prop where
  ok : okS d = true
  big : bigD d ≤ b
  top : topD d ≤ t
  dep : d.depth ≤ k
  wt : wtD d ≤ n
theorem All.nil {b t k n : Nat} : All b t k n [] := ⟨rfl, Nat.zero_le _, Nat.zero_le _, Nat.zero_le _, Nat.zero_le _⟩
theorem All.cons {b t k n m : Nat} {d : PyData} {ds : List PyData} (h : Of b t k m d) (g : All b t k n ds) : All b t k (m + n) (d :: ds) := by
  refine ⟨?_, ?_, ?_, ?_, ?_⟩
  · unfold okSs
    rw [h.ok, g.ok]
    rfl
  · show max (bigD d) (bigDs ds) ≤ b
    exact Nat.max_le.mpr ⟨h.big, g.big⟩
  · show max (topD d) (topDs ds) ≤ t
    exact Nat.max_le.mpr ⟨h.top, g.top⟩
  · show max d.depth (PyData.depthAll ds) ≤ k
    exact Nat.max_le.mpr ⟨h.dep, g.dep⟩
  · show wtD d + wtDs ds ≤ m + n
    have := h.wt
    have := g.wt
    omega
theorem All.head {b t k n : Nat} {d : PyData} {ds : List PyData} (h : All b t k n (d :: ds)) : Of b t k n d := by
  have h1 := h.ok
  unfold okSs at h1
  rw [Bool.and_eq_true] at h1
  have h2 : max (bigD d) (bigDs ds) ≤ b := h.big
  have h3 : max (topD d) (topDs ds) ≤ t := h.top
  have h4 : max d.depth (PyData.depthAll ds) ≤ k := h.dep
  have h5 : wtD d + wtDs ds ≤ n := h.wt
  exact ⟨h1.1, by omega, by omega, by omega, by omega⟩
theorem All.tail {b t k n : Nat} {d : PyData} {ds : List PyData} (h : All b t k n (d :: ds)) : All b t k n ds := by
  have h1 := h.ok
  unfold okSs at h1
  rw [Bool.and_eq_true] at h1
  have h2 : max (bigD d) (bigDs ds) ≤ b := h.big
  have h3 : max (topD d) (topDs ds) ≤ t := h.top
  have h4 : max d.depth (PyData.depthAll ds) ≤ k := h.dep
  have h5 : wtD d + wtDs ds ≤ n := h.wt
  exact ⟨h1.2, by omega, by omega, by omega, by omega⟩
theorem All.mono {b t k n b' t' k' n' : Nat} {ds : List PyData} (h : All b t k n ds) (hb : b ≤ b') (ht : t ≤ t') (hk : k ≤ k') (hn : n ≤ n') : All b' t' k' n' ds :=
  ⟨h.ok, Nat.le_trans h.big hb, Nat.le_trans h.top ht, Nat.le_trans h.dep hk, Nat.le_trans h.wt hn⟩
theorem Of.mono {b t k n b' t' k' n' : Nat} {d : PyData} (h : Of b t k n d) (hb : b ≤ b') (ht : t ≤ t') (hk : k ≤ k') (hn : n ≤ n') : Of b' t' k' n' d :=
  ⟨h.ok, Nat.le_trans h.big hb, Nat.le_trans h.top ht, Nat.le_trans h.dep hk, Nat.le_trans h.wt hn⟩
theorem All.app {b t k : Nat} : ∀ {xs ys : List PyData} {n m : Nat}, All b t k n xs → All b t k m ys → All b t k (n + m) (xs ++ ys)
  | [], ys, n, m, _, g => g.mono (Nat.le_refl _) (Nat.le_refl _) (Nat.le_refl _) (by omega)
  | x :: xs, ys, n, m, h, g => by
    have w : wtD x + wtDs xs ≤ n := h.wt
    have hx : Of b t k (wtD x) x := ⟨h.head.ok, h.head.big, h.head.top, h.head.dep, Nat.le_refl _⟩
    have hxs : All b t k (wtDs xs) xs := ⟨h.tail.ok, h.tail.big, h.tail.top, h.tail.dep, Nat.le_refl _⟩
    exact (All.cons hx (All.app hxs g)).mono (Nat.le_refl _) (Nat.le_refl _) (Nat.le_refl _) (by omega)
theorem All.drop {b t k n : Nat} : ∀ {ds : List PyData} (i : Nat), All b t k n ds → All b t k n (ds.drop i)
  | _, 0, h => h
  | [], _ + 1, _ => .nil
  | _ :: _, i + 1, h => All.drop i h.tail
theorem All.take {b t k : Nat} : ∀ {ds : List PyData} {n : Nat} (i : Nat), All b t k n ds → All b t k n (ds.take i)
  | _, _, 0, _ => .nil
  | [], _, _ + 1, _ => .nil
  | x :: ds, n, i + 1, h => by
    have w : wtD x + wtDs ds ≤ n := h.wt
    have hx : Of b t k (wtD x) x := ⟨h.head.ok, h.head.big, h.head.top, h.head.dep, Nat.le_refl _⟩
    have hxs : All b t k (wtDs ds) ds := ⟨h.tail.ok, h.tail.big, h.tail.top, h.tail.dep, Nat.le_refl _⟩
    exact (All.cons hx (All.take i hxs)).mono (Nat.le_refl _) (Nat.le_refl _) (Nat.le_refl _) w
theorem All.rev {b t k : Nat} : ∀ {ds : List PyData} {n : Nat}, All b t k n ds → All b t k n ds.reverse
  | [], _, h => .nil
  | x :: ds, n, h => by
    have w : wtD x + wtDs ds ≤ n := h.wt
    have hx : Of b t k (wtD x) x := ⟨h.head.ok, h.head.big, h.head.top, h.head.dep, Nat.le_refl _⟩
    have hxs : All b t k (wtDs ds) ds := ⟨h.tail.ok, h.tail.big, h.tail.top, h.tail.dep, Nat.le_refl _⟩
    rw [List.reverse_cons]
    exact (All.app (All.rev hxs) (All.cons hx (All.nil (n := 0)))).mono (Nat.le_refl _) (Nat.le_refl _) (Nat.le_refl _) (by omega)
theorem All.at {b t k n : Nat} : ∀ {ds : List PyData} {i : Nat} {d : PyData}, All b t k n ds → ds[i]? = some d → Of b t k n d
  | [], i, _, _, e => by cases i <;> cases e
  | x :: ds, 0, _, h, e => by
    cases e
    exact h.head
  | x :: ds, i + 1, _, h, e => All.at h.tail e
theorem Of.tup {b t k n : Nat} {ds : List PyData} (h : All b t k n ds) (hl : ds.length ≤ b) : Of b t (k + 1) (n + 2 * ds.length + 3) (.tuple ds) :=
  ⟨h.ok, Nat.max_le.mpr ⟨hl, h.big⟩, h.top, Nat.succ_le_succ h.dep, by
    show wtDs ds + 2 * ds.length + 3 ≤ _
    have := h.wt
    omega⟩
theorem Of.lst {b t k n : Nat} {ds : List PyData} (h : All b t k n ds) (hl : ds.length ≤ b) : Of b t (k + 1) (n + 2 * ds.length + 3) (.list ds) :=
  ⟨h.ok, Nat.max_le.mpr ⟨hl, h.big⟩, h.top, Nat.succ_le_succ h.dep, by
    show wtDs ds + 2 * ds.length + 3 ≤ _
    have := h.wt
    omega⟩
theorem Of.items {b t k n : Nat} {ds : List PyData} (h : Of b t (k + 1) n (.tuple ds)) : All b t k n ds ∧ ds.length ≤ b ∧ wtDs ds + 2 * ds.length + 3 ≤ n := by
  have h2 : max ds.length (bigDs ds) ≤ b := h.big
  have h5 : wtDs ds + 2 * ds.length + 3 ≤ n := h.wt
  exact ⟨⟨h.ok, by omega, h.top, Nat.le_of_succ_le_succ h.dep, by omega⟩, by omega, h5⟩
theorem Of.small {b t k n : Nat} {d : PyData} (h : Of b t k n d) (hb : b ≤ 1000) : smallD d = true := small_by h.ok (Nat.le_trans h.big hb)
theorem Of.lit {b t k n : Nat} {d : PyData} (h : Of b t k n d) (ht : t < 10 ^ 80) : litD d = true := lit_by h.ok (Nat.lt_of_le_of_lt h.top ht)
end AskG
/-! t[::-1] of a tuple. -/
namespace AskG
open PySem PySem.Spec PyProof.Rows L2 HT
section
variable {prog : Program} {w : World} {A : Around} {E : Value → Shared → Prop} {s : Shared}
theorem adjust_rev (n : Nat) : Builtin.Slice.sliceAdjust none none (-1) (n : Int) = ((n : Int) - 1, -1) := rfl
theorem places_rev (n : Nat) : Builtin.Slice.slicePlaces ((n : Int) - 1) (-1) (-1) = n := by
  unfold Builtin.Slice.slicePlaces
  by_cases h : n = 0
  · subst h
    rfl
  · simp
    try omega
theorem sliceApplied_rev {sl : Addr} {vs : Value} {n : Nat} {Q : Int × Int × Nat → Shared → Prop} (hs : s.heap.IsSliceOf sl .none .none vs) (ps : IsPart vs (some (-1)))
    (h : Q ((n : Int) - 1, -1, n) s) : wpAny (model prog w) A (Builtin.Slice.sliceApplied (.ref sl) (pure (n : Int))) Q E s := by
  obtain ⟨os, hos, hcs, hds⟩ := id hs
  unfold Builtin.Slice.sliceApplied Builtin.Slice.sliceFields
  refine wpAny_bind (wpAny_bind (wpAny_field hos hds (x := .none) rfl (wpAny_bind (wpAny_field hos hds (x := .none) rfl (wpAny_bind (wpAny_field hos hds (x := vs) rfl (wpAny_pure ?_)))))))
  refine wpAny_bind (slicePart_ ps ?_)
  show wpAny _ _ (if ((-1 : Int) == 0) = true then _ else _) _ _ s
  rw [if_neg (by decide)]
  refine wpAny_bind (slicePart_none (wpAny_bind (slicePart_none (wpAny_bind (wpAny_pure ?_)))))
  show wpAny _ _ (match Builtin.Slice.sliceAdjust none none (-1) (n : Int) with | (lo, hi) => pure (lo, (-1 : Int), Builtin.Slice.slicePlaces lo hi (-1))) _ _ s
  rw [adjust_rev]
  show wpAny _ _ (pure ((n : Int) - 1, (-1 : Int), Builtin.Slice.slicePlaces ((n : Int) - 1) (-1) (-1))) _ _ s
  rw [places_rev]
  exact wpAny_pure h
theorem fm_congr {α β : Type} {f g : α → Option β} : ∀ {l : List α}, (∀ m ∈ l, f m = g m) → l.filterMap f = l.filterMap g
  | [], _ => rfl
  | x :: l, h => by
    rw [List.filterMap_cons, List.filterMap_cons, h x List.mem_cons_self, fm_congr fun m hm => h m (List.mem_cons_of_mem _ hm)]
theorem pick_rev (xs : Array Value) : ((List.range xs.size).filterMap fun (m : Nat) => xs[(((xs.size : Int) - 1) + (m : Int) * (-1)).toNat]?).toArray = xs.toList.reverse.toArray := by
  have g := pick_gen xs.toList.reverse.toArray 0 xs.size
  have e : ((xs.toList.reverse.toArray.toList.drop 0).take xs.size) = xs.toList.reverse := by
    show (xs.toList.reverse.drop 0).take xs.size = xs.toList.reverse
    rw [List.drop_zero]
    exact List.take_of_length_le (by rw [List.length_reverse, Array.length_toList]; exact Nat.le_refl _)
  rw [e] at g
  rw [← g]
  congr 1
  refine fm_congr fun m hm => ?_
  have hm' := List.mem_range.mp hm
  have e1 : (((xs.size : Int) - 1) + (m : Int) * (-1)).toNat = xs.size - 1 - m := by omega
  have e2 : (((0 : Nat) : Int) + (m : Int) * 1).toNat = m := by omega
  rw [e1, e2]
  show xs[xs.size - 1 - m]? = xs.toList.reverse.toArray[m]?
  have r : xs.toList.reverse.toArray[m]? = xs.toList.reverse[m]? := by simp
  rw [r, List.getElem?_reverse (by rw [Array.length_toList]; exact hm'), Array.length_toList, Array.getElem?_toList]
theorem getItem_tuple_rev {t sl : Addr} {items : Array Value} {vs : Value} {Q : Value → Shared → Prop} (ht : IsTup s.heap t items) (hs : s.heap.IsSliceOf sl .none .none vs) (ps : IsPart vs (some (-1)))
    (h : Q (.ref s.heap.objs.size) { s with heap := s.heap.push { cls := .type "tuple", data := .seq items.toList.reverse.toArray } })
    (hsz : items.size ≤ sizeLine) : wpAny (model prog w) A (getItem (.ref t) (.ref sl)) Q E s := by
  have htake : sizeOk (.seq items.toList.reverse.toArray) := by
    show items.toList.reverse.toArray.size ≤ sizeLine
    rw [List.size_toArray, List.length_reverse, Array.length_toList]
    exact hsz
  obtain ⟨os, hos, hcs, hds⟩ := id hs
  have hTs : s.TypeIs (.ref sl) "slice" := ⟨os, hos, hcs⟩
  unfold getItem
  try with_reducible refine wpAny_holding ?_
  try refine wpAny_bind (wpAny_pure ?_)
  refine wpAny_bind (wpAny_sequenceKey ht.typeIs (by decide) (wpAny_bind (wpAny_callSpecial?_slot (name := Str.ofString "__getitem__") ht.typeIs PyProof.Rows.slot_tuple_getitem (wpAny_call_entry PyProof.Rows.slot_tuple_getitem ht.typeIs entry_tuple_getitem ?_ (args_tuple_getitem _ _)))))
  change wpAny _ _ (Builtin.Tuple.tupleItemsOf (.ref t) >>= _) _ _ s
  refine wpAny_bind (tupleItemsOf_ ht (wpAny_bind (wpAny_typeOf hTs ?_)))
  rw [if_pos (by decide)]
  refine wpAny_bind (sliceApplied_rev hs ps ?_)
  have hno : ¬ ((((items.size : Int) - 1) == 0 && (-1 : Int) == 1 && items.size == items.size) = true) := by
    intro q
    rw [Bool.and_eq_true, Bool.and_eq_true] at q
    exact absurd q.1.2 (by decide)
  show wpAny _ _ (if ((((items.size : Int) - 1) == 0 && (-1 : Int) == 1 && items.size == items.size) = true) then _ else _) _ _ s
  rw [if_neg hno, pick_rev]
  have fin : ∀ (B : Around) (R : Value → Shared → Prop), (R (.ref s.heap.objs.size) { s with heap := s.heap.push { cls := .type "tuple", data := .seq items.toList.reverse.toArray } }) → wpAny (model prog w) B (Builtin.Tuple.tupleExact items.toList.reverse.toArray) R E s := fun B R hR => wpAny_newObj_type hR htake
  first
    | exact wpAny_bind (fin _ _ (wpAny_pure ⟨_, rfl, wpAny_pure h⟩))
    | exact wpAny_bind (wpAny_bind (fin _ _ (wpAny_pure (wpAny_pure ⟨_, rfl, wpAny_pure h⟩))))
    | exact wpAny_bind (wpAny_bind (fin _ _ (wpAny_pure ⟨_, rfl, wpAny_pure h⟩)))
    | exact wpAny_bind (fin _ _ (wpAny_bind (wpAny_pure (wpAny_pure ⟨_, rfl, wpAny_pure h⟩))))
end
/-- t[::-1] -/
def tRevT (K : PySem.W.Frag) (te : TE) : TE := fun σ H Q => te σ H fun x H1 => ∃ a xs, x = .ref a ∧ SqT K H1 a xs ∧ ∀ p, H1 p = none → Q (.ref p) (upd H1 p (.tup xs.reverse))
section
variable {X : Cx}
theorem pe_revT {e : Expr} {te : TE} {k : Nat} {p1 p2 p3 pos : Pos} (he : PE X e te) : PE X (.Subscript e (.Slice none none (some (.UnaryOp .USub (.Constant (.int 1) k p1) p2)) p3) pos) (tRevT X.K te) := by
  constructor
  intro pins s σ H Q I h
  have st : PO X (some (.UnaryOp .USub (.Constant (.int 1) k p1) p2)) (tPart (tUn (rU fun i => .int (-i)) (tC (.int 1)))) := po_some (pe_un un_neg pe_int)
  refine Subscript_ (thn (he.run pins s σ H _ I h) ?_)
  rintro v s1 ⟨x, H1, I1, r1, a, xs, rfl, hx, q⟩
  cases r1
  refine wpAny_Slice (thn (po_none.run pins s1 σ H1 (fun o G => o = none ∧ G = H1) I1 ⟨rfl, rfl⟩) ?_)
  rintro vl s2 ⟨_, _, I2, pl, rfl, rfl⟩
  refine thn (po_none.run pins s2 σ _ (fun o G => o = none ∧ G = _) I2 ⟨rfl, rfl⟩) ?_
  rintro vu s3 ⟨_, _, I3, pu, rfl, rfl⟩
  refine thn (st.run pins s3 σ _ (fun o G => o = some (-1) ∧ G = _) I3 ⟨1, rfl, -1, rfl, rfl, rfl⟩) ?_
  rintro vs s4 ⟨_, G, I4, ps, rfl, rfl⟩
  cases pl
  cases pu
  have I5 : Inv X pins σ G { s4 with heap := s4.heap.push { cls := .type "slice", data := .fields #[.none, .none, vs] } } := I4.kept (t' := s4.toks) fun _ _ z => Heap.get?_push_of_some _ z
  obtain ⟨its, r, ht, hz⟩ := I5.tuple hx
  have hl : its.toArray.size = xs.length := by rw [List.size_toArray]; exact r.length.symm
  change wpAny (model X.prog X.w) X.A (subscriptTail e _ (.ref a) (.ref s4.heap.objs.size)) (EP X pins σ Q) X.xe _
  refine tail_any (ops := [.ref a, .ref s4.heap.objs.size]) ht.typeIs (PyProof.Rows.slot_tuple_getitem.lookup) (getItem_tuple_rev ht (Heap.IsSliceOf.new _ _ _ _) ps ?_ (by rw [hl]; exact hz)) (by with_unfolding_all rfl)
  refine ⟨.ref _, _, I5.laid (t' := s4.toks) (o := .tup xs.reverse) (fun _ _ z => Heap.get?_push_of_some _ z) (Nat.le_refl _) ⟨by rw [List.length_reverse]; exact hz, _, r.reverse, IsTup.new _ _⟩, rfl, q _ (I5.hok.fresh (Nat.le_refl _))⟩
end
end AskG
/-! Whole numbers and bools together. -/
namespace AskG
open PySem PySem.Spec PyProof.Rows L2
section
variable {X : Cx}
def b1 (k : Bool) : Int := if k = true then 1 else 0
theorem op_add_bi : OpR X (binaryOp .Add) (fun x y H Q => ∃ k i, x = .bl k ∧ y = .int i ∧ Q (.int (b1 k + i)) H) := by
  rintro pins s σ H x y v u Q I rx ry ⟨k, i, rfl, rfl, q⟩
  cases rx
  obtain ⟨t, rfl⟩ := ry
  exact PySem.IntBool.add_bool_int ⟨.int (b1 k + i), H, I.tok _, ⟨_, rfl⟩, q⟩
theorem op_sub_bi : OpR X (binaryOp .Sub) (fun x y H Q => ∃ k i, x = .bl k ∧ y = .int i ∧ Q (.int (b1 k - i)) H) := by
  rintro pins s σ H x y v u Q I rx ry ⟨k, i, rfl, rfl, q⟩
  cases rx
  obtain ⟨t, rfl⟩ := ry
  exact PySem.IntBool.sub_bool_int ⟨.int (b1 k - i), H, I.tok _, ⟨_, rfl⟩, q⟩
theorem op_sub_ib : OpR X (binaryOp .Sub) (fun x y H Q => ∃ i k, x = .int i ∧ y = .bl k ∧ Q (.int (i - b1 k)) H) := by
  rintro pins s σ H x y v u Q I rx ry ⟨i, k, rfl, rfl, q⟩
  obtain ⟨t, rfl⟩ := rx
  cases ry
  exact PySem.IntBool.sub_int_bool ⟨.int (i - b1 k), H, I.tok _, ⟨_, rfl⟩, q⟩
theorem op_eq_bi : OpR X (compareOp .Eq) (fun x y H Q => ∃ k i, x = .bl k ∧ y = .int i ∧ Q (.bl (b1 k == i)) H) := by
  rintro pins s σ H x y v u Q I rx ry ⟨k, i, rfl, rfl, q⟩
  cases rx
  obtain ⟨t, rfl⟩ := ry
  exact PySem.EqBoolInt.eq_bool_int ⟨.bl (b1 k == i), H, I, rfl, q⟩
theorem call_str_bl : CallR X (.type "str") (fun xs H Q => ∃ k : Bool, xs = [.bl k] ∧ Q (.str (if k then "True" else "False")) H) := by
  rintro pins s σ H xs us Q I r ⟨k, rfl, q⟩
  obtain ⟨u, rfl, t⟩ := vals1 r
  cases t
  exact PySem.P.str_of_bool ⟨.str (if k then "True" else "False"), H, I.tok _, ⟨_, rfl⟩, q⟩
end
end AskG
/-! Displays of data: what is written down is new, and taken addresses are no part of it. -/
namespace AskG
open PySem PySem.Spec PyProof.Rows L2
abbrev Taken (H : Hp) (D : Addr) : Prop := ∃ o, H D = some o
theorem Taken.keep {H H' : Hp} {D : Addr} (h : Taken H D) (s : Same H H') : Taken H' D := by
  obtain ⟨o, e⟩ := h
  exact ⟨o, s _ _ e⟩
/-- an expression whose value is the data d, made anew -/
def tNew (d : PyData) : TE := fun _ H Q => ∀ H' v, Same H H' → (∀ D, Taken H D → DH D H' v d) → Q v H'
def tNews (ds : List PyData) : TA := fun _ H Q => ∀ H' vs, Same H H' → (∀ D, Taken H D → DHs D H' vs ds) → vs.length = ds.length → Q vs H'
section
variable {X : Cx} {e : Expr} {es : List Expr} {t t' : TE} {d : PyData} {ds : List PyData}
theorem PE.less (h : PE X e t) (m : ∀ σ H Q, t' σ H Q → t σ H Q) : PE X e t' := ⟨fun pins s σ H Q I q => h.run pins s σ H Q I (m σ H Q q)⟩
theorem new_non (h : PE X e (tC .non)) : PE X e (tNew .none) := PE.less h fun _ H _ q => q H _ (Same.refl _) fun _ _ => .non
theorem new_bl {b : Bool} (h : PE X e (tC (.bl b))) : PE X e (tNew (.bool b)) := PE.less h fun _ H _ q => q H _ (Same.refl _) fun _ _ => .bl b
theorem new_int {i : Int} (h : PE X e (tC (.int i))) : PE X e (tNew (.int i)) := PE.less h fun _ H _ q => q H _ (Same.refl _) fun _ _ => .int i
theorem new_str {x : Str} (h : PE X e (tC (.str x))) : PE X e (tNew (.str x)) := PE.less h fun _ H _ q => q H _ (Same.refl _) fun _ _ => .str x
theorem news_nil : PA X [] (tNews []) := ⟨fun pos pins s σ H Q I q => (pa_nil (X := X)).run pos pins s σ H Q I (q H [] (Same.refl _) (fun _ _ => .nil) rfl)⟩
theorem news_cons (h : PE X e (tNew d)) (g : PA X es (tNews ds)) (hs : starEach (e :: es) X.env = (false, eval e X.env) :: starEach es X.env := by rfl) : PA X (e :: es) (tNews (d :: ds)) := by
  refine ⟨fun pos pins s σ H Q I q => (pa_cons h g hs).run pos pins s σ H Q I fun H1 v s1 h1 => ?_⟩
  intro H2 vs s2 h2 l2
  refine q H2 (v :: vs) (s1.trans s2) (fun D hD => ?_) (by rw [List.length_cons, List.length_cons, l2])
  exact .cons ((h1 D hD).keep (KeepD.of s2)) (h2 D (hD.keep s1))
theorem new_tup {x1} {pos : Pos} (h : PA X es (tNews ds)) (hz : ds.length ≤ 1000) : PE X (.Tuple es x1 pos) (tNew (.tuple ds)) := by
  refine PE.less (pe_tup h) fun σ H Q q => ?_
  intro H1 vs s1 h1 l1
  refine ⟨by have := sizeBig; omega, fun p hp => ?_⟩
  have s2 := same_new (o := .tup vs) hp
  exact q _ _ (s1.trans s2) fun D hD => .tup upd_same ((h1 D hD).keep (KeepD.of s2))
theorem new_lst {pos : Pos} (h : PA X es (tNews ds)) (hz : ds.length ≤ 1000) : PE X (.List es pos) (tNew (.list ds)) := by
  refine PE.less (pe_lst h) fun σ H Q q => ?_
  intro H1 vs s1 h1 l1
  refine ⟨by have := sizeBig; omega, fun p hp => ?_⟩
  have s2 := same_new (o := .lst vs) hp
  refine q _ _ (s1.trans s2) fun D hD => .lst (fun z => ?_) upd_same ((h1 D hD).keep (KeepD.of s2))
  obtain ⟨o, ho⟩ := hD.keep s1
  rw [z, ho] at hp
  cases hp
end
end AskG
/-! Values made from one value that a name holds; what the bent values of data are. -/
namespace AskG
open PySem PySem.Spec PyProof.Rows L2
/-- the name in slot i holds the data d -/
def Src (i : Nat) (D : Addr) (d : PyData) (σ : L2.St) (H : Hp) : Prop := (∃ v, σ[i]? = some (some v) ∧ DH D H v d) ∧ Taken H D
theorem Src.keep {i : Nat} {D : Addr} {d : PyData} {σ : L2.St} {H H' : Hp} (h : Src i D d σ H) (s : Same H H') : Src i D d σ H' := by
  obtain ⟨⟨v, hv, hd⟩, t⟩ := h
  exact ⟨⟨v, hv, hd.keep (KeepD.of s)⟩, t.keep s⟩
def tFrom (i : Nat) (D : Addr) (d0 d : PyData) : TE := fun σ H Q => Src i D d0 σ H ∧ ∀ H' v, Same H H' → DH D H' v d → Q v H'
def tFroms (i : Nat) (D : Addr) (d0 : PyData) (ds : List PyData) : TA := fun σ H Q => Src i D d0 σ H ∧ ∀ H' vs, Same H H' → DHs D H' vs ds → Q vs H'
section
variable {X : Cx} {e : Expr} {es : List Expr} {i : Nat} {D : Addr} {d0 d : PyData} {ds : List PyData}
theorem from_nil : PA X [] (tFroms i D d0 []) := ⟨fun pos pins s σ H Q I q => (pa_nil (X := X)).run pos pins s σ H Q I (q.2 H [] (Same.refl _) .nil)⟩
theorem from_cons (h : PE X e (tFrom i D d0 d)) (g : PA X es (tFroms i D d0 ds)) (hs : starEach (e :: es) X.env = (false, eval e X.env) :: starEach es X.env := by rfl) : PA X (e :: es) (tFroms i D d0 (d :: ds)) := by
  refine ⟨fun pos pins s σ H Q I q => (pa_cons h g hs).run pos pins s σ H Q I ⟨q.1, fun H1 v s1 h1 => ⟨q.1.keep s1, fun H2 vs s2 h2 => ?_⟩⟩⟩
  exact q.2 H2 (v :: vs) (s1.trans s2) (.cons (h1.keep (KeepD.of s2)) h2)
theorem from_new (h : PE X e (tNew d)) : PE X e (tFrom i D d0 d) := PE.less h fun σ H Q q H' v s n => q.2 H' v s (n D q.1.2)
theorem from_var (h : PE X e (tVar i)) : PE X e (tFrom i D d d) := PE.less h fun σ H Q q => by
  obtain ⟨⟨⟨v, hv, hd⟩, _⟩, q⟩ := q
  exact ⟨v, hv, q H v (Same.refl _) hd⟩
theorem from_tup {x1} {pos : Pos} (h : PA X es (tFroms i D d0 ds)) (hz : ds.length ≤ 1000) : PE X (.Tuple es x1 pos) (tFrom i D d0 (.tuple ds)) := by
  refine PE.less (pe_tup h) fun σ H Q q => ?_
  refine ⟨q.1, fun H1 vs s1 h1 => ⟨by have := sizeBig; have := h1.len; omega, fun p hp => ?_⟩⟩
  have s2 := same_new (o := .tup vs) hp
  exact q.2 _ _ (s1.trans s2) (.tup upd_same (h1.keep (KeepD.of s2)))
theorem from_lst {pos : Pos} (h : PA X es (tFroms i D d0 ds)) (hz : ds.length ≤ 1000) : PE X (.List es pos) (tFrom i D d0 (.list ds)) := by
  refine PE.less (pe_lst h) fun σ H Q q => ?_
  refine ⟨q.1, fun H1 vs s1 h1 => ⟨by have := sizeBig; have := h1.len; omega, fun p hp => ?_⟩⟩
  have s2 := same_new (o := .lst vs) hp
  refine q.2 _ _ (s1.trans s2) (.lst (fun z => ?_) upd_same (h1.keep (KeepD.of s2)))
  obtain ⟨o, ho⟩ := q.1.2.keep s1
  rw [z, ho] at hp
  cases hp
end
/-! ### tuples -/
def cutD (ds : List PyData) (lo hi : Option Int) : List PyData := (ds.drop (HT.sIx ds.length 0 lo)).take (HT.sIx ds.length ds.length hi - HT.sIx ds.length 0 lo)
theorem DHs.drop {D : Addr} {H : Hp} : ∀ {vs : List V} {ds : List PyData} (i : Nat), DHs D H vs ds → DHs D H (vs.drop i) (ds.drop i)
  | _, _, 0, h => h
  | _, _, _ + 1, .nil => .nil
  | _, _, i + 1, .cons _ t => DHs.drop i t
theorem DHs.take {D : Addr} {H : Hp} : ∀ {vs : List V} {ds : List PyData} (i : Nat), DHs D H vs ds → DHs D H (vs.take i) (ds.take i)
  | _, _, 0, _ => .nil
  | _, _, _ + 1, .nil => .nil
  | _, _, i + 1, .cons h t => .cons h (DHs.take i t)
theorem DHs.rev {D : Addr} {H : Hp} : ∀ {vs : List V} {ds : List PyData}, DHs D H vs ds → DHs D H vs.reverse ds.reverse
  | _, _, .nil => .nil
  | _, _, .cons h t => by
    rw [List.reverse_cons, List.reverse_cons]
    exact DHs.app (DHs.rev t) (.cons h .nil)
theorem DHs.cut {D : Addr} {H : Hp} {vs : List V} {ds : List PyData} (h : DHs D H vs ds) (lo hi : Option Int) : DHs D H (cutV vs lo hi) (cutD ds lo hi) := by
  unfold cutV cutD
  rw [h.len]
  exact (h.drop _).take _
section
variable {K : PySem.W.Frag} {H : Hp} {D a b : Addr} {xs ys : List V} {ds es : List PyData} {Q : VK}
theorem sl_from {lo hi : Option Int} (ha : H a = some (.tup xs)) (hd : DHs D H xs ds) (q : ∀ H' v, Same H H' → DH D H' v (.tuple (cutD ds lo hi)) → Q v H') : rSlA K (.ref a) lo hi H Q := by
  have c := hd.cut lo hi
  refine ⟨a, xs, rfl, sqT ha, fun w => q H _ (Same.refl _) ?_, fun _ p hp => ?_⟩
  · have e : cutD ds lo hi = ds := by
      unfold cutD
      rw [← hd.len, w.1, w.2, List.drop_zero]
      exact List.take_of_length_le (by rw [hd.len]; omega)
    rw [e]
    exact .tup ha hd
  · have s2 := same_new (o := .tup (cutV xs lo hi)) hp
    exact q _ _ s2 (.tup upd_same (c.keep (KeepD.of s2)))
theorem sl_fromN {σ : L2.St} {lo : Option Int} (ha : H a = some (.tup xs)) (hd : DHs D H xs ds) (q : ∀ H' v, Same H H' → DH D H' v (.tuple (cutD ds lo none)) → Q v H') : tNoPart σ H fun u H3 => rSlA K (.ref a) lo u H3 Q := sl_from ha hd q
theorem cat_from (ha : H a = some (.tup xs)) (hd : DHs D H xs ds) (hb : H b = some (.tup ys)) (he : DHs D H ys es) (l1 : ds.length ≤ 1000) (l2 : es.length ≤ 1000)
    (q : ∀ H' v, Same H H' → DH D H' v (.tuple (ds ++ es)) → Q v H') : rCatA K (.ref a) (.ref b) H Q := by
  have big := sizeBig
  have c := hd.app he
  refine ⟨a, b, xs, ys, rfl, rfl, sqT ha, sqT hb, by rw [hd.len, he.len]; omega, fun e => ?_, fun _ e => ?_, fun _ _ p hp => ?_⟩
  · subst e
    cases hd
    exact q H _ (Same.refl _) (.tup hb he)
  · subst e
    cases he
    rw [List.append_nil] at q
    exact q H _ (Same.refl _) (.tup ha hd)
  · have s2 := same_new (o := .tup (xs ++ ys)) hp
    exact q _ _ s2 (.tup upd_same (c.keep (KeepD.of s2)))
end
theorem All.cut {b t k n : Nat} {ds : List PyData} (h : All b t k n ds) (lo hi : Option Int) : All b t k n (cutD ds lo hi) := All.take _ (All.drop _ h)
theorem cutD_len (ds : List PyData) (lo hi : Option Int) : (cutD ds lo hi).length ≤ ds.length := by
  unfold cutD
  rw [List.length_take, List.length_drop]
  omega
theorem cutD_pre (ds : List PyData) (n : Nat) (h : n ≤ ds.length) : cutD ds none (some (n : Int)) = ds.take n := by
  unfold cutD
  rw [HT.sIx_nat, HT.sIx_none, List.drop_zero, Nat.sub_zero, Nat.min_eq_left h]
theorem cutD_post (ds : List PyData) (n : Nat) (h : n ≤ ds.length) : cutD ds (some (n : Int)) none = ds.drop n := by
  unfold cutD
  rw [HT.sIx_nat, HT.sIx_none, Nat.min_eq_left h]
  exact List.take_of_length_le (by rw [List.length_drop]; exact Nat.le_refl _)
/-! ### strings -/
theorem asc_cut {s : Str} (h : ascS s = true) (lo hi : Option Int) : ascS (cutS s lo hi) = true := asc_sub h fun c hc => List.mem_of_mem_drop (List.mem_of_mem_take hc)
theorem cutS_len (s : Str) (lo hi : Option Int) : (cutS s lo hi).length ≤ s.length := by
  show ((s.cps.toList.drop _).take _).toArray.size ≤ s.cps.size
  rw [List.size_toArray, List.length_take, List.length_drop, Array.length_toList]
  omega
theorem up_one : ∀ c : Nat, c < 128 → ∀ x ∈ Unicode.upperOf c, x < 128 := by
  have h : ∀ c : Fin 128, ((Unicode.upperOf c.val).all fun x => decide (x < 128)) = true := by decide +kernel
  exact fun c hc x hx => of_decide_eq_true (List.all_eq_true.mp (h ⟨c, hc⟩) x hx)
theorem asc_upper {s : Str} (h : ascS s = true) : ascS (Txt.upper s) = true := by
  refine List.all_eq_true.mpr fun x hx => decide_eq_true ?_
  have hx : x ∈ (s.cps.mapIdx fun i c => (Unicode.upperOf c).toArray).flatten := Array.mem_toList_iff.mp hx
  obtain ⟨a, ha, hxa⟩ := Array.mem_flatten.mp hx
  obtain ⟨i, hi, e⟩ := Array.mem_mapIdx.mp ha
  subst e
  refine up_one _ ?_ x (by simpa using hxa)
  exact of_decide_eq_true (List.all_eq_true.mp h _ (Array.mem_toList_iff.mpr (Array.getElem_mem hi)))
theorem asc_int (i : Int) : ascS (toString i) = true := by
  refine List.all_eq_true.mpr fun c hc => decide_eq_true ?_
  refine Decidable.byContradiction fun z => ?_
  exact int_text_free' c ⟨by omega, by omega⟩ i hc
/-! ### how the measures of a bent value go -/
theorem Of.str {b t k n : Nat} {s : Str} (h : ascS s = true) (hb : s.length ≤ b) (hn : 10 * s.length + 2 ≤ n) : Of b t k n (.str s) := ⟨h, hb, Nat.zero_le _, Nat.zero_le _, hn⟩
theorem Of.int {b t k n : Nat} {i : Int} (ht : i.natAbs ≤ t) (hn : 81 ≤ n) : Of b t k n (.int i) := ⟨rfl, Nat.zero_le _, ht, Nat.zero_le _, hn⟩
theorem Of.bl {b t k n : Nat} {v : Bool} (hn : 5 ≤ n) : Of b t k n (.bool v) := ⟨rfl, Nat.zero_le _, Nat.zero_le _, Nat.zero_le _, hn⟩
theorem Of.non {b t k n : Nat} (hn : 5 ≤ n) : Of b t k n .none := ⟨rfl, Nat.zero_le _, Nat.zero_le _, Nat.zero_le _, hn⟩
theorem Of.exact {b t k n : Nat} {d : PyData} (h : Of b t k n d) : Of b t k (wtD d) d := ⟨h.ok, h.big, h.top, h.dep, Nat.le_refl _⟩
theorem All.exact {b t k n : Nat} {ds : List PyData} (h : All b t k n ds) : All b t k (wtDs ds) ds := ⟨h.ok, h.big, h.top, h.dep, Nat.le_refl _⟩
theorem str_len {b t k n : Nat} {s : Str} (h : Of b t k n (.str s)) : ascS s = true ∧ s.length ≤ b ∧ 10 * s.length + 2 ≤ n := ⟨h.ok, h.big, h.wt⟩
/-- the weights of what stands before, at and after a place -/
theorem wt_split : ∀ {ds : List PyData} {i : Nat} {d : PyData}, ds[i]? = some d → wtDs ds = wtDs (ds.take i) + wtD d + wtDs (ds.drop (i + 1))
  | [], i, _, e => by cases i <;> cases e
  | x :: ds, 0, _, e => by
    cases e
    show wtD x + wtDs ds = 0 + wtD x + wtDs ds
    omega
  | x :: ds, i + 1, _, e => by
    have := wt_split (ds := ds) (i := i) e
    show wtD x + wtDs ds = wtD x + wtDs (ds.take i) + wtD _ + wtDs (ds.drop (i + 1))
    omega
/-! ### what a name's data says of the value -/
section
variable {i : Nat} {D : Addr} {σ : L2.St} {H : Hp}
theorem src_str {s : Str} (h : Src i D (.str s) σ H) : σ[i]? = some (some (.str s)) := by
  obtain ⟨⟨v, hv, hd⟩, _⟩ := h
  obtain rfl := hd.str_inv
  exact hv
theorem src_int {j : Int} (h : Src i D (.int j) σ H) : σ[i]? = some (some (.int j)) := by
  obtain ⟨⟨v, hv, hd⟩, _⟩ := h
  obtain rfl := hd.int_inv
  exact hv
theorem src_bl {b : Bool} (h : Src i D (.bool b) σ H) : σ[i]? = some (some (.bl b)) := by
  obtain ⟨⟨v, hv, hd⟩, _⟩ := h
  cases hd
  exact hv
theorem src_tup {ds : List PyData} (h : Src i D (.tuple ds) σ H) : ∃ a xs, σ[i]? = some (some (.ref a)) ∧ H a = some (.tup xs) ∧ DHs D H xs ds := by
  obtain ⟨⟨v, hv, hd⟩, _⟩ := h
  obtain ⟨a, xs, rfl, ha, t⟩ := hd.tup_inv
  exact ⟨a, xs, hv, ha, t⟩
theorem DH.lst_inv {v : V} {ds : List PyData} (h : DH D H v (.list ds)) : ∃ a xs, v = .ref a ∧ a ≠ D ∧ H a = some (.lst xs) ∧ DHs D H xs ds := by
  cases h with
  | lst n e t => exact ⟨_, _, rfl, n, e, t⟩
theorem Taken.ne {p : Addr} (h : Taken H D) (hp : H p = none) : p ≠ D := fun z => by
  obtain ⟨o, ho⟩ := h
  rw [z, ho] at hp
  cases hp
theorem pickD {vs : List V} {es : List PyData} (h : DHs D H vs es) {w : Int} (w0 : 0 ≤ w) (w1 : w < (es.length : Int)) : ∃ v d, atI vs w = some v ∧ d ∈ es ∧ DH D H v d := by
  obtain ⟨n, rfl⟩ : ∃ n : Nat, w = (n : Int) := ⟨w.toNat, by omega⟩
  have hl := h.len
  have hx : vs[n]? = some vs[n] := List.getElem?_eq_getElem (by omega)
  obtain ⟨d, hd, hh⟩ := h.at hx
  exact ⟨_, d, atI_nat hx, List.mem_of_getElem? hd, hh⟩
end
end AskG
/-! Displays over several names; a list that is extended by displays. -/
namespace AskG
open PySem PySem.Spec PyProof.Rows L2
/-- the names in these slots hold these data -/
def SrcM (l : List (Nat × PyData)) (D : Addr) (σ : L2.St) (H : Hp) : Prop := (∀ x ∈ l, ∃ v, σ[x.1]? = some (some v) ∧ DH D H v x.2) ∧ Taken H D
theorem SrcM.keep {l : List (Nat × PyData)} {D : Addr} {σ : L2.St} {H H' : Hp} (h : SrcM l D σ H) (s : Same H H') : SrcM l D σ H' :=
  ⟨fun x hx => by
    obtain ⟨v, hv, hd⟩ := h.1 x hx
    exact ⟨v, hv, hd.keep (KeepD.of s)⟩, h.2.keep s⟩
theorem SrcM.keepD {l : List (Nat × PyData)} {D : Addr} {σ : L2.St} {H H' : Hp} (h : SrcM l D σ H) (s : KeepD D H H') (t : Taken H' D) : SrcM l D σ H' :=
  ⟨fun x hx => by
    obtain ⟨v, hv, hd⟩ := h.1 x hx
    exact ⟨v, hv, hd.keep s⟩, t⟩
def tFm {α : Type} (l : α → List (Nat × PyData)) (d : α → PyData) : TE := fun σ H Q => ∃ a D, SrcM (l a) D σ H ∧ ∀ H' v, Same H H' → DH D H' v (d a) → Q v H'
def tFms {α : Type} (l : α → List (Nat × PyData)) (ds : α → List PyData) : TA := fun σ H Q => ∃ a D, SrcM (l a) D σ H ∧ ∀ H' vs, Same H H' → DHs D H' vs (ds a) → Q vs H'
/-- a name that holds a whole number -/
theorem SrcM.int {l : List (Nat × PyData)} {D : Addr} {σ : L2.St} {H : Hp} {i : Nat} {j : Int} (h : SrcM l D σ H) (m : (i, .int j) ∈ l) : σ[i]? = some (some (.int j)) := by
  obtain ⟨v, hv, hd⟩ := h.1 _ m
  obtain rfl := DH.int_inv hd
  exact hv
theorem SrcM.tup {l : List (Nat × PyData)} {D : Addr} {σ : L2.St} {H : Hp} {i : Nat} {ds : List PyData} (h : SrcM l D σ H) (m : (i, .tuple ds) ∈ l) : ∃ a xs, σ[i]? = some (some (.ref a)) ∧ H a = some (.tup xs) ∧ DHs D H xs ds := by
  obtain ⟨v, hv, hd⟩ := h.1 _ m
  obtain ⟨a, xs, rfl, ha, t⟩ := DH.tup_inv hd
  exact ⟨a, xs, hv, ha, t⟩
section
variable {X : Cx} {e : Expr} {es : List Expr} {α : Type} {l : α → List (Nat × PyData)} {d : α → PyData} {ds : α → List PyData}
theorem fm_nil : PA X [] (tFms l fun _ => []) := ⟨fun pos pins s σ H Q I ⟨_, _, q⟩ => (pa_nil (X := X)).run pos pins s σ H Q I (q.2 H [] (Same.refl _) .nil)⟩
theorem fm_cons (h : PE X e (tFm l d)) (g : PA X es (tFms l ds)) (hs : starEach (e :: es) X.env = (false, eval e X.env) :: starEach es X.env := by rfl) : PA X (e :: es) (tFms l fun a => d a :: ds a) := by
  refine ⟨fun pos pins s σ H Q I ⟨a, D, q⟩ => (pa_cons h g hs).run pos pins s σ H Q I ⟨a, D, q.1, fun H1 v s1 h1 => ⟨a, D, q.1.keep s1, fun H2 vs s2 h2 => ?_⟩⟩⟩
  exact q.2 H2 (v :: vs) (s1.trans s2) (.cons (h1.keep (KeepD.of s2)) h2)
theorem fm_new {d : PyData} (h : PE X e (tNew d)) : PE X e (tFm l fun _ => d) := PE.less h fun σ H Q ⟨a, D, q⟩ H' v s n => q.2 H' v s (n D q.1.2)
theorem fm_var {i : Nat} (h : PE X e (tVar i)) (m : ∀ a, (i, d a) ∈ l a) : PE X e (tFm l d) := PE.less h fun σ H Q ⟨a, D, q⟩ => by
  obtain ⟨v, hv, hd⟩ := q.1.1 _ (m a)
  exact ⟨v, hv, q.2 H v (Same.refl _) hd⟩
theorem fm_tup {x1} {pos : Pos} (h : PA X es (tFms l ds)) (hz : ∀ a, (ds a).length ≤ 1000) : PE X (.Tuple es x1 pos) (tFm l fun a => .tuple (ds a)) := by
  refine PE.less (pe_tup h) fun σ H Q ⟨a, D, q⟩ => ?_
  refine ⟨a, D, q.1, fun H1 vs s1 h1 => ⟨by have := sizeBig; have := h1.len; have := hz a; omega, fun p hp => ?_⟩⟩
  have s2 := same_new (o := .tup vs) hp
  exact q.2 _ _ (s1.trans s2) (.tup upd_same (h1.keep (KeepD.of s2)))
theorem fm_lst {pos : Pos} (h : PA X es (tFms l ds)) (hz : ∀ a, (ds a).length ≤ 1000) : PE X (.List es pos) (tFm l fun a => .list (ds a)) := by
  refine PE.less (pe_lst h) fun σ H Q ⟨a, D, q⟩ => ?_
  refine ⟨a, D, q.1, fun H1 vs s1 h1 => ⟨by have := sizeBig; have := h1.len; have := hz a; omega, fun p hp => ?_⟩⟩
  have s2 := same_new (o := .lst vs) hp
  refine q.2 _ _ (s1.trans s2) (.lst ((q.1.2.keep s1).ne hp) upd_same (h1.keep (KeepD.of s2)))
theorem new_neg {i : Int} (h : PE X e (tUn (rU fun i => .int (-i)) (tC (.int i)))) : PE X e (tNew (.int (-i))) := PE.less h fun _ H _ q => ⟨i, rfl, q H _ (Same.refl _) fun _ _ => .int _⟩
/-- t * k -/
theorem fm_rep {te : TE} {k : Int} (h : PE X e (tOp (rRepT X.K) te (tC (.int k)))) (ht : ∀ σ H Q, tFm l (fun a => .tuple (ds a)) σ H Q → te σ H Q) (n0 : ∀ a, ds a ≠ []) (k2 : 2 ≤ k) (k3 : k ≤ 1000) (hl : ∀ a, (ds a).length ≤ 1000) : PE X e (tFm l fun a => .tuple (List.replicate k.toNat (ds a)).flatten) := by
  refine PE.less h fun σ H Q ⟨a, D, q⟩ => ht σ H _ ⟨a, D, q.1, fun H1 v s1 h1 => ?_⟩
  obtain ⟨b, xs, rfl, hb, t⟩ := h1.tup_inv
  have e := t.len
  have := hl a
  refine ⟨b, k, xs, rfl, rfl, sqT hb, fun z => n0 a ?_, k2, k3, by omega, fun p hp => ?_⟩
  · rw [z] at e
    exact List.eq_nil_of_length_eq_zero e.symm
  · have s2 := same_new (o := .tup (List.replicate k.toNat xs).flatten) hp
    refine q.2 _ _ (s1.trans s2) (.tup upd_same ?_)
    have t2 := t.keep (KeepD.of s2)
    clear s2
    generalize upd H1 p (.tup (List.replicate k.toNat xs).flatten) = H2 at t2 ⊢
    generalize k.toNat = n
    induction n with
    | zero => exact .nil
    | succ n ih =>
      rw [List.replicate_succ, List.replicate_succ, List.flatten_cons, List.flatten_cons]
      exact t2.app ih
end
/-- a list that is being filled, and the names that hold data -/
structure FoundAt (H0 : Hp) (l : List (Nat × PyData)) (σ : L2.St) (Lf : Addr) (ds : List PyData) (H : Hp) : Prop where
  new : H0 Lf = none
  keep : Same H0 H
  list : ∃ vs, H Lf = some (.lst vs) ∧ DHs Lf H vs ds
  src : SrcM l Lf σ H
theorem keepD_put {H : Hp} {Lf : Addr} {vs ws : List V} (h : H Lf = some (.lst vs)) : KeepD Lf H (upd H Lf (.lst ws)) :=
  ⟨fun b xs e => by rw [upd_ne (ne_of e h fun z => nomatch z)]; exact e, fun b xs n e => by rw [upd_ne n]; exact e⟩
/-- found.extend([..]) -/
theorem ext_read {K : PySem.W.Frag} {H0 H : Hp} {α : Type} {l : α → List (Nat × PyData)} {es : α → List PyData} {σ : L2.St} {s : Nat} {Lf : Addr} {ds : List PyData} {Q : VK} (a : α) (h : FoundAt H0 (l a) σ Lf ds H) (hs : σ[s]? = some (some (.ref Lf))) (len : ds.length + (es a).length ≤ 1000)
    (q : ∀ v H', FoundAt H0 (l a) σ Lf (ds ++ es a) H' → KeepD Lf H H' → Q v H') : tBM K "list" rExtend (tVar s) (tCons (tFm l fun a => .list (es a)) tNil) σ H Q := by
  obtain ⟨vs, hv, hd⟩ := h.list
  refine ⟨.ref Lf, hs, .inl ⟨rfl, _, sqL hv⟩, a, Lf, h.src, fun H1 v s1 h1 => ?_⟩
  obtain ⟨p, ys, rfl, np, hp, hys⟩ := h1.lst_inv
  have big := sizeBig
  have l1 := hd.len
  have l2 := hys.len
  refine ⟨Lf, p, vs, ys, rfl, rfl, s1 _ _ hv, hp, by omega, ?_⟩
  have kd := keepD_put (ws := vs ++ ys) (s1 _ _ hv)
  refine q _ _ ⟨h.new, fun b o e => ?_, ⟨vs ++ ys, upd_same, ((hd.keep (KeepD.of s1)).app hys).keep kd⟩, (h.src.keep s1).keepD kd ⟨_, upd_same⟩⟩ ((KeepD.of s1).trans kd)
  rw [upd_ne (ne_of_none e h.new)]
  exact s1 _ _ (h.keep _ _ e)
/-- found + [..] -/
theorem cat_read {H0 H : Hp} {α : Type} {l : α → List (Nat × PyData)} {es : α → List PyData} {σ : L2.St} {s : Nat} {Lf : Addr} {ds : List PyData} {Q : VK} (a : α) (h : FoundAt H0 (l a) σ Lf ds H) (hs : σ[s]? = some (some (.ref Lf))) (len : ds.length + (es a).length ≤ 1000)
    (q : ∀ p H' ys, Same H0 H' → Same H H' → H p = none → H' p = some (.lst ys) → DHs Lf H' ys (ds ++ es a) → Q (.ref p) H') : tOp rCat (tVar s) (tFm l fun a => .list (es a)) σ H Q := by
  obtain ⟨vs, hv, hd⟩ := h.list
  refine ⟨.ref Lf, hs, a, Lf, h.src, fun H1 v s1 h1 => ?_⟩
  obtain ⟨p, ys, rfl, np, hp, hys⟩ := h1.lst_inv
  have big := sizeBig
  have l1 := hd.len
  have l2 := hys.len
  refine ⟨Lf, p, vs, ys, rfl, rfl, s1 _ _ hv, hp, by omega, fun c hc => ?_⟩
  have s2 := same_new (o := .lst (vs ++ ys)) hc
  have s12 := s1.trans s2
  have hc0 : H c = none := by
    cases e : H c with
    | none => rfl
    | some o =>
      have := s1 _ _ e
      rw [hc] at this
      cases this
  exact q c _ _ (h.keep.trans s12) s12 hc0 upd_same (((hd.keep (KeepD.of s1)).app hys).keep (KeepD.of s2))
theorem iDrop {te : TE} {D : Ends} {σ : L2.St} {H : Hp} (h : te σ H fun _ H1 => D.nx σ H1) : tDrop te D σ H := h
end AskG
/-! sorted(..) of a list of pairs of a cell and a weight. -/
namespace AskG
open PySem PySem.Spec PyProof.Rows L2
def ltX (x y : Cell × Int) : Bool := if x.1 = y.1 then decide (x.2 < y.2) else ltC x.1 y.1
theorem ltX_iff {x y : Cell × Int} : ltX x y = true ↔ ltC x.1 y.1 = true ∨ (x.1 = y.1 ∧ x.2 < y.2) := by
  unfold ltX
  by_cases e : x.1 = y.1
  · rw [if_pos e, decide_eq_true_eq]
    constructor
    · exact fun h => .inr ⟨e, h⟩
    · rintro (h | h)
      · rw [e, ltC_irr] at h
        cases h
      · exact h.2
  · rw [if_neg e]
    constructor
    · exact fun h => .inl h
    · rintro (h | h)
      · exact h
      · exact absurd h.1 e
theorem ltX_tri (x y : Cell × Int) : ltX x y = true ∨ x = y ∨ ltX y x = true := by
  rcases ltC_tri x.1 y.1 with h | h | h
  · exact .inl (ltX_iff.mpr (.inl h))
  · rcases Int.lt_trichotomy x.2 y.2 with g | g | g
    · exact .inl (ltX_iff.mpr (.inr ⟨h, g⟩))
    · exact .inr (.inl (Prod.ext h g))
    · exact .inr (.inr (ltX_iff.mpr (.inr ⟨h.symm, g⟩)))
  · exact .inr (.inr (ltX_iff.mpr (.inl h)))
theorem ltX_trans {x y z : Cell × Int} (h1 : ltX x y = true) (h2 : ltX y z = true) : ltX x z = true := by
  refine ltX_iff.mpr ?_
  rcases ltX_iff.mp h1 with a | ⟨a, a'⟩ <;> rcases ltX_iff.mp h2 with b | ⟨b, b'⟩
  · exact .inl (ltC_trans a b)
  · exact .inl (b ▸ a)
  · exact .inl (a ▸ b)
  · exact .inr ⟨a.trans b, Int.lt_trans a' b'⟩
theorem ltX_irr (x : Cell × Int) : ltX x x = false := by
  cases h : ltX x x with
  | false => rfl
  | true =>
    rcases ltX_iff.mp h with a | ⟨_, a⟩
    · rw [ltC_irr] at a
      cases a
    · exact absurd a (Int.lt_irrefl _)
theorem ltX_asym {x y : Cell × Int} (h : ltX x y = true) : ltX y x = false := by
  cases g : ltX y x with
  | false => rfl
  | true =>
    have := ltX_trans h g
    rw [ltX_irr] at this
    cases this
theorem swo_X {α : Type} (k : α → Cell × Int) : SrtO.Swo fun v u => ltX (k v) (k u) := by
  refine ⟨fun x y h => ltX_asym h, fun x y z h1 h2 => ?_⟩
  cases g : ltX (k z) (k x) with
  | false => rfl
  | true =>
    rcases ltX_tri (k x) (k y) with a | a | a
    · have := ltX_trans g a
      rw [h2] at this
      cases this
    · rw [← a, g] at h2
      cases h2
    · rw [h1] at a
      cases a
/-- the value is a tuple of a cell and an int -/
def IsPr (h : Heap) (v : Value) (x : Cell × Int) : Prop := ∃ (a b : Addr) (t : Tok), v = .ref a ∧ IsTup h a #[.ref b, .int x.2 t] ∧ IsCl h (.ref b) x.1
theorem IsPr.keeps {h h' : Heap} {v : Value} {x : Cell × Int} (p : IsPr h v x) (k : ∀ b o, h.get? b = some o → o.cls = .type "tuple" → h'.get? b = some o) : IsPr h' v x := by
  obtain ⟨a, b, t, e, ⟨o, ho, hc, r⟩, c⟩ := p
  exact ⟨a, b, t, e, ⟨o, k _ _ ho hc, hc, r⟩, c.keeps k⟩
section
variable {prog : Program} {w : World} {A : Around} {E : Value → Shared → Prop} {s : Shared}
theorem cells_lt {a b : Addr} {c d : Cell} (ha : IsCl s.heap (.ref a) c) (hb : IsCl s.heap (.ref b) d) (hu : A.units < cLine) : Ob.RcOp .Lt A s (.ref a) (.ref b) (ltC c d) := by
  obtain ⟨a', t, t', e, ht⟩ := ha
  cases e
  obtain ⟨b', u, u', e, hu2⟩ := hb
  cases e
  have R := Ob.RcOp.tuples_lt (A := A) (s := s) (e := fun j => if j = 0 then c.1 == d.1 else c.2 == d.2)
    (r := fun j => if j = 0 then decide (c.1.cps.toList < d.1.cps.toList) else decide (c.2 < d.2)) ht hu2 hu
    (fun j h1 h2 => by
      have h1 : j < 2 := h1
      match j, h1 with
      | 0, _ => exact SeqAt.EqAt.str_str c.1 t d.1 u
      | 1, _ => exact SeqAt.EqAt.int_int c.2 t' d.2 u')
    (fun j h1 h2 _ => by
      have h1 : j < 2 := h1
      match j, h1 with
      | 0, _ => exact fun _ _ _ _ h => PyProof.Rows.lt_str h
      | 1, _ => exact fun _ _ _ _ h => PyProof.Rows.lt_int h)
  have e : Ob.lexAt (fun j => if j = 0 then c.1 == d.1 else c.2 == d.2) (fun j => if j = 0 then decide (c.1.cps.toList < d.1.cps.toList) else decide (c.2 < d.2)) (decide (2 < 2)) 0 (min 2 2) = ltC c d := by
    show (if (c.1 == d.1) = true then (if (c.2 == d.2) = true then decide (2 < 2) else decide (c.2 < d.2)) else decide (c.1.cps.toList < d.1.cps.toList)) = ltC c d
    unfold ltC
    by_cases e1 : c.1 = d.1
    · rw [if_pos (beq_iff_eq.mpr e1), if_pos e1]
      by_cases e2 : c.2 = d.2
      · rw [if_pos (beq_iff_eq.mpr e2), e2, decide_eq_false (Int.lt_irrefl _)]
        rfl
      · rw [if_neg fun z => e2 (beq_iff_eq.mp z)]
    · rw [if_neg fun z => e1 (beq_iff_eq.mp z), if_neg e1]
  rw [← e]
  exact R
theorem cells_eq {a b : Addr} {c d : Cell} (ha : IsCl s.heap (.ref a) c) (hb : IsCl s.heap (.ref b) d) (hu : A.units < cLine) : SeqAt.EqAt A s (.ref a) (.ref b) (decide (c = d)) := by
  obtain ⟨a', t, t', e, ht⟩ := ha
  cases e
  obtain ⟨b', u, u', e, hu2⟩ := hb
  cases e
  by_cases z : a = b
  · subst z
    obtain ⟨o, ho, _, n, hd⟩ := ht
    obtain ⟨o', ho', _, n', hd'⟩ := hu2
    rw [ho] at ho'
    cases ho'
    rw [hd] at hd'
    have e : c = d := by
      injection hd' with e1 _
      have e1 := congrArg Array.toList e1
      simp only [List.cons.injEq, Value.str.injEq, Value.int.injEq] at e1
      exact Prod.ext e1.1.1 e1.2.1.1
    rw [decide_eq_true e]
    exact SeqAt.EqAt.same _
  · have R := SeqAt.RcAt.tuples (A := A) (s := s) (e := fun j => if j = 0 then c.1 == d.1 else c.2 == d.2) ht hu2 hu
      (fun j h1 h2 => by
        have h1 : j < 2 := h1
        match j, h1 with
        | 0, _ => exact SeqAt.EqAt.str_str c.1 t d.1 u
        | 1, _ => exact SeqAt.EqAt.int_int c.2 t' d.2 u')
    have e : ((List.range (min 2 2)).all (fun j => if j = 0 then c.1 == d.1 else c.2 == d.2) && (2 : Nat) == 2) = decide (c = d) := by
      show ((c.1 == d.1 && (c.2 == d.2 && true)) && true) = decide (c = d)
      by_cases q : c = d
      · rw [q, decide_eq_true rfl]
        simp
      · rw [decide_eq_false q]
        by_cases q1 : c.1 = d.1
        · have q2 : ¬ c.2 = d.2 := fun q2 => q (Prod.ext q1 q2)
          simp [q2]
        · simp [q1]
    rw [← e]
    exact SeqAt.EqAt.of_refs z R
theorem pr_cmp {vs : List Value} {k : Value → Cell × Int} (hu : A.units < cLine) (hp : ∀ v ∈ vs, IsPr s.heap v (k v)) :
    SrtO.Cmp prog w A s (tuples' false) (fun p => p.1 ∈ vs) (SrtO.lt2 fun v u => ltX (k v) (k u)) := by
  intro p q hm hm'
  have h1 := hp _ hm
  have h2 := hp _ hm'
  show wpAny (model prog w) A (keyLt' (tuples' false) p.1 q.1) (fun r s' => s' = s ∧ r = ltX (k p.1) (k q.1)) (fun _ _ => False) s
  generalize k p.1 = x at h1 ⊢
  generalize k q.1 = y at h2 ⊢
  obtain ⟨a, b, t, e, ⟨o, ho, hc, n, hd⟩, cb⟩ := h1
  obtain ⟨a', b', t', e', ⟨o', ho', hc', n', hd'⟩, cb'⟩ := h2
  rw [e, e']
  refine PySem.W.kat_lt ho hd ho' hd' ?_
  show PySem.W.KatLex prog w A false (decide (2 < 2)) _ [(.ref b, .ref b'), (.int x.2 t, .int y.2 t')] 0 s
  refine PySem.W.kat_cons (cells_eq cb cb' hu prog w _ _ ?_)
  refine PySem.W.kat_go (fun e1 => ?_) (fun e1 => ?_)
  · have ex : x.1 = y.1 := of_decide_eq_true e1
    refine PySem.W.kat_yes (PySem.W.kat_cons (SeqAt.EqAt.int_int x.2 t y.2 t' prog w _ _ ?_))
    refine PySem.W.kat_go (fun e2 => ?_) (fun e2 => ?_)
    · have ey : x.2 = y.2 := by simpa using e2
      have e3 : ltX x y = false := by
        rw [show x = y from Prod.ext ex ey]
        exact ltX_irr y
      exact PySem.W.kat_yes (PySem.W.kat_nil ⟨rfl, e3.symm⟩)
    · have e3 : ltX x y = decide (x.2 < y.2) := if_pos ex
      refine PySem.W.kat_no (PySem.W.kat_one _ _ (PyProof.Rows.lt_int ?_))
      exact (show s = s ∧ decide (x.2 < y.2) = ltX x y from ⟨rfl, e3.symm⟩)
  · have ex : ¬ x.1 = y.1 := of_decide_eq_false e1
    have e3 : ltX x y = ltC x.1 y.1 := if_neg ex
    refine PySem.W.kat_no (PySem.W.kat_one _ _ (cells_lt cb cb' hu prog w _ _ ?_))
    exact (show s = s ∧ ltC x.1 y.1 = ltX x y from ⟨rfl, e3.symm⟩)
theorem pr_firsts {h : Heap} : ∀ {vs : List Value}, (∀ v ∈ vs, ∃ c, IsPr h v c) →
    ∃ fs : List Value, PySem.W.KatTups h vs fs ∧ fs.length = vs.length ∧ ∀ f ∈ fs, ∃ b c, f = Value.ref b ∧ IsCl h (.ref b) c
  | [], _ => ⟨[], .nil, rfl, fun f hf => absurd hf (by simp)⟩
  | v :: vs, x => by
    obtain ⟨fs, k, hl, hi⟩ := pr_firsts (vs := vs) fun u hu => x u (List.mem_cons_of_mem _ hu)
    obtain ⟨c, a, b, t, rfl, ⟨o, ho, hc, n, hd⟩, hb⟩ := x v List.mem_cons_self
    refine ⟨.ref b :: fs, .cons ho hc hd rfl k, congrArg (· + 1) hl, fun f hf => ?_⟩
    rcases List.mem_cons.mp hf with rfl | hf
    · exact ⟨_, _, rfl, hb⟩
    · exact hi f hf
theorem pr_sortable {a : Addr} {vs : List Value} {k : Value → Cell × Int} (hu : A.units < cLine) (h0 : 0 < vs.length) (hp : ∀ v ∈ vs, IsPr s.heap v (k v))
    (ha : ∀ o, s.heap.get? a = some o → o.cls ≠ .type "tuple") : SrtO.SortableO prog w A s a vs fun v u => ltX (k v) (k u) := by
  intro h' keep
  have hp' : ∀ v ∈ vs, IsPr h' v (k v) := fun v hm => (hp v hm).keeps fun b o e c => keep b o (fun z => by subst z; exact ha o e c) e
  obtain ⟨fs, h1, h2, h3⟩ := pr_firsts fun v hm => ⟨_, hp' v hm⟩
  refine ⟨tuples' false, fun Q E hq => ?_, pr_cmp hu hp'⟩
  refine PySem.W.kat_kind (T := .type "tuple") h1 (by omega) (fun f hm => ?_) (by rfl) ?_
  · obtain ⟨b, c, rfl, b', _, _, e, o, ho, hc, _⟩ := h3 f hm
    cases e
    exact fun A Q E s k q => wpAny_typeOf ⟨o, k _ _ ho, hc⟩ q
  · have e : (Value.type "tuple" != Value.type "tuple") = false := by first | decide +kernel | rfl | decide
    rw [e]
    exact hq
end
/-- the pair that stands behind a value -/
def pairOf (H : Hp) : Value → Cell × Int
  | .ref a => match H a with
    | some (.tup [.ref b, .int w]) => (cellOf H (.ref b), w)
    | _ => ((⟨#[]⟩, 0), 0)
  | _ => ((⟨#[]⟩, 0), 0)
theorem pairOf_at {H : Hp} {p : Addr} {x : Cell × Int} (h : PairRow H p x) : pairOf H (.ref p) = x := by
  obtain ⟨b, h1, h2⟩ := h
  show (match H p with
    | some (.tup [.ref b, .int w]) => (cellOf H (.ref b), w)
    | _ => (((⟨#[]⟩, 0), 0) : Cell × Int)) = x
  rw [h1]
  show (cellOf H (.ref b), x.2) = x
  rw [cellOf_at h2]
theorem isPr_of {P : Program} {w : World} {H : Hp} {h : Heap} {p : Addr} {x : Cell × Int} (ok : HOk P w H h) (e : PairRow H p x) : IsPr h (.ref p) x := by
  obtain ⟨b, h1, h2⟩ := e
  obtain ⟨_, its, r, ht⟩ := (show ObjOk P w H h p (.tup [.ref b, .int x.2]) from ok p _ h1)
  obtain ⟨u, v, ei, ru, rv⟩ := vals2 r
  obtain ⟨t, rfl⟩ := rv
  cases ru
  subst ei
  exact ⟨p, b, t, rfl, ht, isCl_of ok h2⟩
/-- sorted(l), l a list of pairs of a cell and a weight -/
def rSortX (K : PySem.W.Frag) : List V → Hp → VK → Prop := fun xs H Q => ∃ (a : Addr) (ps : List Addr) (ρ : RowD), xs = [.ref a] ∧ SqL K H a (ps.map V.ref) ∧ Paired (PairRow H) ps ρ ∧
  ∀ (ys : List Addr) (π : RowD) (p : Addr), π.Perm ρ → π.Pairwise (fun a b => ltX b a = false) → Paired (PairRow H) ys π → H p = none → Q (.ref p) (upd H p (.lst (ys.map V.ref)))
theorem paired_map {α β : Type} {R : α → β → Prop} (f : α → β) (h : ∀ a b, R a b → f a = b) : ∀ {l : List α} {m : List β}, Paired R l m → l.map f = m
  | _, _, .nil => rfl
  | _, _, .cons h1 t => by rw [List.map_cons, h _ _ h1, paired_map f h t]
theorem paired_mem {α β : Type} {R : α → β → Prop} : ∀ {l : List α} {m : List β}, Paired R l m → ∀ a ∈ l, ∃ b, R a b
  | _, _, .nil, a, h => absurd h (by simp)
  | _, _, .cons h1 t, a, h => by
    rcases List.mem_cons.mp h with rfl | h
    · exact ⟨_, h1⟩
    · exact paired_mem t a h
section
variable {X : Cx}
theorem cr_sortX (hu : X.A.units + 64 < cLine) : CallR X (.builtin "sorted") (rSortX X.K) := by
  intro pins s σ H vs us Q I r h
  obtain ⟨a, ps, ρ, rfl, hs, hx, q⟩ := h
  obtain ⟨its, rv, hl, hz⟩ := I.list hs
  obtain ⟨u, rfl, ru⟩ := vals1 r
  obtain rfl : u = Value.ref a := ru
  have ei : its = ps.map Value.ref := by
    clear hl hz q hx hs
    induction ps generalizing its with
    | nil =>
      cases rv
      rfl
    | cons p ps ih =>
      cases rv with
      | cons h1 t =>
        cases h1
        rw [List.map_cons, ih _ t]
  subst ei
  have hp : ∀ v ∈ ps.map Value.ref, ∃ p x, v = .ref p ∧ PairRow H p x := fun v hv => by
    obtain ⟨p, hp, rfl⟩ := List.mem_map.mp hv
    obtain ⟨x, hx'⟩ := paired_mem hx p hp
    exact ⟨p, x, rfl, hx'⟩
  refine SrtO.sorted_ord (ltv := fun v u => ltX (pairOf H v) (pairOf H u)) (swo_X _) hl.isList (by rw [← rv.length]; exact hz) (fun h2 h₁ a' ha kk => ?_) fun out h1 h2 => ?_
  · refine pr_sortable (s := { s with heap := h₁ }) (by show X.A.units + 1 + 1 < cLine; omega) (by omega) (fun v hv => ?_) fun o e => ?_
    · obtain ⟨p, x, rfl, hx'⟩ := hp v hv
      rw [pairOf_at hx']
      exact (isPr_of I.hok hx').keeps fun b o e _ => (kk b o e).2
    · have e' : some o = some (seqObj "list" (ps.map Value.ref).toArray 0) := e.symm.trans ha
      cases e'
      intro c
      exact absurd (Value.type.inj c) (by decide)
  · have hout : ∀ v ∈ out, ∃ p x, v = .ref p ∧ PairRow H p x := fun v hv => hp v (h2.perm.mem_iff.mp hv)
    have hys : ∃ ys : List Addr, out = ys.map Value.ref := by
      clear h1 h2
      induction out with
      | nil => exact ⟨[], rfl⟩
      | cons v l ih =>
        obtain ⟨ys, rfl⟩ := ih fun u hu => hout u (List.mem_cons_of_mem _ hu)
        obtain ⟨p, x, rfl, _⟩ := hout v List.mem_cons_self
        exact ⟨p :: ys, rfl⟩
    obtain ⟨ys, rfl⟩ := hys
    obtain ⟨n, hn⟩ := PyProof.Rows.sortedAll_at s.heap (ps.map Value.ref) (ys.map Value.ref).toArray
    have hlen : (ys.map V.ref).length ≤ sizeLine := by
      have := h2.perm.length_eq
      rw [List.length_map, List.length_map] at this
      rw [List.length_map] at hz ⊢
      omega
    have em : (ps.map Value.ref).map (pairOf H) = ρ := by
      rw [List.map_map]
      exact paired_map (R := PairRow H) _ (fun p x h => pairOf_at h) hx
    refine ⟨.ref (s.heap.objs.size + 1), upd H (s.heap.objs.size + 1) (.lst (ys.map V.ref)), I.laid (t' := s.toks) (fun b o e => PyProof.Rows.sortedAll_old e) (Nat.le_succ _) ⟨hlen, ys.map Value.ref, n, vals_refs _, hn⟩, rfl, q ys ((ys.map Value.ref).map (pairOf H)) _ ?_ (List.pairwise_map.mpr h1) ?_ (I.hok.fresh (Nat.le_succ _))⟩
    · rw [← em]
      exact h2.perm.map _
    · rw [List.map_map]
      refine paired_of _ fun p hp' => ?_
      obtain ⟨p2, x, e2, hx'⟩ := hout (.ref p) (List.mem_map_of_mem hp')
      cases e2
      show PairRow H p (pairOf H (.ref p))
      rw [pairOf_at hx']
      exact hx'
end
end AskG
/-! Rights: their kinds, their questions; a comprehension with two fors. -/
namespace AskG
open PySem PySem.Spec PyProof.Rows L2
inductive KindM
  | tot (s : Int)
  | win (l : Int)
  | per (b e : Int)
def KindM.vals : KindM → List V
  | .tot s => [.str "total", .int s]
  | .win l => [.str "window", .int l]
  | .per b e => [.str "period", .int b, .int e]
def KindM.data : KindM → PyData
  | .tot s => .tuple [.str "total", .int s]
  | .win l => .tuple [.str "window", .int l]
  | .per b e => .tuple [.str "period", .int b, .int e]
def KindM.lo (t : Int) : KindM → Int
  | .tot s => s
  | .win l => if t - l + 1 > 0 then t - l + 1 else 0
  | .per b _ => b
def KindM.hi (t : Int) : KindM → Int
  | .tot _ => t
  | .win _ => t
  | .per _ e => if t < e then t else e
structure KindM.Ok (k : KindM) : Prop where
  nn : match k with
    | .tot s => 0 ≤ s ∧ s ≤ 30
    | .win l => 0 ≤ l ∧ l ≤ 30
    | .per b e => 0 ≤ b ∧ b ≤ 30 ∧ 0 ≤ e ∧ e ≤ 30
structure Rt where
  person : Str
  ws : List Cell
  first : Int
  last : Int
  kind : KindM
def RightAt (H : Hp) (a : Addr) (R : Rt) : Prop := ∃ (wa : Addr) (ps : List Addr) (ka : Addr), H a = some (.tup [.str R.person, .ref wa, .int R.first, .int R.last, .ref ka]) ∧
  H wa = some (.tup (ps.map V.ref)) ∧ Paired (CellAt H) ps R.ws ∧ H ka = some (.tup R.kind.vals)
theorem CellAt.keepT {H H' : Hp} {b : Addr} {c : Cell} (h : CellAt H b c) (k : KeepT H H') : CellAt H' b c := k _ _ h
theorem RightAt.keep {H H' : Hp} {a : Addr} {R : Rt} (h : RightAt H a R) (k : KeepT H H') : RightAt H' a R := by
  obtain ⟨wa, ps, ka, h1, h2, h3, h4⟩ := h
  exact ⟨wa, ps, ka, k _ _ h1, k _ _ h2, Paired.mapP h3 fun _ _ z => z.keepT k, k _ _ h4⟩
def rightD (R : Rt) : PyData := .tuple [.str R.person, .tuple (R.ws.map cellD), .int R.first, .int R.last, R.kind.data]
theorem dp_kind {K : PySem.W.Frag} {H : Hp} {a : Addr} {k : KindM} (h : H a = some (.tup k.vals)) : Dp K H (.ref a) k.data := by
  cases k with
  | tot s => exact .tup (sqT h) (.cons (.str _) (.cons (.int _) .nil))
  | win l => exact .tup (sqT h) (.cons (.str _) (.cons (.int _) .nil))
  | per b e => exact .tup (sqT h) (.cons (.str _) (.cons (.int _) (.cons (.int _) .nil)))
theorem dp_right {K : PySem.W.Frag} {H : Hp} {a : Addr} {R : Rt} (h : RightAt H a R) : Dp K H (.ref a) (rightD R) := by
  obtain ⟨wa, ps, ka, h1, h2, h3, h4⟩ := h
  exact .tup (sqT h1) (.cons (.str _) (.cons (.tup (sqT h2) (dp_all (f := cellD) (R := CellAt H) (fun _ _ z => dp_cell z) h3)) (.cons (.int _) (.cons (.int _) (.cons (dp_kind h4) .nil)))))
structure RtOk (R : Rt) : Prop where
  name : CellOk (R.person, 0)
  many : R.ws.length ≤ 3
  ws : ∀ x ∈ R.ws, CellOk x
  f0 : 0 ≤ R.first
  f1 : R.first ≤ 30
  l0 : 0 ≤ R.last
  l1 : R.last ≤ 30
  kind : R.kind.Ok
def daysOf (lo hi : Int) : List Int := (List.range (hi + 1 - lo).toNat).map fun (i : Nat) => lo + (i : Int)
def rowOn (ws : List Cell) (lo hi : Int) : RowD := ws.flatMap fun x => (daysOf lo hi).map fun d => ((x.1, d), x.2)
def usedB (R : Rt) (t : Int) : Bool := decide (R.first ≤ t) && decide (t ≤ R.last)
def rowQ (R : Rt) (t : Int) : RowD := rowOn R.ws (R.kind.lo t) (R.kind.hi t)
theorem kind_bounds {k : KindM} (h : k.Ok) {t : Int} (t0 : 0 ≤ t) (t9 : t ≤ 9) : 0 ≤ k.lo t ∧ k.lo t ≤ 30 ∧ k.hi t ≤ 9 ∧ 0 ≤ k.hi t := by
  have h := h.nn
  cases k with
  | tot s =>
    refine ⟨h.1, h.2, t9, t0⟩
  | win l =>
    have h : 0 ≤ l ∧ l ≤ 30 := h
    show 0 ≤ (if t - l + 1 > 0 then t - l + 1 else 0) ∧ (if t - l + 1 > 0 then t - l + 1 else 0) ≤ 30 ∧ t ≤ 9 ∧ 0 ≤ t
    split <;> omega
  | per b e =>
    have h : 0 ≤ b ∧ b ≤ 30 ∧ 0 ≤ e ∧ e ≤ 30 := h
    show 0 ≤ b ∧ b ≤ 30 ∧ (if t < e then t else e) ≤ 9 ∧ 0 ≤ (if t < e then t else e)
    split <;> omega
theorem days_len (lo hi : Int) : (daysOf lo hi).length = (hi + 1 - lo).toNat := by
  unfold daysOf
  rw [List.length_map, List.length_range]
theorem rowOn_len : ∀ (ws : List Cell) (lo hi : Int), (rowOn ws lo hi).length = ws.length * (hi + 1 - lo).toNat
  | [], _, _ => by
    rw [List.length_nil, Nat.zero_mul]
    rfl
  | x :: ws, lo, hi => by
    show ((daysOf lo hi).map (fun d => ((x.1, d), x.2)) ++ rowOn ws lo hi).length = _
    rw [List.length_append, List.length_map, days_len, rowOn_len ws lo hi, List.length_cons, Nat.succ_mul]
    omega
/-! ### [.. for x in t for d in range(..)] -/
section
variable {K : PySem.W.Frag} {a : Addr} {xs : List V} {g : TG} {wi1 : TI} {g1 : TG} {te : TE} {vs vs1 : List Nat} {σ : L2.St} {H1 : Hp} {D : Addr} {Qd : Hp → Prop} {lo : Int} {n : Nat}
theorem lc2_go (P : Nat → Nat → Hp → Prop) (h0 : P 0 0 (upd H1 D (.lst []))) (hl : ∀ i H, P i 0 H → SqT K H a xs)
    (hg : ∀ x σ H (Q Q' : L2.St → Hp → Prop), (∀ σ2 H2, Q σ2 H2 → Q' σ2 H2) → g x σ H Q → g x σ H Q')
    (hg1 : ∀ x σ H (Q Q' : L2.St → Hp → Prop), (∀ σ2 H2, Q σ2 H2 → Q' σ2 H2) → g1 x σ H Q → g1 x σ H Q')
    (hte : ∀ σ H (Q Q' : VK), (∀ v H2, Q v H2 → Q' v H2) → te σ H Q → te σ H Q')
    (hs : ∀ i x H, xs[i]? = some x → P i 0 H → g x (wipe σ vs) H fun σ2 H2 => wipe σ2 vs = wipe σ vs ∧ P i 0 H2 ∧ (∀ R : It → Hp → Prop, R (Itr lo n) H2 → wi1 σ2 H2 R) ∧
      ∀ j H', j < n → P i j H' → g1 (.int (lo + j)) (wipe σ2 vs1) H' fun σ3 H5 => wipe σ3 vs1 = wipe σ2 vs1 ∧ te σ3 H5 fun y H7 => ∃ acc, H7 D = some (.lst acc) ∧ acc.length < sizeLine ∧ P i (j + 1) (upd H7 D (.lst (acc ++ [y]))))
    (hn : ∀ i H, P i n H → P (i + 1) 0 H) (hd : ∀ H, P xs.length 0 H → Qd H) :
    ∃ W : Nat → Nat → Hp → Prop, (∃ m, W 0 m (upd H1 D (.lst []))) ∧ ∀ i m H, W i m H →
      ((Itt K a).stop i H ∧ Qd H) ∨ ((Itt K a).go i H ∧ ∃ Nx : Hp → Prop, (∀ H', Nx H' → ∃ m', m' < m ∧ W (i + 1) m' H') ∧ ∀ x H', (Itt K a).yld i H x H' → g x (wipe σ vs) H' fun σ2 H2 => wipe σ2 vs = wipe σ vs ∧ tYes σ2 H2 fun b H3 =>
        if b = true then wi1 σ2 H3 fun J1 H4 => ∃ W1 : Nat → Nat → Hp → Prop, (∃ m, W1 0 m H4) ∧ ∀ j k H, W1 j k H →
          (J1.stop j H ∧ Nx H) ∨ (J1.go j H ∧ ∃ Nx1 : Hp → Prop, (∀ H', Nx1 H' → ∃ k', k' < k ∧ W1 (j + 1) k' H') ∧ ∀ x H', J1.yld j H x H' → g1 x (wipe σ2 vs1) H' fun σ3 H5 => wipe σ3 vs1 = wipe σ2 vs1 ∧ tYes σ3 H5 fun b H6 =>
            if b = true then te σ3 H6 fun y H7 => ∃ acc, H7 D = some (.lst acc) ∧ acc.length < sizeLine ∧ Nx1 (upd H7 D (.lst (acc ++ [y]))) else Nx1 H6)
        else Nx H3) := by
  refine ⟨fun i m H => m = xs.length - i ∧ i ≤ xs.length ∧ P i 0 H, ⟨xs.length, by simp, Nat.zero_le _, h0⟩, ?_⟩
  rintro i m H ⟨rfl, hi, p⟩
  have q := hl i H p
  by_cases hlt : i < xs.length
  · refine .inr ⟨⟨xs, xs[i], q, by simp [hlt]⟩, fun H' => P (i + 1) 0 H', fun H' p' => ⟨xs.length - (i + 1), by omega, rfl, hlt, p'⟩, fun x H' y => ?_⟩
    obtain ⟨e, y⟩ := y
    subst e
    refine hg _ _ _ _ _ (fun σ2 H2 z => ?_) (hs i x _ (y xs q) p)
    obtain ⟨z1, z2, z3, z4⟩ := z
    refine ⟨z1, iYes (iteT (z3 _ ?_))⟩
    refine ⟨fun j k H => k = n - j ∧ j ≤ n ∧ P i j H, ⟨n, by simp, Nat.zero_le _, z2⟩, ?_⟩
    rintro j k H5 ⟨rfl, hj, pj⟩
    by_cases hjn : j < n
    · refine .inr ⟨hjn, fun H' => P i (j + 1) H', fun H' p' => ⟨n - (j + 1), by omega, rfl, hjn, p'⟩, fun x H' y => ?_⟩
      obtain ⟨rfl, rfl⟩ := y
      refine hg1 _ _ _ _ _ (fun σ3 H6 u => ?_) (z4 j _ hjn pj)
      exact ⟨u.1, iYes (iteT u.2)⟩
    · have e : j = n := by omega
      subst e
      exact .inl ⟨Nat.le_refl _, hn i _ pj⟩
  · have e : i = xs.length := by omega
    subst e
    exact .inl ⟨⟨xs, q, Nat.le_refl _⟩, hd H p⟩
end
end AskG
/-! The question of a right: account by account, and day by day and then sorted. -/
namespace AskG
open PySem PySem.Spec PyProof.Rows L2
def NamesUp (ws : List Cell) : Prop := ws.Pairwise fun a b => a.1.cps.toList < b.1.cps.toList
def flatDays (ws : List Cell) (ds : List Int) : RowD := ds.flatMap fun d => ws.map fun x => ((x.1, d), x.2)
theorem flat_split {α β : Type} (f : α → β) (g : α → List β) : ∀ ds : List α, (ds.flatMap fun d => f d :: g d).Perm (ds.map f ++ ds.flatMap g)
  | [] => .nil
  | d :: ds => by
    rw [List.flatMap_cons, List.map_cons, List.flatMap_cons, List.cons_append, List.cons_append]
    refine .cons _ ?_
    have h := flat_split f g ds
    refine (List.Perm.append_left (g d) h).trans ?_
    rw [← List.append_assoc, ← List.append_assoc]
    exact List.Perm.append_right _ List.perm_append_comm
theorem flat_perm (ds : List Int) : ∀ ws : List Cell, (flatDays ws ds).Perm (ws.flatMap fun x => ds.map fun d => ((x.1, d), x.2))
  | [] => by
    have : flatDays [] ds = [] := by
      unfold flatDays
      induction ds with
      | nil => rfl
      | cons d ds ih => exact ih
    rw [this]
    exact .nil
  | x :: ws => by
    have h1 := flat_split (fun d : Int => (((x.1, d), x.2) : Cell × Int)) (fun d => ws.map fun (y : Cell) => (((y.1, d), y.2) : Cell × Int)) ds
    exact h1.trans (List.Perm.append_left _ (flat_perm ds ws))
theorem days_up (lo hi : Int) : (daysOf lo hi).Pairwise (· < ·) := by
  unfold daysOf
  refine List.pairwise_map.mpr (List.pairwise_lt_range.imp fun h => ?_)
  omega
theorem rowOn_up (lo hi : Int) : ∀ {ws : List Cell}, NamesUp ws → (rowOn ws lo hi).Pairwise fun a b => ltX a b = true
  | [], _ => .nil
  | x :: ws, h => by
    have h := List.pairwise_cons.mp h
    show ((daysOf lo hi).map (fun d => ((x.1, d), x.2)) ++ rowOn ws lo hi).Pairwise _
    refine List.pairwise_append.mpr ⟨List.pairwise_map.mpr ((days_up lo hi).imp fun e => ?_), rowOn_up lo hi h.2, fun a ha b hb => ?_⟩
    · exact ltX_iff.mpr (.inl (ltC_iff.mpr (.inr ⟨rfl, e⟩)))
    · obtain ⟨d, _, rfl⟩ := List.mem_map.mp ha
      obtain ⟨y, hy, hb⟩ := List.mem_flatMap.mp hb
      obtain ⟨d', _, rfl⟩ := List.mem_map.mp hb
      exact ltX_iff.mpr (.inl (ltC_iff.mpr (.inl (h.1 y hy))))
theorem sortX_uniq : ∀ {a b : RowD}, a.Perm b → a.Pairwise (fun x y => ltX y x = false) → b.Pairwise (fun x y => ltX x y = true) → a = b
  | [], b, p, _, _ => (List.nil_perm.mp p).symm
  | x :: a, [], p, _, _ => absurd p.length_eq (by simp)
  | x :: a, y :: b, p, h, g => by
    have h := List.pairwise_cons.mp h
    have g := List.pairwise_cons.mp g
    have e : x = y := by
      by_cases z : x = y
      · exact z
      · have h1 : x ∈ b := by
          rcases List.mem_cons.mp (p.mem_iff.mp List.mem_cons_self) with q | q
          · exact absurd q z
          · exact q
        have h2 : y ∈ a := by
          rcases List.mem_cons.mp (p.mem_iff.mpr List.mem_cons_self) with q | q
          · exact absurd q.symm z
          · exact q
        have := h.1 y h2
        rw [g.1 x h1] at this
        cases this
    subst e
    rw [sortX_uniq p.cons_inv h.2 g.2]
theorem sorted_flat {ws : List Cell} {lo hi : Int} (h : NamesUp ws) {π : RowD} (p : π.Perm (flatDays ws (daysOf lo hi))) (s : π.Pairwise fun a b => ltX b a = false) : π = rowOn ws lo hi :=
  sortX_uniq (p.trans (flat_perm (daysOf lo hi) ws)) s (rowOn_up lo hi h)
theorem flat_snoc {ws : List Cell} {ds : List Int} {i : Nat} {d : Int} (h : ds[i]? = some d) : flatDays ws (ds.take (i + 1)) = flatDays ws (ds.take i) ++ ws.map fun x => ((x.1, d), x.2) := by
  unfold flatDays
  rw [List.take_add_one, h, List.flatMap_append]
  congr 1
  show _ ++ [] = _
  rw [List.append_nil]
theorem flat_len (ws : List Cell) : ∀ ds : List Int, (flatDays ws ds).length = ds.length * ws.length
  | [] => by
    rw [List.length_nil, Nat.zero_mul]
    rfl
  | d :: ds => by
    show (ws.map (fun x => ((x.1, d), x.2)) ++ flatDays ws ds).length = _
    rw [List.length_append, List.length_map, flat_len ws ds, List.length_cons, Nat.succ_mul]
    omega
end AskG
/-! repr of any value; rights and rows out of data; append. -/
namespace AskG
open PySem PySem.Spec PyProof.Rows L2
def rReprV (K : PySem.W.Frag) : List V → Hp → VK → Prop := fun xs H Q => rRepr K xs H Q ∨ (xs = [.non] ∧ Q (.str PyData.none.shown) H)
theorem call_reprV {X : Cx} {k : Nat} (hr : RG k X.A) : CallR X (.builtin "repr") (rReprV X.K) := by
  intro pins s σ H xs us Q I r q
  rcases q with q | ⟨rfl, q⟩
  · exact call_repr hr pins s σ H xs us Q I r q
  · obtain ⟨u, rfl, rx⟩ := vals1 r
    cases rx
    exact PySem.P.repr_of_none ⟨.str PyData.none.shown, H, I.tok _, ⟨_, rfl⟩, q⟩
theorem reprV_ref {K : PySem.W.Frag} {H : Hp} {a : Addr} {d : PyData} {n m : Nat} {Q : VK} (h : Dp K H (.ref a) d) (f : Fine n m d) (hn : n ≤ 60) (hm : m ≤ 16777216) (q : Q (.str d.shown) H) : rReprV K [.ref a] H Q :=
  .inl ⟨a, d, rfl, h, f.shw, f.nod, Nat.le_trans f.dep hn, by rw [sizeLine_eq]; exact Nat.le_trans f.len hm, q⟩
/-- None or a row -/
def OptAt (H : Hp) (v : V) : Option RowD → Prop
  | none => v = .non
  | some ρ => ∃ p, v = .ref p ∧ RowAt H p ρ
def optD : Option RowD → PyData
  | none => .none
  | some ρ => rowPD ρ
theorem OptAt.keep {H H' : Hp} {v : V} {o : Option RowD} (h : OptAt H v o) (k : KeepT H H') : OptAt H' v o := by
  cases o with
  | none => exact h
  | some ρ =>
    obtain ⟨p, rfl, h⟩ := h
    exact ⟨p, rfl, h.keep k⟩
theorem reprV_opt {K : PySem.W.Frag} {H : Hp} {v : V} {o : Option RowD} {Q : VK} (h : OptAt H v o) (f : ∀ ρ, o = some ρ → RowOk ρ) (q : Q (.str (optD o).shown) H) : rReprV K [v] H Q := by
  cases o with
  | none =>
    obtain rfl : v = .non := h
    exact .inr ⟨rfl, q⟩
  | some ρ =>
    obtain ⟨p, rfl, h⟩ := h
    exact reprV_ref (dp_row h) (fine_row (f ρ rfl)) (by decide) (by decide) q
/-! ### out of data -/
theorem dhs_cells {D : Addr} {H : Hp} : ∀ {ws : List Cell} {xs : List V}, DHs D H xs (ws.map cellD) → ∃ ps : List Addr, xs = ps.map V.ref ∧ Paired (CellAt H) ps ws
  | [], _, .nil => ⟨[], rfl, .nil⟩
  | c :: ws, _, .cons h t => by
    obtain ⟨ps, rfl, hp⟩ := dhs_cells t
    obtain ⟨a, p, q, rfl, ha, h1, h2⟩ := DH.pair_inv h
    obtain rfl := h1.str_inv
    obtain rfl := h2.int_inv
    exact ⟨a :: ps, rfl, .cons ha hp⟩
theorem dh_kind_inv {D : Addr} {H : Hp} {v : V} {k : KindM} (h : DH D H v k.data) : ∃ a, v = .ref a ∧ H a = some (.tup k.vals) := by
  cases k with
  | tot s =>
    obtain ⟨a, p, q, rfl, ha, h1, h2⟩ := DH.pair_inv h
    obtain rfl := h1.str_inv
    obtain rfl := h2.int_inv
    exact ⟨a, rfl, ha⟩
  | win l =>
    obtain ⟨a, p, q, rfl, ha, h1, h2⟩ := DH.pair_inv h
    obtain rfl := h1.str_inv
    obtain rfl := h2.int_inv
    exact ⟨a, rfl, ha⟩
  | per b e =>
    obtain ⟨a, xs, rfl, ha, t⟩ := DH.tup_inv h
    cases t with
    | cons h1 t => cases t with
      | cons h2 t => cases t with
        | cons h3 t =>
          cases t
          obtain rfl := h1.str_inv
          obtain rfl := h2.int_inv
          obtain rfl := h3.int_inv
          exact ⟨a, rfl, ha⟩
theorem right_inv {D : Addr} {H : Hp} {v : V} {R : Rt} (h : DH D H v (rightD R)) : ∃ a, v = .ref a ∧ RightAt H a R := by
  obtain ⟨a, xs, rfl, ha, t⟩ := DH.tup_inv h
  cases t with
  | cons h1 t => cases t with
    | cons h2 t => cases t with
      | cons h3 t => cases t with
        | cons h4 t => cases t with
          | cons h5 t =>
            cases t
            obtain rfl := h1.str_inv
            obtain ⟨wa, ys, rfl, hwa, hys⟩ := h2.tup_inv
            obtain ⟨ps, rfl, hp⟩ := dhs_cells hys
            obtain rfl := h3.int_inv
            obtain rfl := h4.int_inv
            obtain ⟨ka, rfl, hka⟩ := dh_kind_inv h5
            exact ⟨a, rfl, wa, ps, ka, ha, hwa, hp, hka⟩
theorem dhs_pairs {D : Addr} {H : Hp} : ∀ {ρ : RowD} {xs : List V}, DHs D H xs (ρ.map pairD) → ∃ ps : List Addr, xs = ps.map V.ref ∧ Paired (PairRow H) ps ρ
  | [], _, .nil => ⟨[], rfl, .nil⟩
  | x :: ρ, _, .cons h t => by
    obtain ⟨ps, rfl, hp⟩ := dhs_pairs t
    obtain ⟨a, p, q, rfl, ha, h1, h2⟩ := DH.pair_inv h
    obtain ⟨b, p', q', rfl, hb, h3, h4⟩ := DH.pair_inv h1
    obtain rfl := h2.int_inv
    obtain rfl := h3.str_inv
    obtain rfl := h4.int_inv
    exact ⟨a :: ps, rfl, .cons ⟨b, ha, hb⟩ hp⟩
theorem row_inv {D : Addr} {H : Hp} {v : V} {ρ : RowD} (h : DH D H v (rowPD ρ)) : ∃ a, v = .ref a ∧ RowAt H a ρ := by
  obtain ⟨a, xs, rfl, ha, t⟩ := DH.tup_inv h
  obtain ⟨ps, rfl, hp⟩ := dhs_pairs t
  exact ⟨a, rfl, ps, ha, hp⟩
/-! ### found.append(..) -/
theorem app_read {K : PySem.W.Frag} {H0 H : Hp} {α : Type} {l : α → List (Nat × PyData)} {d : α → PyData} {σ : L2.St} {s : Nat} {Lf : Addr} {ds : List PyData} {Q : VK} (a : α) (h : FoundAt H0 (l a) σ Lf ds H) (hs : σ[s]? = some (some (.ref Lf))) (len : ds.length < 1000)
    (q : ∀ v H', FoundAt H0 (l a) σ Lf (ds ++ [d a]) H' → KeepD Lf H H' → Q v H') : tBM K "list" rAppend (tVar s) (tCons (tFm l d) tNil) σ H Q := by
  obtain ⟨vs, hv, hd⟩ := h.list
  refine ⟨.ref Lf, hs, .inl ⟨rfl, _, sqL hv⟩, a, Lf, h.src, fun H1 v s1 h1 => ?_⟩
  have big := sizeBig
  have l1 := hd.len
  refine ⟨Lf, vs, v, rfl, rfl, s1 _ _ hv, by omega, ?_⟩
  have kd := keepD_put (ws := vs ++ [v]) (s1 _ _ hv)
  refine q _ _ ⟨h.new, fun b o e => ?_, ⟨vs ++ [v], upd_same, ((hd.keep (KeepD.of s1)).app (.cons h1 .nil)).keep kd⟩, (h.src.keep s1).keepD kd ⟨_, upd_same⟩⟩ ((KeepD.of s1).trans kd)
  rw [upd_ne (ne_of_none e h.new)]
  exact s1 _ _ (h.keep _ _ e)
/-! ### the question of a right, or None -/
def qOf (R : Rt) (t : Int) : Option RowD := if usedB R t = true then some (rowQ R t) else none
theorem qOf_ok {R : Rt} (h : RtOk R) {t : Int} (t0 : 0 ≤ t) (t9 : t ≤ 9) : ∀ ρ, qOf R t = some ρ → RowOk ρ := by
  intro ρ e
  unfold qOf at e
  by_cases u : usedB R t = true
  · rw [if_pos u] at e
    cases e
    obtain ⟨b1, b2, b3, b4⟩ := kind_bounds h.kind t0 t9
    have lit : ∀ {i : Int}, -1000 ≤ i → i ≤ 1000 → i.natAbs.log2 < 1920 := fun {i} h1 h2 => by
      by_cases z : i.natAbs = 0
      · rw [z]
        decide
      · have : i.natAbs < 2 ^ 10 := by omega
        have := (Nat.log2_lt z).mpr this
        omega
    have mem : ∀ x ∈ rowQ R t, ∃ c ∈ R.ws, ∃ d ∈ daysOf (R.kind.lo t) (R.kind.hi t), x = ((c.1, d), c.2) := fun x hx => by
      obtain ⟨c, hc, hx⟩ := List.mem_flatMap.mp hx
      obtain ⟨d, hd, rfl⟩ := List.mem_map.mp hx
      exact ⟨c, hc, d, hd, rfl⟩
    refine ⟨?_, fun x hx => ?_, fun x hx => ?_⟩
    · show (rowOn R.ws (R.kind.lo t) (R.kind.hi t)).length ≤ 100
      rw [rowOn_len]
      have : R.ws.length * (R.kind.hi t + 1 - R.kind.lo t).toNat ≤ 3 * 10 := Nat.mul_le_mul h.many (by omega)
      omega
    · obtain ⟨c, hc, d, hd, rfl⟩ := mem x hx
      have k := h.ws c hc
      obtain ⟨i, hi, rfl⟩ := List.mem_map.mp hd
      have hi := List.mem_range.mp hi
      exact ⟨k.short, k.plain, k.ok, lit (by show -1000 ≤ R.kind.lo t + (i : Int); omega) (by show R.kind.lo t + (i : Int) ≤ 1000; omega)⟩
    · obtain ⟨c, hc, d, hd, rfl⟩ := mem x hx
      exact (h.ws c hc).lit
  · rw [if_neg u] at e
    cases e
/-- how the promises of the two questions are used -/
theorem q_opt {R : Rt} {t : Int} {H' : Hp} {Q : VK} (h : ∀ v, OptAt H' v (qOf R t) → Q v H') : (usedB R t = false → Q .non H') ∧ (usedB R t = true → ∀ p, RowAt H' p (rowQ R t) → Q (.ref p) H') := by
  refine ⟨fun e => h _ ?_, fun e p hp => h _ ?_⟩
  · unfold qOf
    rw [e]
    exact rfl
  · unfold qOf
    rw [if_pos e]
    exact ⟨p, rfl, hp⟩
end AskG
/-! More displays: items of a list that a name holds, a tuple that a name holds + a tuple. -/
namespace AskG
open PySem PySem.Spec PyProof.Rows L2
theorem SrcM.lst {l : List (Nat × PyData)} {D : Addr} {σ : L2.St} {H : Hp} {i : Nat} {ds : List PyData} (h : SrcM l D σ H) (m : (i, .list ds) ∈ l) : ∃ a xs, σ[i]? = some (some (.ref a)) ∧ H a = some (.lst xs) ∧ DHs D H xs ds := by
  obtain ⟨v, hv, hd⟩ := h.1 _ m
  obtain ⟨a, xs, rfl, _, ha, t⟩ := DH.lst_inv hd
  exact ⟨a, xs, hv, ha, t⟩
theorem DHs.get {D : Addr} {H : Hp} : ∀ {xs : List V} {ds : List PyData}, DHs D H xs ds → ∀ {k : Nat} {d : PyData}, ds[k]? = some d → ∃ v, xs[k]? = some v ∧ DH D H v d
  | _, _, .nil, k, d, e => by cases k <;> cases e
  | _, _, .cons h t, 0, d, e => by
    cases e
    exact ⟨_, rfl, h⟩
  | _, _, .cons h t, k + 1, d, e => DHs.get t e
section
variable {X : Cx} {e : Expr} {α : Type} {l : α → List (Nat × PyData)}
theorem fm_ix {i k : Nat} {ds : List PyData} {d : PyData} (h : PE X e (tOp (rIxL X.K) (tVar i) (tC (.int (k : Int))))) (m : ∀ a, (i, .list ds) ∈ l a) (hd : ds[k]? = some d) : PE X e (tFm l fun _ => d) := PE.less h fun σ H Q ⟨a, D, q⟩ => by
  obtain ⟨b, xs, hv, hb, t⟩ := q.1.lst (m a)
  obtain ⟨v, hk, hh⟩ := t.get hd
  exact ⟨_, hv, b, xs, _, v, rfl, rfl, sqL hb, atI_nat hk, q.2 H v (Same.refl _) hh⟩
theorem fm_cat {i : Nat} {te : TE} {ds : List PyData} {es : α → List PyData} (h : PE X e (tOp (rCatA X.K) (tVar i) te)) (ht : ∀ σ H Q, tFm l (fun a => .tuple (es a)) σ H Q → te σ H Q) (m : ∀ a, (i, .tuple ds) ∈ l a) (l1 : ds.length ≤ 1000) (l2 : ∀ a, (es a).length ≤ 1000) : PE X e (tFm l fun a => .tuple (ds ++ es a)) := PE.less h fun σ H Q ⟨a, D, q⟩ => by
  obtain ⟨b, xs, hv, hb, t⟩ := q.1.tup (m a)
  refine ⟨_, hv, ht σ H _ ⟨a, D, q.1, fun H1 v1 s1 h1 => ?_⟩⟩
  obtain ⟨c, ys, rfl, hc, t2⟩ := h1.tup_inv
  exact cat_from (s1 _ _ hb) (t.keep (KeepD.of s1)) hc t2 l1 (l2 a) fun H2 v2 s2 h2 => q.2 _ _ (s1.trans s2) h2
end
end AskG
/-! != of two lists of the same texts. -/
namespace AskG
open PySem PySem.Spec PyProof.Rows L2
def rNeS (K : PySem.W.Frag) : R2 := fun x y H Q => ∃ (a b : Addr) (xs : List Str), x = .ref a ∧ y = .ref b ∧ SqL K H a (xs.map V.str) ∧ SqL K H b (xs.map V.str) ∧ Q (.bl false) H
theorem vals_strs : ∀ {xs : List Str} {us : List Value}, Vals (xs.map V.str) us → ∀ j (h : j < us.length), ∃ x t, xs[j]? = some x ∧ us[j] = .str x t
  | [], _, .nil, j, h => absurd h (by simp)
  | x :: xs, _, .cons h1 t, 0, h => by
    obtain ⟨tk, rfl⟩ := h1
    exact ⟨x, tk, rfl, rfl⟩
  | x :: xs, _, .cons h1 t, j + 1, h => by
    obtain ⟨y, tk, e1, e2⟩ := vals_strs t j (by simpa using h)
    exact ⟨y, tk, e1, by simpa using e2⟩
theorem op_neS {X : Cx} (hu : X.A.units + 64 < cLine) : OpR X (compareOp .NotEq) (rNeS X.K) := by
  intro pins s σ H x y v u Q I rx ry h
  obtain ⟨a, b, xs, rfl, rfl, ha, hb, q⟩ := h
  cases rx
  cases ry
  obtain ⟨us, ru, pu, _⟩ := I.list ha
  obtain ⟨ws, rw', pw, _⟩ := I.list hb
  have hsz : us.toArray.size = ws.toArray.size := by
    rw [List.size_toArray, List.size_toArray, ← ru.length, ← rw'.length]
  have R := SeqAt.RcNeAt.lists (A := X.A) (s := s) (e := fun _ => true) pu.isList pw.isList hsz (by omega) (fun j h1 h2 => by
    obtain ⟨x1, t1, e1, e2⟩ := vals_strs ru j (by simpa using h1)
    obtain ⟨x2, t2, e3, e4⟩ := vals_strs rw' j (by simpa using h2)
    rw [e1] at e3
    cases e3
    have g1 : us.toArray[j] = .str x1 t1 := by simpa using e2
    have g2 : ws.toArray[j] = .str x1 t2 := by simpa using e4
    rw [g1, g2]
    have := SeqAt.EqAt.str_str (A := X.A.in1) (s := s) x1 t1 x1 t2
    rw [beq_self_eq_true] at this
    exact this)
  have z : wpAny (model X.prog X.w) X.A (compareOp .NotEq (.ref a) (.ref b)) (EP X pins σ Q) X.xe s := by
    refine R X.prog X.w X.xe (EP X pins σ Q) ⟨.bl false, H, I, ?_, q⟩
    show Value.bool _ = Value.bool false
    congr 1
    simp
  exact z
end AskG
/-! The end of a law's row, by a promise of its def that holds where nothing is being shown. -/
namespace AskG
open PySem PySem.Spec PyProof.Rows L2
/-- from an abstract heap that tracks at most the script -/
theorem lawG_core {P : Program} {w : World} {K : PySem.W.Frag} {mg mb : Str → Option Value} {k : Nat} {fa a : Addr} {fd : FuncData} {x : Str} {pr : Pr}
    {s₁ : Shared} {vs : List Value} {H : Hp}
    (inK : K.In s₁.heap) (ns1 : s₁.heap.Ns mainGlobals mg) (ns2 : s₁.heap.Ns builtinsNs mb)
    (bb : ∀ x : Str, x ≠ "__name__" → mb x = bootBuiltins x) (lim : s₁.heap.NoLimit) (gn : s₁.gens = #[])
    (ha : s₁.heap.get? a = some { cls := .type "list", data := .seq vs.toArray }) (hr : RG k callerA)
    (F : ∀ base : Heap, K.In base → base.Ns mainGlobals mg → FnG P w K mg base k fa fd [x] pr)
    (bind : ∀ (s : Shared) (u : Value), BindsTo s fd ⟨[u], []⟩ [(x, u)])
    (only : Only H) (hok : HOk P w H s₁.heap) (at_a : ∀ b, H b ≠ none → b = a) (noK : H a ≠ none → K.lookup a = none)
    (hp : pr [.ref a] H fun v _ => v = .bl true) :
    codeAny (model P w) callerA (.call (.ref fa) ⟨[.ref a], []⟩)
      (fun r s' => r = .ok (.ret (.bool true)) ∧ OldK s₁.heap s'.heap ∧ s'.os = s₁.os ∧ AllBare s'.gens) s₁ := by
  have hid : ∀ {b : Addr} {o : Obj}, s₁.heap.get? b = some o → H b = none → (hidT s₁.heap H).get? b = some o :=
    fun e n => hidT_get e n
  have notA : ∀ {b : Addr} {o : Obj} {es : Array DictEntry} {ep : Nat}, s₁.heap.get? b = some o → o.data = .dict es ep → H b = none := by
    intro b o es ep e d
    cases q : H b with
    | none => rfl
    | some u =>
      have eb : b = a := at_a b (by rw [q]; simp)
      rw [eb, ha] at e
      cases e
      cases (show Data.seq vs.toArray _ = Data.dict es ep from d)
  have nsH : ∀ {b : Addr} {m : Str → Option Value}, s₁.heap.Ns b m → (hidT s₁.heap H).Ns b m := by
    rintro b m ⟨o, es, ep, e, d, r⟩
    exact ⟨o, es, ep, hid e (notA e d), d, r⟩
  have inH : K.In (hidT s₁.heap H) := by
    intro b o e
    refine hid (inK b o e) ?_
    cases q : H b with
    | none => rfl
    | some u =>
      have eb : b = a := at_a b (by rw [q]; simp)
      rw [eb, noK (by rw [← eb, q]; simp)] at e
      cases e
  have M : Mod K mg (hidT s₁.heap H) :=
    ⟨inH, nsH ns1, ⟨mb, nsH ns2, bb⟩, lim.elim fun mc h => ⟨mc, nsH h.1, h.2⟩⟩
  have e0 : Env0 P w K mg (hidT s₁.heap H) callerA [] s₁ H :=
    ⟨rfl, M, fun b o e => of_hidT e, Nat.le_of_eq (hidT_size _ _), trivial,
      fun b hb => absurd (show b ∈ ([] : List Addr) from hb) (by simp), hok, .of_eq gn⟩
  refine codeAny_mono ((F _ inH (nsH ns1)).goes callerA [] s₁ H ⟨[.ref a], []⟩ [.ref a] [.ref a] _ hr e0
    (bind s₁ (.ref a)) (.cons rfl .nil) hp) fun r s' h => ?_
  match r, h with
  | .error e, h => exact h.elim
  | .ok .next, h => exact h.elim
  | .ok .brk, h => exact h.elim
  | .ok .cont, h => exact h.elim
  | .ok (.ret u), h =>
    obtain ⟨v, H', os, bare, un, hok', r', q⟩ := h
    have q : v = .bl true := q
    subst q
    obtain rfl : u = Value.bool true := r'
    refine ⟨rfl, OldK.of_keep fun b o e => ?_, os, bare⟩
    cases hb : H b with
    | none =>
      exact un.keep b o e hb (fun z => absurd (show b ∈ ([] : List Addr) from z) (by simp)) (by simp)
    | some u =>
      rcases only b with z | ⟨ob, xs, z⟩
      · rw [hb] at z
        cases z
      · obtain ⟨e1, _⟩ := hok b _ z
        obtain ⟨e2, _⟩ := hok' b _ (un.frzs b ob _ z)
        rw [e] at e1
        cases e1
        exact e2
theorem lawG {P : Program} {w : World} {K : PySem.W.Frag} {mg mb : Str → Option Value} {k : Nat} {fa a : Addr} {fd : FuncData} {x : Str} {pr : Pr}
    {s₁ : Shared} {vs : List Value} {ns : List Int}
    (inK : K.In s₁.heap) (ns1 : s₁.heap.Ns mainGlobals mg) (ns2 : s₁.heap.Ns builtinsNs mb)
    (bb : ∀ x : Str, x ≠ "__name__" → mb x = bootBuiltins x) (lim : s₁.heap.NoLimit) (gn : s₁.gens = #[])
    (ha : s₁.heap.get? a = some { cls := .type "list", data := .seq vs.toArray }) (hi : IntsAre vs ns) (hl : ns.length ≤ sizeLine) (hr : RG k callerA)
    (F : ∀ base : Heap, K.In base → base.Ns mainGlobals mg → FnG P w K mg base k fa fd [x] pr)
    (bind : ∀ (s : Shared) (u : Value), BindsTo s fd ⟨[u], []⟩ [(x, u)])
    (hp : ∀ H : Hp, Only H → SqL K H a (ns.map V.int) → pr [.ref a] H fun v _ => v = .bl true) :
    codeAny (model P w) callerA (.call (.ref fa) ⟨[.ref a], []⟩)
      (fun r s' => r = .ok (.ret (.bool true)) ∧ OldK s₁.heap s'.heap ∧ s'.os = s₁.os ∧ AllBare s'.gens) s₁ := by
  have rv := vals_ints hi
  cases hk : K.lookup a with
  | some o =>
    have e := inK a o hk
    rw [ha] at e
    cases e
    refine lawG_core (H := fun _ => none) inK ns1 ns2 bb lim gn ha hr F bind (fun _ => .inl rfl)
      (fun b u z => nomatch (show (none : Option HO) = some u from z)) (fun b z => absurd rfl z) (fun z => absurd rfl z) ?_
    refine hp _ (fun _ => .inl rfl) (.inr ⟨_, vs.toArray, _, hk, rfl, rfl, rfl, ?_, by simpa using rv⟩)
    rw [List.size_toArray, hi.length]
    exact hl
  | none =>
    have at1 : (fun b => if b = a then some (HO.frz { cls := .type "list", data := .seq vs.toArray } (.lst (ns.map V.int))) else none : Hp) a =
        some (.frz { cls := .type "list", data := .seq vs.toArray } (.lst (ns.map V.int))) := if_pos rfl
    have else1 : ∀ b, b ≠ a → (fun b => if b = a then some (HO.frz { cls := .type "list", data := .seq vs.toArray } (.lst (ns.map V.int))) else none : Hp) b = none :=
      fun b h => if_neg h
    generalize (fun b => if b = a then some (HO.frz { cls := .type "list", data := .seq vs.toArray } (.lst (ns.map V.int))) else none : Hp) = H at at1 else1
    have only : Only H := fun b => by
      by_cases h : b = a
      · rw [h]
        exact .inr ⟨_, _, at1⟩
      · exact .inl (else1 b h)
    refine lawG_core (H := H) inK ns1 ns2 bb lim gn ha hr F bind only (fun b u z => ?_) (fun b z => ?_) (fun _ => hk) (hp H only (.inl (.inr ⟨_, at1⟩)))
    · by_cases h : b = a
      · subst h
        rw [at1] at z
        cases z
        exact ⟨ha, by rw [List.length_map]; exact hl, vs, _, rv, ha⟩
      · rw [else1 b h] at z
        cases z
    · by_cases h : b = a
      · exact h
      · exact absurd (else1 b h) z
/-- the goal behind the head -/
theorem walkG {l : PySem.W.OpenLaw} {n k : Nat} {q : Program} {loose : List Str} {XP : (Str → Option Value) → Heap → Prop} {YP : World → Heap → Prop} {d : DefRec}
    {K : Params → PySem.W.Frag} {pr : PySem.W.Frag → Pr} {x : Str}
    (hn : l.most = some n) (hn2 : n ≤ sizeLine) (hdf : d.params.defaults = []) (hr : RG k callerA)
    (hY : ∀ (w : World) (h : Heap), YP w h → (K w.params).In h)
    (F : ∀ (w : World) (mg : Str → Option Value) (fa : Addr) (h : Heap), (K w.params).In h → h.Ns mainGlobals mg → mg d.name = some (.ref fa) →
      ∃ fd : FuncData, (∀ (s : Shared) (u : Value), BindsTo s fd ⟨[u], []⟩ [(x, u)]) ∧
        ∀ base : Heap, (K w.params).In base → base.Ns mainGlobals mg → FnG l.prog w (K w.params) mg base k fa fd [x] (pr (K w.params)))
    (hp : ∀ (K : PySem.W.Frag) (H : Hp) (a : Addr) (ns : List Int), ns.length ≤ n → SqL K H a (ns.map V.int) → pr K [.ref a] H fun v _ => v = .bl true) :
    PySem.W.WalkO q loose XP YP l.row.toRowW d [] (fun f vs => PySem.call f vs) := by
  refine Att.attach_call hn hdf ?_
  intro w s₀ s₁ mg mb fa o pm cd doc a vs ns G Y ho hd hcd hmg hobj hints hlen hg
  have inK := hY w _ Y
  obtain ⟨fd, hb, hF⟩ := F w mg fa _ inK G.T.g hmg
  exact lawG inK G.T.g G.T.b G.T.builtins G.T.nolimit hg hobj hints (Nat.le_trans hlen hn2) hr hF hb fun H _ hS => hp _ H a ns hlen hS
end AskG
namespace P19
open PySem PySem.Spec PyProof.Rows L2 AskG
def topS (i : Nat) : Stmt := PySem.Challenge.pw_askrights_k19_questions_told.main.body.getD i (.Pass ⟨0, 0, 0, 0⟩)
abbrev sUsed : Stmt := topS 1
abbrev sAsked : Stmt := topS 2
abbrev sOnDays : Stmt := topS 3
abbrev sQ : Stmt := topS 4
theorem scUsed : FnScope ["right", "day"] ["right", "day"] (defScope sUsed) := ⟨rfl, rfl, rfl, by decide +kernel, rfl, by decide +kernel, by decide +kernel⟩
theorem scAsked : FnScope ["right", "day", "kind"] ["right", "day"] (defScope sAsked) := ⟨rfl, rfl, rfl, by decide +kernel, rfl, by decide +kernel, by decide +kernel⟩
theorem scOnDays : FnScope ["right", "low", "high", "account", "weight", "day"] ["right", "low", "high"] (defScope sOnDays) := ⟨rfl, rfl, rfl, by decide +kernel, rfl, by decide +kernel, by decide +kernel⟩
theorem scQ : FnScope ["right", "day", "low", "high"] ["right", "day"] (defScope sQ) := ⟨rfl, rfl, rfl, by decide +kernel, rfl, by decide +kernel, by decide +kernel⟩
/-- the days j of the account at i -/
def rowPart (ws : List Cell) (lo hi : Int) (i j : Nat) : RowD := match ws[i]? with
  | some x => ((daysOf lo hi).take j).map fun d => ((x.1, d), x.2)
  | none => []
theorem part_zero (ws : List Cell) (lo hi : Int) (i : Nat) : rowPart ws lo hi i 0 = [] := by
  unfold rowPart
  cases ws[i]? <;> rfl
theorem part_len (ws : List Cell) (lo hi : Int) (i j : Nat) : (rowPart ws lo hi i j).length ≤ (hi + 1 - lo).toNat := by
  unfold rowPart
  cases ws[i]? with
  | none => exact Nat.zero_le _
  | some x =>
    show (((daysOf lo hi).take j).map _).length ≤ _
    rw [List.length_map, List.length_take, days_len]
    omega
theorem rowOn_app (a b : List Cell) (lo hi : Int) : rowOn (a ++ b) lo hi = rowOn a lo hi ++ rowOn b lo hi := List.flatMap_append
theorem part_n (ws : List Cell) (lo hi : Int) (i : Nat) : rowOn (ws.take i) lo hi ++ rowPart ws lo hi i (hi + 1 - lo).toNat = rowOn (ws.take (i + 1)) lo hi := by
  rw [List.take_add_one, rowOn_app]
  congr 1
  unfold rowPart
  cases ws[i]? with
  | none => rfl
  | some x =>
    show ((daysOf lo hi).take _).map _ = (daysOf lo hi).map _ ++ []
    rw [List.append_nil, List.take_of_length_le (by rw [days_len]; exact Nat.le_refl _)]
theorem part_succ {ws : List Cell} {lo hi : Int} {i j : Nat} {c : Cell} (h : ws[i]? = some c) (hj : j < (hi + 1 - lo).toNat) : rowPart ws lo hi i (j + 1) = rowPart ws lo hi i j ++ [((c.1, lo + (j : Int)), c.2)] := by
  unfold rowPart
  rw [h]
  show ((daysOf lo hi).take (j + 1)).map _ = ((daysOf lo hi).take j).map _ ++ _
  have : (daysOf lo hi)[j]? = some (lo + (j : Int)) := by
    unfold daysOf
    rw [List.getElem?_map, List.getElem?_range hj]
    rfl
  rw [List.take_add_one, this, List.map_append]
  rfl
section
variable {P : Program} {w : World} {K : PySem.W.Frag} {mg : Str → Option Value} {base : Heap}
def prUsed : Pr := fun vs H Q => ∃ (a : Addr) (R : Rt) (t : Int), vs = [.ref a, .int t] ∧ RightAt H a R ∧ Q (.bl (usedB R t)) H
theorem ok_used {f : Addr} {fd : FuncData} {k : Nat} (F : Fun K "is_used_on" "is_used_on" sUsed f fd) : FnG P w K mg base (k + 1) f fd ["right", "day"] prUsed := by
  refine okG F scUsed (fun vs H Q h => ?_) (fun cdv A outer s H vs Q hr h => ?_)
  · obtain ⟨_, _, _, rfl, _⟩ := h
    rfl
  · obtain ⟨a, R, t, rfl, hR, q⟩ := h
    obtain ⟨wa, ps, ka, h1, h2, h3, h4⟩ := hR
    refine ⟨_, pss_one (ps_ret (pe_chain op_le op_le (pe_ix (ix_tup : IxR _ (rIxT K)) (pv 0) pe_int (fun _ _ => rfl)) (pv 1) (pe_ix (ix_tup : IxR _ (rIxT K)) (pv 0) pe_int (fun _ _ => rfl)))), ?_⟩
    refine iRet ⟨.ref a, rfl, a, _, _, _, rfl, rfl, sqT h1, atI_nat (j := 2) rfl, .int t, rfl, R.first, t, rfl, rfl, _, rfl, ?_⟩
    unfold usedB at q
    by_cases e : R.first ≤ t
    · rw [decide_eq_true e] at q ⊢
      refine iteT ⟨.ref a, rfl, a, _, _, _, rfl, rfl, sqT h1, atI_nat (j := 3) rfl, t, R.last, rfl, rfl, ?_⟩
      rw [Bool.true_and] at q
      exact q
    · rw [decide_eq_false e] at q ⊢
      exact iteF q
def prAsked : Pr := fun vs H Q => ∃ (a : Addr) (R : Rt) (t : Int), vs = [.ref a, .int t] ∧ RightAt H a R ∧ ∀ p, H p = none → Q (.ref p) (upd H p (.tup [.int (R.kind.lo t), .int (R.kind.hi t)]))
theorem ok_asked {f : Addr} {fd : FuncData} {k : Nat} (F : Fun K "asked_days" "asked_days" sAsked f fd) (mx : mg "max" = none) (mn : mg "min" = none) : FnG P w K mg base (k + 1) f fd ["right", "day"] prAsked := by
  refine okG F scAsked (fun vs H Q h => ?_) (fun cdv A outer s H vs Q hr h => ?_)
  · obtain ⟨_, _, _, rfl, _⟩ := h
    rfl
  · obtain ⟨a, ⟨pn, ws, fi, la, kd⟩, t, rfl, hR, q⟩ := h
    obtain ⟨wa, ps, ka, h1, h2, h3, h4⟩ := hR
    refine ⟨_, pss_cons (ps_set (i := 2) scAsked.nd rfl (.inl rfl) (pe_ix (ix_tup : IxR _ (rIxT K)) (pv 0) pe_int (fun _ _ => rfl)))
      (pss_cons (ps_if (pt_cmpR op_eq (pe_ix (ix_tup : IxR _ (rIxT K)) (pv 2) pe_int (fun _ _ => rfl)) pe_str (nomark _)) (pss_one (ps_ret (pe_tup (pa_cons (pe_ix (ix_tup : IxR _ (rIxT K)) (pv 2) pe_int (fun _ _ => rfl)) (pa_cons (pv 1) pa_nil))))) pss_nil)
      (pss_cons (ps_if (pt_cmpR op_eq (pe_ix (ix_tup : IxR _ (rIxT K)) (pv 2) pe_int (fun _ _ => rfl)) pe_str (nomark _)) (pss_one (ps_ret (pe_tup (pa_cons (pe_callB (call_max2 rfl) (by rfl) mx (by decide +kernel) (pa_cons pe_int (pa_cons (pe_op op_add (pe_op op_sub (pv 1) (pe_ix (ix_tup : IxR _ (rIxT K)) (pv 2) pe_int (fun _ _ => rfl))) pe_int) pa_nil))) (pa_cons (pv 1) pa_nil))))) pss_nil)
      (pss_one (ps_ret (pe_tup (pa_cons (pe_ix (ix_tup : IxR _ (rIxT K)) (pv 2) pe_int (fun _ _ => rfl)) (pa_cons (pe_callB (call_min2 rfl) (by rfl) mn (by decide +kernel) (pa_cons (pe_ix (ix_tup : IxR _ (rIxT K)) (pv 2) pe_int (fun _ _ => rfl)) (pa_cons (pv 1) pa_nil))) pa_nil)))))))  , ?_⟩
    refine iSeq (iAsg ⟨.ref a, rfl, a, _, _, _, rfl, rfl, sqT h1, atI_nat (j := 4) rfl, ?_⟩)
    refine iName ?_
    dsimp only
    refine iSeq ?_
    cases kd with
    | tot s0 =>
      refine ⟨.ref ka, rfl, ka, _, _, _, rfl, rfl, sqT h4, atI_nat (j := 0) rfl, rfl, _, rfl, ?_⟩
      refine iteT (iRet ⟨.ref ka, rfl, ka, _, _, _, rfl, rfl, sqT h4, atI_nat (j := 1) rfl, .int t, rfl, by show 2 ≤ sizeLine; decide, fun p hp => q p hp⟩)
    | win l =>
      refine ⟨.ref ka, rfl, ka, _, _, _, rfl, rfl, sqT h4, atI_nat (j := 0) rfl, rfl, _, rfl, ?_⟩
      refine iteF (iNext ?_)
      dsimp only
      refine iSeq ⟨.ref ka, rfl, ka, _, _, _, rfl, rfl, sqT h4, atI_nat (j := 0) rfl, rfl, _, rfl, ?_⟩
      refine iteT (iRet ⟨.int t, rfl, .ref ka, rfl, ka, _, _, _, rfl, rfl, sqT h4, atI_nat (j := 1) rfl, t, l, rfl, rfl, t - l, 1, rfl, rfl, 0, t - l + 1, rfl, .int t, rfl, by show 2 ≤ sizeLine; decide, fun p hp => q p hp⟩)
    | per b e =>
      refine ⟨.ref ka, rfl, ka, _, _, _, rfl, rfl, sqT h4, atI_nat (j := 0) rfl, rfl, _, rfl, ?_⟩
      refine iteF (iNext ?_)
      dsimp only
      refine iSeq ⟨.ref ka, rfl, ka, _, _, _, rfl, rfl, sqT h4, atI_nat (j := 0) rfl, rfl, _, rfl, ?_⟩
      refine iteF (iNext ?_)
      dsimp only
      refine iRet ⟨.ref ka, rfl, ka, _, _, _, rfl, rfl, sqT h4, atI_nat (j := 1) rfl, .ref ka, rfl, ka, _, _, _, rfl, rfl, sqT h4, atI_nat (j := 2) rfl, .int t, rfl, e, t, rfl, by show 2 ≤ sizeLine; decide, fun p hp => q p hp⟩
def prOnDays : Pr := fun vs H Q => ∃ (a : Addr) (R : Rt) (lo hi : Int), vs = [.ref a, .int lo, .int hi] ∧ RightAt H a R ∧ R.ws.length ≤ 3 ∧ 0 ≤ lo ∧ lo ≤ 100 ∧ -1 ≤ hi ∧ hi ≤ 100 ∧
  ∀ H' p, Same H H' → RowAt H' p (rowOn R.ws lo hi) → Q (.ref p) H'
theorem g2_mono {i j : Nat} : ∀ (x : V) (σ : L2.St) (H : Hp) (Q Q' : L2.St → Hp → Prop), (∀ σ2 H2, Q σ2 H2 → Q' σ2 H2) → g2 K i j x σ H Q → g2 K i j x σ H Q' := by
  rintro x σ H Q Q' m ⟨a, xs, e, hs, hl, v, r, e1, v2, r2, e2, e3, q⟩
  exact ⟨a, xs, e, hs, hl, v, r, e1, v2, r2, e2, e3, m _ _ q⟩
theorem ok_onDays {f : Addr} {fd : FuncData} {k : Nat} (F : Fun K "row_on_days" "row_on_days" sOnDays f fd) (mt : mg "tuple" = none) (mr : mg "range" = none) : FnG P w K mg base (k + 1) f fd ["right", "low", "high"] prOnDays := by
  refine okG F scOnDays (fun vs H Q h => ?_) (fun cdv A outer s H vs Q hr h => ?_)
  · obtain ⟨_, _, _, _, rfl, _⟩ := h
    rfl
  · obtain ⟨a, R, lo, hi, rfl, hR, l3, lo0, lo1, hi0, hi1, q⟩ := h
    obtain ⟨wa, ps, ka, h1, h2, h3, h4⟩ := hR
    have big := sizeBig
    refine ⟨_, pss_one (ps_ret (pe_callTy call_tuple_of (by rfl) mt (by decide +kernel) (pa_cons (pe_lc2 (own := [("account", 3), ("weight", 4), ("day", 5)]) (vs1 := [5]) (g := g2 K 3 4) (g1 := gName 5) (tt := tYes) (tt1 := tYes) rfl scOnDays.nd (pi_tup (pe_ix (ix_tup : IxR _ (rIxT K)) (pv 0) pe_int (fun _ _ => rfl)))
      (blkOk_by (N := ["right", "low", "high", "account", "weight", "day"]) (sc := defScope sOnDays) (by decide +kernel)) (by decide)
      (fun _ _ _ _ _ => pg_tup rfl (pgs_cons (pg_name (i := 3) scOnDays.nd rfl (.inl rfl)) (pgs_cons (pg_name (i := 4) scOnDays.nd rfl (.inl rfl)) pgs_nil)))
      (fun _ _ _ _ _ => pts_nil)
      (fun _ _ _ _ _ => pi_range2 (by rfl) mr (pa_cons (pv 1) (pa_cons (pe_op op_add (pv 2) pe_int) pa_nil)))
      (fun _ _ _ _ _ => pg_name (i := 5) scOnDays.nd rfl (.inl rfl))
      (fun _ _ _ _ _ => pts_nil)
      (fun _ _ _ _ _ => pe_tup (pa_cons (pe_tup (pa_cons (pv 3) (pa_cons (pv 5) pa_nil))) (pa_cons (pv 4) pa_nil)))) pa_nil))), ?_⟩
    refine iRet ?_
    refine ⟨.ref a, rfl, a, _, _, _, rfl, rfl, sqT h1, atI_nat (j := 1) rfl, wa, rfl, ⟨_, sqT h2⟩, fun D hD => ?_⟩
    have hlen := Paired.length h3
    refine lc2_go (K := K) (a := wa) (xs := ps.map V.ref) (lo := lo) (n := (hi + 1 - lo).toNat)
      (fun i j H' => Same H H' ∧ ∃ qs, H' D = some (.lst (qs.map V.ref)) ∧ Paired (PairRow H') qs (rowOn (R.ws.take i) lo hi ++ rowPart R.ws lo hi i j))
      ⟨same_new hD, [], upd_same, ?_⟩ (fun i H' h => sqT (h.1 _ _ h2)) g2_mono (fun _ _ _ _ _ m z => m _ _ z) (fun σ H Q Q' m z => ?_) (fun i x H' hx h => ?_) (fun i H' h => ?_) (fun H' h => ?_)
    · rw [part_zero, List.take_zero]
      exact .nil
    · obtain ⟨v3, e3, v5, e5, s1, z⟩ := z
      exact ⟨v3, e3, v5, e5, s1, fun p hp => by
        obtain ⟨v4, e4, s2, z⟩ := z p hp
        exact ⟨v4, e4, s2, fun p2 hp2 => m _ _ (z p2 hp2)⟩⟩
    · rw [List.getElem?_map] at hx
      obtain ⟨pi, hpi, rfl⟩ := Option.map_eq_some_iff.mp hx
      obtain ⟨c, hc, hcell⟩ := paired_at' h3 hpi
      have il : i < R.ws.length := (List.getElem?_eq_some_iff.mp hc).1
      obtain ⟨sm, qs, hqs, hqq⟩ := h
      refine ⟨pi, _, rfl, sqT (sm _ _ hcell), rfl, .str c.1, _, rfl, .int c.2, _, rfl, rfl, rfl, ⟨sm, qs, hqs, hqq⟩, fun R' hR' => ⟨.int lo, rfl, .int hi, rfl, hi, 1, rfl, rfl, lo, hi + 1, rfl, ⟨by omega, by omega, by omega, by omega⟩, hR'⟩, fun j H2 hj h => ?_⟩
      obtain ⟨sm, qs, hqs, hqq⟩ := h
      have ql := Paired.length hqq
      have qb : (rowOn (R.ws.take i) lo hi ++ rowPart R.ws lo hi i j).length ≤ 1000 := by
        rw [List.length_append, rowOn_len, List.length_take]
        have h1 : min i R.ws.length * (hi + 1 - lo).toNat ≤ 3 * 101 := Nat.mul_le_mul (by omega) (by omega)
        have h2 := part_len R.ws lo hi i j
        omega
      refine ⟨rfl, .str c.1, rfl, .int (lo + j), rfl, by show 2 ≤ sizeLine; omega, fun p1 hp1 => ⟨.int c.2, rfl, by show 2 ≤ sizeLine; omega, fun p2 hp2 => ?_⟩⟩
      have s1 := same_new (o := .tup [.str c.1, .int (lo + j)]) hp1
      have s2 := same_new (o := .tup [.ref p1, .int c.2]) hp2
      have s12 := s1.trans s2
      have hDp := s12 _ _ hqs
      refine ⟨_, hDp, by rw [List.length_map]; omega, fun b o e => ?_, qs ++ [p2], by rw [upd_same, List.map_append]; rfl, ?_⟩
      · rw [upd_ne (ne_of_none e hD)]
        exact s12 _ _ (sm _ _ e)
      · have kp : KeepT _ (upd _ D (.lst (qs.map V.ref ++ [.ref p2]))) := KeepT.put hDp fun _ z => nomatch z
        rw [part_succ hc hj, ← List.append_assoc]
        exact Paired.snoc (Paired.mapP hqq fun _ _ z => (z.keep (KeepT.of s12)).keep kp) ⟨p1, kp _ _ upd_same, kp _ _ (s2 _ _ upd_same)⟩
    · obtain ⟨sm, qs, hqs, hqq⟩ := h
      refine ⟨sm, qs, hqs, ?_⟩
      rw [part_zero, List.append_nil, ← part_n]
      exact hqq
    · obtain ⟨sm, qs, hqs, hqq⟩ := h
      rw [part_zero, List.append_nil, List.length_map, hlen, List.take_length] at hqq
      refine ⟨D, _, rfl, .inl ⟨sqL hqs, fun p hp => ?_⟩⟩
      have s5 := same_new (o := .tup (qs.map V.ref)) hp
      exact q _ p (sm.trans s5) ⟨qs, upd_same, Paired.mapP hqq fun _ _ z => z.keep (KeepT.of s5)⟩
def prQ : Pr := fun vs H Q => ∃ (a : Addr) (R : Rt) (t : Int), vs = [.ref a, .int t] ∧ RightAt H a R ∧ RtOk R ∧ 0 ≤ t ∧ t ≤ 9 ∧
  ∀ H', Same H H' → (usedB R t = false → Q .non H') ∧ (usedB R t = true → ∀ p, RowAt H' p (rowQ R t) → Q (.ref p) H')
variable {fU fA fR : Addr} {fdU fdA fdR : FuncData}
theorem ok_q {f : Addr} {fd : FuncData} {k : Nat} (F : Fun K "question_on" "question_on" sQ f fd)
    (FU : Fun K "is_used_on" "is_used_on" sUsed fU fdU) (bU : Binds K fdU ["right", "day"] []) (gU : mg "is_used_on" = some (.ref fU))
    (FA : Fun K "asked_days" "asked_days" sAsked fA fdA) (bA : Binds K fdA ["right", "day"] []) (gA : mg "asked_days" = some (.ref fA))
    (FR : Fun K "row_on_days" "row_on_days" sOnDays fR fdR) (bR : Binds K fdR ["right", "low", "high"] []) (gR : mg "row_on_days" = some (.ref fR))
    (mx : mg "max" = none) (mn : mg "min" = none) (mt : mg "tuple" = none) (mr : mg "range" = none) : FnG P w K mg base (k + 2) f fd ["right", "day"] prQ := by
  have GU : FnG P w K mg base (k + 1) fU fdU ["right", "day"] prUsed := ok_used FU
  have GA : FnG P w K mg base (k + 1) fA fdA ["right", "day"] prAsked := ok_asked FA mx mn
  have GR : FnG P w K mg base (k + 1) fR fdR ["right", "low", "high"] prOnDays := ok_onDays FR mt mr
  refine okG F scQ (fun vs H Q h => ?_) (fun cdv A outer s H vs Q hr h => ?_)
  · obtain ⟨_, _, _, rfl, _⟩ := h
    rfl
  · obtain ⟨a, R, t, rfl, hR, ok, t0, t9, q⟩ := h
    refine ⟨_, pss_cons (ps_if (pt_not (pt_val (pe_g GU hr (by rfl) gU FU.kp bU .nil (pa_cons (pv 0) (pa_cons (pv 1) pa_nil))))) (pss_one (ps_ret pe_non)) pss_nil)
      (pss_cons (ps_asg (pe_g GA hr (by rfl) gA FA.kp bA .nil (pa_cons (pv 0) (pa_cons (pv 1) pa_nil))) (pg_tup (by rfl) (pgs_cons (pg_name (i := 2) scQ.nd rfl (.inl rfl)) (pgs_cons (pg_name (i := 3) scQ.nd rfl (.inl rfl)) pgs_nil))))
      (pss_one (ps_ret (pe_g GR hr (by rfl) gR FR.kp bR .nil (pa_cons (pv 0) (pa_cons (pv 2) (pa_cons (pv 3) pa_nil))))))), ?_⟩
    refine iSeq ?_
    refine ⟨.ref a, rfl, .int t, rfl, a, R, t, rfl, hR, _, rfl, ?_⟩
    cases e : usedB R t with
    | false => exact iteT ((q H (Same.refl _)).1 e)
    | true =>
      refine iteF (iNext ?_)
      dsimp only
      refine iSeq (iAsg ⟨.ref a, rfl, .int t, rfl, a, R, t, rfl, hR, fun p hp => ?_⟩)
      have s1 := same_new (o := .tup [.int (R.kind.lo t), .int (R.kind.hi t)]) hp
      refine ⟨p, _, rfl, sqT upd_same, rfl, _, _, rfl, _, _, rfl, rfl, ?_⟩
      dsimp only
      obtain ⟨b1, b2, b3, b4⟩ := kind_bounds ok.kind t0 t9
      refine iRet ⟨.ref a, rfl, .int (R.kind.lo t), rfl, .int (R.kind.hi t), rfl, a, R, R.kind.lo t, R.kind.hi t, rfl, hR.keep (KeepT.of s1), ok.many, b1, by omega, by omega, by omega, fun H' p' s2 hp' => ?_⟩
      exact (q H' (s1.trans s2)).2 e p' hp'
end
end P19
namespace P19
open PySem PySem.Spec PyProof.Rows L2 AskG
abbrev sFeed : Stmt := topS 6
theorem scFeed : FnScope ["_law_script"] ["_law_script"] (defScope sFeed) := ⟨rfl, rfl, rfl, by decide +kernel, rfl, by decide +kernel, by decide +kernel⟩
abbrev sDraw : Stmt := topS 7
theorem scDraw : FnScope ["_law_feed_here", "_law_many", "_law_digit", "_law_place", "_law_cell", "_law_mixed"] ["_law_feed_here", "_law_many"] (defScope sDraw) := ⟨rfl, rfl, rfl, by decide +kernel, rfl, by decide +kernel, by decide +kernel⟩
def feedKvs (L : Addr) (at' left n : Int) : List (Key × V) := [(Sum.inr "cells", .ref L), (Sum.inr "next", .int at'), (Sum.inr "rest", .int left), (Sum.inr "draws", .int n)]
def FeedAt (H : Hp) (F L : Addr) : Prop := ∃ (ns : List Int) (at' left n : Int), H F = some (.dK (feedKvs L at' left n)) ∧ H L = some (.lst (ns.map V.int))
/-- all but the feed stays -/
def KeepF (F : Addr) (H H' : Hp) : Prop := ∀ b o, b ≠ F → H b = some o → H' b = some o
theorem KeepF.refl (F : Addr) (H : Hp) : KeepF F H H := fun _ _ _ e => e
theorem KeepF.trans {F : Addr} {H H1 H2 : Hp} (h : KeepF F H H1) (g : KeepF F H1 H2) : KeepF F H H2 := fun b o n e => g b o n (h b o n e)
theorem KeepF.of {F : Addr} {H H' : Hp} (h : Same H H') : KeepF F H H' := fun b o _ e => h b o e
theorem KeepF.tup {F L : Addr} {H H' : Hp} (h : KeepF F H H') (f : FeedAt H F L) : KeepT H H' := fun b xs e => by
  obtain ⟨_, _, _, _, hF, _⟩ := f
  exact h b _ (ne_of e hF fun z => nomatch z) e
theorem FeedAt.same {F L : Addr} {H H' : Hp} (f : FeedAt H F L) (h : Same H H') : FeedAt H' F L := by
  obtain ⟨ns, a, l, n, h1, h2⟩ := f
  exact ⟨ns, a, l, n, h _ _ h1, h _ _ h2⟩
section
variable (L : Addr) (a l n x : Int)
theorem g_count : valV (feedKvs L a l n) (Sum.inr "draws") = some (.int n) := rfl
theorem g_left : valV (feedKvs L a l n) (Sum.inr "rest") = some (.int l) := rfl
theorem g_at : valV (feedKvs L a l n) (Sum.inr "next") = some (.int a) := rfl
theorem g_cells : valV (feedKvs L a l n) (Sum.inr "cells") = some (.ref L) := rfl
theorem p_count : putK (feedKvs L a l n) (Sum.inr "draws") (.int x) = feedKvs L a l x := rfl
theorem p_left : putK (feedKvs L a l n) (Sum.inr "rest") (.int x) = feedKvs L a x n := rfl
theorem p_at : putK (feedKvs L a l n) (Sum.inr "next") (.int x) = feedKvs L x l n := rfl
end
theorem dg_count {H : Hp} {F L : Addr} {a l n : Int} (h : H F = some (.dK (feedKvs L a l n))) : DGet H F (.str "draws") (some (.int n)) := DGet.k (k := Sum.inr "draws") h
theorem dg_left {H : Hp} {F L : Addr} {a l n : Int} (h : H F = some (.dK (feedKvs L a l n))) : DGet H F (.str "rest") (some (.int l)) := DGet.k (k := Sum.inr "rest") h
theorem dg_at {H : Hp} {F L : Addr} {a l n : Int} (h : H F = some (.dK (feedKvs L a l n))) : DGet H F (.str "next") (some (.int a)) := DGet.k (k := Sum.inr "next") h
theorem dg_cells {H : Hp} {F L : Addr} {a l n : Int} (h : H F = some (.dK (feedKvs L a l n))) : DGet H F (.str "cells") (some (.ref L)) := DGet.k (k := Sum.inr "cells") h
theorem four : (feedKvs 0 0 0 0).length < sizeLine := by
  show 4 < sizeLine
  decide
theorem dp_count {H : Hp} {F L : Addr} {a l n x : Int} (h : H F = some (.dK (feedKvs L a l n))) : DPut H F (.str "draws") (.int x) (upd H F (.dK (feedKvs L a l x))) := DPut.k (k := Sum.inr "draws") h four
theorem dp_left {H : Hp} {F L : Addr} {a l n x : Int} (h : H F = some (.dK (feedKvs L a l n))) : DPut H F (.str "rest") (.int x) (upd H F (.dK (feedKvs L a x n))) := DPut.k (k := Sum.inr "rest") h four
theorem dp_at {H : Hp} {F L : Addr} {a l n x : Int} (h : H F = some (.dK (feedKvs L a l n))) : DPut H F (.str "next") (.int x) (upd H F (.dK (feedKvs L x l n))) := DPut.k (k := Sum.inr "next") h four
section
variable {P : Program} {w : World} {K : PySem.W.Frag} {mg : Str → Option Value} {base : Heap}
def prFeed (K : PySem.W.Frag) : Pr := fun vs H Q => ∃ (a : Addr) (ns : List Int), vs = [.ref a] ∧ SqL K H a (ns.map V.int) ∧ ∀ H' F L, Same H H' → FeedAt H' F L → Q (.ref F) H'
theorem cut63 (ns : List Int) : ∃ ms : List Int, cutV (ns.map V.int) none (some 63) = ms.map V.int := by
  unfold cutV
  rw [← List.map_drop, ← List.map_take]
  exact ⟨_, rfl⟩
theorem ok_feed {f : Addr} {fd : FuncData} {k : Nat} (F : Fun K "_law_feed" "_law_feed" sFeed f fd) (ml : mg "list" = none) : FnG P w K mg base (k + 1) f fd ["_law_script"] (prFeed K) := by
  refine okG F scFeed (fun vs H Q h => ?_) (fun cdv A outer s H vs Q hr h => ?_)
  · obtain ⟨_, _, rfl, _⟩ := h
    rfl
  · obtain ⟨a, ns, rfl, hS, q⟩ := h
    refine ⟨_, pss_one (ps_ret (pe_disp (pps_cons pe_str (pe_callTy call_list_of (by rfl) ml (by decide +kernel) (pa_cons (pe_slice sl_list (pv 0) po_none (po_some pe_int)) pa_nil))
      (pps_cons pe_str pe_int (pps_cons pe_str pe_int (pps_cons pe_str pe_int pps_nil)))) (by rfl) (by rfl) (fun z => by cases z) (by decide))), ?_⟩
    obtain ⟨ms, hms⟩ := cut63 ns
    refine iRet (fun p hp => ?_)
    have s1 : Same H (upd H p (.dK [])) := same_new hp
    refine ⟨.ref a, rfl, 63, rfl, a, ns.map V.int, rfl, s1.seq hS, fun c hc => ?_⟩
    rw [hms]
    have s2 : Same (upd H p (.dK [])) (upd (upd H p (.dK [])) c (.lst (ms.map V.int))) := same_new hc
    refine ⟨c, ms.map V.int, rfl, .inl (sqL upd_same), fun l hl => ?_⟩
    have s3 : Same (upd (upd H p (.dK [])) c (.lst (ms.map V.int))) (upd (upd (upd H p (.dK [])) c (.lst (ms.map V.int))) l (.lst (ms.map V.int))) := same_new hl
    have hpp : (upd (upd (upd H p (.dK [])) c (.lst (ms.map V.int))) l (.lst (ms.map V.int))) p = some (.dK []) := s3 _ _ (s2 _ _ upd_same)
    refine ⟨hpp, feedKvs l 0 0 0, rfl, by show 4 ≤ 15; decide, ?_⟩
    have npl : l ≠ p := fun e => by
      rw [e, s2 _ _ upd_same] at hl
      cases hl
    refine q _ p l (fun b o e => ?_) ⟨ms, 0, 0, 0, upd_same, ?_⟩
    · rw [upd_ne (ne_of_none e hp)]
      exact s3 _ _ (s2 _ _ (s1 _ _ e))
    · rw [upd_ne npl, upd_same]
end
section
variable {P : Program} {w : World} {K : PySem.W.Frag} {mg : Str → Option Value} {base : Heap}
def prDraw : Pr := fun vs H Q => ∃ (F L : Addr) (m : Int), vs = [.ref F, .int m] ∧ FeedAt H F L ∧ 0 < m ∧ m < 1000 ∧
  ∀ d H', 0 ≤ d → d < m → KeepF F H H' → FeedAt H' F L → Q (.int d) H'
theorem ok_draw {f : Addr} {fd : FuncData} {k : Nat} (F : Fun K "_law_draw" "_law_draw" sDraw f fd) (ml : mg "len" = none) : FnG P w K mg base (k + 1) f fd ["_law_feed_here", "_law_many"] prDraw := by
  refine okG F scDraw (fun vs H Q h => ?_) (fun cdv A outer s H vs Q hr h => ?_)
  · obtain ⟨_, _, _, rfl, _⟩ := h
    rfl
  · obtain ⟨F, L, m, rfl, ⟨ns, a, l, n, hF, hL⟩, m1, m2, q⟩ := h
    have hu := hu_of hr.room
    refine ⟨_, pss_cons (ps_dput hu (pv 0) pe_str (pe_op op_add (pe_dget hu (pv 0) pe_str (fun _ _ => rfl)) pe_int) rfl)
      (pss_cons (ps_if (pt_cmpR op_gt (pe_dget hu (pv 0) pe_str (fun _ _ => rfl)) pe_int (nomark _))
        (pss_cons (ps_set (i := 2) scDraw.nd rfl (.inl rfl) (pe_op op_mod (pe_dget hu (pv 0) pe_str (fun _ _ => rfl)) (pv 1)))
          (pss_cons (ps_dput hu (pv 0) pe_str (pe_op op_fdiv (pe_dget hu (pv 0) pe_str (fun _ _ => rfl)) (pv 1)) rfl)
          (pss_one (ps_ret (pv 2))))) pss_nil)
      (pss_cons (ps_set (i := 3) scDraw.nd rfl (.inl rfl) (pe_dget hu (pv 0) pe_str (fun _ _ => rfl)))
      (pss_cons (ps_dput hu (pv 0) pe_str (pe_op op_add (pv 3) pe_int) rfl)
      (pss_cons (ps_set (i := 4) scDraw.nd rfl (.inl rfl) (pe_ifExp (pt_cmpR (op_neD hr.room.units) (pe_dget hu (pv 0) pe_str (fun _ _ => rfl)) (pe_lst pa_nil) (nomark _))
        (pe_ix ix_list (pe_dget hu (pv 0) pe_str (fun _ _ => rfl)) (pe_op op_mod (pv 3) (pe_callB call_len_seq (by rfl) ml PySem.boot_len (pa_cons (pe_dget hu (pv 0) pe_str (fun _ _ => rfl)) pa_nil))) (fun _ _ => rfl)) pe_int))
      (pss_cons (ps_if (PW.pt (pw_and (pt_cmpR op_ge (pv 4) (pe_op op_pow pe_int pe_int) (nomark _)) (pw_and1 (pt_cmpR op_lt (pv 3) (pe_callB call_len_seq (by rfl) ml PySem.boot_len (pa_cons (pe_dget hu (pv 0) pe_str (fun _ _ => rfl)) pa_nil)) (nomark _)))))
        (pss_cons (ps_dput hu (pv 0) pe_str (pe_op op_fdiv (pv 4) (pv 1)) rfl) (pss_one (ps_ret (pe_op op_mod (pv 4) (pv 1))))) pss_nil)
      (pss_cons (ps_set (i := 5) scDraw.nd rfl (.inl rfl) (pe_op op_mod (pe_op op_add (pe_op op_add (pe_op op_mod (pv 4) pe_int) (pe_op op_mul pe_int (pe_dget hu (pv 0) pe_str (fun _ _ => rfl)))) pe_int) pe_int))
      (pss_cons (ps_set (i := 5) scDraw.nd rfl (.inl rfl) (pe_op op_mod (pe_op op_add (pe_op op_add (pe_op op_pow (pv 5) pe_int) (pe_op op_mul pe_int (pe_dget hu (pv 0) pe_str (fun _ _ => rfl)))) pe_int) pe_int))
      (pss_one (ps_ret (pe_op op_mod (pe_op op_fdiv (pe_op op_mod (pe_op op_add (pe_op op_pow (pv 5) pe_int) (pe_op op_mul pe_int (pv 5))) pe_int) pe_int) (pv 1))))))))))), ?_⟩
    have nLF : L ≠ F := ne_of hL hF fun z => nomatch z
    -- count
    refine ⟨.ref F, rfl, F, .int n, rfl, dg_count hF, n, 1, rfl, rfl, .ref F, rfl, F, _, rfl, dp_count hF, ?_⟩
    have hF1 : (upd H F (.dK (feedKvs L a l (n + 1)))) F = some (.dK (feedKvs L a l (n + 1))) := upd_same
    have hL1 : (upd H F (.dK (feedKvs L a l (n + 1)))) L = some (.lst (ns.map V.int)) := by
      rw [upd_ne nLF]
      exact hL
    have k1 : KeepF F H (upd H F (.dK (feedKvs L a l (n + 1)))) := fun b o h e => by
      rw [upd_ne h]
      exact e
    generalize upd H F (.dK (feedKvs L a l (n + 1))) = H1 at hF1 hL1 k1 ⊢
    -- left
    refine ⟨.ref F, rfl, F, .int l, rfl, dg_left hF1, l, 0, rfl, rfl, _, rfl, ite2 (fun e => ?_) (fun e => ?_)⟩
    · refine ⟨.ref F, rfl, F, .int l, rfl, dg_left hF1, .int m, rfl, l, m, rfl, rfl, m1, ?_⟩
      refine ⟨.ref F, rfl, F, .int l, rfl, dg_left hF1, .int m, rfl, l, m, rfl, rfl, ⟨m1, by omega⟩, .ref F, rfl, F, _, rfl, dp_left hF1, ?_⟩
      refine ⟨.int (l % m), rfl, q _ _ (Int.emod_nonneg _ (by omega)) (Int.emod_lt_of_pos _ m1) (k1.trans fun b o h e => ?_) ⟨ns, a, l / m, n + 1, upd_same, ?_⟩⟩
      · rw [upd_ne h]
        exact e
      · rw [upd_ne nLF]
        exact hL1
    · -- at
      refine ⟨.ref F, rfl, F, .int a, rfl, dg_at hF1, ?_⟩
      refine ⟨.int a, rfl, a, 1, rfl, rfl, .ref F, rfl, F, _, rfl, dp_at hF1, ?_⟩
      have hF2 : (upd H1 F (.dK (feedKvs L (a + 1) l (n + 1)))) F = some (.dK (feedKvs L (a + 1) l (n + 1))) := upd_same
      have hL2 : (upd H1 F (.dK (feedKvs L (a + 1) l (n + 1)))) L = some (.lst (ns.map V.int)) := by
        rw [upd_ne nLF]
        exact hL1
      have k2 : KeepF F H (upd H1 F (.dK (feedKvs L (a + 1) l (n + 1)))) := k1.trans fun b o h e => by
        rw [upd_ne h]
        exact e
      generalize upd H1 F (.dK (feedKvs L (a + 1) l (n + 1))) = H2 at hF2 hL2 k2 ⊢
      -- the cell
      dsimp only
      refine iSeq (iAsg ?_)
      refine split_k (fun v H3 => ∃ c, v = .int c ∧ H3 F = some (.dK (feedKvs L (a + 1) l (n + 1))) ∧ H3 L = some (.lst (ns.map V.int)) ∧ KeepF F H H3) (fun Q' hQ' => ?_) (fun v H3 hv => ?_)
      · refine ⟨.ref F, rfl, F, .ref L, rfl, dg_cells hF2, Nat.zero_le _, fun p hp => ?_⟩
        have s3 : Same H2 (upd H2 p (.lst [])) := same_new hp
        have k3 : KeepF F H (upd H2 p (.lst [])) := k2.trans (KeepF.of s3)
        refine ⟨.list (ns.map PyData.int), .list [], .lst (sqL (s3 _ _ hL2)) (dp_ints ns), .lst (sqL upd_same) .nil, shaped_ints ns, shaped_nil, _, rfl, ?_⟩
        cases ns with
        | nil => exact iteF (hQ' _ _ ⟨59, rfl, s3 _ _ hF2, s3 _ _ hL2, k3⟩)
        | cons x ns =>
          refine iteT ?_
          refine ⟨.ref F, rfl, F, .ref L, rfl, dg_cells (s3 _ _ hF2), .int a, rfl, .ref F, rfl, F, .ref L, rfl, dg_cells (s3 _ _ hF2), L, _, rfl, .inl (sqL (s3 _ _ hL2)), a, (((x :: ns).map V.int).length : Int), rfl, rfl, ?_, ?_⟩
          · rw [List.length_map, List.length_cons]
            show (0 : Int) < ((ns.length + 1 : Nat) : Int)
            omega
          · have hlen : (0 : Int) < (((x :: ns).map V.int).length : Int) := by
              rw [List.length_map, List.length_cons]
              omega
            have h0 := Int.emod_nonneg a (show (((x :: ns).map V.int).length : Int) ≠ 0 by omega)
            have h1 := Int.emod_lt_of_pos a hlen
            obtain ⟨jn, ej⟩ : ∃ jn : Nat, a % (((x :: ns).map V.int).length : Int) = (jn : Int) := ⟨(a % (((x :: ns).map V.int).length : Int)).toNat, by omega⟩
            have hj : jn < ((x :: ns).map V.int).length := by omega
            have hjn : jn < (x :: ns).length := by rw [List.length_map] at hj; exact hj
            refine ⟨L, _, _, .int (x :: ns)[jn], rfl, rfl, sqL (s3 _ _ hL2), (by rw [ej]; exact atI_nat (j := jn) (by rw [List.getElem?_map, List.getElem?_eq_getElem hjn]; rfl)), hQ' _ _ ⟨_, rfl, s3 _ _ hF2, s3 _ _ hL2, k3⟩⟩
      · obtain ⟨c, rfl, hF3, hL3, k3⟩ := hv
        -- if cell >= 10 ** 18 and at < len(cells)
        refine iName ?_
        dsimp only
        refine iSeq ?_
        refine split_s (fun σ' H' => σ' = [some (.ref F), some (.int m), none, some (.int a), some (.int c), none] ∧ H' = H3) (fun nx hnx => ?_) (fun σ' H' hx => ?_)
        · refine ⟨.int c, rfl, 10, 18, rfl, rfl, ⟨by decide, by decide, by decide⟩, c, _, rfl, rfl, _, rfl, ite2 (fun e1 => ?_) (fun e1 => ?_)⟩
          · refine ⟨.int a, rfl, .ref F, rfl, F, .ref L, rfl, dg_cells hF3, L, _, rfl, .inl (sqL hL3), a, _, rfl, rfl, _, rfl, ite2 (fun e2 => ?_) (fun e2 => ?_)⟩
            · refine ⟨.int c, rfl, .int m, rfl, c, m, rfl, rfl, ⟨m1, by omega⟩, .ref F, rfl, F, _, rfl, dp_left hF3, ?_⟩
              refine ⟨.int c, rfl, .int m, rfl, c, m, rfl, rfl, m1, q _ _ (Int.emod_nonneg _ (by omega)) (Int.emod_lt_of_pos _ m1) (k3.trans fun b o h e => ?_) ⟨ns, a + 1, c / m, n + 1, upd_same, ?_⟩⟩
              · rw [upd_ne h]
                exact e
              · rw [upd_ne nLF]
                exact hL3
            · exact hnx _ _ ⟨rfl, rfl⟩
          · exact iteF (hnx _ _ ⟨rfl, rfl⟩)
        · obtain ⟨rfl, rfl⟩ := hx
          dsimp only
          -- mixed
          refine ⟨.int c, rfl, c, 1000001353, rfl, rfl, (by decide : (0 : Int) < 1000001353), .ref F, rfl, F, .int (n + 1), rfl, dg_count hF3, 81157, n + 1, rfl, rfl, .inl ⟨by decide, by decide⟩, _, _, rfl, rfl, _, 509, rfl, rfl, _, 2147483579, rfl, rfl, (by decide : (0 : Int) < 2147483579), ?_⟩
          dsimp only
          have b0 := Int.emod_nonneg (c % 1000001353 + 81157 * (n + 1) + 509) (show (2147483579 : Int) ≠ 0 by decide)
          have b1 := Int.emod_lt_of_pos (c % 1000001353 + 81157 * (n + 1) + 509) (show (0 : Int) < 2147483579 by decide)
          generalize (c % 1000001353 + 81157 * (n + 1) + 509) % 2147483579 = x at b0 b1 ⊢
          refine ⟨.int x, rfl, x, 3, rfl, rfl, ⟨by decide, by decide, by omega⟩, .ref F, rfl, F, .int (n + 1), rfl, dg_count hF3, 6100243, n + 1, rfl, rfl, .inl ⟨by decide, by decide⟩, _, _, rfl, rfl, _, 251, rfl, rfl, _, 2147483549, rfl, rfl, (by decide : (0 : Int) < 2147483549), ?_⟩
          dsimp only
          have d0 := Int.emod_nonneg (x ^ (3 : Int).toNat + 6100243 * (n + 1) + 251) (show (2147483549 : Int) ≠ 0 by decide)
          have d1 := Int.emod_lt_of_pos (x ^ (3 : Int).toNat + 6100243 * (n + 1) + 251) (show (0 : Int) < 2147483549 by decide)
          have e2 : ∀ z : Int, 0 ≤ z → z < 2147483549 → z.natAbs < 2 ^ 64 := fun z h0 h1 => by omega
          refine ⟨_, rfl, _, 3, rfl, rfl, ⟨by decide, by decide, e2 _ d0 d1⟩, _, rfl, 263, _, rfl, rfl, .inl ⟨by decide, by decide⟩, _, _, rfl, rfl, _, 2147483497, rfl, rfl, (by decide : (0 : Int) < 2147483497), _, 32, rfl, rfl, ⟨by decide, by decide⟩, .int m, rfl, _, m, rfl, rfl, m1, ?_⟩
          exact q _ _ (Int.emod_nonneg _ (by omega)) (Int.emod_lt_of_pos _ m1) k3 ⟨ns, a + 1, l, n + 1, hF3, hL3⟩
end
end P19
namespace P19
open PySem PySem.Spec PyProof.Rows L2 AskG
abbrev sAny : Stmt := topS 8
abbrev sDays : Stmt := topS 9
abbrev sLQ : Stmt := topS 10
theorem scAny : FnScope ["_law_feed_here", "_law_some"] ["_law_feed_here", "_law_some"] (defScope sAny) := ⟨rfl, rfl, rfl, by decide +kernel, rfl, by decide +kernel, by decide +kernel⟩
theorem scDays : FnScope ["_law_right_nowss", "_law_day_nowss", "_law_kind"] ["_law_right_nowss", "_law_day_nowss"] (defScope sDays) := ⟨rfl, rfl, rfl, by decide +kernel, rfl, by decide +kernel, by decide +kernel⟩
theorem scLQ : FnScope ["_law_right_nowss", "_law_day_nowss", "_law_cells", "_law_one", "_law_account", "_law_weight"] ["_law_right_nowss", "_law_day_nowss"] (defScope sLQ) := ⟨rfl, rfl, rfl, by decide +kernel, rfl, by decide +kernel, by decide +kernel⟩
theorem iDrop' {te : TE} {D : Ends} {σ : L2.St} {H : Hp} (h : te σ H fun _ H1 => D.nx σ H1) : tDrop te D σ H := h
theorem paired_app {α β : Type} {R : α → β → Prop} : ∀ {a c : List α} {b d : List β}, Paired R a b → Paired R c d → Paired R (a ++ c) (b ++ d)
  | _, _, _, _, .nil, h => h
  | _, _, _, _, .cons h t, g => .cons h (paired_app t g)
section
variable {P : Program} {w : World} {K : PySem.W.Frag} {mg : Str → Option Value} {base : Heap}
variable {fD fY : Addr} {fdD fdY : FuncData}
def prAny : Pr := fun vs H Q => ∃ (F L l : Addr) (xs : List V), vs = [.ref F, .ref l] ∧ FeedAt H F L ∧ H l = some (.lst xs) ∧ 0 < xs.length ∧ xs.length ≤ 100 ∧
  ∀ H' x, x ∈ xs → KeepF F H H' → FeedAt H' F L → Q x H'
theorem ok_any {f : Addr} {fd : FuncData} {k : Nat} (F : Fun K "_law_any" "_law_any" sAny f fd)
    (FD : Fun K "_law_draw" "_law_draw" sDraw fD fdD) (bD : Binds K fdD ["_law_feed_here", "_law_many"] []) (gD : mg "_law_draw" = some (.ref fD)) (ml : mg "len" = none) : FnG P w K mg base (k + 2) f fd ["_law_feed_here", "_law_some"] prAny := by
  have GD : FnG P w K mg base (k + 1) fD fdD ["_law_feed_here", "_law_many"] prDraw := ok_draw FD ml
  refine okG F scAny (fun vs H Q h => ?_) (fun cdv A outer s H vs Q hr h => ?_)
  · obtain ⟨_, _, _, _, rfl, _⟩ := h
    rfl
  · obtain ⟨F, L, l, xs, rfl, hF, hl, x0, x1, q⟩ := h
    have nlF : l ≠ F := by
      obtain ⟨_, _, _, _, e, _⟩ := hF
      exact ne_of hl e fun z => nomatch z
    refine ⟨_, pss_one (ps_ret (pe_ix (ix_list : IxR _ (rIxL K)) (pv 1) (pe_g GD hr (by rfl) gD FD.kp bD .nil (pa_cons (pv 0) (pa_cons (pe_callB call_len_seq (by rfl) ml PySem.boot_len (pa_cons (pv 1) pa_nil)) pa_nil))) (fun _ _ => rfl))), ?_⟩
    refine iRet (iOp ⟨.ref l, rfl, .ref F, rfl, .ref l, rfl, l, xs, rfl, .inl (sqL hl), F, L, (xs.length : Int), rfl, hF, by omega, by omega, fun d H' d0 d1 k' hF' => ?_⟩)
    obtain ⟨n, rfl⟩ : ∃ n : Nat, d = (n : Int) := ⟨d.toNat, by omega⟩
    have hn : n < xs.length := by omega
    exact ⟨l, xs, _, xs[n], rfl, rfl, sqL (k' _ _ nlF hl), atI_nat (List.getElem?_eq_getElem hn), q H' _ (List.getElem_mem hn) k' hF'⟩
def prDays : Pr := fun vs H Q => ∃ (a : Addr) (R : Rt) (t : Int), vs = [.ref a, .int t] ∧ RightAt H a R ∧ R.kind.Ok ∧ 0 ≤ t ∧ t ≤ 9 ∧ ∀ p, H p = none → Q (.ref p) (upd H p (.lst ((daysOf (R.kind.lo t) (R.kind.hi t)).map V.int)))
theorem rg_days (lo hi : Int) : rgV lo (hi + 1) = (daysOf lo hi).map V.int := by
  unfold rgV daysOf
  rw [List.map_map]
  rfl
theorem ok_days {f : Addr} {fd : FuncData} {k : Nat} (F : Fun K "_law_days_of" "_law_days_of" sDays f fd) (mx : mg "max" = none) (mn : mg "min" = none) (mls : mg "list" = none) (mr : mg "range" = none) : FnG P w K mg base (k + 1) f fd ["_law_right_nowss", "_law_day_nowss"] prDays := by
  refine okG F scDays (fun vs H Q h => ?_) (fun cdv A outer s H vs Q hr h => ?_)
  · obtain ⟨_, _, _, rfl, _⟩ := h
    rfl
  · obtain ⟨a, ⟨pn, ws, fi, la, kd⟩, t, rfl, hR, hk, t0, t9, q⟩ := h
    obtain ⟨b1, b2, b3, b4⟩ := kind_bounds hk t0 t9
    obtain ⟨wa, ps, ka, h1, h2, h3, h4⟩ := hR
    have rg : ∀ {lo hi : Int}, 0 ≤ lo → lo ≤ 30 → hi ≤ 9 → 0 ≤ hi → RgOk lo (hi + 1) := fun h1 h2 h3 h4 => ⟨by omega, by omega, by omega, by omega, by omega⟩
    refine ⟨_, pss_cons (ps_set (i := 2) scDays.nd rfl (.inl rfl) (pe_ix (ix_tup : IxR _ (rIxT K)) (pv 0) pe_int (fun _ _ => rfl)))
      (pss_cons (ps_if (pt_cmpR op_eq (pe_ix (ix_tup : IxR _ (rIxT K)) (pv 2) pe_int (fun _ _ => rfl)) pe_str (nomark _)) (pss_one (ps_ret (pe_listRg rfl (by rfl) mls (prg_2 (by rfl) mr (pe_ix (ix_tup : IxR _ (rIxT K)) (pv 2) pe_int (fun _ _ => rfl)) (pe_op op_add (pv 1) pe_int))))) pss_nil)
      (pss_cons (ps_if (pt_cmpR op_eq (pe_ix (ix_tup : IxR _ (rIxT K)) (pv 2) pe_int (fun _ _ => rfl)) pe_str (nomark _)) (pss_one (ps_ret (pe_listRg rfl (by rfl) mls (prg_2 (by rfl) mr (pe_callB (call_max2 rfl) (by rfl) mx (by decide +kernel) (pa_cons pe_int (pa_cons (pe_op op_add (pe_op op_sub (pv 1) (pe_ix (ix_tup : IxR _ (rIxT K)) (pv 2) pe_int (fun _ _ => rfl))) pe_int) pa_nil))) (pe_op op_add (pv 1) pe_int))))) pss_nil)
      (pss_one (ps_ret (pe_listRg rfl (by rfl) mls (prg_2 (by rfl) mr (pe_ix (ix_tup : IxR _ (rIxT K)) (pv 2) pe_int (fun _ _ => rfl)) (pe_op op_add (pe_callB (call_min2 rfl) (by rfl) mn (by decide +kernel) (pa_cons (pe_ix (ix_tup : IxR _ (rIxT K)) (pv 2) pe_int (fun _ _ => rfl)) (pa_cons (pv 1) pa_nil))) pe_int))))))), ?_⟩
    refine iSeq (iAsg ⟨.ref a, rfl, a, _, _, _, rfl, rfl, sqT h1, atI_nat (j := 4) rfl, ?_⟩)
    refine iName ?_
    dsimp only
    refine iSeq ?_
    cases kd with
    | tot s0 =>
      refine ⟨.ref ka, rfl, ka, _, _, _, rfl, rfl, sqT h4, atI_nat (j := 0) rfl, rfl, _, rfl, ?_⟩
      refine iteT (iRet ⟨.ref ka, rfl, ka, _, _, _, rfl, rfl, sqT h4, atI_nat (j := 1) rfl, .int t, rfl, t, 1, rfl, rfl, s0, t + 1, rfl, rfl, rg b1 b2 b3 b4, fun p hp => ?_⟩)
      rw [rg_days]
      exact q p hp
    | win l =>
      refine ⟨.ref ka, rfl, ka, _, _, _, rfl, rfl, sqT h4, atI_nat (j := 0) rfl, rfl, _, rfl, ?_⟩
      refine iteF (iNext ?_)
      dsimp only
      refine iSeq ⟨.ref ka, rfl, ka, _, _, _, rfl, rfl, sqT h4, atI_nat (j := 0) rfl, rfl, _, rfl, ?_⟩
      refine iteT (iRet ⟨.int t, rfl, .ref ka, rfl, ka, _, _, _, rfl, rfl, sqT h4, atI_nat (j := 1) rfl, t, l, rfl, rfl, t - l, 1, rfl, rfl, 0, t - l + 1, rfl, .int t, rfl, t, 1, rfl, rfl, _, t + 1, rfl, rfl, rg b1 b2 b3 b4, fun p hp => ?_⟩)
      rw [rg_days]
      exact q p hp
    | per b e =>
      refine ⟨.ref ka, rfl, ka, _, _, _, rfl, rfl, sqT h4, atI_nat (j := 0) rfl, rfl, _, rfl, ?_⟩
      refine iteF (iNext ?_)
      dsimp only
      refine iSeq ⟨.ref ka, rfl, ka, _, _, _, rfl, rfl, sqT h4, atI_nat (j := 0) rfl, rfl, _, rfl, ?_⟩
      refine iteF (iNext ?_)
      dsimp only
      refine iRet ⟨.ref ka, rfl, ka, _, _, _, rfl, rfl, sqT h4, atI_nat (j := 1) rfl, .ref ka, rfl, ka, _, _, _, rfl, rfl, sqT h4, atI_nat (j := 2) rfl, .int t, rfl, e, t, rfl, _, 1, rfl, rfl, b, _, rfl, rfl, rg b1 b2 b3 b4, fun p hp => ?_⟩
      rw [rg_days]
      exact q p hp
def prLQ : Pr := fun vs H Q => ∃ (a : Addr) (R : Rt) (t : Int), vs = [.ref a, .int t] ∧ RightAt H a R ∧ RtOk R ∧ NamesUp R.ws ∧ 0 ≤ t ∧ t ≤ 9 ∧
  ∀ H', Same H H' → (usedB R t = false → Q .non H') ∧ (usedB R t = true → ∀ p, RowAt H' p (rowQ R t) → Q (.ref p) H')
theorem ok_lq {f : Addr} {fd : FuncData} {k : Nat} (F : Fun K "_law_question" "_law_question" sLQ f fd)
    (FY : Fun K "_law_days_of" "_law_days_of" sDays fY fdY) (bY : Binds K fdY ["_law_right_nowss", "_law_day_nowss"] []) (gY : mg "_law_days_of" = some (.ref fY))
    (mx : mg "max" = none) (mn : mg "min" = none) (mls : mg "list" = none) (mr : mg "range" = none) (mt : mg "tuple" = none) (ms : mg "sorted" = none) : FnG P w K mg base (k + 2) f fd ["_law_right_nowss", "_law_day_nowss"] prLQ := by
  have GY : FnG P w K mg base (k + 1) fY fdY ["_law_right_nowss", "_law_day_nowss"] prDays := ok_days FY mx mn mls mr
  refine okG F scLQ (fun vs H Q h => ?_) (fun cdv A outer s H vs Q hr h => ?_)
  · obtain ⟨_, _, _, rfl, _⟩ := h
    rfl
  · obtain ⟨a, R, t, rfl, hR, ok, up, t0, t9, q⟩ := h
    have big := sizeBig
    have hun := hr.room.units
    obtain ⟨wa, ps, ka, h1, h2, h3, h4⟩ := id hR
    refine ⟨_, pss_cons (ps_if (pt_not (pt_chain op_le op_le (pe_ix (ix_tup : IxR _ (rIxT K)) (pv 0) pe_int (fun _ _ => rfl)) (pv 1) (pe_ix (ix_tup : IxR _ (rIxT K)) (pv 0) pe_int (fun _ _ => rfl)))) (pss_one (ps_ret pe_non)) pss_nil)
      (pss_cons (ps_set (i := 2) scLQ.nd rfl (.inl rfl) (pe_lst pa_nil))
      (pss_cons (ps_for PassesOwn.never rfl (pi_list (pe_g GY hr (by rfl) gY FY.kp bY .nil (pa_cons (pv 0) (pa_cons (pv 1) pa_nil)))) (pg_name (i := 3) scLQ.nd rfl (.inr rfl))
        (pss_one (ps_expr (pe_bm PySem.F.plainAttrs_list PySem.F.slot_list_extend PySem.F.type_list_extend mt_extend (pv 2) (pa_cons
          (pe_lc (own := [("_law_account", 4), ("_law_weight", 5)]) (g := g2 K 4 5) (tt := tYes) rfl scLQ.nd (pi_tup (pe_ix (ix_tup : IxR _ (rIxT K)) (pv 0) pe_int (fun _ _ => rfl))) (blkOk_by (N := ["_law_right_nowss", "_law_day_nowss", "_law_cells", "_law_one", "_law_account", "_law_weight"]) (sc := defScope sLQ) (by decide +kernel))
            (fun _ _ _ _ _ => pg_tup rfl (pgs_cons (pg_name (i := 4) scLQ.nd rfl (.inl rfl)) (pgs_cons (pg_name (i := 5) scLQ.nd rfl (.inl rfl)) pgs_nil))) (fun _ _ _ _ _ => pts_nil)
            (fun _ _ _ _ _ => pe_tup (pa_cons (pe_tup (pa_cons (pv 4) (pa_cons (pv 3) pa_nil))) (pa_cons (pv 5) pa_nil)))) pa_nil)))))
      (pss_one (ps_ret (pe_callTy call_tuple_of (by rfl) mt (by decide +kernel) (pa_cons (pe_callB (cr_sortX hun) (by rfl) ms (by decide +kernel) (pa_cons (pv 2) pa_nil)) pa_nil)))))), ?_⟩
    refine iSeq ?_
    refine split_s (fun σ' H' => σ' = [some (.ref a), some (.int t), none, none, none, none] ∧ H' = H ∧ usedB R t = true) (fun nx hnx => ?_) (fun σ' H' hx => ?_)
    · refine ⟨.ref a, rfl, a, _, _, _, rfl, rfl, sqT h1, atI_nat (j := 2) rfl, .int t, rfl, R.first, t, rfl, rfl, _, rfl, ?_⟩
      have q0 := q H (Same.refl _)
      have ub : usedB R t = (decide (R.first ≤ t) && decide (t ≤ R.last)) := rfl
      by_cases e : R.first ≤ t
      · rw [decide_eq_true e] at ub ⊢
        refine iteT ⟨.ref a, rfl, a, _, _, _, rfl, rfl, sqT h1, atI_nat (j := 3) rfl, t, R.last, rfl, rfl, _, rfl, ?_⟩
        rw [Bool.true_and] at ub
        by_cases e2 : t ≤ R.last
        · rw [decide_eq_true e2] at ub ⊢
          exact iteF (hnx _ _ ⟨rfl, rfl, ub⟩)
        · rw [decide_eq_false e2] at ub ⊢
          exact iteT (q0.1 ub)
      · rw [decide_eq_false e] at ub ⊢
        rw [Bool.false_and] at ub
        exact iteF ⟨_, rfl, iteT (q0.1 ub)⟩
    · obtain ⟨rfl, rfl, hu⟩ := hx
      dsimp only
      obtain ⟨b1, b2, b3, b4⟩ := kind_bounds ok.kind t0 t9
      refine iSeq (iAsg ⟨Nat.zero_le _, fun Lc hLc => ?_⟩)
      have s1 := same_new (o := .lst []) hLc
      refine iName ?_
      dsimp only
      refine iSeq ?_
      refine ⟨.ref a, rfl, .int t, rfl, a, R, t, rfl, hR.keep (KeepT.of s1), ok.kind, t0, t9, fun Ld hLd => ?_⟩
      have s2 := same_new (o := .lst ((daysOf (R.kind.lo t) (R.kind.hi t)).map V.int)) hLd
      have nLL : Ld ≠ Lc := fun z => by
        rw [z, upd_same] at hLd
        cases hLd
      have dl := days_len (R.kind.lo t) (R.kind.hi t)
      refine ⟨Ld, rfl, ⟨_, sqL upd_same⟩, ?_⟩
      refine for_list (xs := (daysOf (R.kind.lo t) (R.kind.hi t)).map V.int) (fun i σ' H' => (∃ x3, σ' = [some (.ref a), some (.int t), some (.ref Lc), x3, none, none]) ∧ Same _ H' ∧ H' Ld = some (.lst ((daysOf (R.kind.lo t) (R.kind.hi t)).map V.int)) ∧ ∃ qs, H' Lc = some (.lst (qs.map V.ref)) ∧ Paired (PairRow H') qs (flatDays R.ws ((daysOf (R.kind.lo t) (R.kind.hi t)).take i)))
        ⟨⟨none, rfl⟩, s1.trans s2, upd_same, [], s2 _ _ upd_same, .nil⟩ (fun i σ' H' _ h => sqL h.2.2.1) (fun i x σ' H' hx h => ?_) (fun σ' H' h => ?_)
      · obtain ⟨⟨x3, rfl⟩, sm, hLd', qs, hqs, hqq⟩ := h
        rw [List.getElem?_map] at hx
        obtain ⟨d, hdi, rfl⟩ := Option.map_eq_some_iff.mp hx
        refine iName ?_
        dsimp only
        refine iDrop' ⟨.ref Lc, rfl, .inl ⟨rfl, _, sqL hqs⟩, ?_⟩
        refine ⟨.ref a, rfl, a, _, _, _, rfl, rfl, sqT (sm _ _ h1), atI_nat (j := 1) rfl, wa, rfl, ⟨_, sqT (sm _ _ h2)⟩, fun D hD => ?_⟩
        refine lc_tup (xs := ps.map V.ref) (fun j H2 => Same H' H2 ∧ ∃ rs, H2 D = some (.lst (rs.map V.ref)) ∧ Paired (PairRow H2) rs ((R.ws.take j).map fun x => ((x.1, d), x.2))) ⟨same_new hD, [], upd_same, by rw [List.take_zero]; exact .nil⟩ (fun j H2 _ h => sqT (h.1 _ _ (sm _ _ h2))) (fun j x H2 hx h => ?_) (fun H2 h => ?_)
        · rw [List.getElem?_map] at hx
          obtain ⟨pj, hpj, rfl⟩ := Option.map_eq_some_iff.mp hx
          obtain ⟨c, hc, hcell⟩ := paired_at' h3 hpj
          obtain ⟨sm2, rs, hrs, hrr⟩ := h
          have rl := Paired.length hrr
          refine ⟨pj, _, rfl, sqT (sm2 _ _ (sm _ _ hcell)), rfl, .str c.1, _, rfl, .int c.2, _, rfl, rfl, rfl, iYes (iteT ?_)⟩
          refine ⟨.str c.1, rfl, .int d, rfl, by show 2 ≤ sizeLine; omega, fun p1 hp1 => ⟨.int c.2, rfl, by show 2 ≤ sizeLine; omega, fun p2 hp2 => ?_⟩⟩
          have c1 := same_new (o := .tup [.str c.1, .int d]) hp1
          have c2 := same_new (o := .tup [.ref p1, .int c.2]) hp2
          have c12 := c1.trans c2
          have hDp := c12 _ _ hrs
          have m3 := ok.many
          refine ⟨_, hDp, by rw [List.length_map]; rw [List.length_map, List.length_take] at rl; omega, fun b o e => ?_, rs ++ [p2], by rw [upd_same, List.map_append]; rfl, ?_⟩
          · rw [upd_ne (ne_of_none e hD)]
            exact c12 _ _ (sm2 _ _ e)
          · have kp : KeepT _ (upd _ D (.lst (rs.map V.ref ++ [.ref p2]))) := KeepT.put hDp fun _ z => nomatch z
            rw [List.take_add_one, hc, List.map_append]
            exact Paired.snoc (Paired.mapP hrr fun _ _ z => (z.keep (KeepT.of c12)).keep kp) ⟨p1, kp _ _ upd_same, kp _ _ (c2 _ _ upd_same)⟩
        · obtain ⟨sm2, rs, hrs, hrr⟩ := h
          rw [List.length_map, Paired.length h3, List.take_length] at hrr
          have ql := Paired.length hqq
          have rl := Paired.length hrr
          rw [List.length_map] at rl
          have fl : (flatDays R.ws ((daysOf (R.kind.lo t) (R.kind.hi t)).take i)).length ≤ 10 * 3 := by
            rw [flat_len, List.length_take, dl]
            exact Nat.mul_le_mul (by omega) ok.many
          have m3 := ok.many
          have nDc : Lc ≠ D := ne_of_none hqs hD
          refine ⟨Lc, D, qs.map V.ref, rs.map V.ref, rfl, rfl, sm2 _ _ hqs, hrs, by rw [List.length_map, List.length_map]; omega, ?_⟩
          have kp : KeepT _ (upd _ Lc (.lst (qs.map V.ref ++ rs.map V.ref))) := KeepT.put (sm2 _ _ hqs) fun _ z => nomatch z
          refine ⟨⟨_, rfl⟩, fun b o e => ?_, ?_, qs ++ rs, by rw [upd_same, List.map_append], ?_⟩
          · rw [upd_ne (ne_of_none e hLc)]
            exact sm2 _ _ (sm _ _ e)
          · rw [upd_ne nLL]
            exact sm2 _ _ hLd'
          · rw [flat_snoc hdi]
            exact paired_app (Paired.mapP hqq fun _ _ z => (z.keep (KeepT.of sm2)).keep kp) (Paired.mapP hrr fun _ _ z => z.keep kp)
      · obtain ⟨⟨x3, rfl⟩, sm, hLd', qs, hqs, hqq⟩ := h
        dsimp only
        rw [List.length_map, List.take_length] at hqq
        refine iRet ⟨.ref Lc, rfl, Lc, qs, _, rfl, sqL hqs, hqq, fun ys π p hpm hst hyy hp => ?_⟩
        have e := sorted_flat up hpm hst
        subst e
        have s5 := same_new (o := .lst (ys.map V.ref)) hp
        refine ⟨p, _, rfl, .inl ⟨sqL upd_same, fun p2 hp2 => ?_⟩⟩
        have s6 := same_new (o := .tup (ys.map V.ref)) hp2
        refine (q _ ((sm.trans s5).trans s6)).2 hu p2 ⟨ys, upd_same, Paired.mapP hyy fun _ _ z => z.keep (KeepT.of (s5.trans s6))⟩
end
end P19
namespace P19
open PySem PySem.Spec PyProof.Rows L2 AskG
abbrev sWs : Stmt := topS 11
abbrev sRt : Stmt := topS 12
abbrev sAcc : Stmt := topS 13
theorem scWs : FnScope ["_law_feed_here", "_law_accounts_here", "_law_found", "_law_account", "_law_weight"] ["_law_feed_here", "_law_accounts_here"] (defScope sWs) := ⟨rfl, rfl, rfl, by decide +kernel, rfl, by decide +kernel, by decide +kernel⟩
theorem scRt : FnScope ["_law_feed_here", "_law_accounts_here", "_law_day_nowss", "_law_first", "_law_last", "_law_way", "_law_start", "_law_kind"] ["_law_feed_here", "_law_accounts_here", "_law_day_nowss"] (defScope sRt) := ⟨rfl, rfl, rfl, by decide +kernel, rfl, by decide +kernel, by decide +kernel⟩
theorem scAcc : FnScope ["_law_feed_here"] ["_law_feed_here"] (defScope sAcc) := ⟨rfl, rfl, rfl, by decide +kernel, rfl, by decide +kernel, by decide +kernel⟩
/-- the accounts of the law -/
def accL : List (List Str) := [["a"], ["a", "b"], ["a", "b"], ["a", "b", "dd"]]
structure AccOk (ns : List Str) : Prop where
  one : ns ≠ []
  many : ns.length ≤ 3
  cell : ∀ n ∈ ns, CellOk (n, 0)
  up : ns.Pairwise fun a b => a.cps.toList < b.cps.toList
theorem acc_ok : ∀ ns ∈ accL, AccOk ns := by
  have h : ∀ ns ∈ accL, (ns ≠ [] ∧ ns.length ≤ 3) ∧ (ns.all fun n => cellB (n, 0)) = true ∧ ns.Pairwise fun a b => a.cps.toList < b.cps.toList := by
    unfold accL
    intro ns hns
    simp only [List.mem_cons, List.not_mem_nil, or_false] at hns
    rcases hns with rfl | rfl | rfl | rfl
    · exact ⟨⟨by simp, by decide⟩, by decide +kernel, by decide +kernel⟩
    · exact ⟨⟨by simp, by decide⟩, by decide +kernel, by decide +kernel⟩
    · exact ⟨⟨by simp, by decide⟩, by decide +kernel, by decide +kernel⟩
    · exact ⟨⟨by simp, by decide⟩, by decide +kernel, by decide +kernel⟩
  exact fun ns hns => ⟨(h ns hns).1.1, (h ns hns).1.2, fun n hn => cellOk_of (List.all_eq_true.mp (h ns hns).2.1 n hn), (h ns hns).2.2⟩
structure WsOk (ns : List Str) (ws : List Cell) : Prop where
  sub : (ws.map (·.1)).Sublist ns
  lit : ∀ x ∈ ws, -3 ≤ x.2 ∧ x.2 ≤ 3
theorem small_lit {i : Int} (h : -1000 ≤ i ∧ i ≤ 1000) : i.natAbs.log2 < 1920 := by
  by_cases z : i.natAbs = 0
  · rw [z]
    decide
  · have : i.natAbs < 2 ^ 10 := by omega
    have := (Nat.log2_lt z).mpr this
    omega
theorem WsOk.cells {ns : List Str} {ws : List Cell} (h : WsOk ns ws) (a : ∀ n ∈ ns, CellOk (n, 0)) : ∀ x ∈ ws, CellOk x := fun x hx => by
  have c := a x.1 (h.sub.subset (List.mem_map_of_mem hx))
  have l := h.lit x hx
  exact ⟨c.short, c.plain, c.ok, small_lit (by omega)⟩
theorem WsOk.up {ns : List Str} {ws : List Cell} (h : WsOk ns ws) (a : ns.Pairwise fun a b => a.cps.toList < b.cps.toList) : NamesUp ws := by
  have := a.sublist h.sub
  rw [List.pairwise_map] at this
  exact this
theorem WsOk.many {ns : List Str} {ws : List Cell} (h : WsOk ns ws) (a : ns.length ≤ 3) : ws.length ≤ 3 := by
  have := h.sub.length_le
  rw [List.length_map] at this
  omega
theorem shaped_cells {ws : List Cell} (h : ∀ x ∈ ws, CellOk x) : SeqAt.shaped (.list (ws.map AskG.cellD)) = true := by
  have h1 : PyData.canLayAll0 (ws.map AskG.cellD) = true := can_all fun x hx => by
    show ((PyData.strOk x.1) && (true && true)) = true
    rw [(h x hx).ok]
    rfl
  have h2 : PyData.depthAll (ws.map AskG.cellD) ≤ 1 := depth_all fun x _ => by
    show max 0 (max 0 0) + 1 ≤ 1
    decide
  show (PyData.canLayAll0 (ws.map AskG.cellD) && decide (PyData.depthAll (ws.map AskG.cellD) + 1 ≤ 64)) = true
  rw [h1, decide_eq_true (by omega)]
  rfl
section
variable {P : Program} {w : World} {K : PySem.W.Frag} {mg : Str → Option Value} {base : Heap}
variable {fD fY fW : Addr} {fdD fdY fdW : FuncData}
def prAcc : Pr := fun vs H Q => ∃ (F L : Addr), vs = [.ref F] ∧ FeedAt H F L ∧ ∀ H' p ns, KeepF F H H' → FeedAt H' F L → H' p = some (.tup (ns.map V.str)) → AccOk ns → Q (.ref p) H'
theorem ok_acc {f : Addr} {fd : FuncData} {k : Nat} (F : Fun K "_law_accounts" "_law_accounts" sAcc f fd)
    (FD : Fun K "_law_draw" "_law_draw" sDraw fD fdD) (bD : Binds K fdD ["_law_feed_here", "_law_many"] []) (gD : mg "_law_draw" = some (.ref fD)) (ml : mg "len" = none) : FnG P w K mg base (k + 2) f fd ["_law_feed_here"] prAcc := by
  have GD : FnG P w K mg base (k + 1) fD fdD ["_law_feed_here", "_law_many"] prDraw := ok_draw FD ml
  refine okG F scAcc (fun vs H Q h => ?_) (fun cdv A outer s H vs Q hr h => ?_)
  · obtain ⟨_, _, rfl, _⟩ := h
    rfl
  · obtain ⟨F, L, rfl, hF, q⟩ := h
    refine ⟨_, pss_one (ps_ret (pe_ix (ix_list : IxR _ (rIxL K)) (pe_lst (pa_cons (pe_tup (pa_cons pe_str pa_nil)) (pa_cons (pe_tup (pa_cons pe_str (pa_cons pe_str pa_nil))) (pa_cons (pe_tup (pa_cons pe_str (pa_cons pe_str pa_nil))) (pa_cons (pe_tup (pa_cons pe_str (pa_cons pe_str (pa_cons pe_str pa_nil)))) pa_nil)))))
      (pe_g GD hr (by rfl) gD FD.kp bD .nil (pa_cons (pv 0) (pa_cons pe_int pa_nil))) (fun _ _ => rfl))), ?_⟩
    refine iRet (iOp ?_)
    refine ⟨by show 1 ≤ sizeLine; decide, fun a1 h1 => ⟨by show 2 ≤ sizeLine; decide, fun a2 h2 => ⟨by show 2 ≤ sizeLine; decide, fun a3 h3 => ⟨by show 3 ≤ sizeLine; decide, fun a4 h4 => ⟨by show 4 ≤ sizeLine; decide, fun l hl => ?_⟩⟩⟩⟩⟩
    have s1 := same_new (o := .tup [.str "a"]) h1
    have s2 := same_new (o := .tup [.str "a", .str "b"]) h2
    have s3 := same_new (o := .tup [.str "a", .str "b"]) h3
    have s4 := same_new (o := .tup [.str "a", .str "b", .str "dd"]) h4
    have s5 := same_new (o := .lst [.ref a1, .ref a2, .ref a3, .ref a4]) hl
    have f1 := (((s2.trans s3).trans s4).trans s5) _ _ upd_same
    have f2 := ((s3.trans s4).trans s5) _ _ upd_same
    have f3 := (s4.trans s5) _ _ upd_same
    have f4 := s5 _ _ upd_same
    have sa := (((s1.trans s2).trans s3).trans s4).trans s5
    have gl := upd_same (H := upd (upd (upd (upd H a1 (.tup [.str "a"])) a2 (.tup [.str "a", .str "b"])) a3 (.tup [.str "a", .str "b"])) a4 (.tup [.str "a", .str "b", .str "dd"])) (a := l) (o := .lst [.ref a1, .ref a2, .ref a3, .ref a4])
    clear s1 s2 s3 s4 s5
    generalize upd (upd (upd (upd (upd H a1 (.tup [.str "a"])) a2 (.tup [.str "a", .str "b"])) a3 (.tup [.str "a", .str "b"])) a4 (.tup [.str "a", .str "b", .str "dd"])) l (.lst [.ref a1, .ref a2, .ref a3, .ref a4]) = G at f1 f2 f3 f4 sa gl ⊢
    have hFG := hF.same sa
    have nlF : l ≠ F := by
      obtain ⟨_, _, _, _, e, _⟩ := hFG
      exact ne_of gl e fun z => nomatch z
    refine ⟨.ref F, rfl, F, L, 4, rfl, hFG, by decide, by decide, fun d H' d0 d1 k' hF' => ?_⟩
    have kt := k'.tup hFG
    have fin : ∀ p ns, ns ∈ accL → G p = some (.tup (ns.map V.str)) → Q (.ref p) H' := fun p ns hns hp => q H' p ns ((KeepF.of sa).trans k') hF' (kt _ _ hp) (acc_ok ns hns)
    obtain ⟨n, rfl⟩ : ∃ n : Nat, d = (n : Int) := ⟨d.toNat, by omega⟩
    have gl' := k' _ _ nlF gl
    match n, d1 with
    | 0, _ => exact ⟨l, _, _, .ref a1, rfl, rfl, sqL gl', atI_nat (j := 0) rfl, fin a1 ["a"] (.head _) f1⟩
    | 1, _ => exact ⟨l, _, _, .ref a2, rfl, rfl, sqL gl', atI_nat (j := 1) rfl, fin a2 ["a", "b"] (.tail _ (.head _)) f2⟩
    | 2, _ => exact ⟨l, _, _, .ref a3, rfl, rfl, sqL gl', atI_nat (j := 2) rfl, fin a3 ["a", "b"] (.tail _ (.head _)) f3⟩
    | 3, _ => exact ⟨l, _, _, .ref a4, rfl, rfl, sqL gl', atI_nat (j := 3) rfl, fin a4 ["a", "b", "dd"] (.tail _ (.tail _ (.tail _ (.head _)))) f4⟩
    | n + 4, h => exact absurd h (by omega)
def prWs : Pr := fun vs H Q => ∃ (F L ac : Addr) (ns : List Str), vs = [.ref F, .ref ac] ∧ FeedAt H F L ∧ H ac = some (.tup (ns.map V.str)) ∧ AccOk ns ∧
  ∀ H' p ps ws, KeepF F H H' → FeedAt H' F L → H' p = some (.tup (ps.map V.ref)) → Paired (CellAt H') ps ws → WsOk ns ws → Q (.ref p) H'
theorem ok_ws {f : Addr} {fd : FuncData} {k : Nat} (F : Fun K "_law_some_weights" "_law_some_weights" sWs f fd)
    (FY : Fun K "_law_any" "_law_any" sAny fY fdY) (bY : Binds K fdY ["_law_feed_here", "_law_some"] []) (gY : mg "_law_any" = some (.ref fY)) (GY : FnG P w K mg base (k + 2) fY fdY ["_law_feed_here", "_law_some"] prAny)
    (mt : mg "tuple" = none) (mi : mg "int" = none) : FnG P w K mg base (k + 3) f fd ["_law_feed_here", "_law_accounts_here"] prWs := by
  refine okG F scWs (fun vs H Q h => ?_) (fun cdv A outer s H vs Q hr h => ?_)
  · obtain ⟨_, _, _, _, rfl, _⟩ := h
    rfl
  · obtain ⟨F, L, ac, ns, rfl, hF, hac, ok, q⟩ := h
    have big := sizeBig
    have hun := hr.room.units
    refine ⟨_, pss_cons (ps_set (i := 2) scWs.nd rfl (.inl rfl) (pe_lst pa_nil))
      (pss_cons (ps_for PassesOwn.never rfl (pi_tup (pv 1)) (pg_name (i := 3) scWs.nd rfl (.inl rfl))
        (pss_cons (ps_set (i := 4) scWs.nd rfl (.inl rfl) (pe_g GY hr (by rfl) gY FY.kp bY .nil (pa_cons (pv 0) (pa_cons (pe_lst (pa_cons pe_int (pa_cons pe_int (pa_cons pe_int (pa_cons pe_int (pa_cons (pe_un un_neg pe_int) (pa_cons (pe_un un_neg pe_int) pa_nil))))))) pa_nil))))
        (pss_one (ps_expr (pe_bm PySem.F.plainAttrs_list PySem.F.slot_list_extend PySem.F.type_list_extend mt_extend (pv 2) (pa_cons (pe_op op_rep (pe_lst (pa_cons (pe_tup (pa_cons (pv 3) (pa_cons (pv 4) pa_nil))) pa_nil)) (pe_callTy call_int1 (by rfl) mi (by decide +kernel) (pa_cons (pe_cmpR op_ne (pv 4) pe_int (nomark _)) pa_nil))) pa_nil))))))
      (pss_one (ps_ret (pe_ifExp (pt_cmpR (op_neD hun) (pv 2) (pe_lst pa_nil) (nomark _)) (pe_callTy call_tuple_of (by rfl) mt (by decide +kernel) (pa_cons (pv 2) pa_nil))
        (pe_tup (pa_cons (pe_tup (pa_cons (pe_ix (ix_tup : IxR _ (rIxT K)) (pv 1) pe_int (fun _ _ => rfl)) (pa_cons pe_int pa_nil))) pa_nil)))))), ?_⟩
    refine iSeq (iAsg ⟨Nat.zero_le _, fun Lf hLf => ?_⟩)
    have s1 := same_new (o := .lst []) hLf
    refine iName ?_
    dsimp only
    have nLF : Lf ≠ F := by
      obtain ⟨_, _, _, _, h, _⟩ := hF
      exact (ne_of_none h hLf).symm
    have nLL : L ≠ Lf := by
      obtain ⟨_, _, _, _, _, h⟩ := hF
      exact ne_of_none h hLf
    refine iSeq ?_
    refine ⟨.ref ac, rfl, ac, rfl, ⟨_, sqT (s1 _ _ hac)⟩, ?_⟩
    refine for_tup (xs := ns.map V.str) (fun i σ' H' => (∃ x3 x4, σ' = [some (.ref F), some (.ref ac), some (.ref Lf), x3, x4]) ∧ KeepF F H H' ∧ FeedAt H' F L ∧ ∃ ps ws, H' Lf = some (.lst (ps.map V.ref)) ∧ Paired (CellAt H') ps ws ∧ WsOk (ns.take i) ws)
      ⟨⟨none, none, rfl⟩, KeepF.of s1, hF.same s1, [], [], upd_same, .nil, ⟨List.nil_sublist _, fun _ h => absurd h (by simp)⟩⟩ (fun i σ' H' _ h => sqT (h.2.1.tup hF _ _ hac)) (fun i x σ' H' hx h => ?_) (fun σ' H' h => ?_)
    · obtain ⟨⟨x3, x4, rfl⟩, k1, hF1, ps, ws, hps, hpp, wok⟩ := h
      rw [List.getElem?_map] at hx
      obtain ⟨nm, hnm, rfl⟩ := Option.map_eq_some_iff.mp hx
      have pl := Paired.length hpp
      have wl := wok.sub.length_le
      rw [List.length_map, List.length_take] at wl
      have om := ok.many
      refine iName ?_
      dsimp only
      refine iSeq (iAsg ⟨.ref F, rfl, 1, rfl, 3, rfl, by show 6 ≤ sizeLine; omega, fun l hl => ?_⟩)
      have s2 := same_new (o := .lst [.int 0, .int 1, .int 1, .int 2, .int (-1), .int (-3)]) hl
      refine ⟨F, L, l, _, rfl, hF1.same s2, upd_same, by show 0 < 6; decide, by show 6 ≤ 100; decide, fun H2 x hx k2 hF2 => ?_⟩
      have hw : ∃ wt : Int, x = .int wt ∧ -3 ≤ wt ∧ wt ≤ 3 := by
        simp only [List.mem_cons, List.not_mem_nil, or_false] at hx
        rcases hx with rfl | rfl | rfl | rfl | rfl | rfl
        · exact ⟨0, rfl, by decide, by decide⟩
        · exact ⟨1, rfl, by decide, by decide⟩
        · exact ⟨1, rfl, by decide, by decide⟩
        · exact ⟨2, rfl, by decide, by decide⟩
        · exact ⟨-1, rfl, by decide, by decide⟩
        · exact ⟨-3, rfl, by decide, by decide⟩
      obtain ⟨wt, rfl, w0, w1⟩ := hw
      have k12 := (KeepF.of (F := F) s2).trans k2
      have hps2 := k12 _ _ nLF hps
      have hpp2 := Paired.mapP hpp fun _ _ z => z.keepT (k12.tup hF1)
      refine iName ?_
      dsimp only
      refine iDrop' ⟨.ref Lf, rfl, .inl ⟨rfl, _, sqL hps2⟩, ?_⟩
      refine ⟨.str nm, rfl, .int wt, rfl, by show 2 ≤ sizeLine; omega, fun p1 hp1 => ⟨by show 1 ≤ sizeLine; omega, fun l1 hl1 => ?_⟩⟩
      have s3 := same_new (o := .tup [.str nm, .int wt]) hp1
      have s4 := same_new (o := .lst [.ref p1]) hl1
      have take1 : ∀ ws', WsOk (ns.take i) ws' → WsOk (ns.take (i + 1)) ws' := fun ws' h => ⟨h.sub.trans (by rw [List.take_add_one]; exact List.sublist_append_left _ _), h.lit⟩
      refine ⟨.int wt, rfl, rfl, .inr ⟨_, rfl, ?_⟩⟩
      by_cases e : wt = 0
      · subst e
        refine ⟨l1, 0, [.ref p1], rfl, rfl, upd_same, by decide, by decide, by show 1 * 0 ≤ sizeLine; omega, fun l2 hl2 => ?_⟩
        have s5 := same_new (o := .lst []) hl2
        have s35 := (s3.trans s4).trans s5
        refine ⟨Lf, l2, ps.map V.ref, [], rfl, rfl, s35 _ _ hps2, upd_same, by rw [List.length_map]; show _ + 0 ≤ _; omega, ?_⟩
        have kp : KeepT _ (upd _ Lf (.lst (ps.map V.ref ++ []))) := KeepT.put (s35 _ _ hps2) fun _ z => nomatch z
        refine ⟨⟨_, _, rfl⟩, ?_, ?_, ps, ws, by rw [upd_same, List.append_nil], Paired.mapP hpp2 fun _ _ z => (z.keepT (KeepT.of s35)).keepT kp, take1 ws wok⟩
        · exact fun b o hb e => by
            rw [upd_ne (ne_of_none e hLf)]
            exact s35 _ _ (k12 _ _ hb (k1 _ _ hb e))
        · obtain ⟨ns', a1, l1', n1, e1, e2⟩ := hF2.same s35
          exact ⟨ns', a1, l1', n1, by rw [upd_ne nLF.symm]; exact e1, by rw [upd_ne nLL]; exact e2⟩
      · have eb : (!decide (V.int wt = V.int 0)) = true := by
          rw [decide_eq_false fun z => e (V.int.inj z)]
          rfl
        rw [eb]
        refine ⟨l1, 1, [.ref p1], rfl, rfl, upd_same, by decide, by decide, by show 1 * 1 ≤ sizeLine; omega, fun l2 hl2 => ?_⟩
        have s5 := same_new (o := .lst [.ref p1]) hl2
        have s35 := (s3.trans s4).trans s5
        refine ⟨Lf, l2, ps.map V.ref, [.ref p1], rfl, rfl, s35 _ _ hps2, upd_same, by rw [List.length_map]; show _ + 1 ≤ _; omega, ?_⟩
        have kp : KeepT _ (upd _ Lf (.lst (ps.map V.ref ++ [.ref p1]))) := KeepT.put (s35 _ _ hps2) fun _ z => nomatch z
        refine ⟨⟨_, _, rfl⟩, ?_, ?_, ps ++ [p1], ws ++ [(nm, wt)], by rw [upd_same, List.map_append]; rfl, Paired.snoc (Paired.mapP hpp2 fun _ _ z => (z.keepT (KeepT.of s35)).keepT kp) (kp _ _ ((s4.trans s5) _ _ upd_same)), ⟨?_, fun x hx => ?_⟩⟩
        · exact fun b o hb e => by
            rw [upd_ne (ne_of_none e hLf)]
            exact s35 _ _ (k12 _ _ hb (k1 _ _ hb e))
        · obtain ⟨ns', a1, l1', n1, e1, e2⟩ := hF2.same s35
          exact ⟨ns', a1, l1', n1, by rw [upd_ne nLF.symm]; exact e1, by rw [upd_ne nLL]; exact e2⟩
        · rw [List.map_append, List.take_add_one, hnm]
          exact wok.sub.append (List.Sublist.refl _)
        · rcases List.mem_append.mp hx with h | h
          · exact wok.lit x h
          · rw [List.mem_singleton.mp h]
            exact ⟨w0, w1⟩
    · obtain ⟨⟨x3, x4, rfl⟩, k1, hF1, ps, ws, hps, hpp, wok⟩ := h
      dsimp only
      rw [List.length_map, List.take_length] at wok
      have wc := wok.cells ok.cell
      refine iRet ?_
      refine ⟨.ref Lf, rfl, Nat.zero_le _, fun e1 he1 => ?_⟩
      have s2 := same_new (o := .lst []) he1
      refine ⟨.list (ws.map AskG.cellD), .list [], .lst (sqL (s2 _ _ hps)) (dp_all (f := AskG.cellD) (R := AskG.CellAt H') (fun _ _ z => dp_cell (z.keepT (KeepT.of s2))) hpp), .lst (sqL upd_same) .nil, shaped_cells wc, shaped_nil, _, rfl, ?_⟩
      have k2 := k1.trans (KeepF.of s2)
      have hF2 := hF1.same s2
      cases ws with
      | nil =>
        refine iteF ?_
        obtain ⟨n0, nr, rfl⟩ : ∃ n0 nr, ns = n0 :: nr := by
          cases ns with
          | nil => exact absurd rfl ok.one
          | cons a b => exact ⟨a, b, rfl⟩
        refine ⟨.ref ac, rfl, ac, _, _, .str n0, rfl, rfl, sqT (k2.tup hF _ _ hac), atI_nat (j := 0) rfl, by show 2 ≤ sizeLine; omega, fun p1 hp1 => ⟨by show 1 ≤ sizeLine; omega, fun p2 hp2 => ?_⟩⟩
        have s3 := same_new (o := .tup [.str n0, .int 1]) hp1
        have s4 := same_new (o := .tup [.ref p1]) hp2
        exact q _ p2 [p1] [(n0, 1)] (k2.trans (KeepF.of (s3.trans s4))) (hF2.same (s3.trans s4)) upd_same (.cons (s4 _ _ upd_same) .nil) ⟨List.Sublist.cons_cons _ (List.nil_sublist _), fun x hx => by
          rw [List.mem_singleton.mp hx]
          exact ⟨by show (-3 : Int) ≤ 1; decide, by show (1 : Int) ≤ 3; decide⟩⟩
      | cons x ws =>
        refine iteT ?_
        refine ⟨.ref Lf, rfl, Lf, _, rfl, .inl ⟨sqL (s2 _ _ hps), fun p hp => ?_⟩⟩
        have s3 := same_new (o := .tup (ps.map V.ref)) hp
        exact q _ p ps (x :: ws) (k2.trans (KeepF.of s3)) (hF2.same s3) upd_same (Paired.mapP hpp fun _ _ z => z.keepT (KeepT.of (s2.trans s3))) wok
end
end P19
namespace P19
open PySem PySem.Spec PyProof.Rows L2 AskG
def persons : List Str := ["ann", "bob", "cy", "dee"]
theorem person_ok : ∀ n ∈ persons, CellOk (n, 0) := by
  have h : (persons.all fun n => cellB (n, 0)) = true := by decide +kernel
  exact fun n hn => cellOk_of (List.all_eq_true.mp h n hn)
section
variable {P : Program} {w : World} {K : PySem.W.Frag} {mg : Str → Option Value} {base : Heap}
variable {fD fY fW : Addr} {fdD fdY fdW : FuncData}
def prRt : Pr := fun vs H Q => ∃ (F L ac : Addr) (ns : List Str) (t : Int), vs = [.ref F, .ref ac, .int t] ∧ FeedAt H F L ∧ H ac = some (.tup (ns.map V.str)) ∧ AccOk ns ∧ 0 ≤ t ∧ t ≤ 9 ∧
  ∀ H' p R, KeepF F H H' → FeedAt H' F L → RightAt H' p R → RtOk R → NamesUp R.ws → Q (.ref p) H'
theorem ok_rt {f : Addr} {fd : FuncData} {k : Nat} (F : Fun K "_law_some_right" "_law_some_right" sRt f fd)
    (FD : Fun K "_law_draw" "_law_draw" sDraw fD fdD) (bD : Binds K fdD ["_law_feed_here", "_law_many"] []) (gD : mg "_law_draw" = some (.ref fD))
    (FY : Fun K "_law_any" "_law_any" sAny fY fdY) (bY : Binds K fdY ["_law_feed_here", "_law_some"] []) (gY : mg "_law_any" = some (.ref fY))
    (FW : Fun K "_law_some_weights" "_law_some_weights" sWs fW fdW) (bW : Binds K fdW ["_law_feed_here", "_law_accounts_here"] []) (gW : mg "_law_some_weights" = some (.ref fW))
    (ml : mg "len" = none) (mt : mg "tuple" = none) (mi : mg "int" = none) (mx : mg "max" = none) (mn : mg "min" = none) : FnG P w K mg base (k + 4) f fd ["_law_feed_here", "_law_accounts_here", "_law_day_nowss"] prRt := by
  have GD : FnG P w K mg base (k + 1) fD fdD ["_law_feed_here", "_law_many"] prDraw := ok_draw FD ml
  have GY : FnG P w K mg base (k + 2) fY fdY ["_law_feed_here", "_law_some"] prAny := ok_any FY FD bD gD ml
  have GW : FnG P w K mg base (k + 3) fW fdW ["_law_feed_here", "_law_accounts_here"] prWs := ok_ws FW FY bY gY GY mt mi
  refine okG F scRt (fun vs H Q h => ?_) (fun cdv A outer s H vs Q hr h => ?_)
  · obtain ⟨_, _, _, _, _, rfl, _⟩ := h
    rfl
  · obtain ⟨F, L, ac, ns, t, rfl, hF, hac, ok, t0, t9, q⟩ := h
    have big := sizeBig
    have hr1 : RG (k + 1) (A.deeper (envOfC "_law_some_right" (defScope sRt) s.heap.objs.size f cdv)) := hr.mono (by omega)
    have hr2 : RG (k + 2) (A.deeper (envOfC "_law_some_right" (defScope sRt) s.heap.objs.size f cdv)) := hr.mono (by omega)
    refine ⟨_, pss_cons (ps_set (i := 3) scRt.nd rfl (.inl rfl) (pe_callB (call_min2 rfl) (by rfl) mn (by decide +kernel) (pa_cons pe_int (pa_cons (pe_op op_add (pe_callB (call_max2 rfl) (by rfl) mx (by decide +kernel) (pa_cons pe_int (pa_cons (pe_op op_sub (pv 2) pe_int) pa_nil))) (pe_g GD hr1 (by rfl) gD FD.kp bD .nil (pa_cons (pv 0) (pa_cons pe_int pa_nil)))) pa_nil))))
      (pss_cons (ps_par (by rfl) scRt.nd (i := 4) (j := 5) rfl rfl (by decide) rfl rfl (pa_cons (pe_callB (call_min2 rfl) (by rfl) mn (by decide +kernel) (pa_cons pe_int (pa_cons (pe_op op_add (pv 3) (pe_g GD hr1 (by rfl) gD FD.kp bD .nil (pa_cons (pv 0) (pa_cons pe_int pa_nil)))) pa_nil))) (pa_cons (pe_g GD hr1 (by rfl) gD FD.kp bD .nil (pa_cons (pv 0) (pa_cons pe_int pa_nil))) pa_nil)) (by rfl))
      (pss_cons (ps_set (i := 6) scRt.nd rfl (.inl rfl) (pe_callB (call_min2 rfl) (by rfl) mn (by decide +kernel) (pa_cons pe_int (pa_cons (pe_g GY hr2 (by rfl) gY FY.kp bY .nil (pa_cons (pv 0) (pa_cons (pe_lst (pa_cons (pv 2) (pa_cons (pv 2) (pa_cons (pe_op op_add (pv 2) pe_int) (pa_cons pe_int pa_nil))))) pa_nil))) pa_nil))))
      (pss_cons (ps_set (i := 7) scRt.nd rfl (.inl rfl) (pe_tup (pa_cons pe_str (pa_cons (pe_op op_add pe_int (pe_g GD hr1 (by rfl) gD FD.kp bD .nil (pa_cons (pv 0) (pa_cons pe_int pa_nil)))) pa_nil))))
      (pss_cons (ps_if (pt_cmpR op_eq (pv 5) pe_int (nomark _)) (pss_one (ps_set (i := 7) scRt.nd rfl (.inl rfl) (pe_tup (pa_cons pe_str (pa_cons (pv 6) pa_nil))))) pss_nil)
      (pss_cons (ps_if (pt_cmpR op_eq (pv 5) pe_int (nomark _)) (pss_one (ps_set (i := 7) scRt.nd rfl (.inl rfl) (pe_tup (pa_cons pe_str (pa_cons (pv 6) (pa_cons (pe_callB (call_min2 rfl) (by rfl) mn (by decide +kernel) (pa_cons pe_int (pa_cons (pe_op op_add (pv 6) (pe_g GD hr1 (by rfl) gD FD.kp bD .nil (pa_cons (pv 0) (pa_cons pe_int pa_nil)))) pa_nil))) pa_nil)))))) pss_nil)
      (pss_one (ps_ret (pe_tup (pa_cons (pe_g GY hr2 (by rfl) gY FY.kp bY .nil (pa_cons (pv 0) (pa_cons (pe_lst (pa_cons pe_str (pa_cons pe_str (pa_cons pe_str (pa_cons pe_str pa_nil))))) pa_nil))) (pa_cons (pe_g GW hr (by rfl) gW FW.kp bW .nil (pa_cons (pv 0) (pa_cons (pv 1) pa_nil))) (pa_cons (pv 3) (pa_cons (pv 4) (pa_cons (pv 7) pa_nil))))))))))))), ?_⟩
    -- first
    refine iSeq (iAsg ⟨.int t, rfl, t, 1, rfl, rfl, 0, t - 1, rfl, .ref F, rfl, F, L, 3, rfl, hF, by decide, by decide, fun d H1 d0 d1 k1 hF1 => ?_⟩)
    have fb : ∃ m : Int, (if t - 1 > 0 then t - 1 else 0) = m ∧ 0 ≤ m ∧ m ≤ 8 := ⟨_, rfl, by split <;> omega, by split <;> omega⟩
    obtain ⟨m, em, m0, m8⟩ := fb
    rw [em]
    refine ⟨m, d, rfl, rfl, 8, m + d, rfl, ?_⟩
    have fb : ∃ fi : Int, (if m + d < 8 then m + d else 8) = fi ∧ 0 ≤ fi ∧ fi ≤ 8 := ⟨_, rfl, by split <;> omega, by split <;> omega⟩
    obtain ⟨fi, ef, f0, f8⟩ := fb
    rw [ef]
    refine iName ?_
    dsimp only
    -- last, way
    refine iSeq ⟨.int fi, rfl, .ref F, rfl, F, L, 4, rfl, hF1, by decide, by decide, fun d2 H2 d20 d21 k2 hF2 => ?_⟩
    refine ⟨fi, d2, rfl, rfl, 9, fi + d2, rfl, ?_⟩
    have fb : ∃ la : Int, (if fi + d2 < 9 then fi + d2 else 9) = la ∧ 0 ≤ la ∧ la ≤ 9 := ⟨_, rfl, by split <;> omega, by split <;> omega⟩
    obtain ⟨la, el, l0, l9⟩ := fb
    rw [el]
    refine ⟨.ref F, rfl, F, L, 4, rfl, hF2, by decide, by decide, fun wy H3 wy0 wy1 k3 hF3 => ⟨.int la, .int wy, rfl, ?_⟩⟩
    dsimp only
    -- start
    refine iSeq (iAsg ⟨.ref F, rfl, .int t, rfl, .int t, rfl, .int t, rfl, t, 1, rfl, rfl, by show 4 ≤ sizeLine; omega, fun l hl => ?_⟩)
    have s4 := same_new (o := .lst [.int t, .int t, .int (t + 1), .int 0]) hl
    refine ⟨F, L, l, _, rfl, hF3.same s4, upd_same, by show 0 < 4; decide, by show 4 ≤ 100; decide, fun H4 x hx k4 hF4 => ?_⟩
    have hst : ∃ sv : Int, x = .int sv ∧ 0 ≤ sv ∧ sv ≤ 10 := by
      simp only [List.mem_cons, List.not_mem_nil, or_false] at hx
      rcases hx with rfl | rfl | rfl | rfl
      · exact ⟨t, rfl, t0, by omega⟩
      · exact ⟨t, rfl, t0, by omega⟩
      · exact ⟨t + 1, rfl, by omega, by omega⟩
      · exact ⟨0, rfl, by decide, by decide⟩
    obtain ⟨sv, rfl, sv0, sv1⟩ := hst
    refine ⟨9, sv, rfl, ?_⟩
    have fb : ∃ st : Int, (if sv < 9 then sv else 9) = st ∧ 0 ≤ st ∧ st ≤ 9 := ⟨_, rfl, by split <;> omega, by split <;> omega⟩
    obtain ⟨st, es, st0, st9⟩ := fb
    rw [es]
    refine iName ?_
    dsimp only
    -- kind
    refine iSeq (iAsg ⟨.ref F, rfl, F, L, 3, rfl, hF4, by decide, by decide, fun d5 H5 d50 d51 k5 hF5 => ⟨1, d5, rfl, rfl, by show 2 ≤ sizeLine; omega, fun kp hkp => ?_⟩⟩)
    have s6 := same_new (o := .tup [.str "window", .int (1 + d5)]) hkp
    have k06 := ((((k1.trans k2).trans k3).trans (KeepF.of s4)).trans k4).trans (k5.trans (KeepF.of s6))
    have hF6 := hF5.same s6
    refine iName ?_
    dsimp only
    refine iSeq ?_
    refine split_s (fun σ' H' => ∃ (ka : Addr) (kd : KindM), σ' = [some (.ref F), some (.ref ac), some (.int t), some (.int fi), some (.int la), some (.int wy), some (.int st), some (.ref ka)] ∧ KeepF F H H' ∧ FeedAt H' F L ∧ H' ka = some (.tup kd.vals) ∧ kd.Ok) (fun nx hnx => ?_) (fun σ' H' hx => ?_)
    · refine ⟨.int wy, rfl, rfl, _, rfl, ite2 (fun e => ?_) (fun e => ?_)⟩
      · refine ⟨.int st, rfl, by show 2 ≤ sizeLine; omega, fun k2p hk2 => ?_⟩
        have s7 := same_new (o := .tup [.str "total", .int st]) hk2
        exact hnx _ _ ⟨k2p, .tot st, rfl, k06.trans (KeepF.of s7), hF6.same s7, upd_same, ⟨st0, by omega⟩⟩
      · exact hnx _ _ ⟨kp, .win (1 + d5), rfl, k06, hF6, upd_same, ⟨by omega, by omega⟩⟩
    · obtain ⟨ka, kd, rfl, k7, hF7, hka, hkd⟩ := hx
      dsimp only
      clear k06 hF6 s6
      refine iSeq ?_
      refine split_s (fun σ' H' => ∃ (ka : Addr) (kd : KindM), σ' = [some (.ref F), some (.ref ac), some (.int t), some (.int fi), some (.int la), some (.int wy), some (.int st), some (.ref ka)] ∧ KeepF F H H' ∧ FeedAt H' F L ∧ H' ka = some (.tup kd.vals) ∧ kd.Ok) (fun nx hnx => ?_) (fun σ' H' hx => ?_)
      · refine ⟨.int wy, rfl, rfl, _, rfl, ite2 (fun e => ?_) (fun e => ?_)⟩
        · refine ⟨.int st, rfl, .int st, rfl, .ref F, rfl, F, L, 3, rfl, hF7, by decide, by decide, fun d8 H8 d80 d81 k8 hF8 => ⟨st, d8, rfl, rfl, 9, st + d8, rfl, by show 3 ≤ sizeLine; omega, fun k2p hk2 => ?_⟩⟩
          have fb : 0 ≤ (if st + d8 < 9 then st + d8 else 9) ∧ (if st + d8 < 9 then st + d8 else 9) ≤ 30 := by
            split <;> omega
          have s9 := same_new (o := .tup [.str "period", .int st, .int (if st + d8 < 9 then st + d8 else 9)]) hk2
          exact hnx _ _ ⟨k2p, .per st (if st + d8 < 9 then st + d8 else 9), rfl, (k7.trans k8).trans (KeepF.of s9), hF8.same s9, upd_same, ⟨st0, by omega, fb.1, fb.2⟩⟩
        · exact hnx _ _ ⟨ka, kd, rfl, k7, hF7, hka, hkd⟩
      · clear hka hkd k7 hF7
        obtain ⟨ka, kd, rfl, k7, hF7, hka, hkd⟩ := hx
        dsimp only
        refine iRet ⟨.ref F, rfl, by show 4 ≤ sizeLine; omega, fun l2 hl2 => ?_⟩
        have s8 := same_new (o := .lst [.str "ann", .str "bob", .str "cy", .str "dee"]) hl2
        refine ⟨F, L, l2, _, rfl, hF7.same s8, upd_same, by show 0 < 4; decide, by show 4 ≤ 100; decide, fun H9 x hx k9 hF9 => ?_⟩
        have hpn : ∃ pn, x = .str pn ∧ pn ∈ persons := by
          simp only [List.mem_cons, List.not_mem_nil, or_false] at hx
          rcases hx with rfl | rfl | rfl | rfl
          · exact ⟨_, rfl, .head _⟩
          · exact ⟨_, rfl, .tail _ (.head _)⟩
          · exact ⟨_, rfl, .tail _ (.tail _ (.head _))⟩
          · exact ⟨_, rfl, .tail _ (.tail _ (.tail _ (.head _)))⟩
        obtain ⟨pn, rfl, hpn⟩ := hpn
        have k89 := (KeepF.of (F := F) s8).trans k9
        have k79 := k7.trans k89
        refine ⟨.ref F, rfl, .ref ac, rfl, F, L, ac, ns, rfl, hF9, k79.tup hF _ _ hac, ok, fun Ha p ps ws ka' hFa hp hpp wok => ?_⟩
        refine ⟨.int fi, rfl, .int la, rfl, .ref ka, rfl, by show 5 ≤ sizeLine; omega, fun r hr' => ?_⟩
        have sb := same_new (o := .tup [.str pn, .ref p, .int fi, .int la, .ref ka]) hr'
        have hka2 : Ha ka = some (.tup kd.vals) := ka'.tup hF9 _ _ (k89.tup hF7 _ _ hka)
        refine q _ r ⟨pn, ws, fi, la, kd⟩ ((k79.trans ka').trans (KeepF.of sb)) (hFa.same sb) ⟨p, ps, ka, upd_same, sb _ _ hp, Paired.mapP hpp fun _ _ z => z.keepT (KeepT.of sb), sb _ _ hka2⟩ ⟨person_ok pn hpn, wok.many ok.many, wok.cells ok.cell, f0, by show fi ≤ 30; omega, l0, by show la ≤ 30; omega, hkd⟩ (wok.up ok.up)
end
end P19
namespace P19
open PySem PySem.Spec PyProof.Rows L2 AskG
abbrev sLong : Stmt := topS 14
abbrev sHand : Stmt := topS 15
theorem scLong : FnScope ["_law_window"] [] (defScope sLong) := ⟨rfl, rfl, rfl, by decide +kernel, rfl, by decide +kernel, by decide +kernel⟩
theorem scHand : FnScope ["_law_cells", "_law_two", "_law_found"] [] (defScope sHand) := ⟨rfl, rfl, rfl, by decide +kernel, rfl, by decide +kernel, by decide +kernel⟩
def Rw : Rt := ⟨"ann", [("a", 3)], 0, 9, .win 6⟩
def Rp : Rt := ⟨"bob", [("a", 1), ("b", -2)], 1, 9, .per 1 8⟩
def longD : PyData := .tuple [.tuple [.str "p", rightD Rw], .tuple [.str "q", rightD Rp]]
def lW : Unit → List (Nat × PyData) := fun _ => [(0, rightD Rw)]
/-- new data -/
def prData (d : PyData) : Pr := fun vs H Q => vs = [] ∧ (∃ D, Taken H D) ∧ ∀ H' v D, Same H H' → DH D H' v d → Q v H'
/-- a new list of data -/
def prList (ds : List PyData) : Pr := fun vs H Q => vs = [] ∧ (∃ D, Taken H D) ∧ ∀ H' p D ys, Same H H' → H' p = some (.lst ys) → DHs D H' ys ds → Q (.ref p) H'
def cellsD : List PyData := [.tuple [.str "a", .int 0], .tuple [.str "a", .int 1], .tuple [.str "a", .int 2], .tuple [.str "b", .int 0], .tuple [.str "b", .int 1]]
def twoL : List PyData := [.str "ann", .tuple [.tuple [.str "a", .int 1], .tuple [.str "b", .int (-2)]], .int 1, .int 2]
def lTwo : Unit → List (Nat × PyData) := fun _ => [(0, .list cellsD), (1, .tuple twoL)]
def handL : List (Rt × Int × Option RowD) := [((⟨"ann", [("a", 1), ("b", -2)], 1, 2, .tot 1⟩ : Rt), 1, some [(("a", 1), 1), (("b", 1), -2)]),
  ((⟨"ann", [("a", 1), ("b", -2)], 1, 2, .tot 2⟩ : Rt), 1, some []),
  ((⟨"ann", [("a", 1), ("b", -2)], 1, 2, .win 5⟩ : Rt), 1, some [(("a", 0), 1), (("a", 1), 1), (("b", 0), -2), (("b", 1), -2)]),
  ((⟨"ann", [("a", 1), ("b", -2)], 1, 2, .per 0 0⟩ : Rt), 2, some [(("a", 0), 1), (("b", 0), -2)]),
  ((⟨"ann", [("a", 3)], 0, 9, .per 1 8⟩ : Rt), 2, some [(("a", 1), 3), (("a", 2), 3)]),
  ((⟨"ann", [("a", 1), ("b", -2)], 1, 2, .win 1⟩ : Rt), 0, none),
  ((⟨"ann", [("a", 1), ("b", -2)], 1, 2, .win 1⟩ : Rt), 3, none)]
def itemD (x : Rt × Int × Option RowD) : PyData := .tuple [rightD x.1, .int x.2.1, optD x.2.2]
def handD : List PyData := handL.map itemD
def hand0 : List PyData := handD.take 2
def handZ : List PyData := handD.drop 5
section
variable {P : Program} {w : World} {K : PySem.W.Frag} {mg : Str → Option Value} {base : Heap}
theorem ok_long {f : Addr} {fd : FuncData} {k : Nat} (F : Fun K "_law_long_rights" "_law_long_rights" sLong f fd) : FnG P w K mg base (k + 1) f fd [] (prData longD) := by
  refine okG F scLong (fun vs H Q h => by rw [h.1]; rfl) (fun cdv A outer s H vs Q hr h => ?_)
  obtain ⟨rfl, ⟨D0, hD0⟩, q⟩ := h
  refine ⟨_, pss_cons (ps_set (i := 0) scLong.nd rfl (.inl rfl) (show PE _ _ (tNew (rightD Rw)) from (new_tup (news_cons (new_str pe_str) (news_cons (new_tup (news_cons (new_tup (news_cons (new_str pe_str) (news_cons (new_int pe_int) news_nil)) (by decide)) news_nil) (by decide)) (news_cons (new_int pe_int) (news_cons (new_int pe_int) (news_cons (new_tup (news_cons (new_str pe_str) (news_cons (new_int pe_int) news_nil)) (by decide)) news_nil))))) (by decide))))
    (pss_one (ps_ret (show PE _ _ (tFm lW fun _ => longD) from (fm_tup (fm_cons (fm_tup (fm_cons (fm_new (new_str pe_str)) (fm_cons (fm_var (pv 0) (fun _ => (.head _))) fm_nil)) (fun _ => by show 2 ≤ 1000; decide)) (fm_cons (fm_tup (fm_cons (fm_new (new_str pe_str)) (fm_cons (fm_tup (fm_cons (fm_new (new_str pe_str)) (fm_cons (fm_tup (fm_cons (fm_tup (fm_cons (fm_new (new_str pe_str)) (fm_cons (fm_new (new_int pe_int)) fm_nil)) (fun _ => by show 2 ≤ 1000; decide)) (fm_cons (fm_tup (fm_cons (fm_new (new_str pe_str)) (fm_cons (fm_new (new_neg (pe_un un_neg pe_int))) fm_nil)) (fun _ => by show 2 ≤ 1000; decide)) fm_nil)) (fun _ => by show 2 ≤ 1000; decide)) (fm_cons (fm_new (new_int pe_int)) (fm_cons (fm_new (new_int pe_int)) (fm_cons (fm_tup (fm_cons (fm_new (new_str pe_str)) (fm_cons (fm_new (new_int pe_int)) (fm_cons (fm_new (new_int pe_int)) fm_nil))) (fun _ => by show 3 ≤ 1000; decide)) fm_nil))))) (fun _ => by show 5 ≤ 1000; decide)) fm_nil)) (fun _ => by show 2 ≤ 1000; decide)) fm_nil)) (fun _ => by show 2 ≤ 1000; decide))))), ?_⟩
  refine iSeq (iAsg fun H1 v1 s1 n1 => ?_)
  refine iName ?_
  dsimp only
  refine iRet ⟨(), D0, ⟨fun x hx => ?_, hD0.keep s1⟩, fun H2 v2 s2 h2 => q H2 v2 D0 (s1.trans s2) h2⟩
  rw [List.mem_singleton.mp hx]
  exact ⟨v1, rfl, n1 D0 hD0⟩
theorem two_of {D : Addr} {H : Hp} {v0 v1 : V} {x2 : Option V} (t : Taken H D) (h0 : DH D H v0 (.list cellsD)) (h1 : DH D H v1 (.tuple twoL)) : SrcM (lTwo ()) D [some v0, some v1, x2] H := ⟨fun x hx => by
  simp only [lTwo, List.mem_cons, List.not_mem_nil, or_false] at hx
  rcases hx with rfl | rfl
  · exact ⟨_, rfl, h0⟩
  · exact ⟨_, rfl, h1⟩, t⟩
theorem ok_hand {f : Addr} {fd : FuncData} {k : Nat} (F : Fun K "_law_hand" "_law_hand" sHand f fd) : FnG P w K mg base (k + 1) f fd [] (prList handD) := by
  refine okG F scHand (fun vs H Q h => by rw [h.1]; rfl) (fun cdv A outer s H vs Q hr h => ?_)
  obtain ⟨rfl, ⟨D0, hD0⟩, q⟩ := h
  have big := sizeBig
  refine ⟨_, pss_cons (ps_set (i := 0) scHand.nd rfl (.inl rfl) (show PE _ _ (tNew (.list cellsD)) from (new_lst (news_cons (new_tup (news_cons (new_str pe_str) (news_cons (new_int pe_int) news_nil)) (by decide)) (news_cons (new_tup (news_cons (new_str pe_str) (news_cons (new_int pe_int) news_nil)) (by decide)) (news_cons (new_tup (news_cons (new_str pe_str) (news_cons (new_int pe_int) news_nil)) (by decide)) (news_cons (new_tup (news_cons (new_str pe_str) (news_cons (new_int pe_int) news_nil)) (by decide)) (news_cons (new_tup (news_cons (new_str pe_str) (news_cons (new_int pe_int) news_nil)) (by decide)) news_nil))))) (by decide))))
    (pss_cons (ps_set (i := 1) scHand.nd rfl (.inl rfl) (show PE _ _ (tNew (.tuple twoL)) from (new_tup (news_cons (new_str pe_str) (news_cons (new_tup (news_cons (new_tup (news_cons (new_str pe_str) (news_cons (new_int pe_int) news_nil)) (by decide)) (news_cons (new_tup (news_cons (new_str pe_str) (news_cons (new_neg (pe_un un_neg pe_int)) news_nil)) (by decide)) news_nil)) (by decide)) (news_cons (new_int pe_int) (news_cons (new_int pe_int) news_nil)))) (by decide))))
    (pss_cons (ps_set (i := 2) scHand.nd rfl (.inl rfl) (pe_lst (show PA _ _ (tFms lTwo fun _ => hand0) from (fm_cons (fm_tup (fm_cons (fm_cat (i := 1) (ds := twoL) (es := fun _ => [.tuple [.str "total", .int 1]]) (pe_op op_catA (pv 1) (fm_tup (fm_cons (fm_tup (fm_cons (fm_new (new_str pe_str)) (fm_cons (fm_new (new_int pe_int)) fm_nil)) (fun _ => by show 2 ≤ 1000; decide)) fm_nil) (fun _ => by show 1 ≤ 1000; decide))) (fun _ _ _ h => h) (fun _ => .tail _ (.head _)) (by decide) (fun _ => by show 1 ≤ 1000; decide)) (fm_cons (fm_new (new_int pe_int)) (fm_cons (fm_tup (fm_cons (fm_tup (fm_cons (fm_ix (i := 0) (k := 1) (ds := cellsD) (pe_ix (ix_list : IxR _ (rIxL K)) (pv 0) pe_int (fun _ _ => rfl)) (fun _ => .head _) rfl) (fm_cons (fm_new (new_int pe_int)) fm_nil)) (fun _ => by show 2 ≤ 1000; decide)) (fm_cons (fm_tup (fm_cons (fm_ix (i := 0) (k := 4) (ds := cellsD) (pe_ix (ix_list : IxR _ (rIxL K)) (pv 0) pe_int (fun _ _ => rfl)) (fun _ => .head _) rfl) (fm_cons (fm_new (new_neg (pe_un un_neg pe_int))) fm_nil)) (fun _ => by show 2 ≤ 1000; decide)) fm_nil)) (fun _ => by show 2 ≤ 1000; decide)) fm_nil))) (fun _ => by show 3 ≤ 1000; decide)) (fm_cons (fm_tup (fm_cons (fm_cat (i := 1) (ds := twoL) (es := fun _ => [.tuple [.str "total", .int 2]]) (pe_op op_catA (pv 1) (fm_tup (fm_cons (fm_tup (fm_cons (fm_new (new_str pe_str)) (fm_cons (fm_new (new_int pe_int)) fm_nil)) (fun _ => by show 2 ≤ 1000; decide)) fm_nil) (fun _ => by show 1 ≤ 1000; decide))) (fun _ _ _ h => h) (fun _ => .tail _ (.head _)) (by decide) (fun _ => by show 1 ≤ 1000; decide)) (fm_cons (fm_new (new_int pe_int)) (fm_cons (fm_tup fm_nil (fun _ => by show 0 ≤ 1000; decide)) fm_nil))) (fun _ => by show 3 ≤ 1000; decide)) fm_nil)))))
    (pss_cons (ps_expr (pe_bm PySem.F.plainAttrs_list PySem.F.slot_list_append PySem.F.type_list_append mt_append (pv 2) (pa_cons (show PE _ _ (tFm lTwo fun _ => itemD handL[2]) from (fm_tup (fm_cons (fm_cat (i := 1) (ds := twoL) (es := fun _ => [.tuple [.str "window", .int 5]]) (pe_op op_catA (pv 1) (fm_tup (fm_cons (fm_tup (fm_cons (fm_new (new_str pe_str)) (fm_cons (fm_new (new_int pe_int)) fm_nil)) (fun _ => by show 2 ≤ 1000; decide)) fm_nil) (fun _ => by show 1 ≤ 1000; decide))) (fun _ _ _ h => h) (fun _ => .tail _ (.head _)) (by decide) (fun _ => by show 1 ≤ 1000; decide)) (fm_cons (fm_new (new_int pe_int)) (fm_cons (fm_tup (fm_cons (fm_tup (fm_cons (fm_ix (i := 0) (k := 0) (ds := cellsD) (pe_ix (ix_list : IxR _ (rIxL K)) (pv 0) pe_int (fun _ _ => rfl)) (fun _ => .head _) rfl) (fm_cons (fm_new (new_int pe_int)) fm_nil)) (fun _ => by show 2 ≤ 1000; decide)) (fm_cons (fm_tup (fm_cons (fm_ix (i := 0) (k := 1) (ds := cellsD) (pe_ix (ix_list : IxR _ (rIxL K)) (pv 0) pe_int (fun _ _ => rfl)) (fun _ => .head _) rfl) (fm_cons (fm_new (new_int pe_int)) fm_nil)) (fun _ => by show 2 ≤ 1000; decide)) (fm_cons (fm_tup (fm_cons (fm_ix (i := 0) (k := 3) (ds := cellsD) (pe_ix (ix_list : IxR _ (rIxL K)) (pv 0) pe_int (fun _ _ => rfl)) (fun _ => .head _) rfl) (fm_cons (fm_new (new_neg (pe_un un_neg pe_int))) fm_nil)) (fun _ => by show 2 ≤ 1000; decide)) (fm_cons (fm_tup (fm_cons (fm_ix (i := 0) (k := 4) (ds := cellsD) (pe_ix (ix_list : IxR _ (rIxL K)) (pv 0) pe_int (fun _ _ => rfl)) (fun _ => .head _) rfl) (fm_cons (fm_new (new_neg (pe_un un_neg pe_int))) fm_nil)) (fun _ => by show 2 ≤ 1000; decide)) fm_nil)))) (fun _ => by show 4 ≤ 1000; decide)) fm_nil))) (fun _ => by show 3 ≤ 1000; decide))) pa_nil)))
    (pss_cons (ps_expr (pe_bm PySem.F.plainAttrs_list PySem.F.slot_list_append PySem.F.type_list_append mt_append (pv 2) (pa_cons (show PE _ _ (tFm lTwo fun _ => itemD handL[3]) from (fm_tup (fm_cons (fm_cat (i := 1) (ds := twoL) (es := fun _ => [.tuple [.str "period", .int 0, .int 0]]) (pe_op op_catA (pv 1) (fm_tup (fm_cons (fm_tup (fm_cons (fm_new (new_str pe_str)) (fm_cons (fm_new (new_int pe_int)) (fm_cons (fm_new (new_int pe_int)) fm_nil))) (fun _ => by show 3 ≤ 1000; decide)) fm_nil) (fun _ => by show 1 ≤ 1000; decide))) (fun _ _ _ h => h) (fun _ => .tail _ (.head _)) (by decide) (fun _ => by show 1 ≤ 1000; decide)) (fm_cons (fm_new (new_int pe_int)) (fm_cons (fm_tup (fm_cons (fm_tup (fm_cons (fm_ix (i := 0) (k := 0) (ds := cellsD) (pe_ix (ix_list : IxR _ (rIxL K)) (pv 0) pe_int (fun _ _ => rfl)) (fun _ => .head _) rfl) (fm_cons (fm_new (new_int pe_int)) fm_nil)) (fun _ => by show 2 ≤ 1000; decide)) (fm_cons (fm_tup (fm_cons (fm_ix (i := 0) (k := 3) (ds := cellsD) (pe_ix (ix_list : IxR _ (rIxL K)) (pv 0) pe_int (fun _ _ => rfl)) (fun _ => .head _) rfl) (fm_cons (fm_new (new_neg (pe_un un_neg pe_int))) fm_nil)) (fun _ => by show 2 ≤ 1000; decide)) fm_nil)) (fun _ => by show 2 ≤ 1000; decide)) fm_nil))) (fun _ => by show 3 ≤ 1000; decide))) pa_nil)))
    (pss_cons (ps_expr (pe_bm PySem.F.plainAttrs_list PySem.F.slot_list_append PySem.F.type_list_append mt_append (pv 2) (pa_cons (show PE _ _ (tFm lTwo fun _ => itemD handL[4]) from (fm_tup (fm_cons (fm_tup (fm_cons (fm_new (new_str pe_str)) (fm_cons (fm_tup (fm_cons (fm_tup (fm_cons (fm_new (new_str pe_str)) (fm_cons (fm_new (new_int pe_int)) fm_nil)) (fun _ => by show 2 ≤ 1000; decide)) fm_nil) (fun _ => by show 1 ≤ 1000; decide)) (fm_cons (fm_new (new_int pe_int)) (fm_cons (fm_new (new_int pe_int)) (fm_cons (fm_tup (fm_cons (fm_new (new_str pe_str)) (fm_cons (fm_new (new_int pe_int)) (fm_cons (fm_new (new_int pe_int)) fm_nil))) (fun _ => by show 3 ≤ 1000; decide)) fm_nil))))) (fun _ => by show 5 ≤ 1000; decide)) (fm_cons (fm_new (new_int pe_int)) (fm_cons (fm_tup (fm_cons (fm_tup (fm_cons (fm_ix (i := 0) (k := 1) (ds := cellsD) (pe_ix (ix_list : IxR _ (rIxL K)) (pv 0) pe_int (fun _ _ => rfl)) (fun _ => .head _) rfl) (fm_cons (fm_new (new_int pe_int)) fm_nil)) (fun _ => by show 2 ≤ 1000; decide)) (fm_cons (fm_tup (fm_cons (fm_ix (i := 0) (k := 2) (ds := cellsD) (pe_ix (ix_list : IxR _ (rIxL K)) (pv 0) pe_int (fun _ _ => rfl)) (fun _ => .head _) rfl) (fm_cons (fm_new (new_int pe_int)) fm_nil)) (fun _ => by show 2 ≤ 1000; decide)) fm_nil)) (fun _ => by show 2 ≤ 1000; decide)) fm_nil))) (fun _ => by show 3 ≤ 1000; decide))) pa_nil)))
    (pss_one (ps_ret (pe_op op_cat (pv 2) (show PE _ _ (tFm lTwo fun _ => .list handZ) from (fm_lst (fm_cons (fm_tup (fm_cons (fm_cat (i := 1) (ds := twoL) (es := fun _ => [.tuple [.str "window", .int 1]]) (pe_op op_catA (pv 1) (fm_tup (fm_cons (fm_tup (fm_cons (fm_new (new_str pe_str)) (fm_cons (fm_new (new_int pe_int)) fm_nil)) (fun _ => by show 2 ≤ 1000; decide)) fm_nil) (fun _ => by show 1 ≤ 1000; decide))) (fun _ _ _ h => h) (fun _ => .tail _ (.head _)) (by decide) (fun _ => by show 1 ≤ 1000; decide)) (fm_cons (fm_new (new_int pe_int)) (fm_cons (fm_new (new_non pe_non)) fm_nil))) (fun _ => by show 3 ≤ 1000; decide)) (fm_cons (fm_tup (fm_cons (fm_cat (i := 1) (ds := twoL) (es := fun _ => [.tuple [.str "window", .int 1]]) (pe_op op_catA (pv 1) (fm_tup (fm_cons (fm_tup (fm_cons (fm_new (new_str pe_str)) (fm_cons (fm_new (new_int pe_int)) fm_nil)) (fun _ => by show 2 ≤ 1000; decide)) fm_nil) (fun _ => by show 1 ≤ 1000; decide))) (fun _ _ _ h => h) (fun _ => .tail _ (.head _)) (by decide) (fun _ => by show 1 ≤ 1000; decide)) (fm_cons (fm_new (new_int pe_int)) (fm_cons (fm_new (new_non pe_non)) fm_nil))) (fun _ => by show 3 ≤ 1000; decide)) fm_nil)) (fun _ => by show 2 ≤ 1000; decide))))))))))), ?_⟩
  refine iSeq (iAsg fun H1 v1 s1 n1 => ?_)
  refine iName ?_
  dsimp only
  refine iSeq (iAsg fun H2 v2 s2 n2 => ?_)
  refine iName ?_
  dsimp only
  have e1 := (n1 D0 hD0).keep (KeepD.of s2)
  have e2 := n2 D0 (hD0.keep s1)
  have hT2 := (hD0.keep s1).keep s2
  refine iSeq (iAsg ⟨(), D0, two_of hT2 e1 e2, fun H3 vs3 s3 h3 => ⟨by rw [h3.len]; show 2 ≤ sizeLine; omega, fun Lf hLf => ?_⟩⟩)
  refine iName ?_
  dsimp only
  have s4 := same_new (o := .lst vs3) hLf
  have hNew : H Lf = none := by
    cases e : H Lf with
    | none => rfl
    | some o =>
      have := s3 _ _ (s2 _ _ (s1 _ _ e))
      rw [hLf] at this
      cases this
  have sh : ∀ {v d}, DH D0 H2 v d → DH Lf (upd H3 Lf (.lst vs3)) v d := fun h => ((h.keep (KeepD.of s3)).shun hLf).keep (KeepD.of s4)
  have h0 : FoundAt H (lTwo ()) [some v1, some v2, some (.ref Lf)] Lf hand0 (upd H3 Lf (.lst vs3)) :=
    ⟨hNew, ((s1.trans s2).trans s3).trans s4, ⟨vs3, upd_same, (h3.shun hLf).keep (KeepD.of s4)⟩, two_of ⟨_, upd_same⟩ (sh e1) (sh e2)⟩
  clear sh s4
  generalize upd H3 Lf (.lst vs3) = G0 at h0 ⊢
  refine iSeq (iDrop (app_read (l := lTwo) (d := fun _ => itemD handL[2]) () h0 rfl (by decide +kernel) fun _ G1 h1 _ => ?_))
  dsimp only
  refine iSeq (iDrop (app_read (l := lTwo) (d := fun _ => itemD handL[3]) () h1 rfl (by decide +kernel) fun _ G2 h2 _ => ?_))
  dsimp only
  refine iSeq (iDrop (app_read (l := lTwo) (d := fun _ => itemD handL[4]) () h2 rfl (by decide +kernel) fun _ G3 h3 _ => ?_))
  dsimp only
  refine iRet (cat_read (l := lTwo) (es := fun _ => handZ) () h3 rfl (by decide +kernel) fun p H' ys sH _ _ hp hys => ?_)
  exact q H' p Lf ys sH hp hys
end
end P19
namespace P19
open PySem PySem.Spec PyProof.Rows L2 AskG
abbrev sLR : Stmt := topS 16
abbrev NLR : List Str := ["_law_window", "_law_period", "_law_expected", "_law_start", "_law_cells", "_law_name", "_law_right_nows", "_law_one", "_law_day_nows"]
theorem scLR : FnScope NLR [] (defScope sLR) := ⟨rfl, rfl, rfl, by decide +kernel, rfl, by decide +kernel, by decide +kernel⟩
theorem rw_ok : RtOk Rw := ⟨person_ok _ (.head _), by decide, fun x hx => by
  rw [List.mem_singleton.mp hx]
  exact cellOk_of (by decide +kernel), by decide, by decide, by decide, by decide, ⟨by decide, by decide⟩⟩
theorem rp_ok : RtOk Rp := ⟨person_ok _ (.tail _ (.head _)), by decide, fun x hx => by
  have h : (Rp.ws.all cellB) = true := by decide +kernel
  exact cellOk_of (List.all_eq_true.mp h x hx), by decide, by decide, by decide, by decide, ⟨by decide, by decide, by decide, by decide⟩⟩
theorem iIfS' {c : TT} {t u : TS} {D : Ends} {σ : L2.St} {H : Hp} (h : c σ H fun b H1 => if b = true then t D σ H1 else u D σ H1) : tIfS c t u D σ H := h
/-- ((nm, lo + k), w) for k below n -/
def rangeRow (nm : Str) (w lo : Int) (n : Nat) : RowD := (List.range n).map fun (k : Nat) => ((nm, lo + (k : Int)), w)
theorem rangeRow_len (nm : Str) (w lo : Int) (n : Nat) : (rangeRow nm w lo n).length = n := by
  unfold rangeRow
  rw [List.length_map, List.length_range]
theorem lc_row {nm : Str} {wt lo : Int} {n i : Nat} {tw : TE} {σ : L2.St} {H1 : Hp} {D : Addr} {Qd : Hp → Prop} (hD : H1 D = none) (hn : n ≤ 100)
    (hi : ∀ v, ((wipe σ [i]).set i (some v))[i]? = some (some v)) (hw : ∀ σ H (Q : VK), Q (.int wt) H → tw σ H Q)
    (q : ∀ H' ps, Same H1 H' → H' D = some (.lst (ps.map V.ref)) → Paired (PairRow H') ps (rangeRow nm wt lo n) → Qd H') :
    ∃ W : Nat → Nat → Hp → Prop, (∃ m, W 0 m (upd H1 D (.lst []))) ∧ ∀ j m H, W j m H →
      ((Itr lo n).stop j H ∧ Qd H) ∨ ((Itr lo n).go j H ∧ ∃ Nx : Hp → Prop, (∀ H', Nx H' → ∃ m', m' < m ∧ W (j + 1) m' H') ∧ ∀ x H', (Itr lo n).yld j H x H' → gName i x (wipe σ [i]) H' fun σ2 H2 => wipe σ2 [i] = wipe σ [i] ∧ tYes σ2 H2 fun b H3 =>
        if b = true then (tTup (tCons (tTup (tCons (tC (.str nm)) (tCons (tVar i) tNil))) (tCons tw tNil))) σ2 H3 fun y H4 => ∃ acc, H4 D = some (.lst acc) ∧ acc.length < sizeLine ∧ Nx (upd H4 D (.lst (acc ++ [y]))) else Nx H3) := by
  have big := sizeBig
  refine lc_range (lo := lo) (n := n) (fun j H' => Same H1 H' ∧ ∃ ps, H' D = some (.lst (ps.map V.ref)) ∧ Paired (PairRow H') ps ((rangeRow nm wt lo n).take j)) ⟨same_new hD, [], upd_same, by rw [List.take_zero]; exact .nil⟩ (fun j H' hj h => ?_) (fun H' h => ?_)
  · obtain ⟨sm, ps, hps, hpp⟩ := h
    have pl := Paired.length hpp
    rw [List.length_take, rangeRow_len] at pl
    refine ⟨wipe1, iYes (iteT ?_)⟩
    refine ⟨.int (lo + (j : Int)), hi _, by show 2 ≤ sizeLine; omega, fun c hc => hw _ _ _ ⟨by show 2 ≤ sizeLine; omega, fun p hp => ?_⟩⟩
    have c1 := same_new (o := .tup [.str nm, .int (lo + (j : Int))]) hc
    have c2 := same_new (o := .tup [.ref c, .int wt]) hp
    have c12 := c1.trans c2
    have hDp := c12 _ _ hps
    refine ⟨_, hDp, by rw [List.length_map]; omega, fun b o e => ?_, ps ++ [p], by rw [upd_same, List.map_append]; rfl, ?_⟩
    · rw [upd_ne (ne_of_none e hD)]
      exact c12 _ _ (sm _ _ e)
    · have kp : KeepT _ (upd _ D (.lst (ps.map V.ref ++ [.ref p]))) := KeepT.put hDp fun _ z => nomatch z
      have : (rangeRow nm wt lo n)[j]? = some ((nm, lo + (j : Int)), wt) := by
        unfold rangeRow
        rw [List.getElem?_map, List.getElem?_range hj]
        rfl
      rw [List.take_add_one, this]
      exact Paired.snoc (Paired.mapP hpp fun _ _ z => (z.keep (KeepT.of c12)).keep kp) ⟨c, kp _ _ upd_same, kp _ _ (c2 _ _ upd_same)⟩
  · obtain ⟨sm, ps, hps, hpp⟩ := h
    rw [List.take_of_length_le (by rw [rangeRow_len]; exact Nat.le_refl _)] at hpp
    exact q H' ps sm hps hpp
/-- [question_on(r, d) for d in (8, 9)] -/
theorem lc_told {K : PySem.W.Frag} {R : Rt} {a tp : Addr} {j : Nat} {σ : L2.St} {H1 : Hp} {D : Addr} {Qd : Hp → Prop} (hD : H1 D = none) (htp : H1 tp = some (.tup [.int 8, .int 9])) (hR : RightAt H1 a R) (ok : RtOk R) (u8 : usedB R 8 = true) (u9 : usedB R 9 = true)
    (hj : ∀ v, ((wipe σ [8]).set 8 (some v))[j]? = some (some (.ref a))) (h8 : ∀ v, ((wipe σ [8]).set 8 (some v))[8]? = some (some v))
    (q : ∀ H' ps, Same H1 H' → H' D = some (.lst (ps.map V.ref)) → Paired (RowAt H') ps [rowQ R 8, rowQ R 9] → Qd H') :
    ∃ W : Nat → Nat → Hp → Prop, (∃ m, W 0 m (upd H1 D (.lst []))) ∧ ∀ i m H, W i m H →
      ((Itt K tp).stop i H ∧ Qd H) ∨ ((Itt K tp).go i H ∧ ∃ Nx : Hp → Prop, (∀ H', Nx H' → ∃ m', m' < m ∧ W (i + 1) m' H') ∧ ∀ x H', (Itt K tp).yld i H x H' → gName 8 x (wipe σ [8]) H' fun σ2 H2 => wipe σ2 [8] = wipe σ [8] ∧ tYes σ2 H2 fun b H3 =>
        if b = true then (tCallG prQ [] (tCons (tVar j) (tCons (tVar 8) tNil))) σ2 H3 fun y H4 => ∃ acc, H4 D = some (.lst acc) ∧ acc.length < sizeLine ∧ Nx (upd H4 D (.lst (acc ++ [y]))) else Nx H3) := by
  have big := sizeBig
  refine lc_tup (xs := [.int 8, .int 9]) (fun i H' => Same H1 H' ∧ ∃ ps, H' D = some (.lst (ps.map V.ref)) ∧ Paired (RowAt H') ps (([rowQ R 8, rowQ R 9] : List RowD).take i)) ⟨same_new hD, [], upd_same, .nil⟩ (fun i H' _ h => sqT (h.1 _ _ htp)) (fun i x H' hx h => ?_) (fun H' h => ?_)
  · obtain ⟨sm, ps, hps, hpp⟩ := h
    have pl := Paired.length hpp
    rw [List.length_take] at pl
    have hi : i < 2 := (List.getElem?_eq_some_iff.mp hx).1
    have ht : ∃ t : Int, x = .int t ∧ 0 ≤ t ∧ t ≤ 9 ∧ usedB R t = true ∧ ([rowQ R 8, rowQ R 9] : List RowD)[i]? = some (rowQ R t) := by
      match i, hi with
      | 0, _ =>
        cases hx
        exact ⟨8, rfl, by decide, by decide, u8, rfl⟩
      | 1, _ =>
        cases hx
        exact ⟨9, rfl, by decide, by decide, u9, rfl⟩
    obtain ⟨t, rfl, t0, t9, u, e⟩ := ht
    refine ⟨wipe1, iYes (iteT ⟨.ref a, hj _, .int t, h8 _, a, R, t, rfl, hR.keep (KeepT.of sm), ok, t0, t9, fun H2 s2 => ⟨fun z => ?_, fun _ p hp => ?_⟩⟩)⟩
    · rw [u] at z
      cases z
    · have hDp := s2 _ _ hps
      refine ⟨_, hDp, by rw [List.length_map]; omega, fun b o e => ?_, ps ++ [p], by rw [upd_same, List.map_append]; rfl, ?_⟩
      · rw [upd_ne (ne_of_none e hD)]
        exact s2 _ _ (sm _ _ e)
      · have kp : KeepT _ (upd _ D (.lst (ps.map V.ref ++ [.ref p]))) := KeepT.put hDp fun _ z => nomatch z
        rw [List.take_add_one, e]
        exact Paired.snoc (Paired.mapP hpp fun _ _ z => (z.keep (KeepT.of s2)).keep kp) (hp.keep kp)
  · obtain ⟨sm, ps, hps, hpp⟩ := h
    exact q H' ps sm hps hpp
theorem shaped_rows {ρs : List RowD} (h : ∀ ρ ∈ ρs, RowOk ρ) : SeqAt.shaped (.list (ρs.map rowPD)) = true := by
  have h1 : PyData.canLayAll0 (ρs.map rowPD) = true := can_all fun ρ hρ => by
    show PyData.canLayAll0 (ρ.map AskG.pairD) = true
    refine can_all fun x hx => ?_
    show (((PyData.strOk x.1.1) && (true && true)) && (true && true)) = true
    rw [((h ρ hρ).cells x hx).ok]
    rfl
  have h2 : PyData.depthAll (ρs.map rowPD) ≤ 3 := depth_all fun ρ _ => by
    show PyData.depthAll (ρ.map AskG.pairD) + 1 ≤ 3
    have : PyData.depthAll (ρ.map AskG.pairD) ≤ 2 := depth_all fun x _ => by
      show max (max 0 (max 0 0) + 1) (max 0 0) + 1 ≤ 2
      decide
    omega
  show (PyData.canLayAll0 (ρs.map rowPD) && decide (PyData.depthAll (ρs.map rowPD) + 1 ≤ 64)) = true
  rw [h1, decide_eq_true (by omega)]
  rfl
theorem rows_lay {ρs : List RowD} (h : ∀ ρ ∈ ρs, RowOk ρ) : (PyData.list (ρs.map rowPD)).canLay0 = true := by
  have := shaped_rows h
  exact (Bool.and_eq_true_iff.mp (show (PyData.canLayAll0 (ρs.map rowPD) && decide (PyData.depthAll (ρs.map rowPD) + 1 ≤ 64)) = true from this)).1
theorem two_rows {R : Rt} (ok : RtOk R) (u8 : usedB R 8 = true) (u9 : usedB R 9 = true) : ∀ ρ ∈ ([rowQ R 8, rowQ R 9] : List RowD), RowOk ρ := fun ρ hρ => by
  rcases List.mem_cons.mp hρ with rfl | h
  · exact qOf_ok ok (t := 8) (by decide) (by decide) _ (if_pos u8)
  · rw [List.mem_singleton.mp h]
    exact qOf_ok ok (t := 9) (by decide) (by decide) _ (if_pos u9)
section
variable {P : Program} {w : World} {K : PySem.W.Frag} {mg : Str → Option Value} {base : Heap}
variable {fL fQ : Addr} {fdL fdQ : FuncData}
def prLR : Pr := fun vs H Q => vs = [] ∧ (∃ D, Taken H D) ∧ ∀ H', Same H H' → Q (.bl true) H'
theorem ok_lr {f : Addr} {fd : FuncData} {k : Nat} (F : Fun K "_law_long_right" "_law_long_right" sLR f fd)
    (FL : Fun K "_law_long_rights" "_law_long_rights" sLong fL fdL) (bL : Binds K fdL [] []) (gL : mg "_law_long_rights" = some (.ref fL))
    (FQ : Fun K "question_on" "question_on" sQ fQ fdQ) (bQ : Binds K fdQ ["right", "day"] []) (gQ : mg "question_on" = some (.ref fQ)) (GQ : FnG P w K mg base (k + 2) fQ fdQ ["right", "day"] prQ)
    (mt : mg "tuple" = none) (mr : mg "range" = none) : FnG P w K mg base (k + 3) f fd [] prLR := by
  have GL : FnG P w K mg base (k + 1) fL fdL [] (prData longD) := ok_long FL
  refine okG F scLR (fun vs H Q h => by rw [h.1]; rfl) (fun cdv A outer s H vs Q hr h => ?_)
  obtain ⟨rfl, tk0, q⟩ := h
  have big := sizeBig
  have hun := hr.room.units
  have hr1 : RG (k + 1) (A.deeper (envOfC "_law_long_right" (defScope sLR) s.heap.objs.size f cdv)) := hr.mono (by omega)
  refine ⟨_, pss_cons (ps_asg (pe_lc (own := [("_law_name", 5), ("_law_right_nows", 6)]) (g := g2 K 5 6) (tt := tYes) rfl scLR.nd (pi_tup (pe_g0 GL hr1 (by rfl) gL FL.kp bL .nil)) (blkOk_by (N := NLR) (sc := defScope sLR) (by decide +kernel))
        (fun _ _ _ _ _ => pg_tup rfl (pgs_cons (pg_name (i := 5) scLR.nd rfl (.inl rfl)) (pgs_cons (pg_name (i := 6) scLR.nd rfl (.inl rfl)) pgs_nil))) (fun _ _ _ _ _ => pts_nil) (fun _ _ _ _ _ => pv 6))
      (pg_unl (by rfl) (pgs_cons (pg_name (i := 0) scLR.nd rfl (.inr rfl)) (pgs_cons (pg_name (i := 1) scLR.nd rfl (.inr rfl)) pgs_nil))))
    (pss_cons (ps_set (i := 2) scLR.nd rfl (.inl rfl) (pe_lst pa_nil))
    (pss_cons (ps_for PassesOwn.never rfl (pi_tup (pe_tup (pa_cons pe_int (pa_cons pe_int pa_nil)))) (pg_name (i := 3) scLR.nd rfl (.inl rfl))
      (pss_one (ps_expr (pe_bm PySem.F.plainAttrs_list PySem.F.slot_list_append PySem.F.type_list_append mt_append (pv 2) (pa_cons (pe_callTy call_tuple_of (by rfl) mt (by decide +kernel) (pa_cons
        (pe_lc (own := [("_law_one", 7)]) (g := gName 7) (tt := tYes) rfl scLR.nd (pi_range2 (by rfl) mr (pa_cons (pv 3) (pa_cons (pe_op op_add (pv 3) pe_int) pa_nil))) (blkOk_by (N := NLR) (sc := defScope sLR) (by decide +kernel)) (fun _ _ _ _ _ => pg_name (i := 7) scLR.nd rfl (.inl rfl)) (fun _ _ _ _ _ => pts_nil)
          (fun _ _ _ _ _ => pe_tup (pa_cons (pe_tup (pa_cons pe_str (pa_cons (pv 7) pa_nil))) (pa_cons pe_int pa_nil)))) pa_nil)) pa_nil)))))
    (pss_cons (ps_if (pt_cmpR (op_neD hun) (pe_lc (own := [("_law_day_nows", 8)]) (g := gName 8) (tt := tYes) rfl scLR.nd (pi_tup (pe_tup (pa_cons pe_int (pa_cons pe_int pa_nil)))) (blkOk_by (N := NLR) (sc := defScope sLR) (by decide +kernel)) (fun _ _ _ _ _ => pg_name (i := 8) scLR.nd rfl (.inl rfl)) (fun _ _ _ _ _ => pts_nil)
        (fun _ _ _ _ _ => pe_g GQ hr (by rfl) gQ FQ.kp bQ .nil (pa_cons (pv 0) (pa_cons (pv 8) pa_nil)))) (pv 2) (nomark _)) (pss_one (ps_ret pe_bl)) pss_nil)
    (pss_cons (ps_set (i := 4) scLR.nd rfl (.inl rfl) (pe_op op_cat
      (pe_lc (own := [("_law_one", 7)]) (g := gName 7) (tt := tYes) rfl scLR.nd (pi_range2 (by rfl) mr (pa_cons pe_int (pa_cons pe_int pa_nil))) (blkOk_by (N := NLR) (sc := defScope sLR) (by decide +kernel)) (fun _ _ _ _ _ => pg_name (i := 7) scLR.nd rfl (.inl rfl)) (fun _ _ _ _ _ => pts_nil)
        (fun _ _ _ _ _ => pe_tup (pa_cons (pe_tup (pa_cons pe_str (pa_cons (pv 7) pa_nil))) (pa_cons pe_int pa_nil))))
      (pe_lc (own := [("_law_one", 7)]) (g := gName 7) (tt := tYes) rfl scLR.nd (pi_range2 (by rfl) mr (pa_cons pe_int (pa_cons pe_int pa_nil))) (blkOk_by (N := NLR) (sc := defScope sLR) (by decide +kernel)) (fun _ _ _ _ _ => pg_name (i := 7) scLR.nd rfl (.inl rfl)) (fun _ _ _ _ _ => pts_nil)
        (fun _ _ _ _ _ => pe_tup (pa_cons (pe_tup (pa_cons pe_str (pa_cons (pv 7) pa_nil))) (pa_cons (pe_un un_neg pe_int) pa_nil))))))
    (pss_cons (ps_set (i := 2) scLR.nd rfl (.inl rfl) (pe_callTy call_tuple_of (by rfl) mt (by decide +kernel) (pa_cons (pv 4) pa_nil)))
    (pss_one (ps_ret (pe_cmpR (op_eqD hun) (pe_lc (own := [("_law_day_nows", 8)]) (g := gName 8) (tt := tYes) rfl scLR.nd (pi_tup (pe_tup (pa_cons pe_int (pa_cons pe_int pa_nil)))) (blkOk_by (N := NLR) (sc := defScope sLR) (by decide +kernel)) (fun _ _ _ _ _ => pg_name (i := 8) scLR.nd rfl (.inl rfl)) (fun _ _ _ _ _ => pts_nil)
        (fun _ _ _ _ _ => pe_g GQ hr (by rfl) gQ FQ.kp bQ .nil (pa_cons (pv 1) (pa_cons (pv 8) pa_nil)))) (pe_lst (pa_cons (pv 2) (pa_cons (pv 2) pa_nil))) (nomark _))))))))), ?_⟩
  -- the two rights
  refine iSeq (iAsg ?_)
  refine ⟨rfl, tk0, fun H1 v1 D1 s1 d1 => ?_⟩
  obtain ⟨a1, x1, y1, rfl, ha1, hx1, hy1⟩ := DH.pair_inv d1
  obtain ⟨ax, p1, w1, rfl, hax, hp1, hw1⟩ := DH.pair_inv hx1
  obtain ⟨ay, p2, w2, rfl, hay, hp2, hw2⟩ := DH.pair_inv hy1
  obtain ⟨rw, rfl, hRw⟩ := right_inv hw1
  obtain ⟨rp, rfl, hRp⟩ := right_inv hw2
  refine ⟨a1, rfl, ⟨_, sqT ha1⟩, fun D hD => ?_⟩
  refine lc_tup (xs := [.ref ax, .ref ay]) (fun i H' => Same H1 H' ∧ H' D = some (.lst (([.ref rw, .ref rp] : List V).take i))) ⟨same_new hD, upd_same⟩ (fun i H' _ h => sqT (h.1 _ _ ha1)) (fun i x H' hx h => ?_) (fun H' h => ?_)
  · have hi : i < 2 := (List.getElem?_eq_some_iff.mp hx).1
    have hc : ∃ (b : Addr) (p : V) (r : Addr), x = .ref b ∧ H1 b = some (.tup [p, .ref r]) ∧ ([.ref rw, .ref rp] : List V)[i]? = some (.ref r) := by
      match i, hi with
      | 0, _ =>
        cases hx
        exact ⟨ax, p1, rw, rfl, hax, rfl⟩
      | 1, _ =>
        cases hx
        exact ⟨ay, p2, rp, rfl, hay, rfl⟩
    obtain ⟨b, p, r, rfl, hb, er⟩ := hc
    refine ⟨b, _, rfl, sqT (h.1 _ _ hb), rfl, p, _, rfl, .ref r, _, rfl, rfl, rfl, iYes (iteT ⟨.ref r, rfl, _, h.2, ?_, fun b' o e => ?_, ?_⟩)⟩
    · rw [List.length_take]
      show min i 2 < sizeLine
      omega
    · rw [upd_ne (ne_of_none e hD)]
      exact h.1 _ _ e
    · rw [upd_same, List.take_add_one, er]
      rfl
  · obtain ⟨sm, hDl⟩ := h
    refine ⟨D, _, rfl, sqL hDl, rfl, .ref rw, _, rfl, .ref rp, _, rfl, rfl, ?_⟩
    dsimp only
    have hRw := hRw.keep (KeepT.of sm)
    have hRp := hRp.keep (KeepT.of sm)
    have s01 := s1.trans sm
    clear hDl hD
    -- what is expected of the window
    refine iSeq (iAsg ⟨Nat.zero_le _, fun Le hLe => ?_⟩)
    have s2 := same_new (o := .lst []) hLe
    refine iName ?_
    dsimp only
    refine iSeq ⟨by show 2 ≤ sizeLine; omega, fun tp htp => ?_⟩
    have s3 := same_new (o := .tup [.int 3, .int 4]) htp
    refine ⟨tp, rfl, ⟨_, sqT upd_same⟩, ?_⟩
    refine for_tup (xs := [.int 3, .int 4]) (fun i σ' H2 => (∃ x3, σ' = [some (.ref rw), some (.ref rp), some (.ref Le), x3, none, none, none, none, none]) ∧ Same H' H2 ∧ H2 tp = some (.tup [.int 3, .int 4]) ∧ ∃ ps, H2 Le = some (.lst (ps.map V.ref)) ∧ Paired (RowAt H2) ps (([rangeRow "a" 3 3 6, rangeRow "a" 3 4 6] : List RowD).take i))
      ⟨⟨none, rfl⟩, s2.trans s3, upd_same, [], s3 _ _ upd_same, .nil⟩ (fun i σ' H2 _ h => sqT h.2.2.1) (fun i x σ' H2 hx h => ?_) (fun σ' H2 h => ?_)
    · obtain ⟨⟨x3, rfl⟩, sm2, htp2, ps, hps, hpp⟩ := h
      have hi : i < 2 := (List.getElem?_eq_some_iff.mp hx).1
      have hc : ∃ st : Int, x = .int st ∧ 0 ≤ st ∧ st ≤ 10 ∧ ([rangeRow "a" 3 3 6, rangeRow "a" 3 4 6] : List RowD)[i]? = some (rangeRow "a" 3 st 6) := by
        match i, hi with
        | 0, _ =>
          cases hx
          exact ⟨3, rfl, by decide, by decide, rfl⟩
        | 1, _ =>
          cases hx
          exact ⟨4, rfl, by decide, by decide, rfl⟩
      obtain ⟨st, rfl, st0, st1, est⟩ := hc
      have pl := Paired.length hpp
      rw [List.length_take] at pl
      refine iName ?_
      dsimp only
      refine iDrop' ⟨.ref Le, rfl, .inl ⟨rfl, _, sqL hps⟩, ?_⟩
      refine ⟨.int st, rfl, .int st, rfl, st, 6, rfl, rfl, st, st + 6, rfl, ⟨by omega, by omega, by omega, by omega⟩, fun D3 hD3 => ?_⟩
      have en : (st + 6 - st).toNat = 6 := by omega
      rw [en]
      refine lc_row (nm := "a") (wt := 3) (i := 7) hD3 (by decide) (fun _ => rfl) (fun _ _ _ z => z) (fun H3 qs sm3 hqs hqq => ?_)
      refine ⟨D3, _, rfl, .inl ⟨sqL hqs, fun p hp => ?_⟩⟩
      have s5 := same_new (o := .tup (qs.map V.ref)) hp
      have s35 := sm3.trans s5
      refine ⟨Le, _, _, rfl, rfl, s35 _ _ hps, by rw [List.length_map]; omega, ?_⟩
      have kp : KeepT _ (upd _ Le (.lst (ps.map V.ref ++ [.ref p]))) := KeepT.put (s35 _ _ hps) fun _ z => nomatch z
      have ntp : tp ≠ Le := ne_of htp2 hps fun z => nomatch z
      refine ⟨⟨_, rfl⟩, fun b o e => ?_, ?_, ps ++ [p], by rw [upd_same, List.map_append]; rfl, ?_⟩
      · rw [upd_ne (ne_of_none e hLe)]
        exact s35 _ _ (sm2 _ _ e)
      · rw [upd_ne ntp]
        exact s35 _ _ htp2
      · rw [List.take_add_one, est]
        refine Paired.snoc (Paired.mapP hpp fun _ _ z => (z.keep (KeepT.of s35)).keep kp) (RowAt.keep (H := _) ⟨qs, upd_same, Paired.mapP hqq fun _ _ z => z.keep (KeepT.of s5)⟩ kp)
    · obtain ⟨⟨x3, rfl⟩, sm2, htp2, ps, hps, hpp⟩ := h
      dsimp only
      have hpp : Paired (RowAt H2) ps [rangeRow "a" 3 3 6, rangeRow "a" 3 4 6] := hpp
      have ew : ([rangeRow "a" 3 3 6, rangeRow "a" 3 4 6] : List RowD) = [rowQ Rw 8, rowQ Rw 9] := by decide +kernel
      rw [ew] at hpp
      have hRw2 := hRw.keep (KeepT.of sm2)
      have hRp2 := hRp.keep (KeepT.of sm2)
      have okr := two_rows rw_ok (by decide) (by decide)
      -- told of the window
      refine iSeq (iIfS' ?_)
      refine ⟨by show 2 ≤ sizeLine; omega, fun t8 ht8 => ?_⟩
      have s6 := same_new (o := .tup [.int 8, .int 9]) ht8
      refine ⟨t8, rfl, ⟨_, sqT upd_same⟩, fun D4 hD4 => ?_⟩
      refine lc_told (j := 0) hD4 upd_same (hRw2.keep (KeepT.of s6)) rw_ok (by decide) (by decide) (fun _ => rfl) (fun _ => rfl) (fun H4 rs sm4 hrs hrr => ?_)
      have s64 := s6.trans sm4
      refine ⟨.ref Le, rfl, .list (([rowQ Rw 8, rowQ Rw 9] : List RowD).map rowPD), .list (([rowQ Rw 8, rowQ Rw 9] : List RowD).map rowPD), .lst (sqL hrs) (dp_all (f := rowPD) (R := RowAt H4) (fun _ _ z => dp_row z) hrr), .lst (sqL (s64 _ _ hps)) (dp_all (f := rowPD) (R := RowAt H2) (fun _ _ z => dp_row (z.keep (KeepT.of s64))) hpp), shaped_rows okr, shaped_rows okr, _, rfl, ?_⟩
      rw [SeqAt.eqv_refl _ (rows_lay okr)]
      refine iteF (iNext ?_)
      dsimp only
      have hRp4 := hRp2.keep (KeepT.of s64)
      have s04 := (s01.trans sm2).trans s64
      -- what is expected of the period
      refine iSeq (iAsg (iOp ?_))
      refine ⟨1, 9, rfl, ⟨by decide, by decide, by decide, by decide⟩, fun D5 hD5 => ?_⟩
      refine lc_row (nm := "a") (wt := 1) (lo := 1) (n := 8) (i := 7) hD5 (by decide) (fun _ => rfl) (fun _ _ _ z => z) (fun H5 q5 sm5 hq5 hqq5 => ?_)
      refine ⟨1, 9, rfl, ⟨by decide, by decide, by decide, by decide⟩, fun D6 hD6 => ?_⟩
      refine lc_row (nm := "b") (wt := -2) (lo := 1) (n := 8) (i := 7) hD6 (by decide) (fun _ => rfl) (fun _ _ _ z => ⟨2, rfl, z⟩) (fun H6 q6 sm6 hq6 hqq6 => ?_)
      have l5 := Paired.length hqq5
      have l6 := Paired.length hqq6
      rw [rangeRow_len] at l5 l6
      refine ⟨D5, D6, _, _, rfl, rfl, sm6 _ _ hq5, hq6, by rw [List.length_map, List.length_map]; omega, fun Lc hLc => ?_⟩
      have s7 := same_new (o := .lst (q5.map V.ref ++ q6.map V.ref)) hLc
      refine iName ?_
      dsimp only
      refine iSeq (iAsg ⟨.ref Lc, rfl, Lc, _, rfl, .inl ⟨sqL upd_same, fun pe hpe => ?_⟩⟩)
      have s8 := same_new (o := .tup (q5.map V.ref ++ q6.map V.ref)) hpe
      have s78 := s7.trans s8
      have hrow : RowAt _ pe (rangeRow "a" 1 1 8 ++ rangeRow "b" (-2) 1 8) := ⟨q5 ++ q6, by rw [List.map_append]; exact upd_same, paired_app (Paired.mapP hqq5 fun _ _ z => (z.keep (KeepT.of sm6)).keep (KeepT.of s78)) (Paired.mapP hqq6 fun _ _ z => z.keep (KeepT.of s78))⟩
      have s58 := (sm5.trans sm6).trans s78
      have hRp8 := hRp4.keep (KeepT.of s58)
      generalize upd (upd H6 Lc (.lst (q5.map V.ref ++ q6.map V.ref))) pe (.tup (q5.map V.ref ++ q6.map V.ref)) = H8 at hrow hRp8 s58 ⊢
      have s08 := s04.trans s58
      refine iName ?_
      dsimp only
      -- told of the period
      refine iRet (iOp ?_)
      refine ⟨by show 2 ≤ sizeLine; omega, fun t9 ht9 => ?_⟩
      have s9 := same_new (o := .tup [.int 8, .int 9]) ht9
      refine ⟨t9, rfl, ⟨_, sqT upd_same⟩, fun D9 hD9 => ?_⟩
      refine lc_told (j := 1) hD9 upd_same (hRp8.keep (KeepT.of s9)) rp_ok (by decide) (by decide) (fun _ => rfl) (fun _ => rfl) (fun Ha rs2 sma hrs2 hrr2 => ?_)
      refine ⟨.ref pe, rfl, .ref pe, rfl, by show 2 ≤ sizeLine; omega, fun Lz hLz => ?_⟩
      have sb := same_new (o := .lst [.ref pe, .ref pe]) hLz
      have s9b := (s9.trans sma).trans sb
      have ep : ([rowQ Rp 8, rowQ Rp 9] : List RowD) = [rangeRow "a" 1 1 8 ++ rangeRow "b" (-2) 1 8, rangeRow "a" 1 1 8 ++ rangeRow "b" (-2) 1 8] := by decide +kernel
      have okp := two_rows rp_ok (by decide) (by decide)
      rw [ep] at hrr2 okp
      have hpe2 : RowAt _ pe _ := hrow.keep (KeepT.of s9b)
      refine ⟨.list (([rangeRow "a" 1 1 8 ++ rangeRow "b" (-2) 1 8, rangeRow "a" 1 1 8 ++ rangeRow "b" (-2) 1 8] : List RowD).map rowPD), .list (([rangeRow "a" 1 1 8 ++ rangeRow "b" (-2) 1 8, rangeRow "a" 1 1 8 ++ rangeRow "b" (-2) 1 8] : List RowD).map rowPD), .lst (sqL (sb _ _ hrs2)) (dp_all (f := rowPD) (R := RowAt Ha) (fun _ _ z => dp_row (z.keep (KeepT.of sb))) hrr2), .lst (sqL upd_same) (.cons (dp_row hpe2) (.cons (dp_row hpe2) .nil)), shaped_rows okp, shaped_rows okp, ?_⟩
      rw [SeqAt.eqv_refl _ (rows_lay okp)]
      exact q _ (s08.trans s9b)
end
end P19
namespace P19
open PySem PySem.Spec PyProof.Rows L2 AskG
abbrev sLaw : Stmt := topS 17
abbrev NL : List Str := ["_law_script", "_law_feed_here", "_law_right_now", "_law_day_now", "_law_expected", "_law_turn", "_law_days", "_law_seen", "_law_told", "_law_one"]
theorem scLaw : FnScope NL ["_law_script"] (defScope sLaw) := ⟨rfl, rfl, rfl, by decide +kernel, rfl, by decide +kernel, by decide +kernel⟩
structure HandOk (x : Rt × Int × Option RowD) : Prop where
  ok : RtOk x.1
  t0 : 0 ≤ x.2.1
  t9 : x.2.1 ≤ 9
  eq : qOf x.1 x.2.1 = x.2.2
def kindB : KindM → Bool
  | .tot s => decide (0 ≤ s) && decide (s ≤ 30)
  | .win l => decide (0 ≤ l) && decide (l ≤ 30)
  | .per b e => decide (0 ≤ b) && decide (b ≤ 30) && (decide (0 ≤ e) && decide (e ≤ 30))
theorem kind_of {k : KindM} (h : kindB k = true) : k.Ok := by
  cases k with
  | tot s =>
    have h := Bool.and_eq_true_iff.mp h
    exact ⟨of_decide_eq_true h.1, of_decide_eq_true h.2⟩
  | win l =>
    have h := Bool.and_eq_true_iff.mp h
    exact ⟨of_decide_eq_true h.1, of_decide_eq_true h.2⟩
  | per b e =>
    have h := Bool.and_eq_true_iff.mp h
    have h1 := Bool.and_eq_true_iff.mp h.1
    have h2 := Bool.and_eq_true_iff.mp h.2
    exact ⟨of_decide_eq_true h1.1, of_decide_eq_true h1.2, of_decide_eq_true h2.1, of_decide_eq_true h2.2⟩
def rtB (R : Rt) : Bool := cellB (R.person, 0) && decide (R.ws.length ≤ 3) && R.ws.all cellB && (decide (0 ≤ R.first) && decide (R.first ≤ 30) && (decide (0 ≤ R.last) && decide (R.last ≤ 30))) && kindB R.kind
theorem rt_of {R : Rt} (h : rtB R = true) : RtOk R := by
  unfold rtB at h
  simp only [Bool.and_eq_true, decide_eq_true_eq] at h
  obtain ⟨⟨⟨⟨h1, h2⟩, h3⟩, ⟨h4, h5⟩, h6, h7⟩, h8⟩ := h
  exact ⟨cellOk_of h1, h2, fun x hx => cellOk_of (List.all_eq_true.mp h3 x hx), h4, h5, h6, h7, kind_of h8⟩
theorem hand_ok : ∀ x ∈ handL, HandOk x := by
  have h : ∀ x ∈ handL, rtB x.1 = true ∧ 0 ≤ x.2.1 ∧ x.2.1 ≤ 9 ∧ qOf x.1 x.2.1 = x.2.2 := by
    unfold handL
    intro x hx
    simp only [List.mem_cons, List.not_mem_nil, or_false] at hx
    rcases hx with rfl | rfl | rfl | rfl | rfl | rfl | rfl <;> exact ⟨by decide +kernel, by decide, by decide, by decide +kernel⟩
  exact fun x hx => ⟨rt_of (h x hx).1, (h x hx).2.1, (h x hx).2.2.1, (h x hx).2.2.2⟩
theorem opt_inv {D : Addr} {H : Hp} {v : V} {o : Option RowD} (h : DH D H v (optD o)) : OptAt H v o := by
  cases o with
  | none =>
    cases h
    rfl
  | some ρ =>
    obtain ⟨a, rfl, hr⟩ := row_inv h
    exact ⟨a, rfl, hr⟩
theorem item_inv {D : Addr} {H : Hp} {v : V} {x : Rt × Int × Option RowD} (h : DH D H v (itemD x)) : ∃ b r ev, v = .ref b ∧ H b = some (.tup [.ref r, .int x.2.1, ev]) ∧ RightAt H r x.1 ∧ OptAt H ev x.2.2 := by
  obtain ⟨b, xs, rfl, hb, t⟩ := DH.tup_inv h
  cases t with
  | cons h1 t => cases t with
    | cons h2 t => cases t with
      | cons h3 t =>
        cases t
        obtain ⟨r, rfl, hr⟩ := right_inv h1
        obtain rfl := h2.int_inv
        exact ⟨b, r, _, rfl, hb, hr, opt_inv h3⟩
theorem fine_kind {k : KindM} (h : k.Ok) : Fine 1 9999 k.data := by
  have lit : ∀ {i : Int}, 0 ≤ i → i ≤ 30 → Fine 0 1921 (.int i) := fun h1 h2 => fine_int (small_lit (by omega))
  have st : ∀ {x : Str}, cellB (x, 0) = true → Fine 0 1921 (.str x) := fun h => fine_str (cellOk_of h).short (cellOk_of h).plain
  have nn := h.nn
  cases k with
  | tot s =>
    refine (Fine.tup (k := 0) (n := 1921) (m := 3) (fun d hd => ?_) (by show 2 ≤ 3; decide)).mono (by decide) (by decide)
    simp only [List.mem_cons, List.not_mem_nil, or_false] at hd
    rcases hd with rfl | rfl
    · exact st (by decide +kernel)
    · exact lit nn.1 nn.2
  | win l =>
    refine (Fine.tup (k := 0) (n := 1921) (m := 3) (fun d hd => ?_) (by show 2 ≤ 3; decide)).mono (by decide) (by decide)
    simp only [List.mem_cons, List.not_mem_nil, or_false] at hd
    rcases hd with rfl | rfl
    · exact st (by decide +kernel)
    · exact lit nn.1 nn.2
  | per b e =>
    refine (Fine.tup (k := 0) (n := 1921) (m := 3) (fun d hd => ?_) (by show 3 ≤ 3; decide)).mono (by decide) (by decide)
    simp only [List.mem_cons, List.not_mem_nil, or_false] at hd
    rcases hd with rfl | rfl | rfl
    · exact st (by decide +kernel)
    · exact lit nn.1 nn.2.1
    · exact lit nn.2.2.1 nn.2.2.2
theorem fine_right {R : Rt} (h : RtOk R) : Fine 3 99999 (rightD R) := by
  have ws : Fine 2 11556 (.tuple (R.ws.map AskG.cellD)) := Fine.tup (k := 1) (n := 3849) (m := 3) (fun d hd => by
    obtain ⟨x, hx, rfl⟩ := List.mem_map.mp hd
    exact fine_cell (h.ws x hx)) (by rw [List.length_map]; exact h.many)
  refine (Fine.tup (k := 2) (n := 11556) (m := 5) (fun d hd => ?_) (by show 5 ≤ 5; decide)).mono (Nat.le_refl _) (by decide)
  simp only [List.mem_cons, List.not_mem_nil, or_false] at hd
  rcases hd with rfl | rfl | rfl | rfl | rfl
  · exact (fine_str h.name.short h.name.plain).mono (by decide) (by decide)
  · exact ws
  · exact (fine_int (small_lit (by have := h.f0; have := h.f1; omega))).mono (by decide) (by decide)
  · exact (fine_int (small_lit (by have := h.l0; have := h.l1; omega))).mono (by decide) (by decide)
  · exact (fine_kind h.kind).mono (by decide) (by decide)
theorem vals_getD {vs : List V} {us : List Value} (r : Vals vs us) : ∀ i : Nat, RelV (vs.getD i .non) (us.getD i .none) := by
  induction r with
  | nil =>
    intro i
    cases i <;> rfl
  | cons h t ih =>
    intro i
    cases i with
    | zero => exact h
    | succ j => exact ih j
abbrev swapL {α : Type} (d : α) (_ ws : List α) : List α := [ws.getD 1 d, ws.getD 0 d]
theorem kb_swap {K : PySem.W.Frag} {x qual : Str} {st : Stmt} {f : Addr} {fd : FuncData} {p1 p2 : Str} (F : Fun K x qual st f fd)
    (h : ∀ (kV doc pm : Value) (an : Option Addr) (cdv ct a b : Value), bindArgs (PySem.W.fnOf x qual (defArgs st) (defBody st) (defScope st) .none kV doc pm an cdv ct) ⟨[], [(p2, a), (p1, b)]⟩ = pure [(p1, b), (p2, a)]) :
    KBn K fd [p1, p2] 0 [p2, p1] (swapL .none) (swapL .non) := by
  obtain ⟨oc, od, kV, doc, pm, an, cdv, ct, osl, rfl, lk, hcd⟩ := F.ex
  refine ⟨fun s us ws _ hu hw => ?_, fun r rz => .cons (vals_getD rz 1) (.cons (vals_getD rz 0) .nil)⟩
  match us, ws, hu, hw with
  | [], [a, b], _, _ => exact .of_eq (h kV doc pm an cdv ct a b)
section
variable {P : Program} {w : World} {K : PySem.W.Frag} {mg : Str → Option Value} {base : Heap}
def prLaw (K : PySem.W.Frag) : Pr := fun vs H Q => ∃ (a : Addr) (ns : List Int), vs = [.ref a] ∧ SqL K H a (ns.map V.int) ∧ ∀ H', Q (.bl true) H'
def prQ' : Pr := fun vs H Q => ∃ (a : Addr) (R : Rt) (t : Int), vs = [.ref a, .int t] ∧ RightAt H a R ∧ RtOk R ∧ 0 ≤ t ∧ t ≤ 9 ∧ ∀ H', Same H H' → ∀ v, OptAt H' v (qOf R t) → Q v H'
def prLQ' : Pr := fun vs H Q => ∃ (a : Addr) (R : Rt) (t : Int), vs = [.ref a, .int t] ∧ RightAt H a R ∧ RtOk R ∧ NamesUp R.ws ∧ 0 ≤ t ∧ t ≤ 9 ∧ ∀ H', Same H H' → ∀ v, OptAt H' v (qOf R t) → Q v H'
theorem weak {k : Nat} {f : Addr} {fd : FuncData} {ps : List Str} {pr pr' : Pr} (F : FnG P w K mg base k f fd ps pr) (h : ∀ vs H Q, pr' vs H Q → pr vs H Q) : FnG P w K mg base k f fd ps pr' :=
  ⟨fun vs H Q p => F.many vs H Q (h vs H Q p), fun A outer s H args us vs Q hr e hb hv p => F.goes A outer s H args us vs Q hr e hb hv (h vs H Q p)⟩
theorem q_weak : ∀ vs H Q, prQ' vs H Q → prQ vs H Q := by
  rintro vs H Q ⟨a, R, t, rfl, hR, ok, t0, t9, q⟩
  exact ⟨a, R, t, rfl, hR, ok, t0, t9, fun H' s => q_opt (q H' s)⟩
theorem lq_weak : ∀ vs H Q, prLQ' vs H Q → prLQ vs H Q := by
  rintro vs H Q ⟨a, R, t, rfl, hR, ok, up, t0, t9, q⟩
  exact ⟨a, R, t, rfl, hR, ok, up, t0, t9, fun H' s => q_opt (q H' s)⟩
variable {fF fR fH fQ fLQ fT fA fD : Addr} {fdF fdR fdH fdQ fdLQ fdT fdA fdD : FuncData}
theorem ok_law {f : Addr} {fd : FuncData} {k : Nat} (F : Fun K "law" "law" sLaw f fd)
    (FF : Fun K "_law_feed" "_law_feed" sFeed fF fdF) (bF : Binds K fdF ["_law_script"] []) (gF : mg "_law_feed" = some (.ref fF)) (GF : FnG P w K mg base (k + 4) fF fdF ["_law_script"] (prFeed K))
    (FR : Fun K "_law_long_right" "_law_long_right" sLR fR fdR) (bR : Binds K fdR [] []) (gR : mg "_law_long_right" = some (.ref fR)) (GR : FnG P w K mg base (k + 4) fR fdR [] prLR)
    (FH : Fun K "_law_hand" "_law_hand" sHand fH fdH) (bH : Binds K fdH [] []) (gH : mg "_law_hand" = some (.ref fH)) (GH : FnG P w K mg base (k + 4) fH fdH [] (prList handD))
    (FQ : Fun K "question_on" "question_on" sQ fQ fdQ) (bQ : Binds K fdQ ["right", "day"] []) (gQ : mg "question_on" = some (.ref fQ)) (GQ : FnG P w K mg base (k + 4) fQ fdQ ["right", "day"] prQ)
    (FLQ : Fun K "_law_question" "_law_question" sLQ fLQ fdLQ) (bLQ : Binds K fdLQ ["_law_right_nowss", "_law_day_nowss"] []) (gLQ : mg "_law_question" = some (.ref fLQ)) (GLQ : FnG P w K mg base (k + 4) fLQ fdLQ ["_law_right_nowss", "_law_day_nowss"] prLQ)
    (FT : Fun K "_law_some_right" "_law_some_right" sRt fT fdT) (bT : Binds K fdT ["_law_feed_here", "_law_accounts_here", "_law_day_nowss"] []) (gT : mg "_law_some_right" = some (.ref fT)) (GT : FnG P w K mg base (k + 4) fT fdT ["_law_feed_here", "_law_accounts_here", "_law_day_nowss"] prRt)
    (FA : Fun K "_law_accounts" "_law_accounts" sAcc fA fdA) (bA : Binds K fdA ["_law_feed_here"] []) (gA : mg "_law_accounts" = some (.ref fA)) (GA : FnG P w K mg base (k + 4) fA fdA ["_law_feed_here"] prAcc)
    (FD : Fun K "_law_draw" "_law_draw" sDraw fD fdD) (bD : Binds K fdD ["_law_feed_here", "_law_many"] []) (gD : mg "_law_draw" = some (.ref fD)) (GD : FnG P w K mg base (k + 4) fD fdD ["_law_feed_here", "_law_many"] prDraw)
    (mls : mg "list" = none) (mr : mg "range" = none) (mp : mg "repr" = none) : FnG P w K mg base (k + 5) f fd ["_law_script"] (prLaw K) := by
  have GQ := weak GQ q_weak
  have GLQ := weak GLQ lq_weak
  refine okG F scLaw (fun vs H Q h => ?_) (fun cdv A outer s H vs Q hr h => ?_)
  · obtain ⟨_, _, rfl, _⟩ := h
    rfl
  · obtain ⟨a, ns, rfl, hS, q⟩ := h
    have big := sizeBig
    have hun := hr.room.units
    have kQ : KBn K fdQ ["right", "day"] 0 ["day", "right"] (swapL .none) (swapL .non) := kb_swap FQ fun _ _ _ _ _ _ _ _ => rfl
    refine ⟨_, pss_cons (ps_set (i := 1) scLaw.nd rfl (.inl rfl) (pe_g GF hr (by rfl) gF FF.kp bF .nil (pa_cons (pv 0) pa_nil)))
      (pss_cons (ps_if (pt_not (pt_val (pe_g0 GR hr (by rfl) gR FR.kp bR .nil))) (pss_one (ps_ret pe_bl)) pss_nil)
      (pss_cons (ps_for PassesOwn.never rfl (pi_list (pe_g0 GH hr (by rfl) gH FH.kp bH .nil)) (pg_tup rfl (pgs_cons (pg_name (i := 2) scLaw.nd rfl (.inl rfl)) (pgs_cons (pg_name (i := 3) scLaw.nd rfl (.inl rfl)) (pgs_cons (pg_name (i := 4) scLaw.nd rfl (.inl rfl)) pgs_nil))))
        (pss_one (ps_if (pt_cmpR op_ne (pe_callB (call_reprV hr) (by rfl) mp (by decide +kernel) (pa_cons (pe_g GQ hr (by rfl) gQ FQ.kp bQ .nil (pa_cons (pv 2) (pa_cons (pv 3) pa_nil))) pa_nil)) (pe_callB (call_reprV hr) (by rfl) mp (by decide +kernel) (pa_cons (pv 4) pa_nil)) (nomark _)) (pss_one (ps_ret pe_bl)) pss_nil)))
      (pss_cons (ps_for PassesOwn.never rfl (pi_range1 rfl mr (pa_cons pe_int pa_nil)) (pg_name (i := 5) scLaw.nd rfl (.inl rfl))
        (pss_cons (ps_par (by rfl) scLaw.nd (i := 2) (j := 6) rfl rfl (by decide) rfl rfl (pa_cons (pe_g GT hr (by rfl) gT FT.kp bT .nil (pa_cons (pv 1) (pa_cons (pe_g GA hr (by rfl) gA FA.kp bA .nil (pa_cons (pv 1) pa_nil)) (pa_cons (pe_g GD hr (by rfl) gD FD.kp bD .nil (pa_cons (pv 1) (pa_cons pe_int pa_nil))) pa_nil)))) (pa_cons (pe_listRg rfl (by rfl) mls (prg_1 (by rfl) mr pe_int)) pa_nil)) (by rfl))
        (pss_cons (ps_set (i := 7) scLaw.nd rfl (.inl rfl) (pe_callB (call_reprV hr) (by rfl) mp (by decide +kernel) (pa_cons (pv 2) pa_nil)))
        (pss_cons (ps_for PassesOwn.never rfl (pi_list (pv 6)) (pg_name (i := 3) scLaw.nd rfl (.inl rfl))
          (pss_cons (ps_set (i := 4) scLaw.nd rfl (.inl rfl) (pe_callB (call_reprV hr) (by rfl) mp (by decide +kernel) (pa_cons (pe_g GLQ hr (by rfl) gLQ FLQ.kp bLQ .nil (pa_cons (pv 2) (pa_cons (pv 3) pa_nil))) pa_nil)))
          (pss_cons (ps_set (i := 8) scLaw.nd rfl (.inl rfl) (pe_lst (pa_cons (pe_g GQ hr (by rfl) gQ FQ.kp bQ .nil (pa_cons (pv 2) (pa_cons (pv 3) pa_nil))) (pa_cons (pe_gn0 GQ hr (by rfl) gQ FQ.kp kQ (pk_cons (pv 3) (pk_cons (pv 2) pk_nil))) pa_nil))))
          (pss_one (ps_if (pt_cmpR (op_neS hun) (pe_lc (own := [("_law_one", 9)]) (g := gName 9) (tt := tYes) rfl scLaw.nd (pi_list (pv 8)) (blkOk_by (N := NL) (sc := defScope sLaw) (by decide +kernel)) (fun _ _ _ _ _ => pg_name (i := 9) scLaw.nd rfl (.inl rfl)) (fun _ _ _ _ _ => pts_nil)
              (fun _ _ _ _ _ => pe_callB (call_reprV hr : CallR _ (.builtin "repr") (rReprV K)) (by rfl) mp (by decide +kernel) (pa_cons (pv 9) pa_nil))) (pe_lst (pa_cons (pv 4) (pa_cons (pv 4) pa_nil))) (nomark _)) (pss_one (ps_ret pe_bl)) pss_nil)))))
        (pss_one (ps_if (pt_cmpR op_ne (pe_callB (call_reprV hr) (by rfl) mp (by decide +kernel) (pa_cons (pv 2) pa_nil)) (pv 7) (nomark _)) (pss_one (ps_ret pe_bl)) pss_nil))))))
      (pss_one (ps_ret pe_bl))))), ?_⟩
    -- the feed
    refine iSeq (iAsg ⟨.ref a, rfl, a, ns, rfl, hS, fun H1 Fd L s1 hF => ?_⟩)
    refine iName ?_
    dsimp only
    have tk : ∀ {H'}, FeedAt H' Fd L → ∃ D, Taken H' D := fun h => by
      obtain ⟨_, _, _, _, e, _⟩ := h
      exact ⟨Fd, _, e⟩
    refine iSeq (iIfS' ?_)
    refine ⟨rfl, tk hF, fun H2 s2 => ⟨true, rfl, ?_⟩⟩
    refine iteF (iNext ?_)
    dsimp only
    have hF2 := hF.same s2
    -- by hand
    refine iSeq ?_
    refine split_s (fun σ' H' => (∃ x2 x3 x4, σ' = [some (.ref a), some (.ref Fd), x2, x3, x4, none, none, none, none, none]) ∧ FeedAt H' Fd L) (fun nx hnx => ?_) (fun σ' H' hx => ?_)
    · refine ⟨rfl, tk hF2, fun H3 p D ys s3 hp hys => ?_⟩
      refine ⟨p, rfl, ⟨_, sqL hp⟩, ?_⟩
      refine for_list (xs := ys) (fun i σ' H' => (∃ x2 x3 x4, σ' = [some (.ref a), some (.ref Fd), x2, x3, x4, none, none, none, none, none]) ∧ Same H3 H') ⟨⟨none, none, none, rfl⟩, Same.refl _⟩ (fun i σ' H' _ h => sqL (h.2 _ _ hp)) (fun i x σ' H' hx h => ?_) (fun σ' H' h => hnx _ _ ⟨h.1, (hF2.same s3).same h.2⟩)
      obtain ⟨⟨x2, x3, x4, rfl⟩, sm⟩ := h
      obtain ⟨d, hdi, hdx⟩ := hys.at hx
      unfold handD at hdi
      rw [List.getElem?_map] at hdi
      obtain ⟨it, hit, rfl⟩ := Option.map_eq_some_iff.mp hdi
      have ho := hand_ok it (List.mem_of_getElem? hit)
      obtain ⟨b, r, ev, rfl, hb, hR, hev⟩ := item_inv (hdx.keep (KeepD.of sm))
      refine ⟨b, _, rfl, sqT hb, rfl, .ref r, _, rfl, .int it.2.1, _, rfl, ev, _, rfl, rfl, ?_⟩
      dsimp only
      refine iIfS' ?_
      refine ⟨.ref r, rfl, .int it.2.1, rfl, r, it.1, it.2.1, rfl, hR, ho.ok, ho.t0, ho.t9, fun H4 s4 v hv => ?_⟩
      have qk := qOf_ok ho.ok ho.t0 ho.t9
      try dsimp only
      refine iNil ?_
      try dsimp only
      refine reprV_opt hv qk ?_
      refine ⟨ev, rfl, ?_⟩
      try dsimp only
      refine iNil ?_
      try dsimp only
      have hev4 := hev.keep (KeepT.of s4)
      rw [← ho.eq] at hev4
      refine reprV_opt hev4 qk ?_
      refine ⟨rfl, _, rfl, ?_⟩
      rw [decide_eq_true rfl]
      exact iteF ⟨⟨_, _, _, rfl⟩, sm.trans s4⟩
    · obtain ⟨⟨x2, x3, x4, rfl⟩, hF3⟩ := hx
      dsimp only
      -- the drawn rights
      refine iSeq ⟨12, rfl, by decide, by decide, ?_⟩
      refine for_range (lo := 0) (n := 12) (fun i σ' H' => (∃ x2 x3 x4 x5 x6 x7 x8 x9, σ' = [some (.ref a), some (.ref Fd), x2, x3, x4, x5, x6, x7, x8, x9]) ∧ FeedAt H' Fd L) ⟨⟨_, _, _, _, _, _, _, _, rfl⟩, hF3⟩ (fun i σ' H' hi h => ?_) (fun σ' H' h => ?_)
      · obtain ⟨⟨x2, x3, x4, x5, x6, x7, x8, x9, rfl⟩, hF4⟩ := h
        refine iName ?_
        dsimp only
        refine iSeq ⟨.ref Fd, rfl, .ref Fd, rfl, Fd, L, rfl, hF4, fun H5 pa ns' k5 hF5 hpa okn => ?_⟩
        refine ⟨.ref Fd, rfl, Fd, L, 9, rfl, hF5, by decide, by decide, fun t H6 t0 t9 k6 hF6 => ?_⟩
        refine ⟨Fd, L, pa, ns', t, rfl, hF6, k6.tup hF5 _ _ hpa, okn, t0, by omega, fun H7 r R k7 hF7 hR okR up => ?_⟩
        refine ⟨10, rfl, RgOk.of_le (by decide) (by decide) (by decide) (by decide), fun ld hld => ⟨.ref r, .ref ld, rfl, ?_⟩⟩
        have s8 := same_new (o := .lst (rgV 0 10)) hld
        dsimp only
        have hR8 := hR.keep (KeepT.of s8)
        have hF8 := hF7.same s8
        have hl8 : (upd H7 ld (.lst (rgV 0 10))) ld = some (.lst (rgV 0 10)) := upd_same
        generalize upd H7 ld (.lst (rgV 0 10)) = H8 at hR8 hF8 hl8 ⊢
        clear s8 hR hF7
        refine iSeq (iAsg ⟨.ref r, rfl, ?_⟩)
        try dsimp only
        refine iNil ?_
        try dsimp only
        refine reprV_ref (dp_right hR8) (fine_right okR) (by decide) (by decide) ?_
        refine iName ?_
        try dsimp only
        refine iSeq ?_
        refine split_s (fun σ' H' => (∃ x3 x4 x8 x9, σ' = [some (.ref a), some (.ref Fd), some (.ref r), x3, x4, some (.int (0 + i)), some (.ref ld), some (.str (rightD R).shown), x8, x9]) ∧ Same H8 H') (fun nx hnx => ?_) (fun σ' H' hx => ?_)
        · refine ⟨.ref ld, rfl, ld, rfl, ⟨_, sqL hl8⟩, ?_⟩
          refine for_list (xs := rgV 0 10) (fun j σ' H' => (∃ x3 x4 x8 x9, σ' = [some (.ref a), some (.ref Fd), some (.ref r), x3, x4, some (.int (0 + i)), some (.ref ld), some (.str (rightD R).shown), x8, x9]) ∧ Same H8 H') ⟨⟨_, _, _, _, rfl⟩, Same.refl _⟩ (fun j σ' H' _ h => sqL (h.2 _ _ hl8)) (fun j x σ' H' hx h => ?_) (fun σ' H' h => hnx _ _ h)
          obtain ⟨⟨y3, y4, y8, y9, rfl⟩, sm⟩ := h
          have hd : ∃ d : Int, x = .int d ∧ 0 ≤ d ∧ d ≤ 9 := by
            unfold rgV at hx
            rw [List.getElem?_map] at hx
            obtain ⟨n, hn, rfl⟩ := Option.map_eq_some_iff.mp hx
            have := List.mem_range.mp (List.mem_of_getElem? hn)
            exact ⟨_, rfl, by omega, by omega⟩
          obtain ⟨d, rfl, d0, d9⟩ := hd
          refine iName ?_
          dsimp only
          have hRa := hR8.keep (KeepT.of sm)
          have qk := qOf_ok okR d0 d9
          -- expected
          refine iSeq (iAsg ?_)
          refine ⟨.ref r, rfl, .int d, rfl, r, R, d, rfl, hRa, okR, up, d0, d9, fun Hb sb v hv => ?_⟩
          try dsimp only
          refine iNil ?_
          try dsimp only
          refine reprV_opt hv qk ?_
          refine iName ?_
          try dsimp only
          have hRb := hRa.keep (KeepT.of sb)
          -- told
          refine iSeq (iAsg ?_)
          refine ⟨.ref r, rfl, .int d, rfl, r, R, d, rfl, hRb, okR, d0, d9, fun Hc sc v1 hv1 => ?_⟩
          refine ⟨.int d, rfl, .ref r, rfl, rfl, rfl, r, R, d, rfl, hRb.keep (KeepT.of sc), okR, d0, d9, fun Hd sd v2 hv2 => ?_⟩
          refine ⟨by show 2 ≤ sizeLine; omega, fun lt hlt => ?_⟩
          have se := same_new (o := .lst [v1, v2]) hlt
          refine iName ?_
          try dsimp only
          have hv1e := (hv1.keep (KeepT.of sd)).keep (KeepT.of se)
          have hv2e := hv2.keep (KeepT.of se)
          have hle : (upd Hd lt (.lst [v1, v2])) lt = some (.lst [v1, v2]) := upd_same
          have sae := ((sb.trans sc).trans sd).trans se
          generalize upd Hd lt (.lst [v1, v2]) = He at hv1e hv2e hle sae ⊢
          refine iIfS' ?_
          refine ⟨.ref lt, rfl, lt, rfl, ⟨_, sqL hle⟩, fun D hD => ?_⟩
          refine lc_list (K := K) (a := lt) (xs := [v1, v2]) (fun i H2 => Same He H2 ∧ H2 D = some (.lst ((([(optD (qOf R d)).shown, (optD (qOf R d)).shown] : List Str).take i).map V.str))) ⟨same_new hD, upd_same⟩ (fun i H2 _ h => sqL (h.1 _ _ hle)) (fun i x H2 hx h => ?_) (fun H2 h => ?_)
          · have hi2 : i < 2 := (List.getElem?_eq_some_iff.mp hx).1
            have hc : OptAt He x (qOf R d) := by
              match i, hi2 with
              | 0, _ =>
                cases hx
                exact hv1e
              | 1, _ =>
                cases hx
                exact hv2e
            have et : ([(optD (qOf R d)).shown, (optD (qOf R d)).shown] : List Str)[i]? = some (optD (qOf R d)).shown := by
              match i, hi2 with
              | 0, _ => rfl
              | 1, _ => rfl
            refine ⟨wipe1, iYes (iteT ?_)⟩
            refine ⟨x, rfl, ?_⟩
            try dsimp only
            refine iNil ?_
            try dsimp only
            refine reprV_opt (hc.keep (KeepT.of h.1)) qk ?_
            refine ⟨_, h.2, by rw [List.length_map, List.length_take]; show min i 2 < _; omega, fun b o e => ?_, ?_⟩
            · rw [upd_ne (ne_of_none e hD)]
              exact h.1 _ _ e
            · rw [upd_same, List.take_add_one, et, List.map_append]
              rfl
          · obtain ⟨sm2, hDl⟩ := h
            refine ⟨.str (optD (qOf R d)).shown, rfl, .str (optD (qOf R d)).shown, rfl, by show 2 ≤ sizeLine; omega, fun lz hlz => ?_⟩
            have sz := same_new (o := .lst [.str (optD (qOf R d)).shown, .str (optD (qOf R d)).shown]) hlz
            refine ⟨D, lz, [(optD (qOf R d)).shown, (optD (qOf R d)).shown], rfl, rfl, sqL (sz _ _ hDl), sqL upd_same, _, rfl, ?_⟩
            exact iteF ⟨⟨_, _, _, _, rfl⟩, ((sm.trans sae).trans sm2).trans sz⟩
        · obtain ⟨⟨y3, y4, y8, y9, rfl⟩, sm⟩ := hx
          try dsimp only
          refine iIfS' ⟨.ref r, rfl, ?_⟩
          try dsimp only
          refine iNil ?_
          try dsimp only
          refine reprV_ref (dp_right (hR8.keep (KeepT.of sm))) (fine_right okR) (by decide) (by decide) ?_
          refine ⟨_, rfl, rfl, _, rfl, ?_⟩
          rw [decide_eq_true rfl]
          exact iteF ⟨⟨_, _, _, _, _, _, _, _, rfl⟩, hF8.same sm⟩
      · obtain ⟨⟨x2, x3, x4, x5, x6, x7, x8, x9, rfl⟩, _⟩ := h
        dsimp only
        exact iRet (q _)
end
end P19
namespace P19
open PySem PySem.Spec PyProof.Rows L2 AskG
/-- what the top has written -/
theorem all_mk {l : PySem.W.OpenLaw} {w : World} {K : PySem.W.Frag} {h : Heap} {mg : Str → Option Value} {fa : Addr} (X : K.In h) (G : h.Ns mainGlobals mg) (hfa : mg "law" = some (.ref fa))
    {f1 f2 f3 f4 f5 f6 f7 f8 f9 f10 f11 f12 f13 f14 f15 f16 : Addr} {od1 an1 od2 an2 od3 an3 od4 an4 od5 an5 od6 an6 od7 an7 od8 an8 od9 an9 od10 an10 od11 an11 od12 an12 od13 an13 od14 an14 od15 an15 od16 an16 : Option Addr} {sl1 sl2 sl3 sl4 sl5 sl6 sl7 sl8 sl9 sl10 sl11 sl12 sl13 sl14 sl15 sl16 : Array (Option Value)} {oc1 kV1 dc1 pm1 cd1 ct1 oc2 kV2 dc2 pm2 cd2 ct2 oc3 kV3 dc3 pm3 cd3 ct3 oc4 kV4 dc4 pm4 cd4 ct4 oc5 kV5 dc5 pm5 cd5 ct5 oc6 kV6 dc6 pm6 cd6 ct6 oc7 kV7 dc7 pm7 cd7 ct7 oc8 kV8 dc8 pm8 cd8 ct8 oc9 kV9 dc9 pm9 cd9 ct9 oc10 kV10 dc10 pm10 cd10 ct10 oc11 kV11 dc11 pm11 cd11 ct11 oc12 kV12 dc12 pm12 cd12 ct12 oc13 kV13 dc13 pm13 cd13 ct13 oc14 kV14 dc14 pm14 cd14 ct14 oc15 kV15 dc15 pm15 cd15 ct15 oc16 kV16 dc16 pm16 cd16 ct16 : Value}
    (a1 : PySem.W.nsIn K mainGlobals "is_used_on" = some (some (.ref f1))) (l1 : K.lookup f1 = some ⟨oc1, od1, .func (PySem.W.fnOf "is_used_on" "is_used_on" (defArgs sUsed) (defBody sUsed) (defScope sUsed) .none kV1 dc1 pm1 an1 cd1 ct1), sl1⟩) (c1 : PySem.W.codeIn K cd1 "is_used_on" = true) (k1 : PySem.W.keepIn K (.ref f1) = true)
    (a2 : PySem.W.nsIn K mainGlobals "asked_days" = some (some (.ref f2))) (l2 : K.lookup f2 = some ⟨oc2, od2, .func (PySem.W.fnOf "asked_days" "asked_days" (defArgs sAsked) (defBody sAsked) (defScope sAsked) .none kV2 dc2 pm2 an2 cd2 ct2), sl2⟩) (c2 : PySem.W.codeIn K cd2 "asked_days" = true) (k2 : PySem.W.keepIn K (.ref f2) = true)
    (a3 : PySem.W.nsIn K mainGlobals "row_on_days" = some (some (.ref f3))) (l3 : K.lookup f3 = some ⟨oc3, od3, .func (PySem.W.fnOf "row_on_days" "row_on_days" (defArgs sOnDays) (defBody sOnDays) (defScope sOnDays) .none kV3 dc3 pm3 an3 cd3 ct3), sl3⟩) (c3 : PySem.W.codeIn K cd3 "row_on_days" = true) (k3 : PySem.W.keepIn K (.ref f3) = true)
    (a4 : PySem.W.nsIn K mainGlobals "question_on" = some (some (.ref f4))) (l4 : K.lookup f4 = some ⟨oc4, od4, .func (PySem.W.fnOf "question_on" "question_on" (defArgs sQ) (defBody sQ) (defScope sQ) .none kV4 dc4 pm4 an4 cd4 ct4), sl4⟩) (c4 : PySem.W.codeIn K cd4 "question_on" = true) (k4 : PySem.W.keepIn K (.ref f4) = true)
    (a5 : PySem.W.nsIn K mainGlobals "_law_feed" = some (some (.ref f5))) (l5 : K.lookup f5 = some ⟨oc5, od5, .func (PySem.W.fnOf "_law_feed" "_law_feed" (defArgs sFeed) (defBody sFeed) (defScope sFeed) .none kV5 dc5 pm5 an5 cd5 ct5), sl5⟩) (c5 : PySem.W.codeIn K cd5 "_law_feed" = true) (k5 : PySem.W.keepIn K (.ref f5) = true)
    (a6 : PySem.W.nsIn K mainGlobals "_law_draw" = some (some (.ref f6))) (l6 : K.lookup f6 = some ⟨oc6, od6, .func (PySem.W.fnOf "_law_draw" "_law_draw" (defArgs sDraw) (defBody sDraw) (defScope sDraw) .none kV6 dc6 pm6 an6 cd6 ct6), sl6⟩) (c6 : PySem.W.codeIn K cd6 "_law_draw" = true) (k6 : PySem.W.keepIn K (.ref f6) = true)
    (a7 : PySem.W.nsIn K mainGlobals "_law_any" = some (some (.ref f7))) (l7 : K.lookup f7 = some ⟨oc7, od7, .func (PySem.W.fnOf "_law_any" "_law_any" (defArgs sAny) (defBody sAny) (defScope sAny) .none kV7 dc7 pm7 an7 cd7 ct7), sl7⟩) (c7 : PySem.W.codeIn K cd7 "_law_any" = true) (k7 : PySem.W.keepIn K (.ref f7) = true)
    (a8 : PySem.W.nsIn K mainGlobals "_law_days_of" = some (some (.ref f8))) (l8 : K.lookup f8 = some ⟨oc8, od8, .func (PySem.W.fnOf "_law_days_of" "_law_days_of" (defArgs sDays) (defBody sDays) (defScope sDays) .none kV8 dc8 pm8 an8 cd8 ct8), sl8⟩) (c8 : PySem.W.codeIn K cd8 "_law_days_of" = true) (k8 : PySem.W.keepIn K (.ref f8) = true)
    (a9 : PySem.W.nsIn K mainGlobals "_law_question" = some (some (.ref f9))) (l9 : K.lookup f9 = some ⟨oc9, od9, .func (PySem.W.fnOf "_law_question" "_law_question" (defArgs sLQ) (defBody sLQ) (defScope sLQ) .none kV9 dc9 pm9 an9 cd9 ct9), sl9⟩) (c9 : PySem.W.codeIn K cd9 "_law_question" = true) (k9 : PySem.W.keepIn K (.ref f9) = true)
    (a10 : PySem.W.nsIn K mainGlobals "_law_some_weights" = some (some (.ref f10))) (l10 : K.lookup f10 = some ⟨oc10, od10, .func (PySem.W.fnOf "_law_some_weights" "_law_some_weights" (defArgs sWs) (defBody sWs) (defScope sWs) .none kV10 dc10 pm10 an10 cd10 ct10), sl10⟩) (c10 : PySem.W.codeIn K cd10 "_law_some_weights" = true) (k10 : PySem.W.keepIn K (.ref f10) = true)
    (a11 : PySem.W.nsIn K mainGlobals "_law_some_right" = some (some (.ref f11))) (l11 : K.lookup f11 = some ⟨oc11, od11, .func (PySem.W.fnOf "_law_some_right" "_law_some_right" (defArgs sRt) (defBody sRt) (defScope sRt) .none kV11 dc11 pm11 an11 cd11 ct11), sl11⟩) (c11 : PySem.W.codeIn K cd11 "_law_some_right" = true) (k11 : PySem.W.keepIn K (.ref f11) = true)
    (a12 : PySem.W.nsIn K mainGlobals "_law_accounts" = some (some (.ref f12))) (l12 : K.lookup f12 = some ⟨oc12, od12, .func (PySem.W.fnOf "_law_accounts" "_law_accounts" (defArgs sAcc) (defBody sAcc) (defScope sAcc) .none kV12 dc12 pm12 an12 cd12 ct12), sl12⟩) (c12 : PySem.W.codeIn K cd12 "_law_accounts" = true) (k12 : PySem.W.keepIn K (.ref f12) = true)
    (a13 : PySem.W.nsIn K mainGlobals "_law_long_rights" = some (some (.ref f13))) (l13 : K.lookup f13 = some ⟨oc13, od13, .func (PySem.W.fnOf "_law_long_rights" "_law_long_rights" (defArgs sLong) (defBody sLong) (defScope sLong) .none kV13 dc13 pm13 an13 cd13 ct13), sl13⟩) (c13 : PySem.W.codeIn K cd13 "_law_long_rights" = true) (k13 : PySem.W.keepIn K (.ref f13) = true)
    (a14 : PySem.W.nsIn K mainGlobals "_law_hand" = some (some (.ref f14))) (l14 : K.lookup f14 = some ⟨oc14, od14, .func (PySem.W.fnOf "_law_hand" "_law_hand" (defArgs sHand) (defBody sHand) (defScope sHand) .none kV14 dc14 pm14 an14 cd14 ct14), sl14⟩) (c14 : PySem.W.codeIn K cd14 "_law_hand" = true) (k14 : PySem.W.keepIn K (.ref f14) = true)
    (a15 : PySem.W.nsIn K mainGlobals "_law_long_right" = some (some (.ref f15))) (l15 : K.lookup f15 = some ⟨oc15, od15, .func (PySem.W.fnOf "_law_long_right" "_law_long_right" (defArgs sLR) (defBody sLR) (defScope sLR) .none kV15 dc15 pm15 an15 cd15 ct15), sl15⟩) (c15 : PySem.W.codeIn K cd15 "_law_long_right" = true) (k15 : PySem.W.keepIn K (.ref f15) = true)
    (a16 : PySem.W.nsIn K mainGlobals "law" = some (some (.ref f16))) (l16 : K.lookup f16 = some ⟨oc16, od16, .func (PySem.W.fnOf "law" "law" (defArgs sLaw) (defBody sLaw) (defScope sLaw) .none kV16 dc16 pm16 an16 cd16 ct16), sl16⟩) (c16 : PySem.W.codeIn K cd16 "law" = true) (k16 : PySem.W.keepIn K (.ref f16) = true)
    (z1 : PySem.W.nsIn K mainGlobals "sorted" = some none)
    (z2 : PySem.W.nsIn K mainGlobals "tuple" = some none)
    (z3 : PySem.W.nsIn K mainGlobals "list" = some none)
    (z4 : PySem.W.nsIn K mainGlobals "len" = some none)
    (z5 : PySem.W.nsIn K mainGlobals "range" = some none)
    (z6 : PySem.W.nsIn K mainGlobals "int" = some none)
    (z7 : PySem.W.nsIn K mainGlobals "repr" = some none)
    (z8 : PySem.W.nsIn K mainGlobals "max" = some none)
    (z9 : PySem.W.nsIn K mainGlobals "min" = some none) :
    ∃ fd : FuncData, (∀ (s : Shared) (v : Value), BindsTo s fd ⟨[v], []⟩ [("_law_script", v)]) ∧ ∀ base : Heap, K.In base → base.Ns mainGlobals mg → FnG l.prog w K mg base 5 fa fd ["_law_script"] (prLaw K) := by
  have e := hfa.symm.trans (PySem.W.mg_of X G a16)
  cases e
  have F1 := fun_mk (st := sUsed) l1 c1 k1
  have b1 := F1.binds (ps := ["right", "day"]) fun _ _ _ _ _ _ us hl => match us, hl with | [_, _], _ => rfl
  have g1 := PySem.W.mg_of X G a1
  have F2 := fun_mk (st := sAsked) l2 c2 k2
  have b2 := F2.binds (ps := ["right", "day"]) fun _ _ _ _ _ _ us hl => match us, hl with | [_, _], _ => rfl
  have g2 := PySem.W.mg_of X G a2
  have F3 := fun_mk (st := sOnDays) l3 c3 k3
  have b3 := F3.binds (ps := ["right", "low", "high"]) fun _ _ _ _ _ _ us hl => match us, hl with | [_, _, _], _ => rfl
  have g3 := PySem.W.mg_of X G a3
  have F4 := fun_mk (st := sQ) l4 c4 k4
  have b4 := F4.binds (ps := ["right", "day"]) fun _ _ _ _ _ _ us hl => match us, hl with | [_, _], _ => rfl
  have g4 := PySem.W.mg_of X G a4
  have F5 := fun_mk (st := sFeed) l5 c5 k5
  have b5 := F5.binds (ps := ["_law_script"]) fun _ _ _ _ _ _ us hl => match us, hl with | [_], _ => rfl
  have g5 := PySem.W.mg_of X G a5
  have F6 := fun_mk (st := sDraw) l6 c6 k6
  have b6 := F6.binds (ps := ["_law_feed_here", "_law_many"]) fun _ _ _ _ _ _ us hl => match us, hl with | [_, _], _ => rfl
  have g6 := PySem.W.mg_of X G a6
  have F7 := fun_mk (st := sAny) l7 c7 k7
  have b7 := F7.binds (ps := ["_law_feed_here", "_law_some"]) fun _ _ _ _ _ _ us hl => match us, hl with | [_, _], _ => rfl
  have g7 := PySem.W.mg_of X G a7
  have F8 := fun_mk (st := sDays) l8 c8 k8
  have b8 := F8.binds (ps := ["_law_right_nowss", "_law_day_nowss"]) fun _ _ _ _ _ _ us hl => match us, hl with | [_, _], _ => rfl
  have g8 := PySem.W.mg_of X G a8
  have F9 := fun_mk (st := sLQ) l9 c9 k9
  have b9 := F9.binds (ps := ["_law_right_nowss", "_law_day_nowss"]) fun _ _ _ _ _ _ us hl => match us, hl with | [_, _], _ => rfl
  have g9 := PySem.W.mg_of X G a9
  have F10 := fun_mk (st := sWs) l10 c10 k10
  have b10 := F10.binds (ps := ["_law_feed_here", "_law_accounts_here"]) fun _ _ _ _ _ _ us hl => match us, hl with | [_, _], _ => rfl
  have g10 := PySem.W.mg_of X G a10
  have F11 := fun_mk (st := sRt) l11 c11 k11
  have b11 := F11.binds (ps := ["_law_feed_here", "_law_accounts_here", "_law_day_nowss"]) fun _ _ _ _ _ _ us hl => match us, hl with | [_, _, _], _ => rfl
  have g11 := PySem.W.mg_of X G a11
  have F12 := fun_mk (st := sAcc) l12 c12 k12
  have b12 := F12.binds (ps := ["_law_feed_here"]) fun _ _ _ _ _ _ us hl => match us, hl with | [_], _ => rfl
  have g12 := PySem.W.mg_of X G a12
  have F13 := fun_mk (st := sLong) l13 c13 k13
  have b13 := F13.binds (ps := []) fun _ _ _ _ _ _ us hl => match us, hl with | [], _ => rfl
  have g13 := PySem.W.mg_of X G a13
  have F14 := fun_mk (st := sHand) l14 c14 k14
  have b14 := F14.binds (ps := []) fun _ _ _ _ _ _ us hl => match us, hl with | [], _ => rfl
  have g14 := PySem.W.mg_of X G a14
  have F15 := fun_mk (st := sLR) l15 c15 k15
  have b15 := F15.binds (ps := []) fun _ _ _ _ _ _ us hl => match us, hl with | [], _ => rfl
  have g15 := PySem.W.mg_of X G a15
  have F16 := fun_mk (st := sLaw) l16 c16 k16
  have m1 := PySem.W.mg_none_of X G z1
  have m2 := PySem.W.mg_none_of X G z2
  have m3 := PySem.W.mg_none_of X G z3
  have m4 := PySem.W.mg_none_of X G z4
  have m5 := PySem.W.mg_none_of X G z5
  have m6 := PySem.W.mg_none_of X G z6
  have m7 := PySem.W.mg_none_of X G z7
  have m8 := PySem.W.mg_none_of X G z8
  have m9 := PySem.W.mg_none_of X G z9
  refine ⟨PySem.W.fnOf "law" "law" (defArgs sLaw) (defBody sLaw) (defScope sLaw) .none kV16 dc16 pm16 an16 cd16 ct16, fun s v => .of_eq rfl, fun base _ _ => ?_⟩
  have GQ : FnG l.prog w K mg base 2 f4 _ ["right", "day"] prQ := ok_q (k := 0) F4 F1 b1 g1 F2 b2 g2 F3 b3 g3 m8 m9 m2 m5
  have GF : FnG l.prog w K mg base 1 f5 _ ["_law_script"] (prFeed K) := ok_feed (k := 0) F5 m3
  have GD : FnG l.prog w K mg base 1 f6 _ ["_law_feed_here", "_law_many"] prDraw := ok_draw (k := 0) F6 m4
  have GLQ : FnG l.prog w K mg base 2 f9 _ ["_law_right_nowss", "_law_day_nowss"] prLQ := ok_lq (k := 0) F9 F8 b8 g8 m8 m9 m3 m5 m2 m1
  have GT : FnG l.prog w K mg base 4 f11 _ ["_law_feed_here", "_law_accounts_here", "_law_day_nowss"] prRt := ok_rt (k := 0) F11 F6 b6 g6 F7 b7 g7 F10 b10 g10 m4 m2 m6 m8 m9
  have GA : FnG l.prog w K mg base 2 f12 _ ["_law_feed_here"] prAcc := ok_acc (k := 0) F12 F6 b6 g6 m4
  have GH : FnG l.prog w K mg base 1 f14 _ [] (prList handD) := ok_hand (k := 0) F14
  have GR : FnG l.prog w K mg base 3 f15 _ [] prLR := ok_lr (k := 0) F15 F13 b13 g13 F4 b4 g4 GQ m2 m5
  exact ok_law (k := 0) F16 F5 b5 g5 (GF.mono (by decide)) F15 b15 g15 (GR.mono (by decide)) F14 b14 g14 (GH.mono (by decide)) F4 b4 g4 (GQ.mono (by decide)) F9 b9 g9 (GLQ.mono (by decide)) F11 b11 g11 GT F12 b12 g12 (GA.mono (by decide)) F6 b6 g6 (GD.mono (by decide)) m3 m5 m7
end P19
open PySem PySem.W PyProof.Rows
set_option maxHeartbeats 0 in
theorem PySem.Challenge.cw_askrights_k19_questions_told_holds : PySem.Challenge.rw_askrights_k19_questions_told.Holds := by
  w_on; o_law; k_head; (case hw => w_witness2)
  k_fill
  refine AskG.walkG (l := PySem.Challenge.rw_askrights_k19_questions_told) (n := 63) (k := 5) (x := "_law_script") (pr := P19.prLaw) rfl (by decide) rfl ⟨⟨rfl, by decide, by decide⟩, rfl⟩ (fun w h Y => PySem.W.kIn_of Y) ?F (fun _ _ a ns _ hS => ⟨a, ns, rfl, hS, fun _ => rfl⟩)
  case F =>
    intro w mg fa h KX G hmg
    refine' P19.all_mk KX G hmg ?a1 ?l1 ?c1 ?k1 ?a2 ?l2 ?c2 ?k2 ?a3 ?l3 ?c3 ?k3 ?a4 ?l4 ?c4 ?k4 ?a5 ?l5 ?c5 ?k5 ?a6 ?l6 ?c6 ?k6 ?a7 ?l7 ?c7 ?k7 ?a8 ?l8 ?c8 ?k8 ?a9 ?l9 ?c9 ?k9 ?a10 ?l10 ?c10 ?k10 ?a11 ?l11 ?c11 ?k11 ?a12 ?l12 ?c12 ?k12 ?a13 ?l13 ?c13 ?k13 ?a14 ?l14 ?c14 ?k14 ?a15 ?l15 ?c15 ?k15 ?a16 ?l16 ?c16 ?k16 ?z1 ?z2 ?z3 ?z4 ?z5 ?z6 ?z7 ?z8 ?z9
    (case a1 => k_is)
    (case l1 => k_is)
    (case c1 => k_is)
    (case k1 => k_is)
    (case a2 => k_is)
    (case l2 => k_is)
    (case c2 => k_is)
    (case k2 => k_is)
    (case a3 => k_is)
    (case l3 => k_is)
    (case c3 => k_is)
    (case k3 => k_is)
    (case a4 => k_is)
    (case l4 => k_is)
    (case c4 => k_is)
    (case k4 => k_is)
    (case a5 => k_is)
    (case l5 => k_is)
    (case c5 => k_is)
    (case k5 => k_is)
    (case a6 => k_is)
    (case l6 => k_is)
    (case c6 => k_is)
    (case k6 => k_is)
    (case a7 => k_is)
    (case l7 => k_is)
    (case c7 => k_is)
    (case k7 => k_is)
    (case a8 => k_is)
    (case l8 => k_is)
    (case c8 => k_is)
    (case k8 => k_is)
    (case a9 => k_is)
    (case l9 => k_is)
    (case c9 => k_is)
    (case k9 => k_is)
    (case a10 => k_is)
    (case l10 => k_is)
    (case c10 => k_is)
    (case k10 => k_is)
    (case a11 => k_is)
    (case l11 => k_is)
    (case c11 => k_is)
    (case k11 => k_is)
    (case a12 => k_is)
    (case l12 => k_is)
    (case c12 => k_is)
    (case k12 => k_is)
    (case a13 => k_is)
    (case l13 => k_is)
    (case c13 => k_is)
    (case k13 => k_is)
    (case a14 => k_is)
    (case l14 => k_is)
    (case c14 => k_is)
    (case k14 => k_is)
    (case a15 => k_is)
    (case l15 => k_is)
    (case c15 => k_is)
    (case k15 => k_is)
    (case a16 => k_is)
    (case l16 => k_is)
    (case c16 => k_is)
    (case k16 => k_is)
    (case z1 => k_is)
    (case z2 => k_is)
    (case z3 => k_is)
    (case z4 => k_is)
    (case z5 => k_is)
    (case z6 => k_is)
    (case z7 => k_is)
    (case z8 => k_is)
    (case z9 => k_is)
