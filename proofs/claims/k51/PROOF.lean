import PyProof.Rows.All
import Wide.All
import OpenK.AllK
import Wide.FinOn
import HandS.Words
import HandS.List
import PyProof.Rows.ReprR
import HandS.SortRule
import HandS.Conv
import KE.KDictPairs
import HandS.More
import HandS.DictComp
import HandS.Defaults
import PyProof.ReprLen
import PyProof.FitsInt
import HandS.IsInst
import HandS.Walk
import HandS.TupLe
import HandS.ForMost
import HandS.TupSets
import KE.KeyNested
import HandS.SortOrd
import HandS.Comp
import HandS.Style
import HandS.TupAny
import PyProof.Rows.IntBool
import PyProof.Rows.EqBoolInt
import PyProof.CallStr
import HandS.Text
import HandS.TupMul
import HandS.NoneIn
import HandS.SetBool
import KE.GoesSet
import HandS.Zip
import PyProof.Rows.SetFrom
import HandS.SetTxt0
import PyProof.Rows.SortStr
import PyProof.Rows.SortKeyStr
import PyProof.NeKinds
import HandS.Ends
import PySem.Challenge.RW_askrights_k51_walls_by_kind
set_option Elab.async false
set_option linter.all false
set_option maxRecDepth 100000
set_option maxHeartbeats 8000000
/-! Defs that are only called while nothing is being shown: calls whose surroundings hold no guard, so that repr gives the plain text. -/
namespace AskG
open PySem PySem.Spec PyProof.Rows L2

/-- what a def promises, nothing being raised -/
abbrev Pr := List V → Hp → VK → Prop

/-- room for k calls, and no guard around -/
structure RG (k : Nat) (A : Around) : Prop where
  room : Room k A
  still : A.guards = some []
theorem RG.mono {j k : Nat} {A : Around} (r : RG k A) (h : j ≤ k) : RG j A :=
  ⟨r.room.mono h, r.still⟩
theorem RG.deeper {k : Nat} {A : Around} (r : RG (k + 1) A) (env : Env) : RG k (A.deeper env) :=
  ⟨r.room.deeper env, r.still⟩

section
variable (P : Program) (w : World) (K : PySem.W.Frag) (mg : Str → Option Value) (base : Heap)
structure FnG (k : Nat) (f : Addr) (fd : FuncData) (ps : List Str) (pr : Pr) : Prop where
  many : ∀ vs H Q, pr vs H Q → vs.length = ps.length
  goes : ∀ (A : Around) (outer : List Env) (s : Shared) (H : Hp) (args : Args)
    (us : List Value) (vs : List V) (Q : VK), RG k A → Env0 P w K mg base A outer s H →
    BindsTo s fd args (ps.zip us) → Vals vs us → pr vs H Q →
    codeAny (model P w) A (.call (.ref f) args) (CR CX0 outer P w H s Q E0) s
end

section
variable {P : Program} {w : World} {K : PySem.W.Frag} {mg : Str → Option Value} {base : Heap}
theorem FnG.mono {j k : Nat} {f : Addr} {fd : FuncData} {ps : List Str} {pr : Pr}
    (F : FnG P w K mg base j f fd ps pr) (h : j ≤ k) : FnG P w K mg base k f fd ps pr :=
  ⟨F.many, fun A outer s H args us vs Q hr => F.goes A outer s H args us vs Q (hr.mono h)⟩

/-- a def of the text, by its body -/
theorem fnG_of {k : Nat} {f : Addr} {name qual : Str} {params : Arguments} {body : List Stmt}
    {scope : Scope} {dV kV doc pm cdv ct oc : Value} {an od : Option Addr}
    {osl : Array (Option Value)} {N ps : List Str} {pr : Pr}
    (at_f : K.lookup f = some ⟨oc, od, .func (PySem.W.fnOf name qual params body scope dV kV doc pm an cdv ct), osl⟩)
    (code : PySem.W.codeIn K cdv qual = true) (S : FnScope N ps scope)
    (many : ∀ vs H Q, pr vs H Q → vs.length = ps.length)
    (body_ok : ∀ (A : Around) (outer : List Env) (s : Shared) (H : Hp) (vs : List V) (Q : VK),
      RG k (A.deeper (envOfC qual scope s.heap.objs.size f cdv)) → pr vs H Q →
      ∃ t, PSs (cxOf CX0 P w K mg base N qual scope f cdv A outer s H E0).nox body t ∧
        t { nx := fun _ H' => Q .non H', rt := Q } (start N vs) H) :
    FnG P w K mg base (k + 1) f
      (PySem.W.fnOf name qual params body scope dV kV doc pm an cdv ct) ps pr := by
  constructor
  · exact many
  intro A outer s H args us vs Q hr e0 hb hv hp
  have hl := many _ _ _ hp
  have inK : K.In s.heap := e0.mod.kin.keeps fun b o q => (e0.bs b o q).1
  have nl : s.heap.NoLimit := e0.mod.nolimit.keeps fun b o q => (e0.bs b o q).1
  have kinds : ∀ y ∈ ps.zip us, scope.names.lookup y.1 = some .local ∨
      (scope.names.lookup y.1 = some .cell ∧
        ((cellsFrom (s.heap.objs.size + 1) scope.names []).lookup y.1).isSome = true) := by
    rintro ⟨n, v⟩ hy
    cases S.par n (List.of_mem_zip hy).1 with
    | inl q => exact Or.inl q
    | inr q => exact Or.inr ⟨q, PySem.W.cellsFrom_some _ _ _ (Or.inl q)⟩
  refine codeAny_call_function hr.room.depth (inK _ _ at_f) rfl S.co S.gen rfl
    (PySem.W.codeRec_of inK code) (hb _ _ _ _ ?_)
  refine wpAny_newFunctionEnv_cells S.kind kinds fun env he s1 x => ?_
  subst he
  refine ⟨nl.keeps x.toInCall.keep, codeAny_func ?_⟩
  obtain ⟨t, ht, hq⟩ := body_ok A outer s H vs Q (hr.deeper _) hp
  have I : Inv (cxOf CX0 P w K mg base N qual scope f cdv A outer s H E0) [] (start N vs) H s1 :=
    inv_start S hr.room.hd e0 hl hv x
  refine wpAny_mono (ht.nox.run [] s1 (start N vs) H _ I hq) (fun fl s' hs => ?_)
    fun e s' hs => hs
  cases fl with
  | ret u =>
    obtain ⟨v, σ', H', J, rv, q⟩ := hs
    exact ⟨v, H', J.os, J.bare, J.base, J.hok, rv, q⟩
  | next =>
    obtain ⟨σ', H', J, q⟩ := hs
    exact ⟨V.non, H', J.os, J.bare, J.base, J.hok, rfl, q⟩
  | brk => exact hs.elim fun _ z => z.elim fun _ z => False.elim z.2
  | cont => exact hs.elim fun _ z => z.elim fun _ z => False.elim z.2

theorem okG {x qual : Str} {st : Stmt} {f : Addr} {fd : FuncData} {N ps : List Str} {k : Nat} {pr : Pr}
    (F : Fun K x qual st f fd) (S : FnScope N ps (defScope st))
    (many : ∀ vs H Q, pr vs H Q → vs.length = ps.length)
    (body_ok : ∀ (cdv : Value) (A : Around) (outer : List Env) (s : Shared) (H : Hp) (vs : List V) (Q : VK),
      RG k (A.deeper (envOfC qual (defScope st) s.heap.objs.size f cdv)) → pr vs H Q →
      ∃ t, PSs (cxOf CX0 P w K mg base N qual (defScope st) f cdv A outer s H E0).nox (defBody st) t ∧
        t { nx := fun _ H' => Q .non H', rt := Q } (start N vs) H) :
    FnG P w K mg base (k + 1) f fd ps pr := by
  obtain ⟨oc, od, kV, doc, pm, an, cdv, ct, osl, rfl, lk, hcd⟩ := F.ex
  exact fnG_of lk hcd S many fun A outer s H vs Q hr hp => body_ok cdv A outer s H vs Q hr hp
end

/-! ### calls -/
/-- f(..): the written arguments, then the defaults -/
def tCallG (pr : Pr) (dvs : List V) (t : TA) : TE := fun σ H Q => t σ H fun vs H1 => pr (vs ++ dvs) H1 Q
/-- f(.., k = ..) -/
def tCallKG (pr : Pr) (gV : List V → List V → List V) (t tk : TA) : TE := fun σ H Q =>
  t σ H fun vs H1 => tk σ H1 fun zs H2 => pr (gV vs zs) H2 Q

section
variable {X : Cx} {k : Nat} {f : Addr} {fd : FuncData} {ps : List Str} {pr : Pr}
theorem goG {pins : List (Addr × Obj)} {σ : L2.St} {H : Hp} {s : Shared} {Q : VK} {args : Args}
    {us : List Value} {vs : List V} (F : FnG X.prog X.w X.K X.mg X.base k f fd ps pr)
    (hr : RG k X.A) (I : Inv X pins σ H s) (hb : BindsTo s fd args (ps.zip us)) (r : Vals vs us)
    (h : pr vs H Q) : wpAny (model X.prog X.w) X.A (call (.ref f) args.pos args.kw) (EP X pins σ Q) X.xe s := by
  refine wpAny_call (codeAny_mono (F.goes X.A X.stack s H args us vs Q hr I.env0 hb r h)
    fun r s' hq => ?_)
  match r, hq with
  | .error e, hq => exact hq.elim
  | .ok (.ret u), hq => exact I.after hq
  | .ok .next, hq => exact hq.elim
  | .ok .brk, hq => exact hq.elim
  | .ok .cont, hq => exact hq.elim
end
section
variable {X : Cx} {k : Nat} {f : Addr} {fd : FuncData} {ps : List Str} {pr : Pr} {dvs : List V} {ds : List Value}
  {x : Str} {p pos : Pos} {e : Expr} {es : List Expr} {t : TA}
theorem goP {pins : List (Addr × Obj)} {σ : L2.St} {H : Hp} {s : Shared} {Q : VK} {us : List Value} {vs : List V}
    (F : FnG X.prog X.w X.K X.mg X.base k f fd ps pr) (hr : RG k X.A) (hb : Binds X.K fd ps ds) (hd : Vals dvs ds)
    (I : Inv X pins σ H s) (r : Vals vs us) (h : pr (vs ++ dvs) H Q) :
    wpAny (model X.prog X.w) X.A (call (.ref f) us) (EP X pins σ Q) X.xe s := by
  have r2 : Vals (vs ++ dvs) (us ++ ds) := r.append hd
  have hl : (us ++ ds).length = ps.length := r2.length.symm.trans (F.many _ _ _ h)
  exact goG (args := ⟨us, []⟩) F hr I (hb s us I.kIn hl) r2 h

/-- f(e, ..) -/
theorem pe_g (F : FnG X.prog X.w X.K X.mg X.base k f fd ps pr) (hr : RG k X.A) (hg : Gl X x)
    (hm : X.mg x = some (.ref f)) (hk : PySem.W.keepIn X.K (.ref f) = true) (hb : Binds X.K fd ps ds) (hd : Vals dvs ds)
    (ha : PA X (e :: es) t) (hdb : (x == ("__debug__" : Str)) = false := by decide)
    (he : starEach (e :: es) X.env = (false, eval e X.env) :: starEach es X.env := by rfl)
    (hpl : (backTo pos (starEach es X.env)).any (·.1) = false := by rfl) :
    PE X (.Call (.Name x p) (e :: es) [] pos) (tCallG pr dvs t) := by
  constructor
  intro pins s σ H Q I h
  refine wpAny_Call_Name_kw (ld_glob I hg hm ?_ hdb)
  refine PySem.W.callWith_K (h₀ := X.base) I.ok.mod.kin hk (thn (ha.run pos pins s σ H _ I h) ?_) he hpl
  rintro us s1 ⟨vs, H1, I1, r, q⟩
  exact ⟨I1.kIn, goP F hr hb hd I1 r q⟩
/-- f() -/
theorem pe_g0 (F : FnG X.prog X.w X.K X.mg X.base k f fd ps pr) (hr : RG k X.A) (hg : Gl X x)
    (hm : X.mg x = some (.ref f)) (hk : PySem.W.keepIn X.K (.ref f) = true) (hb : Binds X.K fd ps ds) (hd : Vals dvs ds)
    (hdb : (x == ("__debug__" : Str)) = false := by decide) : PE X (.Call (.Name x p) [] [] pos) (tCallG pr dvs tNil) := by
  constructor
  intro pins s σ H Q I h
  refine wpAny_Call_Name_kw (ld_glob I hg hm ?_ hdb)
  exact PySem.W.callWith_K0 I.kIn hk (goP (us := []) F hr hb hd I .nil h)
variable {ks : List Str} {g : List Value → List Value → List Value} {gV : List V → List V → List V} {kws : List Keyword} {tk : TA}
theorem goK {pins : List (Addr × Obj)} {σ : L2.St} {H : Hp} {s : Shared} {Q : VK} {us ws : List Value} {vs zs : List V}
    (F : FnG X.prog X.w X.K X.mg X.base k f fd ps pr) (hr : RG k X.A) (hb : KBinds X.K fd ps ks g gV)
    (I : Inv X pins σ H s) (r : Vals vs us) (rz : Vals zs ws) (h : pr (gV vs zs) H Q) :
    wpAny (model X.prog X.w) X.A (call (.ref f) us (ks.zip ws)) (EP X pins σ Q) X.xe s := by
  have r2 := hb.rel r rz
  have hl : (g us ws).length = ps.length := r2.length.symm.trans (F.many _ _ _ h)
  exact goG (args := ⟨us, ks.zip ws⟩) F hr I (hb.to s us ws I.kIn hl) r2 h
/-- f(e, .., k = v, ..) -/
theorem pe_gk (F : FnG X.prog X.w X.K X.mg X.base k f fd ps pr) (hr : RG k X.A) (hg : Gl X x)
    (hm : X.mg x = some (.ref f)) (hk : PySem.W.keepIn X.K (.ref f) = true) (hb : KBinds X.K fd ps ks g gV)
    (ha : PA X (e :: es) t) (hkw : PK X kws tk)
    (hall : (backToKw pos (keywordEach kws X.env)).all (·.1.isSome) = true := by rfl)
    (hks : (backToKw pos (keywordEach kws X.env)).filterMap (·.1) = ks := by rfl)
    (hdb : (x == ("__debug__" : Str)) = false := by decide)
    (he : starEach (e :: es) X.env = (false, eval e X.env) :: starEach es X.env := by rfl)
    (hpl : ((backTo pos (starEach (e :: es) X.env)).any (·.1) || (backToKw pos (keywordEach kws X.env)).any (·.1.isNone)) = false := by rfl) :
    PE X (.Call (.Name x p) (e :: es) kws pos) (tCallKG pr gV t tk) := by
  constructor
  intro pins s σ H Q I h
  refine wpAny_Call_Name_kw (ld_glob I hg hm ?_ hdb)
  refine PySem.W.callWith_KW (h₀ := X.base) I.ok.mod.kin hk hall (thn (ha.run pos pins s σ H _ I h) ?_) hpl he
  rintro us s1 ⟨vs, H1, I1, r, q⟩
  refine thn (hkw.run pos pins s1 σ H1 _ I1 q) ?_
  rintro ws s2 ⟨zs, H2, I2, rz, q2⟩
  refine ⟨I2.kIn, ?_⟩
  rw [hks]
  exact goK F hr hb I2 r rz q2
end

/-! ### repr of data -/
section
variable {X : Cx}
def rRepr (K : PySem.W.Frag) : List V → Hp → VK → Prop := fun xs H Q => ∃ (a : Addr) (d : PyData), xs = [.ref a] ∧
  Dp K H (.ref a) d ∧ d.showable = true ∧ d.hasDict = false ∧ d.depth ≤ 60 ∧ d.shown.length ≤ sizeLine ∧ Q (.str d.shown) H
theorem call_repr {k : Nat} (hr : RG k X.A) : CallR X (.builtin "repr") (rRepr X.K) := by
  intro pins s σ H xs us Q I r q
  obtain ⟨a, d, ex, hD, hs, hnd, hdp, hsz, q⟩ := q
  subst ex
  obtain ⟨u, eu, rx⟩ := vals1 r
  subst eu
  cases rx
  obtain ⟨as, rd⟩ := Dp.reads I d (.ref a) (.ref a) hD rfl
  have hu := hr.room.units
  exact repr_of_reads' rd hs (PyData.noDict_hsm hnd) hr.still (by omega) (fun _ _ z => z)
    (fun h' u tk hk => ⟨.str d.shown, H, I.kept hk, ⟨u, rfl⟩, q⟩) hsz
end
end AskG
/-! Cells (a text, an int) as keys of dicts: their order, sorted(d). -/
namespace AskG
open PySem PySem.Spec PyProof.Rows L2

abbrev Cell := Str × Int
/-- a cell as a key -/
abbrev ck (c : Cell) : List Key := [Sum.inr c.1, Sum.inl c.2]
/-- the order of cells -/
def ltC (p q : Cell) : Bool := if p.1 = q.1 then decide (p.2 < q.2) else decide (p.1.cps.toList < q.1.cps.toList)

theorem str_ext {x y : Str} (h : x.cps.toList = y.cps.toList) : x = y := by
  obtain ⟨⟨a⟩⟩ := x
  obtain ⟨⟨b⟩⟩ := y
  have h : a = b := h
  rw [h]
theorem ltC_iff {p q : Cell} : ltC p q = true ↔ (p.1.cps.toList < q.1.cps.toList) ∨ (p.1 = q.1 ∧ p.2 < q.2) := by
  unfold ltC
  by_cases e : p.1 = q.1
  · rw [if_pos e, decide_eq_true_eq]
    constructor
    · intro h
      exact Or.inr ⟨e, h⟩
    · rintro (h | h)
      · rw [e] at h
        exact absurd h (List.lt_irrefl _)
      · exact h.2
  · rw [if_neg e, decide_eq_true_eq]
    constructor
    · intro h
      exact Or.inl h
    · rintro (h | h)
      · exact h
      · exact absurd h.1 e
theorem codes_tri (x y : List Nat) : x < y ∨ x = y ∨ y < x := by
  by_cases h1 : x < y
  · exact Or.inl h1
  · by_cases h2 : y < x
    · exact Or.inr (Or.inr h2)
    · exact Or.inr (Or.inl (List.le_antisymm (List.not_lt.mp h2) (List.not_lt.mp h1)))
theorem ltC_tri (p q : Cell) : ltC p q = true ∨ p = q ∨ ltC q p = true := by
  rcases codes_tri p.1.cps.toList q.1.cps.toList with h | h | h
  · exact Or.inl (ltC_iff.mpr (Or.inl h))
  · have e := str_ext h
    rcases Int.lt_trichotomy p.2 q.2 with g | g | g
    · exact Or.inl (ltC_iff.mpr (Or.inr ⟨e, g⟩))
    · exact Or.inr (Or.inl (Prod.ext e g))
    · exact Or.inr (Or.inr (ltC_iff.mpr (Or.inr ⟨e.symm, g⟩)))
  · exact Or.inr (Or.inr (ltC_iff.mpr (Or.inl h)))
theorem ltC_trans {p q r : Cell} (h1 : ltC p q = true) (h2 : ltC q r = true) : ltC p r = true := by
  refine ltC_iff.mpr ?_
  rcases ltC_iff.mp h1 with a | ⟨a, a'⟩ <;> rcases ltC_iff.mp h2 with b | ⟨b, b'⟩
  · exact Or.inl (List.lt_trans a b)
  · exact Or.inl (b ▸ a)
  · exact Or.inl (a ▸ b)
  · exact Or.inr ⟨a.trans b, Int.lt_trans a' b'⟩
theorem ltC_irr (p : Cell) : ltC p p = false := by
  cases h : ltC p p with
  | false => rfl
  | true =>
    rcases ltC_iff.mp h with a | ⟨_, a⟩
    · exact absurd a (List.lt_irrefl _)
    · exact absurd a (Int.lt_irrefl _)
theorem ltC_asym {p q : Cell} (h : ltC p q = true) : ltC q p = false := by
  cases g : ltC q p with
  | false => rfl
  | true =>
    have := ltC_trans h g
    rw [ltC_irr] at this
    cases this
theorem swo_cells {α : Type} (k : α → Cell) : SrtO.Swo fun v u => ltC (k v) (k u) := by
  refine ⟨fun x y h => ltC_asym h, fun x y z h1 h2 => ?_⟩
  cases g : ltC (k z) (k x) with
  | false => rfl
  | true =>
    rcases ltC_tri (k x) (k y) with a | a | a
    · have := ltC_trans g a
      rw [h2] at this
      cases this
    · rw [← a, g] at h2
      cases h2
    · rw [h1] at a
      cases a

/-- the value is a tuple of a text and an int -/
def IsCl (h : Heap) (v : Value) (c : Cell) : Prop := ∃ (a : Addr) (t u : Tok), v = .ref a ∧ IsTup h a #[.str c.1 t, .int c.2 u]
section
variable {prog : Program} {w : World} {A : Around} {E : Value → Shared → Prop} {s : Shared}
theorem cell_cmp {vs : List Value} {k : Value → Cell} (hp : ∀ v ∈ vs, IsCl s.heap v (k v)) :
    SrtO.Cmp prog w A s (tuples' true) (fun p => p.1 ∈ vs) (SrtO.lt2 fun v u => ltC (k v) (k u)) := by
  intro p q hm hm'
  have h1 := hp _ hm
  have h2 := hp _ hm'
  show wpAny (model prog w) A (keyLt' (tuples' true) p.1 q.1) (fun r s' => s' = s ∧ r = ltC (k p.1) (k q.1)) (fun _ _ => False) s
  generalize k p.1 = c at h1 ⊢
  generalize k q.1 = d at h2 ⊢
  obtain ⟨a, t, u, e, o, ho, hc, n, hd⟩ := h1
  obtain ⟨a', t', u', e', o', ho', hc', n', hd'⟩ := h2
  rw [e, e']
  refine PySem.W.kat_lt ho hd ho' hd' ?_
  show PySem.W.KatLex prog w A true (decide (2 < 2)) _ [(.str c.1 t, .str d.1 t'), (.int c.2 u, .int d.2 u')] 0 s
  refine PySem.W.kat_cons (SeqAt.EqAt.str_str c.1 t d.1 t' prog w _ _ ?_)
  refine PySem.W.kat_go (fun e1 => ?_) (fun e1 => ?_)
  · have ex : c.1 = d.1 := by simpa using e1
    refine PySem.W.kat_yes (PySem.W.kat_cons (SeqAt.EqAt.int_int c.2 u d.2 u' prog w _ _ ?_))
    refine PySem.W.kat_go (fun e2 => ?_) (fun e2 => ?_)
    · have ey : c.2 = d.2 := by simpa using e2
      have e3 : ltC c d = false := by
        rw [show c = d from Prod.ext ex ey]
        exact ltC_irr d
      exact PySem.W.kat_yes (PySem.W.kat_nil ⟨rfl, e3.symm⟩)
    · have e3 : ltC c d = decide (c.2 < d.2) := if_pos ex
      refine PySem.W.kat_no (PySem.W.kat_one _ _ (PyProof.Rows.lt_int ?_))
      exact (show s = s ∧ decide (c.2 < d.2) = ltC c d from ⟨rfl, e3.symm⟩)
  · have ex : ¬ c.1 = d.1 := by simpa using e1
    have e3 : ltC c d = decide (c.1.cps.toList < d.1.cps.toList) := if_neg ex
    exact PySem.W.kat_no (oneLt_str ⟨rfl, e3.symm⟩)
theorem cell_firsts {h : Heap} : ∀ {vs : List Value}, (∀ v ∈ vs, ∃ c, IsCl h v c) →
    ∃ fs : List Value, PySem.W.KatTups h vs fs ∧ fs.length = vs.length ∧ ∀ f ∈ fs, ∃ x t, f = Value.str x t
  | [], _ => ⟨[], .nil, rfl, fun f hf => absurd hf (by simp)⟩
  | v :: vs, x => by
    obtain ⟨fs, k, hl, hi⟩ := cell_firsts (vs := vs) fun u hu => x u (List.mem_cons_of_mem _ hu)
    obtain ⟨c, a, t, u, rfl, o, ho, hc, n, hd⟩ := x v List.mem_cons_self
    refine ⟨.str c.1 t :: fs, .cons ho hc hd rfl k, congrArg (· + 1) hl, fun f hf => ?_⟩
    rcases List.mem_cons.mp hf with rfl | hf
    · exact ⟨_, _, rfl⟩
    · exact hi f hf
theorem IsCl.keeps {h h' : Heap} {v : Value} {c : Cell} (x : IsCl h v c) (k : ∀ b o, h.get? b = some o → o.cls = .type "tuple" → h'.get? b = some o) : IsCl h' v c := by
  obtain ⟨a, t, u, e, o, ho, hc, r⟩ := x
  exact ⟨a, t, u, e, o, k _ _ ho hc, hc, r⟩
theorem cells_sortable {a : Addr} {vs : List Value} {k : Value → Cell} (h0 : 0 < vs.length) (hp : ∀ v ∈ vs, IsCl s.heap v (k v))
    (ha : ∀ o, s.heap.get? a = some o → o.cls ≠ .type "tuple") : SrtO.SortableO prog w A s a vs fun v u => ltC (k v) (k u) := by
  intro h' keep
  have hp' : ∀ v ∈ vs, IsCl h' v (k v) := fun v hm => (hp v hm).keeps fun b o e c => keep b o (fun z => by subst z; exact ha o e c) e
  obtain ⟨fs, h1, h2, h3⟩ := cell_firsts fun v hm => ⟨_, hp' v hm⟩
  refine ⟨tuples' true, fun Q E hq => ?_, cell_cmp hp'⟩
  refine PySem.W.kat_kind (T := .type "str") h1 (by omega) (fun f hm => ?_) (by rfl) ?_
  · obtain ⟨x, t, rfl⟩ := h3 f hm
    exact PySem.W.Looks.now
  · have e : (Value.type "str" != Value.type "tuple") = true := by first | decide +kernel | rfl | decide
    rw [e]
    exact hq
end
end AskG
/-! sorted(d), dict(pairs) of dicts whose keys are cells. -/
namespace AskG
open PySem PySem.Spec PyProof.Rows L2

/-- a tracked tuple of a text and an int -/
def CellAt (H : Hp) (b : Addr) (c : Cell) : Prop := H b = some (.tup [.str c.1, .int c.2])
/-- the cell that stands behind a value -/
def cellOf (H : Hp) : Value → Cell
  | .ref a => match H a with
    | some (.tup [.str x, .int y]) => (x, y)
    | _ => (⟨#[]⟩, 0)
  | _ => (⟨#[]⟩, 0)
theorem cellOf_at {H : Hp} {b : Addr} {c : Cell} (h : CellAt H b c) : cellOf H (.ref b) = c := by
  unfold CellAt at h
  show (match H b with
    | some (.tup [.str x, .int y]) => (x, y)
    | _ => ((⟨#[]⟩, 0) : Cell)) = c
  rw [h]
theorem isCl_of {P : Program} {w : World} {H : Hp} {h : Heap} {b : Addr} {c : Cell} (ok : HOk P w H h) (e : CellAt H b c) : IsCl h (.ref b) c := by
  obtain ⟨_, its, r, ht⟩ := (show ObjOk P w H h b (.tup [.str c.1, .int c.2]) from ok b _ e)
  obtain ⟨x, y, ei, rx, ry⟩ := vals2 r
  obtain ⟨t, rfl⟩ := rx
  obtain ⟨u, rfl⟩ := ry
  subst ei
  exact ⟨b, t, u, rfl, ht⟩
theorem ck_inj {c d : Cell} (h : ck c = ck d) : c = d := by
  injection h with h1 h2
  injection h1 with h1
  injection h2 with h2 _
  injection h2 with h2
  exact Prod.ext h1 h2

/-- sorted(d), d a dict whose keys are the cells cs -/
def rSortT : List V → Hp → VK → Prop := fun xs H Q => ∃ (d : Addr) (kvs : List (List Key × V)) (cs : List Cell),
  xs = [.ref d] ∧ Rd H d (.dT kvs) ∧ kvs.map (·.1) = cs.map ck ∧
  ∀ (ys : List Cell) (bs : List Addr) (p : Addr), ys.Perm cs → ys.Pairwise (fun a b => ltC a b = true) →
    Paired (CellAt H) bs ys → H p = none → Q (.ref p) (upd H p (.lst (bs.map V.ref)))
theorem paired_of {α β : Type} {R : α → β → Prop} (f : α → β) : ∀ {l : List α}, (∀ x ∈ l, R x (f x)) → Paired R l (l.map f)
  | [], _ => .nil
  | x :: l, h => .cons (h x List.mem_cons_self) (paired_of f fun y hy => h y (List.mem_cons_of_mem _ hy))
theorem strict_of : ∀ {ys : List Cell}, ys.Pairwise (fun a b => ltC b a = false) → ys.Nodup → ys.Pairwise (fun a b => ltC a b = true) := by
  intro ys h n
  refine (h.and n).imp ?_
  rintro a b ⟨h1, h2⟩
  rcases ltC_tri a b with g | g | g
  · exact g
  · exact absurd g h2
  · rw [h1] at g
    cases g
section
variable {X : Cx}
theorem cr_sortT (hc : X.calm = true) : CallR X (.builtin "sorted") rSortT := by
  intro pins s σ H xs us Q I r q
  obtain ⟨d, kvs, cs, ex, hd, hks, q⟩ := q
  subst ex
  obtain ⟨u, eu, rx⟩ := vals1 r
  subst eu
  cases rx
  obtain ⟨z, hs, ks, pr, o, es, ep, ho, hx, hdt, he, hn⟩ :=
    (show ObjOk X.prog X.w H s.heap d (.dT kvs) from hd.ok I.hok)
  have l1 : es.size = ks.length := size_of_entries he
  have l2 : kvs.length = ks.length := Paired.length pr
  have hkk : ks.map (·.1) = cs.map ck := by
    rw [← hks]
    clear q he hn hd l1 l2 hks z
    induction pr with
    | nil => rfl
    | cons h t ih => rw [List.map_cons, List.map_cons, ih, h.1]
  have atK : ∀ x ∈ ks, H x.2.1 = some (.tup (x.1.map kV)) := by
    clear q he hn hd l1 l2 hks z hkk
    induction pr with
    | nil => exact fun x hx => absurd hx (by simp)
    | cons h t ih =>
      intro x hx
      rcases List.mem_cons.mp hx with e | hx
      · subst e
        rw [← h.1]
        exact h.2.1
      · exact ih x hx
  have atC : ∀ x ∈ ks, ∃ c, x.1 = ck c ∧ CellAt H x.2.1 c := by
    intro x hx
    have : x.1 ∈ cs.map ck := by
      rw [← hkk]
      exact List.mem_map_of_mem hx
    obtain ⟨c, _, ec⟩ := List.mem_map.mp this
    refine ⟨c, ec.symm, ?_⟩
    have := atK x hx
    rw [← ec] at this
    exact this
  refine Calls.call_function_entry PyProof.Rows.kind_sorted PyProof.Rows.plain_sorted
    PyProof.Rows.entry_sorted (PyProof.Rows.args_sorted1 _) ?_
  unfold Builtin.«sorted»
  refine wpAny_bind (m := checkCount "sorted" 1 1 _) (wpAny_pure ?_)
  refine wpAny_bind (PySem.W.kdu_collect (A := X.A.in1) (kdl_raw hs hx hdt) (I.ok.hd hc) ho (by omega) ?_)
  intro h' tk acc hk it
  have ea : acc.toList = ks.map fun x => Value.ref x.2.1 := by
    have hl : acc.toList.length = ks.length := by
      rw [Array.length_toList, it.1]
      exact l1
    apply List.ext_getElem?
    intro j
    rw [List.getElem?_map]
    cases hj : acc.toList[j]? with
    | none =>
      have h1 := List.getElem?_eq_none_iff.mp hj
      rw [List.getElem?_eq_none (by omega)]
      all_goals rfl
    | some v =>
      obtain ⟨en, hen, hv⟩ := it.2 j v (by rw [← Array.getElem?_toList]; exact hj)
      have qe := entry_at he j
      rw [hen] at qe
      cases hb : ks[j]? with
      | none =>
        rw [hb] at qe
        exact nomatch (show some en = none from qe)
      | some b =>
        rw [hb] at qe
        have e2 : en = entryOfKey (tupleKind (mixKind X.prog X.w)) b := Option.some.inj qe
        rw [hv, e2]
        all_goals rfl
  generalize acc.toList = vs at ea ⊢
  subst ea
  have hz : (ks.map fun x => Value.ref x.2.1).length ≤ sizeLine := by
    rw [List.length_map]
    omega
  have I1 : Inv X pins σ H { s with heap := h', toks := tk } := I.kept hk
  refine wpAny_bind (wpAny_newList ?_ hz)
  generalize hvs : (ks.map fun x => Value.ref x.2.1) = vs at hz ⊢
  have hoL : (h'.push (seqObj "list" vs.toArray 0)).get? h'.objs.size = some (seqObj "list" vs.toArray 0) :=
    Heap.get?_push_size _ rfl
  have hcl : ∀ v ∈ vs, ∃ b c, v = .ref b ∧ CellAt H b c := by
    intro v hv
    rw [← hvs] at hv
    obtain ⟨x, hx, rfl⟩ := List.mem_map.mp hv
    obtain ⟨c, _, hc⟩ := atC x hx
    exact ⟨_, c, rfl, hc⟩
  show wpAny _ _ _ _ _ { s with heap := h'.push (seqObj "list" vs.toArray 0), toks := tk }
  refine wpAny_bind (wpAny_holding (wpAny_call_entry PyProof.Rows.slot_list_sort ⟨_, hoL, rfl⟩ PyProof.Rows.entry_list_sort
    (SrtO.list_sort_ord (ltv := fun v u => ltC (cellOf H v) (cellOf H u)) (swo_cells _) hoL hz (fun h2 => ?_) (fun out hs hb => ⟨_, rfl, ?_⟩))
    (PyProof.Rows.args_list_sort _)))
  · refine cells_sortable (by omega) (fun v hv => ?_) fun o' eo => ?_
    · obtain ⟨b, c, rfl, hc⟩ := hcl v hv
      rw [cellOf_at hc]
      exact (isCl_of I1.hok hc).keeps fun b o e _ => Heap.get?_push_of_some _ e
    · have e' : some o' = some (seqObj "list" vs.toArray 0) := eo.symm.trans hoL
      cases e'
      intro c
      exact absurd (Value.type.inj c) (by decide)
  · obtain ⟨e', he'⟩ := PyProof.Rows.sortedHeap_at (vs := vs) (out := out.toArray) hoL
    have hout : ∀ v ∈ out, ∃ b c, v = .ref b ∧ CellAt H b c := fun v hv => hcl v (hb.perm.mem_iff.mp hv)
    have hbs : ∃ bs : List Addr, out = bs.map Value.ref := by
      clear hb hs he'
      induction out with
      | nil => exact ⟨[], rfl⟩
      | cons v l ih =>
        obtain ⟨bs, rfl⟩ := ih fun u hu => hout u (List.mem_cons_of_mem _ hu)
        obtain ⟨b, c, rfl, _⟩ := hout v List.mem_cons_self
        exact ⟨b :: bs, rfl⟩
    obtain ⟨bs, rfl⟩ := hbs
    have hcs : (vs.map (cellOf H)) = cs := by
      rw [← hvs, List.map_map]
      have inj : ∀ {a b : List Cell}, a.map ck = b.map ck → a = b := by
        intro a
        induction a with
        | nil =>
          intro b h
          cases b with
          | nil => rfl
          | cons _ _ => cases h
        | cons x a ih =>
          intro b h
          cases b with
          | nil => cases h
          | cons y b =>
            rw [List.map_cons, List.map_cons] at h
            injection h with h1 h2
            rw [ck_inj h1, ih h2]
      refine inj ?_
      rw [List.map_map, ← hkk]
      refine List.map_congr_left fun x hx => ?_
      obtain ⟨c, ec, hc⟩ := atC x hx
      show ck (cellOf H (.ref x.2.1)) = x.1
      rw [cellOf_at hc, ec]
    have perm : ((bs.map Value.ref).map (cellOf H)).Perm cs := by
      rw [← hcs]
      exact hb.perm.map _
    have hcn : cs.Nodup := by
      have := hn
      rw [hkk] at this
      exact (List.pairwise_map.mp this).imp fun h e => h (congrArg ck e)
    have hst := strict_of (List.pairwise_map.mpr hs) (perm.nodup_iff.mpr hcn)
    have hlen : (bs.map V.ref).length ≤ sizeLine := by
      have := hb.perm.length_eq
      rw [List.length_map] at this ⊢
      omega
    refine wpAny_pure ⟨_, rfl, .ref h'.objs.size, upd H h'.objs.size (.lst (bs.map V.ref)), I1.laid (t' := tk) (fun b u e => ?_) (Nat.le_refl _)
      (show ObjOk X.prog X.w _ _ _ (.lst (bs.map V.ref)) from ⟨hlen, bs.map Value.ref, e', vals_refs _, he'⟩), rfl,
      q _ bs _ perm hst ?_ (I1.hok.fresh (Nat.le_refl _))⟩
    · have hb : b < h'.objs.size := Heap.lt_size e
      rw [PyProof.Rows.sortedHeap_old (Nat.ne_of_lt hb) (by rw [size_push']; exact Nat.lt_succ_of_lt hb)]
      exact Heap.get?_push_of_some _ e
    · rw [List.map_map]
      refine paired_of _ fun b hb' => ?_
      obtain ⟨b2, c, e2, hc⟩ := hout (.ref b) (List.mem_map_of_mem hb')
      cases e2
      show CellAt H b (cellOf H (.ref b))
      rw [cellOf_at hc]
      exact hc

/-! ### dict(pairs) -/
/-- one after another, later ones win -/
def putAll (kvs more : List (List Key × V)) : List (List Key × V) := more.foldl (fun acc kv => putK acc kv.1 kv.2) kvs
theorem length_putAll : ∀ (more kvs : List (List Key × V)), (putAll kvs more).length ≤ kvs.length + more.length
  | [], kvs => Nat.le_refl _
  | m :: more, kvs => by
    have h1 := length_putAll more (putK kvs m.1 m.2)
    have h2 := length_putK kvs m.1 m.2
    rw [List.length_cons]
    show (putAll (putK kvs m.1 m.2) more).length ≤ _
    omega
theorem ktAll {H : Hp} {more : List (List Key × V)} {ms : List (List Key × Addr × Value)} (r : KT H more ms) :
    ∀ {kvs : List (List Key × V)} {xs : List (List Key × Addr × Value)}, KT H kvs xs → KT H (putAll kvs more) (storedAllH xs ms) := by
  induction r with
  | nil => exact fun h => h
  | @cons p q _ _ h t ih =>
    intro kvs xs g
    show KT H (putAll (putK kvs p.1 p.2) _) (storedAllH (storedH xs q.1 q.2.1 q.2.2) _)
    refine ih ?_
    have := KT.put g p.1 (b := q.2.1) h.2.1 h.2.2
    rw [h.1] at this ⊢
    exact this
/-- a tracked pair: a key tuple and a value -/
def PairAt' (K : PySem.W.Frag) (H : Hp) (p : Addr) (kv : List Key × V) : Prop := ∃ b, SqT K H p [.ref b, kv.2] ∧ H b = some (.tup (kv.1.map kV))
theorem pairsT_of {pins : List (Addr × Obj)} {σ : L2.St} {H : Hp} {s : Shared} (I : Inv X pins σ H s) : ∀ {ps : List Addr} {kvs : List (List Key × V)}, Paired (PairAt' X.K H) ps kvs →
    ∃ ms : List (List Key × Addr × Value), KT H kvs ms ∧ ms.length = ps.length ∧ ∀ (j : Nat) (q : List Key × Addr × Value), ms[j]? = some q → ∃ b : Addr, ps[j]? = some b ∧ IsTup s.heap b #[.ref q.2.1, q.2.2]
  | _, _, .nil => ⟨[], .nil, rfl, fun j q e => by simp at e⟩
  | _, _, .cons (a := p) (b := kv) h t => by
    obtain ⟨ms, r, hl, hp⟩ := pairsT_of I t
    obtain ⟨b, hb, hk⟩ := h
    obtain ⟨its, rv, ht, _⟩ := I.tuple hb
    obtain ⟨u, y, ei, ru, ry⟩ := vals2 rv
    subst ei
    cases ru
    refine ⟨(kv.1, b, y) :: ms, .cons ⟨rfl, hk, ry⟩ r, congrArg (· + 1) hl, fun j q e => ?_⟩
    cases j with
    | zero =>
      have e' : (kv.1, b, y) = q := Option.some.inj e
      subst e'
      exact ⟨p, rfl, ht⟩
    | succ j =>
      obtain ⟨b', e1, e2⟩ := hp j q (by simpa using e)
      exact ⟨b', by simpa using e1, e2⟩
/-- dict(xs), xs a list of pairs whose keys are tuples -/
theorem call_dictT {k : Nat} (hc : X.calm = true) (hr : Room k X.A) : CallR X (.type "dict") (fun xs H Q => ∃ (a : Addr) (ps : List Addr) (kvs : List (List Key × V)), xs = [.ref a] ∧ SqL X.K H a (ps.map V.ref) ∧ Paired (PairAt' X.K H) ps kvs ∧
    ∀ p, H p = none → Q (.ref p) (upd H p (.dT (putAll [] kvs)))) := by
  intro pins s σ H xs us Q I r q
  obtain ⟨a, ps, kvs, ex, hq, hp, q⟩ := q
  subst ex
  obtain ⟨u, eu, rx⟩ := vals1 r
  subst eu
  cases rx
  obtain ⟨its, rv, pl, hz⟩ := I.list hq
  have ei := refs_at rv
  subst ei
  rw [List.length_map] at hz
  obtain ⟨ms, rel, hl, hpr⟩ := pairsT_of I hp
  obtain ⟨o, n, ho, hcl, hd, hdat⟩ := pl
  have hu := hr.units
  have isK : ∀ (h' : Heap), (∀ b o, s.heap.get? b = some o → h'.get? b = some o) → ∀ x ∈ ms, (tupleKind (mixKind X.prog X.w)).is h' x.1 x.2.1 := by
    intro h' kp x hx
    have ok' : HOk X.prog X.w H h' := (I.kept (t' := s.toks) kp).hok
    have all : ∀ {l : List (List Key × V)} {m : List (List Key × Addr × Value)}, KT H l m → ∀ x ∈ m, H x.2.1 = some (.tup (x.1.map kV)) := by
      intro l m q
      induction q with
      | nil => exact fun x hx => absurd hx (by simp)
      | cons h t ih =>
        intro x hx
        rcases List.mem_cons.mp hx with e | hx
        · subst e
          rw [← h.1]
          exact h.2.1
        · exact ih x hx
    exact key_of ok' (all rel x hx)
  have pit : PairItems s.heap (ps.map Value.ref).toArray (fun j => ps.getD j 0) (ms.map fun q => (Value.ref q.2.1, q.2.2)) := by
    refine ⟨by simp [hl], fun j k' v e => ?_⟩
    rw [List.getElem?_map] at e
    cases em : ms[j]? with
    | none =>
      rw [em] at e
      cases e
    | some q' =>
      rw [em] at e
      obtain ⟨b, e1, e2⟩ := hpr j q' em
      have e3 : (Value.ref q'.2.1, q'.2.2) = (k', v) := Option.some.inj e
      injection e3 with e4 e5
      have eg : ps.getD j 0 = b := by rw [List.getD_eq_getElem?_getD, e1]; rfl
      refine ⟨?_, ?_⟩
      · show _ = some (Value.ref (ps.getD j 0))
        rw [eg]
        simp [e1]
      · show PairAt s.heap (ps.getD j 0) k' v
        rw [eg, ← e4, ← e5]
        exact .inl e2
  have hsz : ms.length ≤ sizeLine := by rw [hl]; exact hz
  have P := PairArg.list (prog := X.prog) (w := X.w) a (ps.map Value.ref).toArray (fun j => ps.getD j 0) (ms.map fun q => (Value.ref q.2.1, q.2.2))
  refine call_dict_pairsH (knd := tupleKind (mixKind X.prog X.w)) (ps := ms) P (I.ok.hd hc) (tupleKind_room_in1 (A := X.A.in1) (by show X.A.units + 1 + 1 < _; omega)) ⟨⟨o, n, ho, hcl, hd, hdat⟩, pit⟩ ⟨by rw [List.length_map], fun i key v e => ?_⟩ (fun h' hk' x hx => ?_) (by rw [List.length_map]; exact hsz) fun h' tk hd' kp => ?_
  · have e : (ms.map fun q => (Value.ref q.2.1, q.2.2))[i]? = some (key, v) := e
    rw [List.getElem?_map] at e
    cases em : ms[i]? with
    | none =>
      rw [em] at e
      cases e
    | some q' =>
      rw [em] at e
      have e3 : (Value.ref q'.2.1, q'.2.2) = (key, v) := Option.some.inj e
      injection e3 with e4 e5
      exact ⟨q'.1, q'.2.1, by rw [← e5], e4.symm⟩
  · exact isK h' (fun b o e => hk' b o (Nat.ne_of_lt (Heap.lt_size e)) (by simp) e) x hx
  · have kp' : ∀ b o, s.heap.get? b = some o → h'.get? b = some o := fun b o e => kp b o (by simp) e
    have hm : (s.heap.objs.size == sysModules) = false := beq_eq_false_iff_ne.mpr (Nat.ne_of_gt I.big)
    have hfr : H s.heap.objs.size = none := I.hok.fresh (Nat.le_refl _)
    have hlen : (putAll [] kvs).length ≤ sizeLine := by
      refine Nat.le_trans (length_putAll kvs []) ?_
      rw [List.length_nil, Nat.zero_add, Paired.length rel]
      exact hsz
    obtain ⟨q1, es, ep, h1, h2, h3, h4, _, h5⟩ := hd'
    refine ⟨.ref s.heap.objs.size, upd H s.heap.objs.size (.dT (putAll [] kvs)), I.laid (t' := tk) kp' (Nat.le_refl _)
      (show ObjOk X.prog X.w _ _ _ (.dT (putAll [] kvs)) from ⟨hlen, hm, storedAllH [] ms, (ktAll rel .nil).keeps fun c ys ec => ?_, q1, es, ep, h1, h2, h3, h4, h5⟩), rfl, q _ hfr⟩
    rw [upd_ne (ne_of_none ec hfr)]
    exact ec
end
end AskG
/-! {k: v for .. in ..}, the keys tuples. -/
namespace AskG
open PySem PySem.Spec PyProof.Rows L2

theorem setT {X : Cx} {pins : List (Addr × Obj)} {σ : L2.St} {H : Hp} {s : Shared} {E : Value → Shared → Prop} {D b : Addr}
    {kvs : List (List Key × V)} {k : List Key} {v : V} {r : Value} {Q : Unit → Shared → Prop} (hu : X.A.units + 1 < cLine)
    (I : Inv X pins σ H s) (hD : H D = some (.dT kvs)) (hb : H b = some (.tup (k.map kV))) (hz : kvs.length < sizeLine)
    (rv : RelV v r) (h : ∀ s', Inv X pins σ (upd H D (.dT (putK kvs k v))) s' → Q () s') :
    wpAny (model X.prog X.w) X.A (dictSet D (.ref b) r) Q E s := by
  obtain ⟨z, hd, xs, rel, dd⟩ := dt_of I.hok hD
  have hx : xs.length ≤ sizeLine := by
    rw [← Paired.length rel]
    exact z
  have hl : (putK kvs k v).length ≤ sizeLine := by
    have := length_putK kvs k v
    omega
  refine wpAny_dictSet_heap (hsz := hx) (knd := tupleKind (mixKind X.prog X.w)) (show X.A.units < cLine by omega)
    (key_of I.hok hb) dd fun h' dd' hs => h _ ?_
  obtain ⟨q, es, ep, hq, h2, h3, h4, _, h5⟩ := dd'
  refine d_write I (by rw [hD]; exact True.intro) hs ⟨q, hq⟩
    ⟨hl, hd, _, (rel.put k hb rv).keeps fun c ys ec => ?_, q, es, ep, hq, h2, h3, h4, h5⟩
  rw [upd_ne (ne_of ec hD (fun z => nomatch z))]
  exact ec

/-- the reading: D the new dict -/
def tDcT (wi : TI) (g : TG) (tk tv : TE) (vs : List Nat) : TE := fun σ H Q => wi σ H fun J H1 => ∀ D, H1 D = none →
  ∃ W : Nat → Nat → Hp → Prop, (∃ m, W 0 m (upd H1 D (.dT []))) ∧ ∀ i m H, W i m H →
    (J.stop i H ∧ Q (.ref D) H) ∨ (J.go i H ∧ ∃ Nx : Hp → Prop, (∀ H', Nx H' → ∃ m', m' < m ∧ W (i + 1) m' H') ∧
      ∀ x H', J.yld i H x H' → g x (wipe σ vs) H' fun σ2 H2 => wipe σ2 vs = wipe σ vs ∧
        tk σ2 H2 fun y H4 => tv σ2 H4 fun z H5 => ∃ b kvs k, y = .ref b ∧ H5 b = some (.tup (k.map kV)) ∧
          H5 D = some (.dT kvs) ∧ kvs.length < sizeLine ∧ Nx (upd H5 D (.dT (putK kvs k z))))

section
variable {X : Cx}
theorem pe_dcT {kx vx tg iter : Expr} {scope : Scope} {own : List (Str × Nat)} {pos : Pos} {wi : TI} {g : TG} {tk tv : TE}
    (hu : X.A.units + 1 < cLine) (hc : X.calm = true) (hN : X.N.Nodup) (hi : PI X tg iter wi) (ok : BlkOk X.N X.env.scope scope own)
    (hg : ∀ (s : Shared) (H : Hp) (C : Addr) (cl : List (Str × Addr)) (fp : List Addr),
      PG (X.blk s H scope (compEnvC scope cl C X.env) fp) tg g)
    (hk : ∀ (s : Shared) (H : Hp) (C : Addr) (cl : List (Str × Addr)) (fp : List Addr),
      PE (X.blk s H scope (compEnvC scope cl C X.env) fp) kx tk)
    (he : ∀ (s : Shared) (H : Hp) (C : Addr) (cl : List (Str × Addr)) (fp : List Addr),
      PE (X.blk s H scope (compEnvC scope cl C X.env) fp) vx tv)
    (hs : ∀ x, foldedSetIterable iter X.env x = pure x := by intro _; rfl) :
    PE X (.DictComp kx vx [⟨tg, iter, [], 0⟩] scope pos) (tDcT wi g tk tv (own.map (·.2))) := by
  constructor
  intro pins s σ H Q I h
  rw [arm_eval_DictComp]
  have hfree : ∀ y ∈ scope.names, y.2 = .free → ∃ c, X.env.cells.lookup y.1 = some c := by
    intro y hy e
    exact (ok.free y hy e).elim (fun k => I.ok.has _ (.inl k)) fun k => I.ok.has _ (.inr k)
  refine wpAny_comprehension_free rfl hs (closure_ok hfree) ok.kind (fun y hy e => by rw [ok.uniq y hy, e])
    (thn (hi.run pins s σ H _ I h) fun xv s1 hx => thn hx ?_)
  rintro itv s2 ⟨it, fp, tn, J, H2, e, I2, T, st2, f2, q⟩
  subst e
  refine wpAny_newObj_type (newEnv_comp ?_)
  generalize hD : s2.heap.objs.size = D
  have hDn : H2 D = none := I2.hok.fresh (Nat.le_of_eq hD)
  obtain ⟨W, ⟨m0, w0⟩, turn⟩ := q D hDn
  generalize hs3 : ({ s2 with heap := s2.heap.push { cls := .type "dict", data := .dict #[] } } : Shared) = s3
  have I3 : Inv X pins σ (upd H2 D (.dT [])) s3 := by
    rw [← hs3]
    refine I2.laid (t' := s2.toks) (fun b o e => Heap.get?_push_of_some _ e) (Nat.le_of_eq hD) ?_
    rw [← hD]
    exact dt_empty s2.heap I2.big
  have h3 : s3.heap = s2.heap.push { cls := .type "dict", data := .dict #[] } := by rw [← hs3]
  have sz : ∀ b ∈ fp, b < s2.heap.objs.size := fun b hb => (T.obj _ _ st2 b hb).elim fun o e => Heap.lt_size e.1
  have f3 : ∀ b ∈ fp, FpOk X pins (upd H2 D (.dT [])) b ∧ b < s3.heap.objs.size := by
    intro b hb
    have hlt := sz b hb
    refine ⟨⟨?_, (f2 b hb).2⟩, by rw [h3, Heap.size_push]; exact Nat.lt_succ_of_lt hlt⟩
    rw [upd_ne (by rw [← hD]; exact Nat.ne_of_lt hlt)]
    exact (f2 b hb).1
  have st3 : tn 0 s3.heap := T.keep _ _ _ st2 fun b _ o e => by
    rw [h3]
    exact Heap.get?_push_of_some _ e
  have I4 := block_start I3 ok hN f3
  have pg := hg s3 (upd H2 D (.dT [])) s3.heap.objs.size
    (cellsFrom (s3.heap.objs.size + 1) scope.names (cloFrom X.env.cells scope.names [])) fp
  have pk := hk s3 (upd H2 D (.dT [])) s3.heap.objs.size
    (cellsFrom (s3.heap.objs.size + 1) scope.names (cloFrom X.env.cells scope.names [])) fp
  have pe := he s3 (upd H2 D (.dT [])) s3.heap.objs.size
    (cellsFrom (s3.heap.objs.size + 1) scope.names (cloFrom X.env.cells scope.names [])) fp
  have nfp : ∀ b ∈ fp, (upd H2 D (.dT [])) b = none := fun b hb => (f3 b hb).1.1
  show codeAny _ _ (.compStart (.DictComp kx vx [⟨tg, iter, [], 0⟩] scope pos) 0 (.ref it) (.ref D)
    (compEnvC scope (cellsFrom (s3.heap.objs.size + 1) scope.names (cloFrom X.env.cells scope.names [])) s3.heap.objs.size X.env)) _
    { s3 with heap := pushCells (s3.heap.push { cls := .type "dict", data := .dict #[] }) scope.names }
  generalize hce : compEnvC scope (cellsFrom (s3.heap.objs.size + 1) scope.names (cloFrom X.env.cells scope.names [])) s3.heap.objs.size X.env = ce at I4 pg pk pe ⊢
  have cL : ce.locals = s3.heap.objs.size := by
    subst hce
    rfl
  generalize hH3 : upd H2 D (.dT []) = H3 at I3 I4 pg pk pe w0 nfp f3
  generalize hs4 : ({ s3 with heap := pushCells (s3.heap.push { cls := .type "dict", data := .dict #[] }) scope.names } : Shared) = s4 at I4 ⊢
  have st4 : tn 0 s4.heap := T.keep _ _ _ st3 fun b _ o e => by
    rw [← hs4]
    exact pushCells_keeps _ _ _ _ (Heap.get?_push_of_some _ e)
  have stat : ∀ {σ' : L2.St} {H' : Hp} {s' : Shared}, Inv (X.blk s3 H3 scope ce fp) [] σ' H' s' → (∀ b ∈ fp, H' b = none) →
      ∀ b ∈ fp, FpOk (X.blk s3 H3 scope ce fp) [] H' b := by
    intro σ' H' s' I' hn b hb
    exact ⟨hn b hb, (I'.ok.exf b hb).1, I'.ok.exfs b hb, .inl hb, fun x c e => (I'.ok.exf b hb).2 x c e,
      fun p hp => absurd (show p ∈ ([] : List (Addr × Obj)) ++ [] from hp) (by simp)⟩
  refine codeAny_compStart_dict ?loop (T.self X.A 0 _ _ _ st4 ?loop)
  refine compLoop_anyD (fun n s' => ∃ i H', Inv (X.blk s3 H3 scope ce fp) [] (wipe σ (own.map (·.2))) H' s' ∧ tn i s'.heap ∧
    (∀ b ∈ fp, H' b = none) ∧ W i n H') ?_ m0 ⟨0, H3, I4, st4, nfp, w0⟩
  rintro n s5 ⟨i, H5, I5, st5, n5, w5⟩
  rcases turn i n H5 w5 with ⟨stop, qq⟩ | ⟨go, Nx, hNx, step⟩
  · have td := T.done (X.blk s3 H3 scope ce fp) rfl rfl rfl hc i [] s5 _ H5 (fun _ _ => False) I5 (stat I5 n5) st5 stop
    refine thnF td ?_
    rintro r s6 ⟨hr, I6⟩
    subst hr
    have I7 : Inv X pins σ H5 s6 := I3.call' (ch := fp) I6.os I6.base I6.hok I6.bare fun b hb =>
      ⟨(f3 b hb).1.2.2.2.1, (f3 b hb).1.2.1, (f3 b hb).1.2.2.2.2.1, (f3 b hb).1.2.2.2.2.2⟩
    have nC : H5 s3.heap.objs.size = none := by
      have z : H5 ce.locals = none := I6.free
      rw [cL] at z
      exact z
    obtain ⟨m, hn, _⟩ := I6.loc
    have hn : s6.heap.Ns ce.locals m := hn
    rw [cL] at hn
    obtain ⟨f0, f1, f2, f3, f4, f5⟩ := I3.fpOk (Nat.le_refl _) nC
    refine ⟨m, hn, fun h'' sb => ?_⟩
    exact ⟨.ref D, H5, I7.turned (t' := s6.toks) (fun b o hb e => (sb.2 b hb).trans e) f0 f1 f3 f4 f5, rfl, qq⟩
  · have ti := T.item (X.blk s3 H3 scope ce fp) rfl rfl rfl hc i [] s5 _ H5 (fun _ _ => False) I5 (stat I5 n5) st5 go
    refine thnF ti ?_
    rintro r s6 ⟨u, hr, h6⟩
    subst hr
    refine thnF h6 ?_
    rintro _ s7 ⟨x, H7, I7, r7, y7, st7, n7⟩
    have I7' := I7.pinned (stat I7 n7) (T.obj _ _ st7)
    refine thnF (pg.run _ s7 _ H7 x u _ I7' r7 (step x H7 y7)) ?_
    rintro _ s8 ⟨σ8, H8, I8, hw8, q8⟩
    refine wpAny_pure ?_
    have fin : ∀ {s' : Shared} {H' : Hp}, Inv (X.blk s3 H3 scope ce fp) ([] ++ pinsAt fp s7.heap) σ8 H' s' → Nx H' →
        ∃ m, m < n ∧ ∃ i H', Inv (X.blk s3 H3 scope ce fp) [] (wipe σ (own.map (·.2))) H' s' ∧ tn i s'.heap ∧ (∀ b ∈ fp, H' b = none) ∧ W i m H' := by
      intro s' H' I' nx
      obtain ⟨m', hm, w'⟩ := hNx H' nx
      have pin' : ∀ b ∈ fp, ∀ o, s7.heap.get? b = some o → s'.heap.get? b = some o ∧ H' b = none := by
        intro b hb o e
        have z := I'.pin (b, o) (List.mem_append_right _ (List.mem_append_right _ (mem_pinsAt hb e)))
        exact ⟨z.1, z.2.1⟩
      have hl : (wipe σ (own.map (·.2))).length = σ8.length := by rw [← hw8, wipe_length]
      refine ⟨m', hm, i + 1, H', (I'.unpinned (pins := [])).weak hl (fun j v e => ?_),
        T.keep _ _ _ st7 fun b hb o e => (pin' b hb o e).1, fun b hb => ?_, w'⟩
      · rw [← hw8] at e
        exact (wipe_some e).1
      · obtain ⟨o, e, _⟩ := T.obj _ _ st7 b hb
        exact (pin' b hb o e).2
    show wpAny _ _ (eval kx ce) _ _ _
    refine thnF (pk.run _ s8 σ8 H8 _ I8 q8) ?_
    rintro z s10 ⟨yk, H10, I10, r10, q10⟩
    refine thnF (pe.run _ s10 σ8 H10 _ I10 q10) ?_
    rintro z2 s11 ⟨yv, H11, I11, r11, b, kvs, k, ek, hb, hD11, hz11, nx⟩
    subst ek
    cases r10
    exact setT (X := X.blk s3 H3 scope ce fp) hu I11 hD11 hb hz11 r11 fun s12 I12 => fin I12 nx
end
end AskG
/-! The mathematics of rows: sums, multiples, parts, effects. -/
namespace AskG
open PySem PySem.Spec PyProof.Rows L2

abbrev RowD := List (Cell × Int)
def getO (m : RowD) (c : Cell) : Option Int := (m.find? fun x => decide (x.1 = c)).map (·.2)
def get0 (m : RowD) (c : Cell) : Int := (getO m c).getD 0
def putC (m : RowD) (c : Cell) (w : Int) : RowD :=
  if m.any (fun x => decide (x.1 = c)) then m.map (fun x => if x.1 = c then (x.1, w) else x) else m ++ [(c, w)]
def keys (m : RowD) : List Cell := m.map (·.1)
/-- as the dict holds it -/
def dk (m : RowD) : List (List Key × V) := m.map fun x => (ck x.1, .int x.2)

theorem dk_keys (m : RowD) : (dk m).map (·.1) = (keys m).map ck := by
  unfold dk keys
  rw [List.map_map, List.map_map]
  rfl
theorem dk_length (m : RowD) : (dk m).length = m.length := List.length_map _
theorem getO_cons (x : Cell × Int) (m : RowD) (c : Cell) : getO (x :: m) c = if x.1 = c then some x.2 else getO m c := by
  unfold getO
  rw [List.find?_cons]
  by_cases h : x.1 = c <;> simp [h]
theorem get0_cons (x : Cell × Int) (m : RowD) (c : Cell) : get0 (x :: m) c = if x.1 = c then x.2 else get0 m c := by
  unfold get0
  rw [getO_cons]
  by_cases h : x.1 = c <;> simp [h]
theorem get0_nil (c : Cell) : get0 [] c = 0 := rfl
theorem dk_val : ∀ (m : RowD) (c : Cell), valV (dk m) (ck c) = (getO m c).map V.int
  | [], _ => rfl
  | x :: m, c => by
    rw [getO_cons]
    by_cases h : x.1 = c
    · rw [if_pos h]
      exact valV_pos (p := (ck x.1, V.int x.2)) (congrArg ck h)
    · rw [if_neg h]
      exact (valV_neg (p := (ck x.1, V.int x.2)) (fun e => h (ck_inj e))).trans (dk_val m c)
theorem dk_any (m : RowD) (c : Cell) : ((dk m).any fun kv => decide (kv.1 = ck c)) = m.any fun x => decide (x.1 = c) := by
  unfold dk
  rw [List.any_map]
  congr 1
  funext x
  show decide (ck x.1 = ck c) = decide (x.1 = c)
  by_cases h : x.1 = c
  · rw [h, decide_eq_true rfl, decide_eq_true rfl]
  · rw [decide_eq_false h, decide_eq_false fun e => h (ck_inj e)]
theorem dk_put (m : RowD) (c : Cell) (w : Int) : putK (dk m) (ck c) (.int w) = dk (putC m c w) := by
  unfold putK putC
  rw [dk_any]
  by_cases h : (m.any fun x => decide (x.1 = c)) = true
  · rw [if_pos h, if_pos h]
    unfold dk
    rw [List.map_map, List.map_map]
    refine List.map_congr_left fun x _ => ?_
    show (if ck x.1 = ck c then (ck x.1, V.int w) else (ck x.1, V.int x.2)) = _
    by_cases g : x.1 = c
    · rw [if_pos (congrArg ck g)]
      show _ = (fun x : Cell × Int => (ck x.1, V.int x.2)) (if x.1 = c then (x.1, w) else x)
      rw [if_pos g]
    · rw [if_neg fun e => g (ck_inj e)]
      show _ = (fun x : Cell × Int => (ck x.1, V.int x.2)) (if x.1 = c then (x.1, w) else x)
      rw [if_neg g]
  · rw [if_neg h, if_neg h]
    unfold dk
    rw [List.map_append]
    rfl
theorem mem_any {m : RowD} {c : Cell} : (m.any fun x => decide (x.1 = c)) = true ↔ c ∈ keys m := by
  rw [List.any_eq_true]
  unfold keys
  constructor
  · rintro ⟨x, hx, e⟩
    exact List.mem_map.mpr ⟨x, hx, of_decide_eq_true e⟩
  · intro h
    obtain ⟨x, hx, e⟩ := List.mem_map.mp h
    exact ⟨x, hx, decide_eq_true e⟩
theorem keys_put (m : RowD) (c : Cell) (w : Int) : keys (putC m c w) = if c ∈ keys m then keys m else keys m ++ [c] := by
  unfold putC
  by_cases h : (m.any fun x => decide (x.1 = c)) = true
  · rw [if_pos h, if_pos (mem_any.mp h)]
    unfold keys
    rw [List.map_map]
    refine List.map_congr_left fun x _ => ?_
    show (if x.1 = c then (x.1, w) else x).1 = x.1
    by_cases g : x.1 = c
    · rw [if_pos g]
    · rw [if_neg g]
  · rw [if_neg h, if_neg fun z => h (mem_any.mpr z)]
    unfold keys
    rw [List.map_append]
    rfl
theorem nodup_put {m : RowD} (n : (keys m).Nodup) (c : Cell) (w : Int) : (keys (putC m c w)).Nodup := by
  rw [keys_put]
  by_cases h : c ∈ keys m
  · rw [if_pos h]
    exact n
  · rw [if_neg h]
    refine List.nodup_append.mpr ⟨n, List.nodup_cons.mpr ⟨by simp, List.nodup_nil⟩, fun a ha b hb e => ?_⟩
    rw [List.mem_singleton.mp hb] at e
    exact h (e ▸ ha)
theorem length_put (m : RowD) (c : Cell) (w : Int) : (putC m c w).length ≤ m.length + 1 := by
  unfold putC
  split
  · rw [List.length_map]
    omega
  · rw [List.length_append]
    exact Nat.le_refl _
theorem mem_put {m : RowD} {c : Cell} {w : Int} {x : Cell × Int} (h : x ∈ putC m c w) : x ∈ m ∨ x = (c, w) := by
  unfold putC at h
  split at h
  · obtain ⟨y, hy, e⟩ := List.mem_map.mp h
    by_cases g : y.1 = c
    · rw [if_pos g] at e
      rw [← e, g]
      exact Or.inr rfl
    · rw [if_neg g] at e
      rw [← e]
      exact Or.inl hy
  · rcases List.mem_append.mp h with h | h
    · exact Or.inl h
    · exact Or.inr (List.mem_singleton.mp h)
theorem put_new {m : RowD} {c : Cell} {w : Int} (h : c ∉ keys m) : putC m c w = m ++ [(c, w)] := by
  unfold putC
  rw [if_neg fun z => h (mem_any.mp z)]
theorem getO_none {m : RowD} {c : Cell} (h : c ∉ keys m) : getO m c = none := by
  induction m with
  | nil => rfl
  | cons x m ih =>
    rw [getO_cons, if_neg fun e => h (by rw [← e]; exact List.mem_cons_self)]
    exact ih fun z => h (List.mem_cons_of_mem _ z)
theorem get0_none {m : RowD} {c : Cell} (h : c ∉ keys m) : get0 m c = 0 := by
  unfold get0
  rw [getO_none h]
  rfl
theorem getO_some {m : RowD} {c : Cell} (h : c ∈ keys m) : ∃ w, getO m c = some w ∧ (c, w) ∈ m := by
  induction m with
  | nil => cases h
  | cons x m ih =>
    rw [getO_cons]
    by_cases e : x.1 = c
    · rw [if_pos e]
      exact ⟨x.2, rfl, by rw [← e]; exact List.mem_cons_self⟩
    · rw [if_neg e]
      rcases List.mem_cons.mp h with g | g
      · exact absurd g.symm e
      · obtain ⟨w, h1, h2⟩ := ih g
        exact ⟨w, h1, List.mem_cons_of_mem _ h2⟩
theorem getO_mem {m : RowD} (n : (keys m).Nodup) {x : Cell × Int} (h : x ∈ m) : getO m x.1 = some x.2 := by
  induction m with
  | nil => cases h
  | cons y m ih =>
    rw [getO_cons]
    have n' := List.nodup_cons.mp n
    rcases List.mem_cons.mp h with e | h
    · rw [e, if_pos rfl]
    · rw [if_neg, ih n'.2 h]
      intro e
      refine n'.1 ?_
      show y.1 ∈ keys m
      rw [e]
      exact List.mem_map_of_mem h
theorem get0_mem {m : RowD} (n : (keys m).Nodup) {x : Cell × Int} (h : x ∈ m) : get0 m x.1 = x.2 := by
  unfold get0
  rw [getO_mem n h]
  rfl

/-! ### the dicts that are made -/
def ofRow (r : RowD) : RowD := r.foldl (fun m x => putC m x.1 x.2) []
def addF (m : RowD) (r : RowD) (t : Int) : RowD := r.foldl (fun m x => putC m x.1 (get0 m x.1 + t * x.2)) m
theorem nodup_fold (f : RowD → Cell × Int → Int) : ∀ (r m : RowD), (keys m).Nodup → (keys (r.foldl (fun m x => putC m x.1 (f m x)) m)).Nodup
  | [], _, h => h
  | x :: r, m, h => nodup_fold f r _ (nodup_put h _ _)
theorem length_fold (f : RowD → Cell × Int → Int) : ∀ (r m : RowD), (r.foldl (fun m x => putC m x.1 (f m x)) m).length ≤ m.length + r.length
  | [], m => Nat.le_refl _
  | x :: r, m => by
    have h1 := length_fold f r (putC m x.1 (f m x))
    have h2 := length_put m x.1 (f m x)
    rw [List.length_cons]
    show (r.foldl (fun m x => putC m x.1 (f m x)) (putC m x.1 (f m x))).length ≤ _
    omega
theorem ofRow_nodup (r : RowD) : (keys (ofRow r)).Nodup := nodup_fold (fun _ x => x.2) r [] List.nodup_nil
theorem addF_nodup {m : RowD} (h : (keys m).Nodup) (r : RowD) (t : Int) : (keys (addF m r t)).Nodup := nodup_fold (fun m x => get0 m x.1 + t * x.2) r m h
theorem ofRow_length (r : RowD) : (ofRow r).length ≤ r.length := by
  have := length_fold (fun _ x => x.2) r []
  rw [List.length_nil, Nat.zero_add] at this
  exact this
theorem addF_length (m r : RowD) (t : Int) : (addF m r t).length ≤ m.length + r.length := length_fold (fun m x => get0 m x.1 + t * x.2) r m
theorem fold_app : ∀ (r m : RowD), (keys (m ++ r)).Nodup → r.foldl (fun m x => putC m x.1 x.2) m = m ++ r
  | [], m, _ => (List.append_nil m).symm
  | x :: r, m, h => by
    have e : m ++ x :: r = (m ++ [x]) ++ r := by simp
    have hx : x.1 ∉ keys m := by
      unfold keys at h ⊢
      rw [List.map_append, List.map_cons] at h
      intro hm
      exact (List.nodup_append.mp h).2.2 _ hm _ List.mem_cons_self rfl
    show r.foldl _ (putC m x.1 x.2) = _
    rw [put_new hx, e]
    rw [e] at h
    exact fold_app r _ h
theorem ofRow_self {r : RowD} (h : (keys r).Nodup) : ofRow r = r := fold_app r [] h
theorem addF_app (t : Int) : ∀ (r m : RowD), (keys (m ++ r)).Nodup → addF m r t = m ++ r.map fun x => (x.1, t * x.2)
  | [], m, _ => (List.append_nil m).symm
  | x :: r, m, h => by
    have hx : x.1 ∉ keys m := by
      unfold keys at h ⊢
      rw [List.map_append, List.map_cons] at h
      intro hm
      exact (List.nodup_append.mp h).2.2 _ hm _ List.mem_cons_self rfl
    show addF (putC m x.1 (get0 m x.1 + t * x.2)) r t = _
    rw [put_new hx, get0_none hx, Int.zero_add]
    have e : (m ++ [(x.1, t * x.2)]) ++ r.map (fun x => (x.1, t * x.2)) = m ++ (x :: r).map fun x => (x.1, t * x.2) := by simp
    rw [← e]
    refine addF_app t r _ ?_
    unfold keys at h ⊢
    rw [show (m ++ [(x.1, t * x.2)] ++ r).map (·.1) = (m ++ x :: r).map (·.1) by simp]
    exact h

/-! ### sorted cells -/
def insC (c : Cell) : List Cell → List Cell
  | [] => [c]
  | d :: l => if ltC c d = true then c :: d :: l else d :: insC c l
def sortC (l : List Cell) : List Cell := l.foldr insC []
theorem insC_perm (c : Cell) : ∀ l, (insC c l).Perm (c :: l)
  | [] => List.Perm.refl _
  | d :: l => by
    unfold insC
    split
    · exact List.Perm.refl _
    · exact ((insC_perm c l).cons d).trans (List.Perm.swap c d l)
theorem sortC_perm : ∀ l, (sortC l).Perm l
  | [] => List.Perm.refl _
  | c :: l => (insC_perm c (sortC l)).trans ((sortC_perm l).cons c)
abbrev Rising (l : List Cell) : Prop := l.Pairwise fun a b => ltC a b = true
theorem insC_rising {c : Cell} : ∀ {l : List Cell}, Rising l → c ∉ l → Rising (insC c l)
  | [], _, _ => List.pairwise_singleton _ _
  | d :: l, h, n => by
    have hd := List.pairwise_cons.mp h
    unfold insC
    split
    · rename_i hc
      refine List.pairwise_cons.mpr ⟨fun a ha => ?_, h⟩
      rcases List.mem_cons.mp ha with e | ha
      · rw [e]
        exact hc
      · exact ltC_trans hc (hd.1 a ha)
    · rename_i hc
      have hdc : ltC d c = true := by
        rcases ltC_tri d c with g | g | g
        · exact g
        · exact absurd (g ▸ List.mem_cons_self) n
        · exact absurd g hc
      refine List.pairwise_cons.mpr ⟨fun a ha => ?_, insC_rising hd.2 fun z => n (List.mem_cons_of_mem _ z)⟩
      rcases List.mem_cons.mp ((insC_perm c l).mem_iff.mp ha) with e | ha
      · rw [e]
        exact hdc
      · exact hd.1 a ha
theorem sortC_rising : ∀ {l : List Cell}, l.Nodup → Rising (sortC l)
  | [], _ => List.Pairwise.nil
  | c :: l, n => insC_rising (sortC_rising (List.nodup_cons.mp n).2) fun z => (List.nodup_cons.mp n).1 ((sortC_perm l).mem_iff.mp z)
theorem rising_uniq : ∀ {a b : List Cell}, a.Perm b → Rising a → Rising b → a = b
  | [], b, p, _, _ => by
    cases b with
    | nil => rfl
    | cons y b => exact absurd (p.mem_iff.mpr List.mem_cons_self) (by simp)
  | x :: a, [], p, _, _ => absurd (p.mem_iff.mp List.mem_cons_self) (by simp)
  | x :: a, y :: b, p, ha, hb => by
    have hx := List.pairwise_cons.mp ha
    have hy := List.pairwise_cons.mp hb
    have e : x = y := by
      rcases List.mem_cons.mp (p.mem_iff.mp List.mem_cons_self) with e | h1
      · exact e
      · rcases List.mem_cons.mp (p.mem_iff.mpr List.mem_cons_self) with e | h2
        · exact e.symm
        · have := ltC_trans (hx.1 _ h2) (hy.1 _ h1)
          rw [ltC_irr] at this
          cases this
    subst e
    rw [rising_uniq (List.Perm.cons_inv p) hx.2 hy.2]
theorem rising_nodup {l : List Cell} (h : Rising l) : l.Nodup := h.imp fun h e => by
  rw [e, ltC_irr] at h
  cases h
theorem sortC_self {l : List Cell} (h : Rising l) : sortC l = l := rising_uniq (sortC_perm l) (sortC_rising (rising_nodup h)) h

/-! ### tidy rows -/
def pick (m : RowD) (ys : List Cell) : RowD := (ys.map fun c => (c, get0 m c)).filter fun x => decide (x.2 ≠ 0)
def tidy (m : RowD) : RowD := pick m (sortC (keys m))
structure OkRow (r : RowD) : Prop where
  up : Rising (keys r)
  nz : ∀ x ∈ r, x.2 ≠ 0
theorem keys_pick (m : RowD) (ys : List Cell) : (keys (pick m ys)).Sublist ys := by
  unfold pick keys
  have h := (List.filter_sublist (l := ys.map fun c => (c, get0 m c)) (p := fun x => decide (x.2 ≠ 0))).map (·.1)
  rw [List.map_map] at h
  have e : ys.map ((fun x : Cell × Int => x.1) ∘ fun c => (c, get0 m c)) = ys := by
    rw [show ((fun x : Cell × Int => x.1) ∘ fun c => (c, get0 m c)) = id from rfl]
    exact List.map_id _
  rw [e] at h
  exact h
theorem ok_tidy {m : RowD} (n : (keys m).Nodup) : OkRow (tidy m) :=
  ⟨(sortC_rising n).sublist (keys_pick m _), fun x hx => of_decide_eq_true (List.mem_filter.mp hx).2⟩
theorem tidy_length (m : RowD) : (tidy m).length ≤ m.length := by
  have h := (keys_pick m (sortC (keys m))).length_le
  rw [(sortC_perm (keys m)).length_eq] at h
  unfold keys at h
  rw [List.length_map, List.length_map] at h
  exact h
theorem tidy_mem {m : RowD} (n : (keys m).Nodup) {x : Cell × Int} (h : x ∈ tidy m) : x ∈ m := by
  have h := (List.mem_filter.mp h).1
  obtain ⟨c, hc, e⟩ := List.mem_map.mp h
  obtain ⟨w, h1, h2⟩ := getO_some ((sortC_perm (keys m)).mem_iff.mp hc)
  rw [← e]
  have : get0 m c = w := by
    unfold get0
    rw [h1]
    rfl
  rw [this]
  exact h2
def addR (a b : RowD) (t : Int) : RowD := tidy (addF (ofRow a) b t)
def scaleR (r : RowD) (t : Int) : RowD := if t = 0 then [] else r.map fun x => (x.1, x.2 * t)
theorem tidy_self {r : RowD} (h : Rising (keys r)) : tidy r = r.filter fun x => decide (x.2 ≠ 0) := by
  unfold tidy pick
  rw [sortC_self h]
  have n := rising_nodup h
  have e : (keys r).map (fun c => (c, get0 r c)) = r := by
    unfold keys
    rw [List.map_map]
    have : ∀ x ∈ r, ((fun c => (c, get0 r c)) ∘ fun x : Cell × Int => x.1) x = id x := by
      intro x hx
      show (x.1, get0 r x.1) = x
      rw [get0_mem n hx]
    rw [List.map_congr_left this]
    exact List.map_id _
  rw [e]
theorem addR_nil {r : RowD} (h : OkRow r) (t : Int) : addR [] r t = scaleR r t := by
  unfold addR
  have e0 : ofRow [] = [] := rfl
  rw [e0, addF_app t r [] (rising_nodup h.up), List.nil_append]
  have hk : keys (r.map fun x => (x.1, t * x.2)) = keys r := by
    unfold keys
    rw [List.map_map]
    rfl
  rw [tidy_self (by rw [hk]; exact h.up)]
  unfold scaleR
  by_cases ht : t = 0
  · rw [if_pos ht]
    refine List.filter_eq_nil_iff.mpr fun x hx => ?_
    obtain ⟨y, _, e⟩ := List.mem_map.mp hx
    rw [← e, ht]
    simp
  · rw [if_neg ht, List.filter_eq_self.mpr fun x hx => ?_]
    · refine List.map_congr_left fun x _ => ?_
      rw [Int.mul_comm]
    · obtain ⟨y, hy, e⟩ := List.mem_map.mp hx
      rw [← e]
      exact decide_eq_true (Int.mul_ne_zero ht (h.nz y hy))

/-! ### effects -/
def effR (a b : RowD) : Int := (a.map fun x => x.2 * get0 (ofRow b) x.1).sum
theorem sum_at (c : Cell) (v : Int) : ∀ {b : RowD}, (keys b).Nodup → (b.map fun y => y.2 * (if c = y.1 then v else 0)).sum = v * get0 b c
  | [], _ => by simp [get0_nil]
  | y :: b, n => by
    have n' := List.nodup_cons.mp n
    rw [List.map_cons, List.sum_cons, sum_at c v n'.2, get0_cons]
    by_cases e : c = y.1
    · rw [if_pos e, if_pos e.symm, get0_none (by rw [e]; exact n'.1)]
      rw [Int.mul_comm]
      omega
    · rw [if_neg e, if_neg fun z => e z.symm]
      omega
theorem sum_split (f g h : Cell × Int → Int) : ∀ b : RowD, (∀ y ∈ b, f y = g y + h y) → (b.map f).sum = (b.map g).sum + (b.map h).sum
  | [], _ => rfl
  | y :: b, e => by
    rw [List.map_cons, List.map_cons, List.map_cons, List.sum_cons, List.sum_cons, List.sum_cons,
      sum_split f g h b fun z hz => e z (List.mem_cons_of_mem _ hz), e y List.mem_cons_self]
    omega
theorem sum_sym : ∀ {a b : RowD}, (keys a).Nodup → (keys b).Nodup →
    (a.map fun x => x.2 * get0 b x.1).sum = (b.map fun y => y.2 * get0 a y.1).sum
  | [], b, _, _ => by
    have : ∀ b : RowD, (b.map fun y : Cell × Int => y.2 * get0 [] y.1).sum = 0 := by
      intro b
      induction b with
      | nil => rfl
      | cons y b ih =>
        rw [List.map_cons, List.sum_cons, ih, get0_nil]
        omega
    rw [this]
    rfl
  | x :: a, b, na, nb => by
    have n' := List.nodup_cons.mp na
    rw [List.map_cons, List.sum_cons, sum_sym n'.2 nb]
    rw [sum_split (fun y => y.2 * get0 (x :: a) y.1) (fun y => y.2 * (if x.1 = y.1 then x.2 else 0)) (fun y => y.2 * get0 a y.1) b]
    · rw [sum_at x.1 x.2 nb]
    · intro y _
      show y.2 * get0 (x :: a) y.1 = y.2 * (if x.1 = y.1 then x.2 else 0) + y.2 * get0 a y.1
      rw [get0_cons]
      by_cases e : x.1 = y.1
      · rw [if_pos e, if_pos e, get0_none (by rw [← e]; exact n'.1)]
        omega
      · rw [if_neg e, if_neg e]
        omega
theorem effR_sym {a b : RowD} (ha : OkRow a) (hb : OkRow b) : effR a b = effR b a := by
  unfold effR
  rw [ofRow_self (rising_nodup ha.up), ofRow_self (rising_nodup hb.up)]
  exact sum_sym (rising_nodup ha.up) (rising_nodup hb.up)

/-! ### what a sum holds -/
theorem getO_map {m : RowD} {c d : Cell} {w : Int} : getO (m.map fun x => if x.1 = c then (x.1, w) else x) d = if d = c then (getO m d).map (fun _ => w) else getO m d := by
  induction m with
  | nil => by_cases h : d = c <;> simp [getO, h]
  | cons x m ih =>
    rw [List.map_cons, getO_cons, getO_cons, ih]
    by_cases h1 : x.1 = c
    · rw [if_pos h1]
      by_cases h2 : d = c
      · simp [h1, h2]
      · have h3 : ¬ c = d := fun e => h2 e.symm
        simp [h1, h2, h3]
    · rw [if_neg h1]
      by_cases h2 : d = c
      · have h3 : ¬ x.1 = d := fun e => h1 (e.trans h2)
        simp [h1, h2]
      · simp [h2]
theorem getO_app {m : RowD} {x : Cell × Int} {d : Cell} : getO (m ++ [x]) d = (getO m d).or (if x.1 = d then some x.2 else none) := by
  induction m with
  | nil =>
    rw [List.nil_append, getO_cons]
    rfl
  | cons y m ih =>
    rw [List.cons_append, getO_cons, getO_cons, ih]
    by_cases h : y.1 = d <;> simp [h]
theorem get0_put (m : RowD) (c d : Cell) (w : Int) : get0 (putC m c w) d = if d = c then w else get0 m d := by
  unfold putC get0
  by_cases h : (m.any fun x => decide (x.1 = c)) = true
  · rw [if_pos h, getO_map]
    by_cases e : d = c
    · rw [if_pos e, if_pos e]
      obtain ⟨v, hv, _⟩ := getO_some (mem_any.mp h)
      rw [e, hv]
      rfl
    · rw [if_neg e, if_neg e]
  · rw [if_neg h, getO_app]
    by_cases e : d = c
    · rw [if_pos e, if_pos e.symm, e, getO_none fun z => h (mem_any.mpr z)]
      rfl
    · rw [if_neg e, if_neg fun z => e z.symm]
      cases getO m d <;> rfl
theorem addF_get (t : Int) (d : Cell) : ∀ (r m : RowD), (keys r).Nodup → get0 (addF m r t) d = get0 m d + t * get0 r d
  | [], m, _ => by
    rw [get0_nil, Int.mul_zero, Int.add_zero]
    rfl
  | x :: r, m, n => by
    have n' := List.nodup_cons.mp n
    show get0 (addF (putC m x.1 (get0 m x.1 + t * x.2)) r t) d = _
    rw [addF_get t d r _ n'.2, get0_put, get0_cons]
    by_cases e : d = x.1
    · rw [if_pos e, if_pos e.symm, e, get0_none n'.1, Int.mul_zero, Int.add_zero]
    · rw [if_neg e, if_neg fun z => e z.symm]
theorem addF_keys (t : Int) (d : Cell) : ∀ (r m : RowD), d ∈ keys (addF m r t) → d ∈ keys m ∨ d ∈ keys r
  | [], m, h => Or.inl h
  | x :: r, m, h => by
    rcases addF_keys t d r _ h with h | h
    · rw [keys_put] at h
      by_cases e : x.1 ∈ keys m
      · rw [if_pos e] at h
        exact Or.inl h
      · rw [if_neg e] at h
        rcases List.mem_append.mp h with h | h
        · exact Or.inl h
        · rw [List.mem_singleton.mp h]
          exact Or.inr List.mem_cons_self
    · exact Or.inr (List.mem_cons_of_mem _ h)
theorem sub_length : ∀ {l m : List Cell}, l.Nodup → (∀ x ∈ l, x ∈ m) → l.length ≤ m.length
  | [], _, _, _ => Nat.zero_le _
  | x :: l, m, n, h => by
    have n' := List.nodup_cons.mp n
    have hx := h x List.mem_cons_self
    have := sub_length (l := l) (m := m.erase x) n'.2 fun y hy => (List.mem_erase_of_ne (a := y) (b := x) fun e => n'.1 (by rw [← e]; exact hy)).mpr (h y (List.mem_cons_of_mem _ hy))
    rw [List.length_erase_of_mem hx] at this
    have : 0 < m.length := List.length_pos_of_mem hx
    rw [List.length_cons]
    omega
/-- rows on some cells, with bounded weights -/
structure DrawnR (cs : List Cell) (B : Int) (r : RowD) : Prop where
  ok : OkRow r
  on : ∀ c ∈ keys r, c ∈ cs
  lit : ∀ c, -B ≤ get0 r c ∧ get0 r c ≤ B
theorem DrawnR.mono {cs : List Cell} {B C : Int} {r : RowD} (h : DrawnR cs B r) (e : B ≤ C) : DrawnR cs C r := ⟨h.ok, h.on, fun c => by have := h.lit c; omega⟩
theorem DrawnR.many {cs : List Cell} {B : Int} {r : RowD} (h : DrawnR cs B r) : r.length ≤ cs.length := by
  have := sub_length (rising_nodup h.ok.up) h.on
  unfold keys at this
  rw [List.length_map] at this
  exact this
theorem DrawnR.at' {cs : List Cell} {B : Int} {r : RowD} (h : DrawnR cs B r) {x : Cell × Int} (hx : x ∈ r) : -B ≤ x.2 ∧ x.2 ≤ B := by
  have := h.lit x.1
  rw [get0_mem (rising_nodup h.ok.up) hx] at this
  exact this
theorem get0_tidy {m : RowD} (n : (keys m).Nodup) (c : Cell) : get0 (tidy m) c = get0 m c := by
  by_cases h : c ∈ keys (tidy m)
  · obtain ⟨w, h1, h2⟩ := getO_some h
    have e1 : get0 (tidy m) c = w := by
      unfold get0
      rw [h1]
      rfl
    have e2 := get0_mem n (tidy_mem n h2)
    rw [e1]
    exact e2.symm
  · rw [get0_none h]
    by_cases hm : c ∈ keys m
    · by_cases h0 : get0 m c = 0
      · exact h0.symm
      · exfalso
        refine h ?_
        have : (c, get0 m c) ∈ tidy m := List.mem_filter.mpr ⟨List.mem_map.mpr ⟨c, (sortC_perm (keys m)).mem_iff.mpr hm, rfl⟩, decide_eq_true h0⟩
        exact List.mem_map_of_mem (f := fun x : Cell × Int => x.1) this
    · exact (get0_none hm).symm
theorem get0_ofRow {a : RowD} (h : OkRow a) (c : Cell) : get0 (ofRow a) c = get0 a c := by rw [ofRow_self (rising_nodup h.up)]
theorem get0_addR {a b : RowD} (ha : OkRow a) (hb : OkRow b) (t : Int) (c : Cell) : get0 (addR a b t) c = get0 a c + t * get0 b c := by
  unfold addR
  rw [get0_tidy (addF_nodup (ofRow_nodup a) b t), addF_get t c b _ (rising_nodup hb.up), get0_ofRow ha]
theorem DrawnR.sum {cs : List Cell} {B C : Int} {a b : RowD} (ha : DrawnR cs B a) (hb : DrawnR cs C b) : DrawnR cs (B + C) (addR a b 1) := by
  have n := addF_nodup (ofRow_nodup a) b 1
  refine ⟨ok_tidy n, fun c hc => ?_, fun c => ?_⟩
  · have h1 : c ∈ keys (addF (ofRow a) b 1) := by
      obtain ⟨x, hx, e⟩ := List.mem_map.mp hc
      rw [← e]
      exact List.mem_map_of_mem (tidy_mem n hx)
    rcases addF_keys 1 c b _ h1 with h | h
    · rw [ofRow_self (rising_nodup ha.ok.up)] at h
      exact ha.on c h
    · exact hb.on c h
  · rw [get0_addR ha.ok hb.ok, Int.one_mul]
    have h1 := ha.lit c
    have h2 := hb.lit c
    omega
theorem ok_nil : OkRow [] := ⟨List.Pairwise.nil, fun x hx => absurd hx (by simp)⟩
theorem drawn_nil {cs : List Cell} {B : Int} (h : 0 ≤ B) : DrawnR cs B [] := ⟨ok_nil, fun c hc => absurd hc (by simp [keys]), fun c => by rw [get0_nil]; omega⟩
theorem drawn_tidy {m : RowD} {cs : List Cell} {B : Int} (hm : keys m = cs) (n : cs.Nodup) (h0 : 0 ≤ B) (hB : ∀ x ∈ m, -B ≤ x.2 ∧ x.2 ≤ B) : DrawnR cs B (tidy m) := by
  have nm : (keys m).Nodup := by
    rw [hm]
    exact n
  refine ⟨ok_tidy nm, fun c hc => ?_, fun c => ?_⟩
  · rw [← hm]
    obtain ⟨x, hx, e⟩ := List.mem_map.mp hc
    rw [← e]
    exact List.mem_map_of_mem (tidy_mem nm hx)
  · rw [get0_tidy nm]
    by_cases h : c ∈ keys m
    · obtain ⟨w, h1, h2⟩ := getO_some h
      have : get0 m c = w := by
        unfold get0
        rw [h1]
        rfl
      rw [this]
      exact hB _ h2
    · rw [get0_none h]
      omega
end AskG
/-! Rows in the heap. -/
namespace AskG
open PySem PySem.Spec PyProof.Rows L2

def PairRow (H : Hp) (p : Addr) (x : Cell × Int) : Prop := ∃ b, H p = some (.tup [.ref b, .int x.2]) ∧ CellAt H b x.1
def RowAt (H : Hp) (r : Addr) (ρ : RowD) : Prop := ∃ ps : List Addr, H r = some (.tup (ps.map V.ref)) ∧ Paired (PairRow H) ps ρ
/-- the tuples stay -/
def KeepT (H H' : Hp) : Prop := ∀ b xs, H b = some (.tup xs) → H' b = some (.tup xs)
theorem KeepT.of {H H' : Hp} (h : Same H H') : KeepT H H' := fun b xs e => h b _ e
theorem KeepT.trans {H H1 H2 : Hp} (h : KeepT H H1) (g : KeepT H1 H2) : KeepT H H2 := fun b xs e => g b xs (h b xs e)
theorem KeepT.refl (H : Hp) : KeepT H H := fun _ _ e => e
theorem KeepT.new {H : Hp} {p : Addr} {o : HO} (h : H p = none) : KeepT H (upd H p o) := fun b xs e => by
  rw [upd_ne (ne_of_none e h)]
  exact e
theorem KeepT.put {H : Hp} {p : Addr} {o u : HO} (h : H p = some u) (n : ∀ xs, u ≠ .tup xs) : KeepT H (upd H p o) := fun b xs e => by
  rw [upd_ne (ne_of e h fun z => n xs z.symm)]
  exact e
theorem CellAt.keep {H H' : Hp} {b : Addr} {c : Cell} (h : CellAt H b c) (k : KeepT H H') : CellAt H' b c := k _ _ h
theorem PairRow.keep {H H' : Hp} {p : Addr} {x : Cell × Int} (h : PairRow H p x) (k : KeepT H H') : PairRow H' p x := by
  obtain ⟨b, h1, h2⟩ := h
  exact ⟨b, k _ _ h1, h2.keep k⟩
theorem RowAt.keep {H H' : Hp} {r : Addr} {ρ : RowD} (h : RowAt H r ρ) (k : KeepT H H') : RowAt H' r ρ := by
  obtain ⟨ps, h1, h2⟩ := h
  exact ⟨ps, k _ _ h1, Paired.mapP h2 fun _ _ z => z.keep k⟩
theorem same_new {H : Hp} {p : Addr} {o : HO} (h : H p = none) : Same H (upd H p o) := fun b x e => by
  rw [upd_ne (ne_of_none e h)]
  exact e
theorem paired_at {α β : Type} {R : α → β → Prop} : ∀ {l : List α} {m : List β}, Paired R l m → ∀ {i : Nat} {y : β}, m[i]? = some y → ∃ x, l[i]? = some x ∧ R x y
  | _, _, .nil, i, y, e => by simp at e
  | _, _, .cons (a := a) h t, 0, y, e => ⟨a, rfl, by rw [← Option.some.inj e]; exact h⟩
  | _, _, .cons h t, i + 1, y, e => by
    obtain ⟨x, h1, h2⟩ := paired_at t (i := i) (by simpa using e)
    exact ⟨x, by simpa using h1, h2⟩
theorem paired_at' {α β : Type} {R : α → β → Prop} : ∀ {l : List α} {m : List β}, Paired R l m → ∀ {i : Nat} {x : α}, l[i]? = some x → ∃ y, m[i]? = some y ∧ R x y
  | _, _, .nil, i, y, e => by simp at e
  | _, _, .cons (b := b) h t, 0, y, e => ⟨b, rfl, by rw [← Option.some.inj e]; exact h⟩
  | _, _, .cons h t, i + 1, y, e => by
    obtain ⟨x, h1, h2⟩ := paired_at' t (i := i) (by simpa using e)
    exact ⟨x, by simpa using h1, h2⟩
theorem sqT {K : PySem.W.Frag} {H : Hp} {a : Addr} {xs : List V} (h : H a = some (.tup xs)) : SqT K H a xs := .inl (.inl h)
theorem sqL {K : PySem.W.Frag} {H : Hp} {a : Addr} {xs : List V} (h : H a = some (.lst xs)) : SqL K H a xs := .inl (.inl h)

/-! ### comprehensions of dicts over a tuple -/
theorem dcT_tup {K : PySem.W.Frag} {a : Addr} {xs : List V} {g : TG} {tk tv : TE} {vs : List Nat} {σ : L2.St} {H1 : Hp} {D : Addr} {Qd : Hp → Prop}
    (Pv : Nat → Hp → Prop) (h0 : Pv 0 (upd H1 D (.dT []))) (hl : ∀ i H, i ≤ xs.length → Pv i H → SqT K H a xs)
    (hs : ∀ i x H, xs[i]? = some x → Pv i H → g x (wipe σ vs) H fun σ2 H2 => wipe σ2 vs = wipe σ vs ∧ tk σ2 H2 fun y H4 => tv σ2 H4 fun z H5 =>
      ∃ b kvs k, y = .ref b ∧ H5 b = some (.tup (k.map kV)) ∧ H5 D = some (.dT kvs) ∧ kvs.length < sizeLine ∧ Pv (i + 1) (upd H5 D (.dT (putK kvs k z))))
    (hd : ∀ H, Pv xs.length H → Qd H) :
    ∃ W : Nat → Nat → Hp → Prop, (∃ m, W 0 m (upd H1 D (.dT []))) ∧ ∀ i m H, W i m H →
      ((Itt K a).stop i H ∧ Qd H) ∨ ((Itt K a).go i H ∧ ∃ Nx : Hp → Prop, (∀ H', Nx H' → ∃ m', m' < m ∧ W (i + 1) m' H') ∧
        ∀ x H', (Itt K a).yld i H x H' → g x (wipe σ vs) H' fun σ2 H2 => wipe σ2 vs = wipe σ vs ∧ tk σ2 H2 fun y H4 => tv σ2 H4 fun z H5 =>
          ∃ b kvs k, y = .ref b ∧ H5 b = some (.tup (k.map kV)) ∧ H5 D = some (.dT kvs) ∧ kvs.length < sizeLine ∧ Nx (upd H5 D (.dT (putK kvs k z)))) := by
  refine ⟨fun i m H => m = xs.length - i ∧ i ≤ xs.length ∧ Pv i H, ⟨xs.length, by simp, Nat.zero_le _, h0⟩, ?_⟩
  rintro i m H ⟨rfl, hi, p⟩
  have q := hl i H hi p
  by_cases hlt : i < xs.length
  · refine .inr ⟨⟨xs, xs[i], q, by simp [hlt]⟩, Pv (i + 1), fun H' p' => ⟨xs.length - (i + 1), by omega, rfl, hlt, p'⟩, ?_⟩
    rintro x H' ⟨e, y⟩
    subst e
    exact hs i x _ (y xs q) p
  · obtain rfl : i = xs.length := by omega
    exact .inl ⟨⟨xs, q, Nat.le_refl _⟩, hd H p⟩

theorem set2 {σ : L2.St} {a b : Nat} {v w : V} (ha : a < σ.length) (hb : b < σ.length) (hab : a ≠ b) :
    ((σ.set a (some v)).set b (some w))[a]? = some (some v) ∧ ((σ.set a (some v)).set b (some w))[b]? = some (some w) := by
  constructor
  · rw [List.getElem?_set_ne (fun e => hab e.symm), List.getElem?_set_self ha]
  · rw [List.getElem?_set_self (by rw [List.length_set]; exact hb)]
theorem set_over {σ : L2.St} (i : Nat) (x : Option V) : (σ.set i x).set i none = σ.set i none := List.set_set ..
theorem wipe2 {σ : L2.St} {a b : Nat} {v w : V} (hab : a ≠ b) : wipe (((wipe σ [a, b]).set a (some v)).set b (some w)) [a, b] = wipe σ [a, b] := by
  show ((((((σ.set b none).set a none)).set a (some v)).set b (some w)).set b none).set a none = (σ.set b none).set a none
  rw [List.set_set, List.set_set, List.set_comm _ _ hab, List.set_set, List.set_set]
theorem sizeBig : 100000 < sizeLine := by decide

/-- {cell: weight for cell, weight in row} -/
theorem dc_row {K : PySem.W.Frag} {i a b : Nat} {σ : L2.St} {H : Hp} {Q : VK} {r : Addr} {ρ : RowD} (hi : σ[i]? = some (some (.ref r))) (R : RowAt H r ρ)
    (ha : a < σ.length) (hb : b < σ.length) (hab : a ≠ b) (hz : ρ.length ≤ 1000)
    (q : ∀ D, H D = none → Q (.ref D) (upd H D (.dT (dk (ofRow ρ))))) :
    tDcT (iTup K (tVar i)) (gTup K 2 (gCons (gName a) (gCons (gName b) gNil))) (tVar a) (tVar b) [a, b] σ H Q := by
  obtain ⟨ps, hr, hp⟩ := R
  refine ⟨.ref r, hi, r, rfl, ⟨_, sqT hr⟩, fun D hD => ?_⟩
  refine dcT_tup (xs := ps.map V.ref) (fun i H' => H' = upd H D (.dT (dk (ofRow (ρ.take i))))) rfl (fun i H' _ e => ?_) (fun i x H' hx e => ?_) (fun H' e => ?_)
  · rw [e]
    refine sqT ?_
    rw [upd_ne (ne_of_none hr hD)]
    exact hr
  · subst e
    rw [List.getElem?_map] at hx
    cases hpi : ps[i]? with
    | none =>
      rw [hpi] at hx
      cases hx
    | some p =>
      rw [hpi] at hx
      have ex : V.ref p = x := Option.some.inj hx
      subst ex
      obtain ⟨y, hy, bb, h1, h2⟩ := paired_at' hp hpi
      have kp : KeepT H (upd H D (.dT (dk (ofRow (ρ.take i))))) := KeepT.new hD
      refine ⟨p, [.ref bb, .int y.2], rfl, sqT (kp _ _ h1), rfl, .ref bb, [.int y.2], rfl, .int y.2, [], rfl, rfl, ?_⟩
      refine ⟨wipe2 hab, .ref bb, (set2 (by rw [wipe_length]; exact ha) (by rw [wipe_length]; exact hb) hab).1, .int y.2, (set2 (by rw [wipe_length]; exact ha) (by rw [wipe_length]; exact hb) hab).2, bb, dk (ofRow (ρ.take i)), ck y.1, rfl, kp _ _ h2, upd_same, ?_, ?_⟩
      · rw [dk_length]
        have h1 := ofRow_length (ρ.take i)
        have h2 := List.length_take_le i ρ
        have := sizeBig
        have h3 : (ρ.take i).length ≤ ρ.length := by
          rw [List.length_take]
          omega
        omega
      · rw [upd_upd, dk_put, List.take_add_one, hy]
        show _ = upd H D (.dT (dk ((ρ.take i ++ [y]).foldl _ [])))
        rw [List.foldl_append]
        rfl
  · have : (ps.map V.ref).length = ρ.length := by rw [List.length_map, Paired.length hp]
    rw [e, this, List.take_length]
    exact q D hD

theorem ck_kV (c : Cell) : (ck c).map kV = [V.str c.1, V.int c.2] := rfl
theorem wipe1 {σ : L2.St} {a : Nat} {v : V} : wipe ((wipe σ [a]).set a (some v)) [a] = wipe σ [a] := by
  show (((σ.set a none).set a (some v)).set a none) = σ.set a none
  rw [List.set_set, List.set_set]
theorem wipe_at {σ : L2.St} {a i : Nat} (h : i ≠ a) : (wipe σ [a])[i]? = σ[i]? := by
  show (σ.set a none)[i]? = σ[i]?
  exact List.getElem?_set_ne (fun e => h e.symm)
theorem dget_of {H : Hp} {D b : Addr} {m : RowD} {c : Cell} (hD : H D = some (.dT (dk m))) (hb : CellAt H b c) : DGet H D (.ref b) ((getO m c).map V.int) := by
  have := DGet.t (k := ck c) hD (by rw [ck_kV]; exact hb)
  rw [dk_val] at this
  exact this
/-- [(cell, weights[cell]) for cell in sorted(weights) if weights[cell] != 0] -/
theorem lc_tidy {K : PySem.W.Frag} {iw ic : Nat} {σ : L2.St} {H : Hp} {Q : VK} {D : Addr} {m : RowD} (hw : σ[iw]? = some (some (.ref D))) (hne : iw ≠ ic) (hic : ic < σ.length)
    (hD : H D = some (.dT (dk m))) (n : (keys m).Nodup) (hz : m.length ≤ 1000)
    (q : ∀ H' L ps, Same H H' → H L = none → H' L = some (.lst (ps.map V.ref)) → Paired (PairRow H') ps (tidy m) → Q (.ref L) H') :
    tLc (iList K (tCB rSortT (tCons (tVar iw) tNil))) (gName ic) (tTest (tOp rNe (tDGet (tVar iw) (tVar ic)) (tC (V.int 0))))
      (tTup (tCons (tVar ic) (tCons (tDGet (tVar iw) (tVar ic)) tNil))) [ic] σ H Q := by
  refine ⟨.ref D, hw, D, dk m, keys m, rfl, .inl hD, dk_keys m, fun ys bs p hp hup hbs hpn => ?_⟩
  have ey : ys = sortC (keys m) := rising_uniq (hp.trans (sortC_perm (keys m)).symm) hup (sortC_rising n)
  have s1 : Same H (upd H p (.lst (bs.map V.ref))) := same_new hpn
  refine ⟨p, rfl, ⟨_, sqL upd_same⟩, fun L hL => ?_⟩
  have hLH : H L = none := s1.free hL
  refine lc_list (xs := bs.map V.ref) (fun i H' => Same (upd H p (.lst (bs.map V.ref))) H' ∧ ∃ ps, H' L = some (.lst (ps.map V.ref)) ∧ Paired (PairRow H') ps (pick m (ys.take i)) ∧ ps.length ≤ i)
    ⟨same_new hL, [], upd_same, .nil, Nat.le_refl _⟩ (fun i H' _ h => sqL (h.1 _ _ upd_same)) (fun i x H' hx h => ?_) (fun H' h => ?_)
  · obtain ⟨sm, ps, hps, hpp, hpl⟩ := h
    have smH : Same H H' := s1.trans sm
    rw [List.getElem?_map] at hx
    cases hbi : bs[i]? with
    | none =>
      rw [hbi] at hx
      cases hx
    | some b =>
      rw [hbi] at hx
      have ex : V.ref b = x := Option.some.inj hx
      subst ex
      obtain ⟨c, hc, hcb⟩ := paired_at' hbs hbi
      have hcm : c ∈ keys m := hp.mem_iff.mp (List.mem_of_getElem? hc)
      obtain ⟨w, hw1, hw2⟩ := getO_some hcm
      have hcb' : CellAt H' b c := hcb.keep (KeepT.of smH)
      have dg : DGet H' D (.ref b) (some (.int w)) := by
        have := dget_of (smH _ _ hD) hcb'
        rw [hw1] at this
        exact this
      have g0 : get0 m c = w := by
        unfold get0
        rw [hw1]
        rfl
      have bl : i < bs.length := (List.getElem?_eq_some_iff.mp hbi).1
      have ysl : bs.length = ys.length := Paired.length hbs
      have yml : ys.length = m.length := by
        rw [hp.length_eq]
        exact List.length_map _
      have big := sizeBig
      have aw : ((wipe σ [ic]).set ic (some (.ref b)))[iw]? = some (some (.ref D)) := by
        rw [List.getElem?_set_ne (fun e => hne e.symm), wipe_at hne]
        exact hw
      have ac : ((wipe σ [ic]).set ic (some (.ref b)))[ic]? = some (some (.ref b)) := List.getElem?_set_self (by rw [wipe_length]; exact hic)
      have pk : pick m (ys.take (i + 1)) = pick m (ys.take i) ++ (if w ≠ 0 then [(c, w)] else []) := by
        rw [List.take_add_one, hc]
        unfold pick
        rw [List.map_append, List.filter_append]
        congr 1
        show List.filter _ [(c, get0 m c)] = _
        rw [g0]
        by_cases h0 : w = 0
        · simp [h0]
        · simp [h0]
      refine ⟨wipe1, .ref D, aw, .ref b, ac, D, .int w, rfl, dg, rfl, _, rfl, ?_⟩
      by_cases h0 : w = 0
      · rw [h0]
        refine iteF ?_
        refine ⟨sm, ps, hps, ?_, by omega⟩
        rw [pk, if_neg (by simp [h0]), List.append_nil]
        exact hpp
      · have e0 : (!decide (V.int w = V.int 0)) = true := by
          rw [decide_eq_false fun z => h0 (V.int.inj z)]
          rfl
        rw [e0]
        refine iteT ?_
        refine ⟨.ref b, ac, .ref D, aw, .ref b, ac, D, .int w, rfl, dg, by show 2 ≤ sizeLine; decide, fun t ht => ?_⟩
        have nLt : L ≠ t := ne_of_none hps ht
        refine ⟨ps.map V.ref, by rw [upd_ne nLt]; exact hps, by rw [List.length_map]; omega, ?_, ps ++ [t], ?_, ?_, ?_⟩
        · intro b' o' e'
          have nb : b' ≠ L := ne_of_none e' hL
          rw [upd_ne nb, upd_ne (ne_of_none (sm _ _ e') ht)]
          exact sm _ _ e'
        · rw [upd_same, List.map_append]
          rfl
        · have kp : KeepT H' (upd (upd H' t (.tup [.ref b, .int w])) L (.lst (ps.map V.ref ++ [.ref t]))) :=
            (KeepT.new ht).trans (KeepT.put (u := .lst (ps.map V.ref)) (by rw [upd_ne nLt]; exact hps) (fun _ z => nomatch z))
          rw [pk, if_pos h0]
          refine Paired.snoc (Paired.mapP hpp fun _ _ z => z.keep kp) ⟨b, ?_, hcb'.keep kp⟩
          rw [upd_ne nLt.symm, upd_same]
        · rw [List.length_append]
          show ps.length + 1 ≤ i + 1
          omega
  · obtain ⟨sm, ps, hps, hpp, _⟩ := h
    have e : ys.take (bs.map V.ref).length = ys := List.take_of_length_le (by rw [List.length_map, Paired.length hbs]; exact Nat.le_refl _)
    rw [e, ey] at hpp
    exact q H' L ps (s1.trans sm) hLH hps hpp

/-- the row of a made list of pairs -/
theorem row_of_list {H : Hp} {L p : Addr} {ps : List Addr} {ρ : RowD} (hp : H p = none) (h : Paired (PairRow H) ps ρ) : RowAt (upd H p (.tup (ps.map V.ref))) p ρ :=
  ⟨ps, upd_same, Paired.mapP h fun _ _ z => z.keep (KeepT.new hp)⟩

/-- for cell, weight in row: weights[cell] = weights.get(cell, 0) + t * weight -/
theorem for_add {K : PySem.W.Frag} {io iw a b : Nat} {σ : L2.St} {H : Hp} {Dn : Ends} {Dd r : Addr} {π m : RowD} {t : Int} {tv : TE}
    (hio : σ[io]? = some (some (.ref r))) (hiw : σ[iw]? = some (some (.ref Dd))) (wa : iw ≠ a) (wb : iw ≠ b) (ha : a < σ.length) (hb : b < σ.length) (hab : a ≠ b)
    (R : RowAt H r π) (hD : H Dd = some (.dT (dk m))) (hz : m.length + π.length ≤ 1000)
    (htv : ∀ (σ' : L2.St) (H' : Hp) (c : Cell) (w : Int) (m' : RowD) (bb : Addr) (Q : VK), (c, w) ∈ π → (∀ j, j ≠ a → j ≠ b → σ'[j]? = σ[j]?) → σ'[a]? = some (some (.ref bb)) → σ'[b]? = some (some (.int w)) →
      H' Dd = some (.dT (dk m')) → CellAt H' bb c → Q (.int (get0 m' c + t * w)) H' → tv σ' H' Q)
    (q : ∀ σ', (∀ j, j ≠ a → j ≠ b → σ'[j]? = σ[j]?) → σ'.length = σ.length → Dn.nx σ' (upd H Dd (.dT (dk (addF m π t))))) :
    tFor (iTup K (tVar io)) (gTup K 2 (gCons (gName a) (gCons (gName b) gNil))) (sDPut (tVar iw) (tVar a) tv) Dn σ H := by
  obtain ⟨ps, hr, hp⟩ := R
  refine ⟨.ref r, hio, r, rfl, ⟨_, sqT hr⟩, ?_⟩
  refine for_tup (xs := ps.map V.ref) (fun i σ' H' => (∀ j, j ≠ a → j ≠ b → σ'[j]? = σ[j]?) ∧ σ'.length = σ.length ∧ H' = upd H Dd (.dT (dk (addF m (π.take i) t))))
    ⟨fun _ _ _ => rfl, rfl, ?_⟩ (fun i σ' H' _ h => ?_) (fun i x σ' H' hx h => ?_) (fun σ' H' h => ?_)
  · funext c
    show H c = upd H Dd (.dT (dk m)) c
    by_cases e : c = Dd
    · rw [e, upd_same, hD]
    · rw [upd_ne e]
  · rw [h.2.2]
    refine sqT ?_
    rw [upd_ne (ne_of hr hD fun z => nomatch z)]
    exact hr
  · obtain ⟨hj, hl, rfl⟩ := h
    rw [List.getElem?_map] at hx
    cases hpi : ps[i]? with
    | none =>
      rw [hpi] at hx
      cases hx
    | some p =>
      rw [hpi] at hx
      have ex : V.ref p = x := Option.some.inj hx
      subst ex
      obtain ⟨y, hy, bb, h1, h2⟩ := paired_at' hp hpi
      have kp : KeepT H (upd H Dd (.dT (dk (addF m (π.take i) t)))) := KeepT.put hD fun _ z => nomatch z
      have s2 := set2 (v := .ref bb) (w := .int y.2) (by rw [hl]; exact ha) (by rw [hl]; exact hb) hab
      have hj' : ∀ j, j ≠ a → j ≠ b → ((σ'.set a (some (.ref bb))).set b (some (.int y.2)))[j]? = σ[j]? := fun j h1 h2 => by
        rw [List.getElem?_set_ne (fun e => h2 e.symm), List.getElem?_set_ne (fun e => h1 e.symm)]
        exact hj j h1 h2
      refine ⟨p, [.ref bb, .int y.2], rfl, sqT (kp _ _ h1), rfl, .ref bb, [.int y.2], rfl, .int y.2, [], rfl, rfl, ?_⟩
      refine htv _ _ y.1 y.2 (addF m (π.take i) t) bb _ (List.mem_of_getElem? hy) hj' s2.1 s2.2 upd_same (kp _ _ h2) ?_
      have pl : (π.take i).length ≤ π.length := by
        rw [List.length_take]
        omega
      have al := addF_length m (π.take i) t
      have big := sizeBig
      refine ⟨.ref Dd, by rw [hj' iw wa wb]; exact hiw, .ref bb, s2.1, Dd, _, rfl, DPut.t (k := ck y.1) upd_same (by rw [ck_kV]; exact kp _ _ h2) (by rw [dk_length]; omega), ?_⟩
      refine ⟨hj', by rw [List.length_set, List.length_set]; exact hl, ?_⟩
      rw [upd_upd, dk_put, List.take_add_one, hy]
      show _ = upd H Dd (.dT (dk ((π.take i ++ [y]).foldl _ m)))
      rw [List.foldl_append]
      rfl
  · obtain ⟨hj, hl, rfl⟩ := h
    have e : π.take (ps.map V.ref).length = π := List.take_of_length_le (by rw [List.length_map, Paired.length hp]; exact Nat.le_refl _)
    rw [e]
    exact q σ' hj hl

/-! ### readings, opened one at a time -/
theorem iSeq {t u : TS} {D : Ends} {σ : L2.St} {H : Hp} (h : t { D with nx := u D } σ H) : tSeq t u D σ H := h
theorem iAsg {te : TE} {g : TG} {D : Ends} {σ : L2.St} {H : Hp} (h : te σ H fun x H1 => g x σ H1 D.nx) : tAsg te g D σ H := h
theorem iRet {te : TE} {D : Ends} {σ : L2.St} {H : Hp} (h : te σ H D.rt) : tRet te D σ H := h
theorem iCB {r : List V → Hp → VK → Prop} {t : TA} {σ : L2.St} {H : Hp} {Q : VK} (h : t σ H fun vs H1 => r vs H1 Q) : tCB r t σ H Q := h
theorem iCons {ta : TE} {tr : TA} {σ : L2.St} {H : Hp} {Q : List V → Hp → Prop} (h : ta σ H fun x H1 => tr σ H1 fun xs H2 => Q (x :: xs) H2) : tCons ta tr σ H Q := h
theorem iOp {r : R2} {ta tb : TE} {σ : L2.St} {H : Hp} {Q : VK} (h : ta σ H fun x H1 => tb σ H1 fun y H2 => r x y H2 Q) : tOp r ta tb σ H Q := h
theorem iTest {t : TE} {σ : L2.St} {H : Hp} {Q : Bool → Hp → Prop} (h : t σ H fun x H' => ∃ k, x = .bl k ∧ Q k H') : tTest t σ H Q := h
theorem iNext {D : Ends} {σ : L2.St} {H : Hp} (h : D.nx σ H) : tNext D σ H := h
theorem iName {i : Nat} {v : V} {σ : L2.St} {H : Hp} {Q : L2.St → Hp → Prop} (h : Q (σ.set i (some v)) H) : gName i v σ H Q := h
/-- a value by what holds of it -/
theorem split_k {t : TE} {σ : L2.St} {H : Hp} {Q : VK} (R : V → Hp → Prop) (h1 : ∀ Q' : VK, (∀ v H', R v H' → Q' v H') → t σ H Q') (h2 : ∀ v H', R v H' → Q v H') : t σ H Q := h1 Q h2
/-- a block by what holds behind it -/
theorem split_s {t : TS} {D : Ends} {σ : L2.St} {H : Hp} (R : L2.St → Hp → Prop) (h1 : ∀ nx : L2.St → Hp → Prop, (∀ σ' H', R σ' H' → nx σ' H') → t { D with nx := nx } σ H) (h2 : ∀ σ' H', R σ' H' → D.nx σ' H') : t D σ H := h1 D.nx h2
theorem iNil {σ : L2.St} {H : Hp} {Q : List V → Hp → Prop} (h : Q [] H) : tNil σ H Q := h
end AskG
/-! Comprehensions over rows. -/
namespace AskG
open PySem PySem.Spec PyProof.Rows L2
abbrev g2 (K : PySem.W.Frag) (a b : Nat) : TG := gTup K 2 (gCons (gName a) (gCons (gName b) gNil))
/-- the slots at a turn: the two targets, all else as it was -/
structure Turn2 (σ σ' : L2.St) (a b : Nat) (v w : V) : Prop where
  fst : σ'[a]? = some (some v)
  snd : σ'[b]? = some (some w)
  old : ∀ j, j ≠ a → j ≠ b → σ'[j]? = σ[j]?
theorem turn2 {σ : L2.St} {a b : Nat} {v w : V} (ha : a < σ.length) (hb : b < σ.length) (hab : a ≠ b) :
    Turn2 σ (((wipe σ [a, b]).set a (some v)).set b (some w)) a b v w := by
  have s2 := set2 (σ := wipe σ [a, b]) (v := v) (w := w) (by rw [wipe_length]; exact ha) (by rw [wipe_length]; exact hb) hab
  refine ⟨s2.1, s2.2, fun j h1 h2 => ?_⟩
  rw [List.getElem?_set_ne (fun e => h2 e.symm), List.getElem?_set_ne (fun e => h1 e.symm)]
  show ((σ.set b none).set a none)[j]? = _
  rw [List.getElem?_set_ne (fun e => h1 e.symm), List.getElem?_set_ne (fun e => h2 e.symm)]

/-- [(cell, g weight) for cell, weight in row if ..] -/
theorem lc_rows {K : PySem.W.Frag} {i a b : Nat} {σ : L2.St} {H : Hp} {Q : VK} {r : Addr} {ρ : RowD} {tt : TT} {tw : TE} (keep : Cell × Int → Bool) (g : Cell × Int → Int)
    (hi : σ[i]? = some (some (.ref r))) (R : RowAt H r ρ) (ha : a < σ.length) (hb : b < σ.length) (hab : a ≠ b) (hz : ρ.length ≤ 1000)
    (htt : ∀ σ' H' bb x (Q : Bool → Hp → Prop), x ∈ ρ → Same H H' → Turn2 σ σ' a b (.ref bb) (.int x.2) → CellAt H' bb x.1 → (∀ H'', Same H' H'' → Q (keep x) H'') → tt σ' H' Q)
    (htw : ∀ σ' H' bb x (Q : VK), x ∈ ρ → Same H H' → Turn2 σ σ' a b (.ref bb) (.int x.2) → CellAt H' bb x.1 → Q (.int (g x)) H' → tw σ' H' Q)
    (q : ∀ H' L ps, Same H H' → H L = none → H' L = some (.lst (ps.map V.ref)) → Paired (PairRow H') ps ((ρ.filter keep).map fun x => (x.1, g x)) → Q (.ref L) H') :
    tLc (iTup K (tVar i)) (g2 K a b) tt (tTup (tCons (tVar a) (tCons tw tNil))) [a, b] σ H Q := by
  obtain ⟨qs, hr, hp⟩ := R
  refine ⟨.ref r, hi, r, rfl, ⟨_, sqT hr⟩, fun L hL => ?_⟩
  refine lc_tup (xs := qs.map V.ref) (fun i H' => Same H H' ∧ ∃ ps, H' L = some (.lst (ps.map V.ref)) ∧ Paired (PairRow H') ps (((ρ.take i).filter keep).map fun x => (x.1, g x)) ∧ ps.length ≤ i)
    ⟨same_new hL, [], upd_same, .nil, Nat.le_refl _⟩ (fun i H' _ h => sqT (h.1 _ _ hr)) (fun i x H' hx h => ?_) (fun H' h => ?_)
  · obtain ⟨sm, ps, hps, hpp, hpl⟩ := h
    rw [List.getElem?_map] at hx
    cases hqi : qs[i]? with
    | none =>
      rw [hqi] at hx
      cases hx
    | some p =>
      rw [hqi] at hx
      have ex : V.ref p = x := Option.some.inj hx
      subst ex
      obtain ⟨y, hy, bb, h1, h2⟩ := paired_at' hp hqi
      have hym := List.mem_of_getElem? hy
      have kp := KeepT.of sm
      have il : i < qs.length := (List.getElem?_eq_some_iff.mp hqi).1
      have ql : qs.length = ρ.length := Paired.length hp
      have big := sizeBig
      have T := turn2 (v := .ref bb) (w := .int y.2) ha hb hab
      refine ⟨p, [.ref bb, .int y.2], rfl, sqT (kp _ _ h1), rfl, .ref bb, [.int y.2], rfl, .int y.2, [], rfl, rfl, ?_⟩
      refine ⟨wipe2 hab, htt _ _ bb y _ hym sm T (h2.keep kp) fun H2 sm2 => ?_⟩
      have kp2 := KeepT.of sm2
      have pk : ((ρ.take (i + 1)).filter keep).map (fun x => (x.1, g x)) = ((ρ.take i).filter keep).map (fun x => (x.1, g x)) ++ (if keep y = true then [(y.1, g y)] else []) := by
        rw [List.take_add_one, hy, List.filter_append, List.map_append]
        congr 1
        show List.map _ (List.filter keep [y]) = _
        cases hk : keep y with
        | true => simp [hk]
        | false => simp [hk]
      cases hk : keep y with
      | false =>
        refine iteF ⟨sm.trans sm2, ps, sm2 _ _ hps, ?_, by omega⟩
        rw [pk, hk, if_neg (by decide), List.append_nil]
        exact Paired.mapP hpp fun _ _ z => z.keep kp2
      | true =>
        refine iteT ⟨.ref bb, T.fst, htw _ _ bb y _ hym (sm.trans sm2) T ((h2.keep kp).keep kp2) ⟨by show 2 ≤ sizeLine; decide, fun t ht => ?_⟩⟩
        have hps2 := sm2 _ _ hps
        have nLt : L ≠ t := ne_of_none hps2 ht
        refine ⟨ps.map V.ref, by rw [upd_ne nLt]; exact hps2, by rw [List.length_map]; omega, ?_, ps ++ [t], ?_, ?_, ?_⟩
        · intro b' o' e'
          have e2 := sm2 _ _ (sm _ _ e')
          rw [upd_ne (ne_of_none e' hL), upd_ne (ne_of_none e2 ht)]
          exact e2
        · rw [upd_same, List.map_append]
          rfl
        · have kp3 : KeepT H2 (upd (upd H2 t (.tup [.ref bb, .int (g y)])) L (.lst (ps.map V.ref ++ [.ref t]))) :=
            (KeepT.new ht).trans (KeepT.put (u := .lst (ps.map V.ref)) (by rw [upd_ne nLt]; exact hps2) (fun _ z => nomatch z))
          rw [pk, hk, if_pos rfl]
          refine Paired.snoc (Paired.mapP hpp fun _ _ z => (z.keep kp2).keep kp3) ⟨bb, ?_, ((h2.keep kp).keep kp2).keep kp3⟩
          rw [upd_ne nLt.symm, upd_same]
        · rw [List.length_append]
          show ps.length + 1 ≤ i + 1
          omega
  · obtain ⟨sm, ps, hps, hpp, _⟩ := h
    have e : ρ.take (qs.map V.ref).length = ρ := List.take_of_length_le (by rw [List.length_map, Paired.length hp]; exact Nat.le_refl _)
    rw [e] at hpp
    exact q H' L ps sm hL hps hpp

theorem iYes {σ : L2.St} {H : Hp} {Q : Bool → Hp → Prop} (h : Q true H) : tYes σ H Q := h
/-- [g of cell, weight for cell, weight in row] -/
theorem lc_ints {K : PySem.W.Frag} {i a b : Nat} {σ : L2.St} {H : Hp} {Q : VK} {r : Addr} {ρ : RowD} {tw : TE} (g : Cell × Int → Int)
    (hi : σ[i]? = some (some (.ref r))) (R : RowAt H r ρ) (ha : a < σ.length) (hb : b < σ.length) (hab : a ≠ b) (hz : ρ.length ≤ 1000)
    (htw : ∀ σ' H' bb x (Q : VK), x ∈ ρ → Same H H' → Turn2 σ σ' a b (.ref bb) (.int x.2) → CellAt H' bb x.1 → Q (.int (g x)) H' → tw σ' H' Q)
    (q : ∀ H' L, Same H H' → H L = none → H' L = some (.lst ((ρ.map g).map V.int)) → Q (.ref L) H') :
    tLc (iTup K (tVar i)) (g2 K a b) tYes tw [a, b] σ H Q := by
  obtain ⟨qs, hr, hp⟩ := R
  refine ⟨.ref r, hi, r, rfl, ⟨_, sqT hr⟩, fun L hL => ?_⟩
  refine lc_tup (xs := qs.map V.ref) (fun i H' => Same H H' ∧ H' L = some (.lst (((ρ.take i).map g).map V.int)))
    ⟨same_new hL, upd_same⟩ (fun i H' _ h => sqT (h.1 _ _ hr)) (fun i x H' hx h => ?_) (fun H' h => ?_)
  · obtain ⟨sm, hps⟩ := h
    rw [List.getElem?_map] at hx
    cases hqi : qs[i]? with
    | none =>
      rw [hqi] at hx
      cases hx
    | some p =>
      rw [hqi] at hx
      have ex : V.ref p = x := Option.some.inj hx
      subst ex
      obtain ⟨y, hy, bb, h1, h2⟩ := paired_at' hp hqi
      have kp := KeepT.of sm
      have big := sizeBig
      have T := turn2 (v := .ref bb) (w := .int y.2) ha hb hab
      refine ⟨p, [.ref bb, .int y.2], rfl, sqT (kp _ _ h1), rfl, .ref bb, [.int y.2], rfl, .int y.2, [], rfl, rfl, ?_⟩
      refine ⟨wipe2 hab, iYes (iteT (htw _ _ bb y _ (List.mem_of_getElem? hy) sm T (h2.keep kp) ⟨_, hps, ?_, ?_, ?_⟩))⟩
      · rw [List.length_map, List.length_map, List.length_take]
        omega
      · intro b' o' e'
        rw [upd_ne (ne_of_none e' hL)]
        exact sm _ _ e'
      · rw [upd_same, List.take_add_one, hy]
        show _ = some (HO.lst (((ρ.take i ++ [y]).map g).map V.int))
        rw [List.map_append, List.map_append]
        rfl
  · obtain ⟨sm, hps⟩ := h
    have e : ρ.take (qs.map V.ref).length = ρ := List.take_of_length_le (by rw [List.length_map, Paired.length hp]; exact Nat.le_refl _)
    rw [e] at hps
    exact q H' L sm hL hps

theorem set1_at {σ : L2.St} {a : Nat} {v : V} (ha : a < σ.length) : ((wipe σ [a]).set a (some v))[a]? = some (some v) := List.getElem?_set_self (by rw [wipe_length]; exact ha)
theorem set1_old {σ : L2.St} {a j : Nat} {v : V} (h : j ≠ a) : ((wipe σ [a]).set a (some v))[j]? = σ[j]? := by
  rw [List.getElem?_set_ne (fun e => h e.symm), wipe_at h]
/-- one turn of [pair for pair in pairs if ..] -/
theorem pairs_turn {a : Nat} {σ : L2.St} {H H' : Hp} {L : Addr} {qs : List Addr} {ρ : RowD} {tt : TT} (keep : Cell × Int → Bool)
    (ha : a < σ.length) (hp : Paired (PairRow H) qs ρ) (hz : ρ.length ≤ 1000) (hL : H L = none)
    (htt : ∀ σ' H' p x (Q : Bool → Hp → Prop), x ∈ ρ → Same H H' → σ'[a]? = some (some (.ref p)) → (∀ j, j ≠ a → σ'[j]? = σ[j]?) → PairRow H' p x → (∀ H'', Same H' H'' → Q (keep x) H'') → tt σ' H' Q)
    {i : Nat} {x : V} (hx : (qs.map V.ref)[i]? = some x) (h : Same H H' ∧ ∃ ps, H' L = some (.lst (ps.map V.ref)) ∧ Paired (PairRow H') ps ((ρ.take i).filter keep) ∧ ps.length ≤ i) :
    gName a x (wipe σ [a]) H' fun σ2 H2 => wipe σ2 [a] = wipe σ [a] ∧ tt σ2 H2 fun b H3 => if b = true then tVar a σ2 H3 fun y H4 => ∃ acc, H4 L = some (.lst acc) ∧ acc.length < sizeLine ∧
      (Same H (upd H4 L (.lst (acc ++ [y]))) ∧ ∃ ps, (upd H4 L (.lst (acc ++ [y]))) L = some (.lst (ps.map V.ref)) ∧ Paired (PairRow (upd H4 L (.lst (acc ++ [y])))) ps ((ρ.take (i + 1)).filter keep) ∧ ps.length ≤ i + 1)
      else (Same H H3 ∧ ∃ ps, H3 L = some (.lst (ps.map V.ref)) ∧ Paired (PairRow H3) ps ((ρ.take (i + 1)).filter keep) ∧ ps.length ≤ i + 1) := by
  obtain ⟨sm, ps, hps, hpp, hpl⟩ := h
  rw [List.getElem?_map] at hx
  cases hqi : qs[i]? with
  | none =>
    rw [hqi] at hx
    cases hx
  | some p =>
    rw [hqi] at hx
    have ex : V.ref p = x := Option.some.inj hx
    subst ex
    obtain ⟨y, hy, hpy⟩ := paired_at' hp hqi
    have kp := KeepT.of sm
    have il : i < qs.length := (List.getElem?_eq_some_iff.mp hqi).1
    have ql : qs.length = ρ.length := Paired.length hp
    have big := sizeBig
    refine ⟨wipe1, htt _ _ p y _ (List.mem_of_getElem? hy) sm (set1_at ha) (fun j hj => set1_old hj) (hpy.keep kp) fun H2 sm2 => ?_⟩
    have kp2 := KeepT.of sm2
    have pk : (ρ.take (i + 1)).filter keep = (ρ.take i).filter keep ++ (if keep y = true then [y] else []) := by
      rw [List.take_add_one, hy, List.filter_append]
      congr 1
      show List.filter keep [y] = _
      cases hk : keep y with
      | true => simp [hk]
      | false => simp [hk]
    cases hk : keep y with
    | false =>
      refine iteF ⟨sm.trans sm2, ps, sm2 _ _ hps, ?_, by omega⟩
      rw [pk, hk, if_neg (by decide), List.append_nil]
      exact Paired.mapP hpp fun _ _ z => z.keep kp2
    | true =>
      have hps2 := sm2 _ _ hps
      refine iteT ⟨.ref p, set1_at ha, ps.map V.ref, hps2, by rw [List.length_map]; omega, ?_, ps ++ [p], ?_, ?_, ?_⟩
      · intro b' o' e'
        rw [upd_ne (ne_of_none e' hL)]
        exact sm2 _ _ (sm _ _ e')
      · rw [upd_same, List.map_append]
        rfl
      · have kp3 : KeepT H2 (upd H2 L (.lst (ps.map V.ref ++ [.ref p]))) := KeepT.put (u := .lst (ps.map V.ref)) hps2 (fun _ z => nomatch z)
        rw [pk, hk, if_pos rfl]
        exact Paired.snoc (Paired.mapP hpp fun _ _ z => (z.keep kp2).keep kp3) (((hpy.keep kp).keep kp2).keep kp3)
      · rw [List.length_append]
        show ps.length + 1 ≤ i + 1
        omega
/-- [pair for pair in row if ..] -/
theorem lc_pairsT {K : PySem.W.Frag} {i a : Nat} {σ : L2.St} {H : Hp} {Q : VK} {r : Addr} {qs : List Addr} {ρ : RowD} {tt : TT} (keep : Cell × Int → Bool)
    (hi : σ[i]? = some (some (.ref r))) (hr : H r = some (.tup (qs.map V.ref))) (hp : Paired (PairRow H) qs ρ) (ha : a < σ.length) (hz : ρ.length ≤ 1000)
    (htt : ∀ σ' H' p x (Q : Bool → Hp → Prop), x ∈ ρ → Same H H' → σ'[a]? = some (some (.ref p)) → (∀ j, j ≠ a → σ'[j]? = σ[j]?) → PairRow H' p x → (∀ H'', Same H' H'' → Q (keep x) H'') → tt σ' H' Q)
    (q : ∀ H' L ps, Same H H' → H L = none → H' L = some (.lst (ps.map V.ref)) → Paired (PairRow H') ps (ρ.filter keep) → Q (.ref L) H') :
    tLc (iTup K (tVar i)) (gName a) tt (tVar a) [a] σ H Q := by
  refine ⟨.ref r, hi, r, rfl, ⟨_, sqT hr⟩, fun L hL => ?_⟩
  refine lc_tup (xs := qs.map V.ref) (fun i H' => Same H H' ∧ ∃ ps, H' L = some (.lst (ps.map V.ref)) ∧ Paired (PairRow H') ps ((ρ.take i).filter keep) ∧ ps.length ≤ i)
    ⟨same_new hL, [], upd_same, .nil, Nat.le_refl _⟩ (fun i H' _ h => sqT (h.1 _ _ hr)) (fun i x H' hx h => pairs_turn keep ha hp hz hL htt hx h) (fun H' h => ?_)
  obtain ⟨sm, ps, hps, hpp, _⟩ := h
  have e : ρ.take (qs.map V.ref).length = ρ := List.take_of_length_le (by rw [List.length_map, Paired.length hp]; exact Nat.le_refl _)
  rw [e] at hpp
  exact q H' L ps sm hL hps hpp
theorem lc_pairsL {K : PySem.W.Frag} {i a : Nat} {σ : L2.St} {H : Hp} {Q : VK} {r : Addr} {qs : List Addr} {ρ : RowD} {tt : TT} (keep : Cell × Int → Bool)
    (hi : σ[i]? = some (some (.ref r))) (hr : H r = some (.lst (qs.map V.ref))) (hp : Paired (PairRow H) qs ρ) (ha : a < σ.length) (hz : ρ.length ≤ 1000)
    (htt : ∀ σ' H' p x (Q : Bool → Hp → Prop), x ∈ ρ → Same H H' → σ'[a]? = some (some (.ref p)) → (∀ j, j ≠ a → σ'[j]? = σ[j]?) → PairRow H' p x → (∀ H'', Same H' H'' → Q (keep x) H'') → tt σ' H' Q)
    (q : ∀ H' L ps, Same H H' → H L = none → H' L = some (.lst (ps.map V.ref)) → Paired (PairRow H') ps (ρ.filter keep) → Q (.ref L) H') :
    tLc (iList K (tVar i)) (gName a) tt (tVar a) [a] σ H Q := by
  refine ⟨.ref r, hi, r, rfl, ⟨_, sqL hr⟩, fun L hL => ?_⟩
  refine lc_list (xs := qs.map V.ref) (fun i H' => Same H H' ∧ ∃ ps, H' L = some (.lst (ps.map V.ref)) ∧ Paired (PairRow H') ps ((ρ.take i).filter keep) ∧ ps.length ≤ i)
    ⟨same_new hL, [], upd_same, .nil, Nat.le_refl _⟩ (fun i H' _ h => sqL (h.1 _ _ hr)) (fun i x H' hx h => pairs_turn keep ha hp hz hL htt hx h) (fun H' h => ?_)
  obtain ⟨sm, ps, hps, hpp, _⟩ := h
  have e : ρ.take (qs.map V.ref).length = ρ := List.take_of_length_le (by rw [List.length_map, Paired.length hp]; exact Nat.le_refl _)
  rw [e] at hpp
  exact q H' L ps sm hL hps hpp
end AskG
/-! Calls with keywords. -/
namespace AskG
open PySem PySem.Spec PyProof.Rows L2
section
variable {P : Program} {w : World} {K : PySem.W.Frag} {mg : Str → Option Value} {base : Heap}
theorem okGD {x qual : Str} {params : Arguments} {body : List Stmt} {scope : Scope} {dvs : List V} {kws : List (Str × V)} {f : Addr} {fd : FuncData} {N ps : List Str} {k : Nat} {pr : Pr}
    (F : FunD K x qual params body scope dvs kws f fd) (S : FnScope N ps scope) (many : ∀ vs H Q, pr vs H Q → vs.length = ps.length)
    (body_ok : ∀ (cdv : Value) (A : Around) (outer : List Env) (s : Shared) (H : Hp) (vs : List V) (Q : VK),
      RG k (A.deeper (envOfC qual scope s.heap.objs.size f cdv)) → pr vs H Q →
      ∃ t, PSs (cxOf CX0 P w K mg base N qual scope f cdv A outer s H E0).nox body t ∧
        t { nx := fun _ H' => Q .non H', rt := Q } (start N vs) H) : FnG P w K mg base (k + 1) f fd ps pr := by
  obtain ⟨oc, od, dV, kV, doc, pm, an, cdv, ct, osl, rfl, lk, hcd, _, _⟩ := F.ex
  exact fnG_of lk hcd S many fun A outer s H vs Q hr hp => body_ok cdv A outer s H vs Q hr hp
end
def tCallNG (n m : Nat) (pr : Pr) (gV : List V → List V → List V) (t tk : TA) : TE := fun σ H Q =>
  t σ H fun vs H1 => tk σ H1 fun zs H2 => vs.length = n ∧ zs.length = m ∧ pr (gV vs zs) H2 Q
section
variable {X : Cx} {k n : Nat} {f : Addr} {fd : FuncData} {ps ks : List Str} {pr : Pr} {x : Str} {p pos : Pos} {e : Expr} {es : List Expr} {kws : List Keyword}
  {t tk : TA} {g : List Value → List Value → List Value} {gV : List V → List V → List V}
theorem goN {pins : List (Addr × Obj)} {σ : L2.St} {H : Hp} {s : Shared} {Q : VK} {us ws : List Value} {vs zs : List V}
    (F : FnG X.prog X.w X.K X.mg X.base k f fd ps pr) (hr : RG k X.A) (hb : KBn X.K fd ps n ks g gV)
    (I : Inv X pins σ H s) (r : Vals vs us) (rz : Vals zs ws) (l1 : vs.length = n) (l2 : zs.length = ks.length) (h : pr (gV vs zs) H Q) :
    wpAny (model X.prog X.w) X.A (call (.ref f) us (ks.zip ws)) (EP X pins σ Q) X.xe s :=
  goG (args := ⟨us, ks.zip ws⟩) F hr I (hb.to s us ws I.kIn (r.length.symm.trans l1) (rz.length.symm.trans l2)) (hb.rel r rz) h
/-- f(e, .., k = v, ..) -/
theorem pe_gn (F : FnG X.prog X.w X.K X.mg X.base k f fd ps pr) (hr : RG k X.A) (hg : Gl X x)
    (hm : X.mg x = some (.ref f)) (hk : PySem.W.keepIn X.K (.ref f) = true) (hb : KBn X.K fd ps n ks g gV)
    (ha : PA X (e :: es) t) (hkw : PK X kws tk)
    (hall : (backToKw pos (keywordEach kws X.env)).all (·.1.isSome) = true := by rfl)
    (hks : (backToKw pos (keywordEach kws X.env)).filterMap (·.1) = ks := by rfl)
    (hdb : (x == ("__debug__" : Str)) = false := by decide)
    (he : starEach (e :: es) X.env = (false, eval e X.env) :: starEach es X.env := by rfl)
    (hpl : ((backTo pos (starEach (e :: es) X.env)).any (·.1) || (backToKw pos (keywordEach kws X.env)).any (·.1.isNone)) = false := by rfl) :
    PE X (.Call (.Name x p) (e :: es) kws pos) (tCallNG n ks.length pr gV t tk) := by
  constructor
  intro pins s σ H Q I h
  refine wpAny_Call_Name_kw (ld_glob I hg hm ?_ hdb)
  refine PySem.W.callWith_KW (h₀ := X.base) I.ok.mod.kin hk hall (thn (ha.run pos pins s σ H _ I h) ?_) hpl he
  rintro us s1 ⟨vs, H1, I1, r, q⟩
  refine thn (hkw.run pos pins s1 σ H1 _ I1 q) ?_
  rintro ws s2 ⟨zs, H2, I2, rz, l1, l2, q2⟩
  refine ⟨I2.kIn, ?_⟩
  rw [hks]
  exact goN F hr hb I2 r rz l1 l2 q2
/-- f(k = v, ..) -/
theorem pe_gn0 (F : FnG X.prog X.w X.K X.mg X.base k f fd ps pr) (hr : RG k X.A) (hg : Gl X x)
    (hm : X.mg x = some (.ref f)) (hk : PySem.W.keepIn X.K (.ref f) = true) (hb : KBn X.K fd ps 0 ks g gV)
    (hkw : PK X kws tk)
    (hall : (backToKw pos (keywordEach kws X.env)).all (·.1.isSome) = true := by rfl)
    (hks : (backToKw pos (keywordEach kws X.env)).filterMap (·.1) = ks := by rfl)
    (hdb : (x == ("__debug__" : Str)) = false := by decide)
    (hpl : ((backTo pos (starEach [] X.env)).any (·.1) || (backToKw pos (keywordEach kws X.env)).any (·.1.isNone)) = false := by rfl) :
    PE X (.Call (.Name x p) [] kws pos) (tCallNG 0 ks.length pr gV tNil tk) := by
  constructor
  intro pins s σ H Q I h
  refine wpAny_Call_Name_kw (ld_glob I hg hm ?_ hdb)
  refine PySem.W.callWith_KW0 (h₀ := X.base) I.ok.mod.kin hk hall ?_ hpl
  refine thn (hkw.run pos pins s σ H _ I h) ?_
  rintro ws s2 ⟨zs, H2, I2, rz, l1, l2, q2⟩
  refine ⟨I2.kIn, ?_⟩
  rw [hks]
  exact goN (us := []) F hr hb I2 .nil rz l1 l2 q2
end
end AskG
/-! Rows as data: what repr shows of them, == with []. -/
namespace AskG
open PySem PySem.Spec PyProof.Rows L2
/-- data that repr shows in at most n signs -/
structure Fine (k n : Nat) (d : PyData) : Prop where
  shw : d.showable = true
  nod : d.hasDict = false
  dep : d.depth ≤ k
  len : d.shown.length ≤ n
theorem Fine.mono {k n k' n' : Nat} {d : PyData} (h : Fine k n d) (hk : k ≤ k') (hn : n ≤ n') : Fine k' n' d :=
  ⟨h.shw, h.nod, Nat.le_trans h.dep hk, Nat.le_trans h.len hn⟩
theorem all_fine {k n : Nat} : ∀ {ds : List PyData}, (∀ d ∈ ds, Fine k n d) →
    PyData.showableAll ds = true ∧ PyData.hasDictAll ds = false ∧ PyData.depthAll ds ≤ k ∧ ((PyData.shownAll ds).map (·.length)).sum ≤ ds.length * n ∧ (PyData.shownAll ds).length = ds.length
  | [], _ => ⟨rfl, rfl, Nat.zero_le _, Nat.zero_le _, rfl⟩
  | d :: ds, h => by
    obtain ⟨h1, h2, h3, h4, h5⟩ := all_fine (ds := ds) fun e he => h e (List.mem_cons_of_mem _ he)
    have f := h d List.mem_cons_self
    refine ⟨?_, ?_, ?_, ?_, ?_⟩
    · show (d.showable && PyData.showableAll ds) = true
      rw [f.shw, h1]
      rfl
    · show (d.hasDict || PyData.hasDictAll ds) = false
      rw [f.nod, h2]
      rfl
    · show max d.depth (PyData.depthAll ds) ≤ k
      exact Nat.max_le.mpr ⟨f.dep, h3⟩
    · show ((d.shown :: PyData.shownAll ds).map (·.length)).sum ≤ _
      rw [List.map_cons, List.sum_cons, List.length_cons, Nat.succ_mul]
      have := f.len
      omega
    · show (d.shown :: PyData.shownAll ds).length = _
      rw [List.length_cons, List.length_cons, h5]
theorem Fine.tup {k n m : Nat} {ds : List PyData} (h : ∀ d ∈ ds, Fine k n d) (hm : ds.length ≤ m) : Fine (k + 1) (m * (n + 2) + 3) (.tuple ds) := by
  obtain ⟨h1, h2, h3, h4, h5⟩ := all_fine h
  refine ⟨h1, h2, Nat.succ_le_succ h3, ?_⟩
  have := tupleText_len_le (PyData.shownAll ds)
  show (tupleText (PyData.shownAll ds)).length ≤ _
  have e : ds.length * (n + 2) ≤ m * (n + 2) := Nat.mul_le_mul_right _ hm
  have e2 : ds.length * (n + 2) = ds.length * n + 2 * ds.length := by rw [Nat.mul_add, Nat.mul_comm ds.length 2]
  rw [h5] at this
  omega
theorem Fine.lst {k n m : Nat} {ds : List PyData} (h : ∀ d ∈ ds, Fine k n d) (hm : ds.length ≤ m) : Fine (k + 1) (m * (n + 2) + 3) (.list ds) := by
  obtain ⟨h1, h2, h3, h4, h5⟩ := all_fine h
  refine ⟨h1, h2, Nat.succ_le_succ h3, ?_⟩
  have := listText_len_le (PyData.shownAll ds)
  show (listText (PyData.shownAll ds)).length ≤ _
  have e : ds.length * (n + 2) ≤ m * (n + 2) := Nat.mul_le_mul_right _ hm
  have e2 : ds.length * (n + 2) = ds.length * n + 2 * ds.length := by rw [Nat.mul_add, Nat.mul_comm ds.length 2]
  rw [h5] at this
  omega
theorem fine_int {i : Int} (h : i.natAbs.log2 < 1920) : Fine 0 1921 (.int i) :=
  ⟨decide_eq_true h, rfl, Nat.le_refl _, int_text_len_1921 h⟩
theorem fine_str {x : Str} (h : x.length ≤ 8) (hx : ∀ c ∈ x.cps.toList, c < 16 ^ 8) : Fine 0 1921 (.str x) :=
  ⟨rfl, rfl, Nat.le_refl _, by
    have := StrLaws.reprText_len x hx
    show (reprText x).length ≤ _
    omega⟩

/-- sizes of what rows hold -/
structure CellOk (c : Cell) : Prop where
  short : c.1.length ≤ 8
  plain : ∀ n ∈ c.1.cps.toList, n < 16 ^ 8
  ok : PyData.strOk c.1 = true
  lit : c.2.natAbs.log2 < 1920
def cellD (c : Cell) : PyData := .tuple [.str c.1, .int c.2]
def pairD (x : Cell × Int) : PyData := .tuple [cellD x.1, .int x.2]
def rowPD (ρ : RowD) : PyData := .tuple (ρ.map pairD)
structure RowOk (ρ : RowD) : Prop where
  many : ρ.length ≤ 100
  cells : ∀ x ∈ ρ, CellOk x.1
  lit : ∀ x ∈ ρ, x.2.natAbs.log2 < 1920
theorem fine_cell {c : Cell} (h : CellOk c) : Fine 1 3849 (cellD c) := by
  refine Fine.tup (k := 0) (n := 1921) (m := 2) (fun d hd => ?_) (Nat.le_refl _)
  rcases List.mem_cons.mp hd with e | hd
  · rw [e]
    exact fine_str h.short h.plain
  · rw [List.mem_singleton.mp hd]
    exact fine_int h.lit
theorem fine_pair {x : Cell × Int} (h : CellOk x.1) (hw : x.2.natAbs.log2 < 1920) : Fine 2 7705 (pairD x) := by
  refine Fine.tup (k := 1) (n := 3849) (m := 2) (fun d hd => ?_) (Nat.le_refl _)
  rcases List.mem_cons.mp hd with e | hd
  · rw [e]
    exact fine_cell h
  · rw [List.mem_singleton.mp hd]
    exact (fine_int hw).mono (by decide) (by decide)
theorem fine_row {ρ : RowD} (h : RowOk ρ) : Fine 3 770703 (rowPD ρ) := by
  refine Fine.tup (k := 2) (n := 7705) (m := 100) (fun d hd => ?_) (by rw [List.length_map]; exact h.many)
  obtain ⟨x, hx, rfl⟩ := List.mem_map.mp hd
  exact fine_pair (h.cells x hx) (h.lit x hx)

section
variable {K : PySem.W.Frag} {H : Hp}
theorem dp_cell {b : Addr} {c : Cell} (h : CellAt H b c) : Dp K H (.ref b) (cellD c) := .tup (sqT h) (.cons (.str _) (.cons (.int _) .nil))
theorem dp_pair {p : Addr} {x : Cell × Int} (h : PairRow H p x) : Dp K H (.ref p) (pairD x) := by
  obtain ⟨b, h1, h2⟩ := h
  exact .tup (sqT h1) (.cons (dp_cell h2) (.cons (.int _) .nil))
theorem dp_all {R : Addr → α → Prop} {f : α → PyData} (h : ∀ p x, R p x → Dp K H (.ref p) (f x)) : ∀ {ps : List Addr} {l : List α}, Paired R ps l → DpAll K H (ps.map V.ref) (l.map f)
  | _, _, .nil => .nil
  | _, _, .cons h1 t => .cons (h _ _ h1) (dp_all h t)
theorem dp_row {r : Addr} {ρ : RowD} (h : RowAt H r ρ) : Dp K H (.ref r) (rowPD ρ) := by
  obtain ⟨ps, h1, h2⟩ := h
  exact .tup (sqT h1) (dp_all (f := pairD) (R := PairRow H) (fun _ _ z => dp_pair z) h2)
end
/-! ### == of lists -/
theorem shaped_nil : SeqAt.shaped (.list []) = true := by decide
theorem can_all {f : α → PyData} : ∀ {l : List α}, (∀ x ∈ l, (f x).canLay0 = true) → PyData.canLayAll0 (l.map f) = true
  | [], _ => rfl
  | x :: l, h => by
    show ((f x).canLay0 && PyData.canLayAll0 (l.map f)) = true
    rw [h x List.mem_cons_self, can_all fun y hy => h y (List.mem_cons_of_mem _ hy)]
    rfl
theorem depth_all {f : α → PyData} {k : Nat} : ∀ {l : List α}, (∀ x ∈ l, (f x).depth ≤ k) → PyData.depthAll (l.map f) ≤ k
  | [], _ => Nat.zero_le _
  | x :: l, h => by
    show max (f x).depth (PyData.depthAll (l.map f)) ≤ k
    exact Nat.max_le.mpr ⟨h x List.mem_cons_self, depth_all fun y hy => h y (List.mem_cons_of_mem _ hy)⟩
theorem shaped_ints (ns : List Int) : SeqAt.shaped (.list (ns.map PyData.int)) = true := by
  have h1 : PyData.canLayAll0 (ns.map PyData.int) = true := can_all fun _ _ => rfl
  have h2 : PyData.depthAll (ns.map PyData.int) ≤ 0 := depth_all fun _ _ => Nat.le_refl _
  show (PyData.canLayAll0 (ns.map PyData.int) && decide (PyData.depthAll (ns.map PyData.int) + 1 ≤ 64)) = true
  rw [h1, decide_eq_true (by omega)]
  rfl
theorem shaped_pairs {ρ : RowD} (h : ∀ x ∈ ρ, CellOk x.1) : SeqAt.shaped (.list (ρ.map pairD)) = true := by
  have h1 : PyData.canLayAll0 (ρ.map pairD) = true := can_all fun x hx => by
    show (((PyData.strOk x.1.1) && (true && true)) && (true && true)) = true
    rw [(h x hx).ok]
    rfl
  have h2 : PyData.depthAll (ρ.map pairD) ≤ 2 := depth_all fun x _ => by
    show max (max 0 (max 0 0) + 1) (max 0 0) + 1 ≤ 2
    decide
  show (PyData.canLayAll0 (ρ.map pairD) && decide (PyData.depthAll (ρ.map pairD) + 1 ≤ 64)) = true
  rw [h1, decide_eq_true (by omega)]
  rfl
theorem dp_ints {K : PySem.W.Frag} {H : Hp} : ∀ ns : List Int, DpAll K H (ns.map V.int) (ns.map PyData.int)
  | [] => .nil
  | n :: ns => .cons (.int n) (dp_ints ns)
/-- the same by computation -/
def cellB (c : Cell) : Bool := decide (c.1.length ≤ 8) && c.1.cps.toList.all (fun n => decide (n < 16 ^ 8)) && PyData.strOk c.1 && decide (c.2.natAbs.log2 < 1920)
theorem cellOk_of {c : Cell} (h : cellB c = true) : CellOk c := by
  unfold cellB at h
  rw [Bool.and_eq_true, Bool.and_eq_true, Bool.and_eq_true] at h
  obtain ⟨⟨⟨h1, h2⟩, h3⟩, h4⟩ := h
  exact ⟨of_decide_eq_true h1, fun n hn => of_decide_eq_true (List.all_eq_true.mp h2 n hn), h3, of_decide_eq_true h4⟩
end AskG
/-! Values of any kind, and what the kind checks say of them. -/
namespace AskG
open PySem PySem.Spec PyProof.Rows L2
mutual
/-- the data that lies at a value; D is no part of it -/
inductive DH (D : Addr) (H : Hp) : V → PyData → Prop
  | non : DH D H .non .none
  | bl (b : Bool) : DH D H (.bl b) (.bool b)
  | int (i : Int) : DH D H (.int i) (.int i)
  | str (x : Str) : DH D H (.str x) (.str x)
  | lst {a : Addr} {xs : List V} {ds : List PyData} (n : a ≠ D) (e : H a = some (.lst xs)) (t : DHs D H xs ds) : DH D H (.ref a) (.list ds)
  | tup {a : Addr} {xs : List V} {ds : List PyData} (e : H a = some (.tup xs)) (t : DHs D H xs ds) : DH D H (.ref a) (.tuple ds)
inductive DHs (D : Addr) (H : Hp) : List V → List PyData → Prop
  | nil : DHs D H [] []
  | cons {v : V} {vs : List V} {d : PyData} {ds : List PyData} (h : DH D H v d) (t : DHs D H vs ds) : DHs D H (v :: vs) (d :: ds)
end
structure KeepD (D : Addr) (H H' : Hp) : Prop where
  tup : ∀ b xs, H b = some (.tup xs) → H' b = some (.tup xs)
  lst : ∀ b xs, b ≠ D → H b = some (.lst xs) → H' b = some (.lst xs)
theorem KeepD.of {D : Addr} {H H' : Hp} (h : Same H H') : KeepD D H H' := ⟨fun b _ e => h b _ e, fun b _ _ e => h b _ e⟩
theorem KeepD.trans {D : Addr} {H H1 H2 : Hp} (h : KeepD D H H1) (g : KeepD D H1 H2) : KeepD D H H2 := ⟨fun b xs e => g.tup b xs (h.tup b xs e), fun b xs n e => g.lst b xs n (h.lst b xs n e)⟩
mutual
theorem DH.keep {D : Addr} {H H' : Hp} (k : KeepD D H H') : ∀ {v : V} {d : PyData}, DH D H v d → DH D H' v d
  | _, _, .non => .non
  | _, _, .bl b => .bl b
  | _, _, .int i => .int i
  | _, _, .str x => .str x
  | _, _, .lst n e t => .lst n (k.lst _ _ n e) (DHs.keep k t)
  | _, _, .tup e t => .tup (k.tup _ _ e) (DHs.keep k t)
theorem DHs.keep {D : Addr} {H H' : Hp} (k : KeepD D H H') : ∀ {vs : List V} {ds : List PyData}, DHs D H vs ds → DHs D H' vs ds
  | _, _, .nil => .nil
  | _, _, .cons h t => .cons (DH.keep k h) (DHs.keep k t)
end
mutual
/-- an address that is still free is no part -/
theorem DH.shun {D E : Addr} {H : Hp} (f : H E = none) : ∀ {v : V} {d : PyData}, DH D H v d → DH E H v d
  | _, _, .non => .non
  | _, _, .bl b => .bl b
  | _, _, .int i => .int i
  | _, _, .str x => .str x
  | _, _, .lst n e t => .lst (fun z => by rw [z, f] at e; cases e) e (DHs.shun f t)
  | _, _, .tup e t => .tup e (DHs.shun f t)
theorem DHs.shun {D E : Addr} {H : Hp} (f : H E = none) : ∀ {vs : List V} {ds : List PyData}, DHs D H vs ds → DHs E H vs ds
  | _, _, .nil => .nil
  | _, _, .cons h t => .cons (DH.shun f h) (DHs.shun f t)
end
mutual
theorem DH.dp {K : PySem.W.Frag} {D : Addr} {H : Hp} : ∀ {v : V} {d : PyData}, DH D H v d → Dp K H v d
  | _, _, .non => .non
  | _, _, .bl b => .bl b
  | _, _, .int i => .int i
  | _, _, .str x => .str x
  | _, _, .lst _ e t => .lst (sqL e) (DHs.dp t)
  | _, _, .tup e t => .tup (sqT e) (DHs.dp t)
theorem DHs.dp {K : PySem.W.Frag} {D : Addr} {H : Hp} : ∀ {vs : List V} {ds : List PyData}, DHs D H vs ds → DpAll K H vs ds
  | _, _, .nil => .nil
  | _, _, .cons h t => .cons (DH.dp h) (DHs.dp t)
end
theorem DHs.len {D : Addr} {H : Hp} : ∀ {vs : List V} {ds : List PyData}, DHs D H vs ds → vs.length = ds.length
  | _, _, .nil => rfl
  | _, _, .cons _ t => by rw [List.length_cons, List.length_cons, DHs.len t]
theorem DHs.at {D : Addr} {H : Hp} : ∀ {vs : List V} {ds : List PyData}, DHs D H vs ds → ∀ {i : Nat} {v : V}, vs[i]? = some v → ∃ d, ds[i]? = some d ∧ DH D H v d
  | _, _, .nil, i, v, e => by cases i <;> cases e
  | _, _, .cons h t, 0, v, e => by
    cases e
    exact ⟨_, rfl, h⟩
  | _, _, .cons h t, i + 1, v, e => DHs.at t e
theorem DHs.app {D : Addr} {H : Hp} : ∀ {vs ws : List V} {ds es : List PyData}, DHs D H vs ds → DHs D H ws es → DHs D H (vs ++ ws) (ds ++ es)
  | _, _, _, _, .nil, h => h
  | _, _, _, _, .cons h t, g => .cons h (DHs.app t g)
/-! ### sizes -/
mutual
def smallD : PyData → Bool
  | .str s => decide (s.length ≤ 1000) && PyData.strOk s
  | .list ds => decide (ds.length ≤ 1000) && smallDs ds
  | .tuple ds => decide (ds.length ≤ 1000) && smallDs ds
  | .dict _ => false
  | _ => true
def smallDs : List PyData → Bool
  | [] => true
  | d :: ds => smallD d && smallDs ds
end
theorem smallDs_at : ∀ {ds : List PyData} {i : Nat} {d : PyData}, smallDs ds = true → ds[i]? = some d → smallD d = true
  | [], i, _, _, e => by cases i <;> cases e
  | x :: ds, 0, _, h, e => by
    cases e
    unfold smallDs at h
    rw [Bool.and_eq_true] at h
    exact h.1
  | x :: ds, i + 1, _, h, e => by
    unfold smallDs at h
    rw [Bool.and_eq_true] at h
    exact smallDs_at (ds := ds) (i := i) h.2 e
theorem small_tup {ds : List PyData} (h : smallD (.tuple ds) = true) : ds.length ≤ 1000 ∧ smallDs ds = true := by
  unfold smallD at h
  rw [Bool.and_eq_true] at h
  exact ⟨of_decide_eq_true h.1, h.2⟩
theorem small_lst {ds : List PyData} (h : smallD (.list ds) = true) : ds.length ≤ 1000 ∧ smallDs ds = true := by
  unfold smallD at h
  rw [Bool.and_eq_true] at h
  exact ⟨of_decide_eq_true h.1, h.2⟩
theorem small_str {s : Str} (h : smallD (.str s) = true) : s.length ≤ 1000 := by
  unfold smallD at h
  rw [Bool.and_eq_true] at h
  exact of_decide_eq_true h.1
theorem small_strOk {s : Str} (h : smallD (.str s) = true) : PyData.strOk s = true := by
  unfold smallD at h
  rw [Bool.and_eq_true] at h
  exact h.2
mutual
theorem small_lay : ∀ {d : PyData}, smallD d = true → d.canLay0 = true
  | .none, _ => rfl
  | .bool _, _ => rfl
  | .int _, _ => rfl
  | .str _, h => small_strOk h
  | .list _, h => small_lays (small_lst h).2
  | .tuple _, h => small_lays (small_tup h).2
  | .dict _, h => by cases h
theorem small_lays : ∀ {ds : List PyData}, smallDs ds = true → PyData.canLayAll0 ds = true
  | [], _ => rfl
  | d :: ds, h => by
    unfold smallDs at h
    rw [Bool.and_eq_true] at h
    show (d.canLay0 && PyData.canLayAll0 ds) = true
    rw [small_lay h.1, small_lays h.2]
    rfl
end
/-! ### kinds -/
def tyN : PyData → String
  | .none => "NoneType"
  | .bool _ => "bool"
  | .int _ => "int"
  | .str _ => "str"
  | .list _ => "list"
  | .tuple _ => "tuple"
  | .dict _ => "dict"
theorem DH.ty {K : PySem.W.Frag} {D : Addr} {H : Hp} {v : V} {d : PyData} (h : DH D H v d) : TyX K H v (.type (tyN d)) := by
  cases h with
  | non => exact .base .non
  | bl b => exact .base (.bl b)
  | int i => exact .base (.int i)
  | str x => exact .base (.str x)
  | lst _ e _ => exact .base (.lst e)
  | tup e _ => exact .base (.tup e)
def intB : PyData → Bool
  | .bool _ => true
  | .int _ => true
  | _ => false
def boolB : PyData → Bool
  | .bool _ => true
  | _ => false
def strB : PyData → Bool
  | .str _ => true
  | _ => false
def tupB : PyData → Bool
  | .tuple _ => true
  | _ => false
theorem kit_int : ∀ d : PyData, kitB (tyN d) "int" = some (intB d)
  | .none => show kitB "NoneType" "int" = some false from by decide +kernel
  | .bool _ => show kitB "bool" "int" = some true from by decide +kernel
  | .int _ => show kitB "int" "int" = some true from by decide +kernel
  | .str _ => show kitB "str" "int" = some false from by decide +kernel
  | .list _ => show kitB "list" "int" = some false from by decide +kernel
  | .tuple _ => show kitB "tuple" "int" = some false from by decide +kernel
  | .dict _ => show kitB "dict" "int" = some false from by decide +kernel
theorem kit_bool : ∀ d : PyData, kitB (tyN d) "bool" = some (boolB d)
  | .none => show kitB "NoneType" "bool" = some false from by decide +kernel
  | .bool _ => show kitB "bool" "bool" = some true from by decide +kernel
  | .int _ => show kitB "int" "bool" = some false from by decide +kernel
  | .str _ => show kitB "str" "bool" = some false from by decide +kernel
  | .list _ => show kitB "list" "bool" = some false from by decide +kernel
  | .tuple _ => show kitB "tuple" "bool" = some false from by decide +kernel
  | .dict _ => show kitB "dict" "bool" = some false from by decide +kernel
theorem kit_str : ∀ d : PyData, kitB (tyN d) "str" = some (strB d)
  | .none => show kitB "NoneType" "str" = some false from by decide +kernel
  | .bool _ => show kitB "bool" "str" = some false from by decide +kernel
  | .int _ => show kitB "int" "str" = some false from by decide +kernel
  | .str _ => show kitB "str" "str" = some true from by decide +kernel
  | .list _ => show kitB "list" "str" = some false from by decide +kernel
  | .tuple _ => show kitB "tuple" "str" = some false from by decide +kernel
  | .dict _ => show kitB "dict" "str" = some false from by decide +kernel
theorem kit_tup : ∀ d : PyData, kitB (tyN d) "tuple" = some (tupB d)
  | .none => show kitB "NoneType" "tuple" = some false from by decide +kernel
  | .bool _ => show kitB "bool" "tuple" = some false from by decide +kernel
  | .int _ => show kitB "int" "tuple" = some false from by decide +kernel
  | .str _ => show kitB "str" "tuple" = some false from by decide +kernel
  | .list _ => show kitB "list" "tuple" = some false from by decide +kernel
  | .tuple _ => show kitB "tuple" "tuple" = some true from by decide +kernel
  | .dict _ => show kitB "dict" "tuple" = some false from by decide +kernel
def itemD (d : PyData) (i : Nat) : PyData := match d with
  | .tuple ds => ds.getD i .none
  | _ => .none
def isIntD (d : PyData) : Bool := intB d && !boolB d
def geD (d : PyData) : Bool := match d with
  | .int i => decide (0 ≤ i)
  | _ => false
def isNumD (d : PyData) : Bool := isIntD d && geD d
def lettersD : Str := "abcdefghijklmnopqrstuvwxyz"
def nameS (s : Str) : Bool := (decide (1 ≤ s.length) && decide (s.length ≤ 8)) && s.cps.toList.all fun n => decide (n ∈ lettersD.cps.toList)
def isNameD (d : PyData) : Bool := match d with
  | .str s => nameS s
  | _ => false
def isPairD (d : PyData) : Bool := match d with
  | .tuple ds => decide (ds.length = 2)
  | _ => false
def isCellD (d : PyData) : Bool := isPairD d && (isNameD (itemD d 0) && isNumD (itemD d 1))
def nzD (d : PyData) : Bool := match d with
  | .int i => decide (i ≠ 0)
  | _ => true
def isWtD (d : PyData) : Bool := isPairD d && (isCellD (itemD d 0) && (isIntD (itemD d 1) && nzD (itemD d 1)))
theorem int_of {d : PyData} (h : isIntD d = true) : ∃ i, d = .int i := by
  cases d with
  | int i => exact ⟨i, rfl⟩
  | bool b => cases h
  | none => cases h
  | str _ => cases h
  | list _ => cases h
  | tuple _ => cases h
  | dict _ => cases h
theorem pair_of {d : PyData} (h : isPairD d = true) : ∃ x y, d = .tuple [x, y] := by
  cases d with
  | tuple ds =>
    have e : ds.length = 2 := of_decide_eq_true h
    match ds, e with
    | [x, y], _ => exact ⟨x, y, rfl⟩
  | _ => cases h
theorem DH.int_inv {D : Addr} {H : Hp} {v : V} {i : Int} (h : DH D H v (.int i)) : v = .int i := by
  cases h
  rfl
theorem DH.str_inv {D : Addr} {H : Hp} {v : V} {s : Str} (h : DH D H v (.str s)) : v = .str s := by
  cases h
  rfl
theorem DH.tup_inv {D : Addr} {H : Hp} {v : V} {ds : List PyData} (h : DH D H v (.tuple ds)) : ∃ a xs, v = .ref a ∧ H a = some (.tup xs) ∧ DHs D H xs ds := by
  cases h with
  | tup e t => exact ⟨_, _, rfl, e, t⟩
theorem DH.pair_inv {D : Addr} {H : Hp} {v : V} {x y : PyData} (h : DH D H v (.tuple [x, y])) : ∃ a p q, v = .ref a ∧ H a = some (.tup [p, q]) ∧ DH D H p x ∧ DH D H q y := by
  obtain ⟨a, xs, rfl, e, t⟩ := h.tup_inv
  cases t with
  | cons h1 t =>
    cases t with
    | cons h2 t =>
      cases t
      exact ⟨a, _, _, rfl, e, h1, h2⟩
/-- a check of one value -/
def prKind (f : PyData → Bool) : Pr := fun vs H Q => ∃ (v : V) (d : PyData) (D : Addr), vs = [v] ∧ DH D H v d ∧ smallD d = true ∧ ∀ H', Same H H' → Q (.bl (f d)) H'
end AskG
/-! cell < cell -/
namespace AskG
open PySem PySem.Spec PyProof.Rows L2
def rLtC : R2 := fun x y H Q => ∃ (a b : Addr) (c d : Cell), x = .ref a ∧ y = .ref b ∧ CellAt H a c ∧ CellAt H b d ∧ Q (.bl (ltC c d)) H
theorem op_ltC {X : Cx} (hu : X.A.units < cLine) : OpR X (compareOp .Lt) rLtC := by
  intro pins s σ H x y v u Q I rx ry h
  obtain ⟨a, b, c, d, rfl, rfl, ha, hb, q⟩ := h
  cases rx
  cases ry
  obtain ⟨a', t, t', e, ht⟩ := isCl_of I.hok ha
  cases e
  obtain ⟨b', u, u', e, hu2⟩ := isCl_of I.hok hb
  cases e
  have R := Ob.RcOp.tuples_lt (A := X.A) (s := s) (e := fun j => if j = 0 then c.1 == d.1 else c.2 == d.2)
    (r := fun j => if j = 0 then decide (c.1.cps.toList < d.1.cps.toList) else decide (c.2 < d.2)) ht hu2 hu
    (fun j h1 h2 => by
      have h1 : j < 2 := h1
      match j, h1 with
      | 0, _ => exact SeqAt.EqAt.str_str c.1 t d.1 u
      | 1, _ => exact SeqAt.EqAt.int_int c.2 t' d.2 u')
    (fun j h1 h2 _ => by
      have h1 : j < 2 := h1
      match j, h1 with
      | 0, _ => exact fun _ _ _ _ h => PyProof.Rows.lt_str h
      | 1, _ => exact fun _ _ _ _ h => PyProof.Rows.lt_int h)
  have e : Ob.lexAt (fun j => if j = 0 then c.1 == d.1 else c.2 == d.2) (fun j => if j = 0 then decide (c.1.cps.toList < d.1.cps.toList) else decide (c.2 < d.2)) (decide (2 < 2)) 0 (min 2 2) = ltC c d := by
    show (if (c.1 == d.1) = true then (if (c.2 == d.2) = true then decide (2 < 2) else decide (c.2 < d.2)) else decide (c.1.cps.toList < d.1.cps.toList)) = ltC c d
    unfold ltC
    by_cases e1 : c.1 = d.1
    · rw [if_pos (beq_iff_eq.mpr e1), if_pos e1]
      by_cases e2 : c.2 = d.2
      · rw [if_pos (beq_iff_eq.mpr e2), e2, decide_eq_false (Int.lt_irrefl _)]
        rfl
      · rw [if_neg fun z => e2 (beq_iff_eq.mp z)]
    · rw [if_neg fun z => e1 (beq_iff_eq.mp z), if_neg e1]
  have R2 : Ob.RcOp .Lt X.A s (.ref a) (.ref b) (ltC c d) := by
    rw [← e]
    exact R
  have z : wpAny (model X.prog X.w) X.A (compareOp .Lt (.ref a) (.ref b)) (EP X pins σ Q) X.xe s :=
    R2 X.prog X.w X.xe (EP X pins σ Q) ⟨.bl _, H, I, rfl, q⟩
  exact z
end AskG
namespace P51
open PySem PySem.Spec PyProof.Rows L2 AskG
def topS (i : Nat) : Stmt := PySem.Challenge.pw_askrights_k51_walls_by_kind.main.body.getD i (.Pass ⟨0, 0, 0, 0⟩)
abbrev sIsInt : Stmt := topS 2
abbrev sIsNum : Stmt := topS 3
abbrev sIsName : Stmt := topS 4
abbrev sIsPair : Stmt := topS 5
abbrev sIsCell : Stmt := topS 6
abbrev sIsWt : Stmt := topS 7
theorem scIsInt : FnScope ["thing"] ["thing"] (defScope sIsInt) := ⟨rfl, rfl, rfl, by decide +kernel, rfl, by decide +kernel, by decide +kernel⟩
theorem scIsNum : FnScope ["thing"] ["thing"] (defScope sIsNum) := ⟨rfl, rfl, rfl, by decide +kernel, rfl, by decide +kernel, by decide +kernel⟩
theorem scIsName : FnScope ["thing", "letter"] ["thing"] (defScope sIsName) := ⟨rfl, rfl, rfl, by decide +kernel, rfl, by decide +kernel, by decide +kernel⟩
theorem scIsPair : FnScope ["thing"] ["thing"] (defScope sIsPair) := ⟨rfl, rfl, rfl, by decide +kernel, rfl, by decide +kernel, by decide +kernel⟩
theorem scIsCell : FnScope ["thing"] ["thing"] (defScope sIsCell) := ⟨rfl, rfl, rfl, by decide +kernel, rfl, by decide +kernel, by decide +kernel⟩
theorem scIsWt : FnScope ["thing"] ["thing"] (defScope sIsWt) := ⟨rfl, rfl, rfl, by decide +kernel, rfl, by decide +kernel, by decide +kernel⟩
section
variable {P : Program} {w : World} {K : PySem.W.Frag} {mg : Str → Option Value} {base : Heap}
theorem isi_yes {H : Hp} {x : V} {a b : String} {r : Bool} {Q : VK} (h : TyX K H x (.type a)) (k : kitB a b = some r) (q : Q (.bl r) H) : rIsi K [x, .ty b] H Q := ⟨x, .ty b, .type a, .type b, r, rfl, .ty b, h, kit_ty k, q⟩
theorem isi_call {i : Nat} {σ : L2.St} {H : Hp} {x : V} {a b : String} {r : Bool} {Q : VK} (hi : σ[i]? = some (some x)) (h : TyX K H x (.type a)) (k : kitB a b = some r) (q : Q (.bl r) H) : tCB (rIsi K) (tCons (tVar i) (tCons (tC (.ty b)) tNil)) σ H Q :=
  ⟨x, hi, isi_yes h k q⟩
theorem iAndV {ta tb : TE} {σ : L2.St} {H : Hp} {Q : VK} (h : ta σ H fun x H1 => ∃ c, x = .bl c ∧ if c = true then tb σ H1 Q else Q (.bl false) H1) : tAndV ta tb σ H Q := h
theorem iNotV {ta : TE} {σ : L2.St} {H : Hp} {Q : VK} (h : ta σ H fun x H1 => ∃ c, x = .bl c ∧ Q (.bl (!c)) H1) : tNotV ta σ H Q := h
theorem iIfS {c : TT} {t u : TS} {D : Ends} {σ : L2.St} {H : Hp} (h : c σ H fun b H1 => if b = true then t D σ H1 else u D σ H1) : tIfS c t u D σ H := h
theorem iOr {t u : TT} {σ : L2.St} {H : Hp} {Q : Bool → Hp → Prop} (h : t σ H fun c H1 => if c = true then Q true H1 else u σ H1 Q) : tOr t u σ H Q := h
theorem iNot {t : TT} {σ : L2.St} {H : Hp} {Q : Bool → Hp → Prop} (h : t σ H fun c H1 => Q (!c) H1) : tNot t σ H Q := h
theorem iB {t : TE} {σ : L2.St} {H : Hp} {Q : Bool → Hp → Prop} (h : t σ H fun x H1 => ∃ c, x = .bl c ∧ Q c H1) : tB t σ H Q := h
/-- `a and b`: a is told by c -/
theorem and_by {c : Bool} {t u : Prop} (h1 : c = true → t) (h0 : c = false → u) : if c = true then t else u := by
  cases c with
  | true => exact h1 rfl
  | false => exact h0 rfl
theorem ok_isInt {f : Addr} {fd : FuncData} {k : Nat} (F : Fun K "is_integer" "is_integer" sIsInt f fd) (mi : mg "isinstance" = none) (mn : mg "int" = none) (mb : mg "bool" = none) : FnG P w K mg base (k + 1) f fd ["thing"] (prKind isIntD) := by
  refine okG F scIsInt (fun vs H Q h => ?_) (fun cdv A outer s H vs Q hr h => ?_)
  · obtain ⟨_, _, _, rfl, _⟩ := h
    rfl
  · obtain ⟨v, d, D, rfl, hd, hs, q⟩ := h
    refine ⟨_, pss_one (ps_ret (pe_and (pe_callB call_isi (by rfl) mi (by decide +kernel) (pa_cons (pv 0) (pa_cons (pe_bltn (v := .ty "int") (by rfl) mn (by decide +kernel) rfl) pa_nil)))
      (pe_one (pe_not (pe_callB call_isi (by rfl) mi (by decide +kernel) (pa_cons (pv 0) (pa_cons (pe_bltn (v := .ty "bool") (by rfl) mb (by decide +kernel) rfl) pa_nil))))))), ?_⟩
    refine iRet (iAndV (isi_call (K := K) (i := 0) (a := tyN d) (b := "int") (r := intB d) (x := v) rfl hd.ty (kit_int d) ⟨_, rfl, ?_⟩))
    have q' := q H (Same.refl _)
    refine and_by (fun e => ?_) (fun e => ?_)
    · refine iNotV (isi_call (K := K) (i := 0) (a := tyN d) (b := "bool") (r := boolB d) (x := v) rfl hd.ty (kit_bool d) ⟨_, rfl, ?_⟩)
      unfold isIntD at q'
      rw [e, Bool.true_and] at q'
      exact q'
    · unfold isIntD at q'
      rw [e, Bool.false_and] at q'
      exact q'
theorem ok_isPair {f : Addr} {fd : FuncData} {k : Nat} (F : Fun K "is_pair" "is_pair" sIsPair f fd) (mi : mg "isinstance" = none) (mt : mg "tuple" = none) (ml : mg "len" = none) : FnG P w K mg base (k + 1) f fd ["thing"] (prKind isPairD) := by
  refine okG F scIsPair (fun vs H Q h => ?_) (fun cdv A outer s H vs Q hr h => ?_)
  · obtain ⟨_, _, _, rfl, _⟩ := h
    rfl
  · obtain ⟨v, d, D, rfl, hd, hs, q⟩ := h
    refine ⟨_, pss_one (ps_ret (pe_and (pe_callB call_isi (by rfl) mi (by decide +kernel) (pa_cons (pv 0) (pa_cons (pe_bltn (v := .ty "tuple") (by rfl) mt (by decide +kernel) rfl) pa_nil)))
      (pe_one (pe_cmpR op_eq (pe_callB call_len_seq (by rfl) ml PySem.boot_len (pa_cons (pv 0) pa_nil)) pe_int (nomark _))))), ?_⟩
    refine iRet (iAndV (isi_call (K := K) (i := 0) (a := tyN d) (b := "tuple") (r := tupB d) (x := v) rfl hd.ty (kit_tup d) ⟨_, rfl, ?_⟩))
    have q' := q H (Same.refl _)
    refine and_by (fun e => ?_) (fun e => ?_)
    · cases d with
      | tuple ds =>
        obtain ⟨a, xs, rfl, ha, t⟩ := hd.tup_inv
        refine ⟨.ref a, rfl, a, _, rfl, .inr (sqT ha), rfl, ?_⟩
        have e2 : decide (V.int (xs.length : Int) = V.int 2) = decide (ds.length = 2) := by
          rw [← t.len]
          refine decide_eq_decide.mpr ⟨fun z => ?_, fun z => ?_⟩
          · have := V.int.inj z
            omega
          · rw [z]
            rfl
        show Q (.bl (decide (V.int (xs.length : Int) = V.int 2))) H
        rw [e2]
        exact q'
      | _ => cases e
    · cases d with
      | tuple ds => cases e
      | _ => exact q'
variable {fI fN fM fQ fC fW fR : Addr} {fdI fdN fdM fdQ fdC fdW fdR : FuncData}
theorem ok_isNum {f : Addr} {fd : FuncData} {k : Nat} (F : Fun K "is_number" "is_number" sIsNum f fd) (FI : Fun K "is_integer" "is_integer" sIsInt fI fdI) (bI : Binds K fdI ["thing"] []) (gI : mg "is_integer" = some (.ref fI)) (GI : FnG P w K mg base (k + 1) fI fdI ["thing"] (prKind isIntD)) : FnG P w K mg base (k + 2) f fd ["thing"] (prKind isNumD) := by
  refine okG F scIsNum (fun vs H Q h => ?_) (fun cdv A outer s H vs Q hr h => ?_)
  · obtain ⟨_, _, _, rfl, _⟩ := h
    rfl
  · obtain ⟨v, d, D, rfl, hd, hs, q⟩ := h
    refine ⟨_, pss_one (ps_ret (pe_and (pe_g GI hr (by rfl) gI FI.kp bI .nil (pa_cons (pv 0) pa_nil)) (pe_one (pe_cmpR op_ge (pv 0) pe_int (nomark _))))), ?_⟩
    refine iRet (iAndV ⟨v, rfl, v, d, D, rfl, hd, hs, fun H' sm => ⟨_, rfl, ?_⟩⟩)
    have q' := q H' sm
    refine and_by (fun e => ?_) (fun e => ?_)
    · obtain ⟨i, rfl⟩ := int_of e
      obtain rfl := hd.int_inv
      exact ⟨.int i, rfl, i, 0, rfl, rfl, q'⟩
    · unfold isNumD at q'
      rw [e, Bool.false_and] at q'
      exact q'
theorem ok_isName {f : Addr} {fd : FuncData} {k : Nat} {tk : Tok} (F : Fun K "is_name" "is_name" sIsName f fd) (mi : mg "isinstance" = none) (mst : mg "str" = none) (ml : mg "len" = none) (ma : mg "all" = none) (mL : mg "LETTERS" = some (.str lettersD tk)) : FnG P w K mg base (k + 1) f fd ["thing"] (prKind isNameD) := by
  refine okG F scIsName (fun vs H Q h => ?_) (fun cdv A outer s H vs Q hr h => ?_)
  · obtain ⟨_, _, _, rfl, _⟩ := h
    rfl
  · obtain ⟨v, d, D, rfl, hd, hs, q⟩ := h
    refine ⟨_, pss_cons (ps_if (PW.pt (pw_or (pt_not (pt_val (pe_callB call_isi (by rfl) mi (by decide +kernel) (pa_cons (pv 0) (pa_cons (pe_bltn (v := .ty "str") (by rfl) mst (by decide +kernel) rfl) pa_nil)))))
        (pw_or1 (pt_not (pt_chain op_le op_le pe_int (pe_callB call_len_str (by rfl) ml PySem.boot_len (pa_cons (pv 0) pa_nil)) pe_int))))) (pss_one (ps_ret pe_bl)) pss_nil)
      (pss_one (ps_ret (pe_callB (cr_all rfl) (by rfl) ma (by decide +kernel) (pa_cons (pe_lc (own := [("letter", 1)]) (g := gName 1) (tt := tYes) rfl scIsName.nd (pi_str (pv 0)) (blkOk_by (N := ["thing", "letter"]) (sc := defScope sIsName) (by decide +kernel))
        (fun _ _ _ _ _ => pg_name (i := 1) scIsName.nd rfl (.inl rfl)) (fun _ _ _ _ _ => pts_nil) (fun _ _ _ _ _ => pe_cmpR op_in_sign (pv 1) (pe_glob (v := .str lettersD) (by rfl) mL ⟨_, rfl⟩) (by rfl))) pa_nil)))), ?_⟩
    have big := sizeBig
    refine iSeq ?_
    refine iIfS (iOr (iNot (iB (isi_call (K := K) (i := 0) (a := tyN d) (b := "str") (r := strB d) (x := v) rfl hd.ty (kit_str d) ⟨_, rfl, ?_⟩))))
    cases d with
    | str z =>
      obtain rfl := hd.str_inv
      have hz := small_str hs
      refine iteF ?_
      refine iNot ⟨.str z, rfl, z, rfl, by omega, 1, _, rfl, rfl, _, rfl, ?_⟩
      have q0 : ∀ H', Same H H' → nameS z = false → Q (.bl false) H' := fun H' sm e => by
        have h : Q (.bl (nameS z)) H' := q H' sm
        rw [e] at h
        exact h
      refine and_by (fun e1 => ?_) (fun e1 => ?_)
      · refine ⟨_, 8, rfl, rfl, _, rfl, ?_⟩
        have l1 : 1 ≤ z.length := by
          have := of_decide_eq_true e1
          omega
        by_cases l2 : z.length ≤ 8
        · rw [decide_eq_true (by omega : ((z.length : Nat) : Int) ≤ 8)]
          refine iteF ?_
          refine iNext ?_
          dsimp only
          refine iRet (iCB (iCons ?_))
          refine ⟨.str z, rfl, z, rfl, fun L hL => ?_⟩
          have sz : z.cps.size ≤ 8 := l2
          refine lc_it (walk_str (z := z)) (fun i H' => Same H H' ∧ H' L = some (.lst (((z.cps.toList.take i).map fun n => decide (n ∈ lettersD.cps.toList)).map V.bl))) ⟨same_new hL, upd_same⟩ (fun _ _ _ _ => trivial) (fun i x H' H2 hi h hy => ?_) (fun H' h => ?_)
          · obtain ⟨rfl, n, hn, rfl⟩ := hy
            refine ⟨wipe1, iYes (iteT ⟨_, rfl, n, lettersD, rfl, rfl, _, h.2, ?_, ?_, ?_⟩)⟩
            · rw [List.length_map, List.length_map, List.length_take]
              omega
            · intro b o e
              rw [upd_ne (ne_of_none e hL)]
              exact h.1 _ _ e
            · have hn' : z.cps.toList[i]? = some n := by
                rw [Array.getElem?_toList]
                exact hn
              rw [upd_same, List.take_add_one, hn', List.map_append, List.map_append]
              rfl
          · refine ⟨L, _, rfl, sqL h.2, ?_⟩
            have e3 : z.cps.toList.take z.cps.size = z.cps.toList := by
              rw [← Array.length_toList]
              exact List.take_length
            have e4 : (((z.cps.toList.take z.cps.size).map fun n => decide (n ∈ lettersD.cps.toList)).all id) = nameS z := by
              rw [e3, List.all_map]
              unfold nameS
              rw [decide_eq_true l1, decide_eq_true l2]
              rfl
            rw [e4]
            exact q H' h.1
        · rw [decide_eq_false (by omega : ¬ ((z.length : Nat) : Int) ≤ 8)]
          refine iteT ?_
          refine q0 _ (Same.refl _) ?_
          unfold nameS
          rw [decide_eq_false l2, Bool.and_false, Bool.false_and]
      · refine ⟨false, rfl, iteT (q0 _ (Same.refl _) ?_)⟩
        unfold nameS
        have l1 : ¬ 1 ≤ z.length := by
          have := of_decide_eq_false e1
          omega
        rw [decide_eq_false l1, Bool.false_and, Bool.false_and]
    | _ => exact iteT (q H (Same.refl _))
theorem itemD0 (x y : PyData) : itemD (.tuple [x, y]) 0 = x := rfl
theorem itemD1 (x y : PyData) : itemD (.tuple [x, y]) 1 = y := rfl
theorem ok_isCell {f : Addr} {fd : FuncData} {k : Nat} (F : Fun K "is_cell" "is_cell" sIsCell f fd)
    (FQ : Fun K "is_pair" "is_pair" sIsPair fQ fdQ) (bQ : Binds K fdQ ["thing"] []) (gQ : mg "is_pair" = some (.ref fQ)) (GQ : FnG P w K mg base (k + 1) fQ fdQ ["thing"] (prKind isPairD))
    (FM : Fun K "is_name" "is_name" sIsName fM fdM) (bM : Binds K fdM ["thing"] []) (gM : mg "is_name" = some (.ref fM)) (GM : FnG P w K mg base (k + 1) fM fdM ["thing"] (prKind isNameD))
    (FN : Fun K "is_number" "is_number" sIsNum fN fdN) (bN : Binds K fdN ["thing"] []) (gN : mg "is_number" = some (.ref fN)) (GN : FnG P w K mg base (k + 2) fN fdN ["thing"] (prKind isNumD)) : FnG P w K mg base (k + 3) f fd ["thing"] (prKind isCellD) := by
  refine okG F scIsCell (fun vs H Q h => ?_) (fun cdv A outer s H vs Q hr h => ?_)
  · obtain ⟨_, _, _, rfl, _⟩ := h
    rfl
  · obtain ⟨v, d, D, rfl, hd, hs, q⟩ := h
    have hr1 : RG (k + 1) (A.deeper (envOfC "is_cell" (defScope sIsCell) s.heap.objs.size f cdv)) := hr.mono (by omega)
    refine ⟨_, pss_one (ps_ret (pe_and (pe_g GQ hr1 (by rfl) gQ FQ.kp bQ .nil (pa_cons (pv 0) pa_nil)) (pe_and (pe_g GM hr1 (by rfl) gM FM.kp bM .nil (pa_cons (pe_ix (ix_tup : IxR _ (rIxT K)) (pv 0) pe_int (fun _ _ => rfl)) pa_nil))
      (pe_one (pe_g GN hr (by rfl) gN FN.kp bN .nil (pa_cons (pe_ix (ix_tup : IxR _ (rIxT K)) (pv 0) pe_int (fun _ _ => rfl)) pa_nil)))))), ?_⟩
    refine iRet (iAndV ⟨v, rfl, v, d, D, rfl, hd, hs, fun H1 s1 => ⟨_, rfl, ?_⟩⟩)
    refine and_by (fun e => ?_) (fun e => ?_)
    · obtain ⟨x, y, rfl⟩ := pair_of e
      obtain ⟨a, p1, p2, rfl, ha, h1, h2⟩ := hd.pair_inv
      obtain ⟨_, sm⟩ := small_tup hs
      have sx : smallD x = true := smallDs_at (i := 0) sm rfl
      have sy : smallD y = true := smallDs_at (i := 1) sm rfl
      refine iAndV ⟨.ref a, rfl, a, _, 0, p1, rfl, rfl, sqT (s1 _ _ ha), atI_nat (j := 0) rfl, p1, x, D, rfl, h1.keep (KeepD.of s1), sx, fun H2 s2 => ⟨_, rfl, ?_⟩⟩
      have s12 := s1.trans s2
      refine and_by (fun e2 => ?_) (fun e2 => ?_)
      · refine ⟨.ref a, rfl, a, _, 1, p2, rfl, rfl, sqT (s12 _ _ ha), atI_nat (j := 1) rfl, p2, y, D, rfl, h2.keep (KeepD.of s12), sy, fun H3 s3 => ?_⟩
        have q' := q H3 (s12.trans s3)
        unfold isCellD at q'
        rw [e, itemD0, itemD1, e2, Bool.true_and, Bool.true_and] at q'
        exact q'
      · have q' := q H2 s12
        unfold isCellD at q'
        rw [itemD0, e2, Bool.false_and, Bool.and_false] at q'
        exact q'
    · have q' := q H1 s1
      unfold isCellD at q'
      rw [e, Bool.false_and] at q'
      exact q'
theorem ok_isWt {f : Addr} {fd : FuncData} {k : Nat} (F : Fun K "is_weighted_cell" "is_weighted_cell" sIsWt f fd)
    (FQ : Fun K "is_pair" "is_pair" sIsPair fQ fdQ) (bQ : Binds K fdQ ["thing"] []) (gQ : mg "is_pair" = some (.ref fQ)) (GQ : FnG P w K mg base (k + 1) fQ fdQ ["thing"] (prKind isPairD))
    (FC : Fun K "is_cell" "is_cell" sIsCell fC fdC) (bC : Binds K fdC ["thing"] []) (gC : mg "is_cell" = some (.ref fC)) (GC : FnG P w K mg base (k + 3) fC fdC ["thing"] (prKind isCellD))
    (FI : Fun K "is_integer" "is_integer" sIsInt fI fdI) (bI : Binds K fdI ["thing"] []) (gI : mg "is_integer" = some (.ref fI)) (GI : FnG P w K mg base (k + 1) fI fdI ["thing"] (prKind isIntD)) : FnG P w K mg base (k + 4) f fd ["thing"] (prKind isWtD) := by
  refine okG F scIsWt (fun vs H Q h => ?_) (fun cdv A outer s H vs Q hr h => ?_)
  · obtain ⟨_, _, _, rfl, _⟩ := h
    rfl
  · obtain ⟨v, d, D, rfl, hd, hs, q⟩ := h
    have hr1 : RG (k + 1) (A.deeper (envOfC "is_weighted_cell" (defScope sIsWt) s.heap.objs.size f cdv)) := hr.mono (by omega)
    refine ⟨_, pss_one (ps_ret (pe_and (pe_g GQ hr1 (by rfl) gQ FQ.kp bQ .nil (pa_cons (pv 0) pa_nil)) (pe_and (pe_g GC hr (by rfl) gC FC.kp bC .nil (pa_cons (pe_ix (ix_tup : IxR _ (rIxT K)) (pv 0) pe_int (fun _ _ => rfl)) pa_nil))
      (pe_and (pe_g GI hr1 (by rfl) gI FI.kp bI .nil (pa_cons (pe_ix (ix_tup : IxR _ (rIxT K)) (pv 0) pe_int (fun _ _ => rfl)) pa_nil)) (pe_one (pe_cmpR op_ne (pe_ix (ix_tup : IxR _ (rIxT K)) (pv 0) pe_int (fun _ _ => rfl)) pe_int (nomark _))))))), ?_⟩
    refine iRet (iAndV ⟨v, rfl, v, d, D, rfl, hd, hs, fun H1 s1 => ⟨_, rfl, ?_⟩⟩)
    refine and_by (fun e => ?_) (fun e => ?_)
    · obtain ⟨x, y, rfl⟩ := pair_of e
      obtain ⟨a, p1, p2, rfl, ha, h1, h2⟩ := hd.pair_inv
      obtain ⟨_, sm⟩ := small_tup hs
      have sx : smallD x = true := smallDs_at (i := 0) sm rfl
      have sy : smallD y = true := smallDs_at (i := 1) sm rfl
      refine iAndV ⟨.ref a, rfl, a, _, 0, p1, rfl, rfl, sqT (s1 _ _ ha), atI_nat (j := 0) rfl, p1, x, D, rfl, h1.keep (KeepD.of s1), sx, fun H2 s2 => ⟨_, rfl, ?_⟩⟩
      have s12 := s1.trans s2
      refine and_by (fun e2 => ?_) (fun e2 => ?_)
      · refine iAndV ⟨.ref a, rfl, a, _, 1, p2, rfl, rfl, sqT (s12 _ _ ha), atI_nat (j := 1) rfl, p2, y, D, rfl, h2.keep (KeepD.of s12), sy, fun H3 s3 => ⟨_, rfl, ?_⟩⟩
        have s13 := s12.trans s3
        have q' := q H3 s13
        unfold isWtD at q'
        rw [e, itemD0, itemD1, e2, Bool.true_and, Bool.true_and] at q'
        refine and_by (fun e3 => ?_) (fun e3 => ?_)
        · obtain ⟨i, rfl⟩ := int_of e3
          obtain rfl := h2.int_inv
          refine ⟨.ref a, rfl, a, _, 1, .int i, rfl, rfl, sqT (s13 _ _ ha), atI_nat (j := 1) rfl, rfl, ?_⟩
          have e4 : (!decide (V.int i = V.int 0)) = nzD (.int i) := by
            show (!decide (V.int i = V.int 0)) = decide (i ≠ 0)
            by_cases z : i = 0
            · rw [z]
              rfl
            · rw [decide_eq_true z, decide_eq_false (fun w => z (V.int.inj w))]
              rfl
          show Q (.bl (!decide (V.int i = V.int 0))) H3
          rw [e4]
          rw [e3, Bool.true_and] at q'
          exact q'
        · rw [e3, Bool.false_and] at q'
          exact q'
      · have q' := q H2 s12
        unfold isWtD at q'
        rw [itemD0, e2, Bool.false_and, Bool.and_false] at q'
        exact q'
    · have q' := q H1 s1
      unfold isWtD at q'
      rw [e, Bool.false_and] at q'
      exact q'
end
end P51
namespace P51
open PySem PySem.Spec PyProof.Rows L2 AskG
abbrev sIsRow : Stmt := topS 8
theorem scIsRow : FnScope ["thing", "cells", "item", "cell", "weight", "one", "other"] ["thing"] (defScope sIsRow) := ⟨rfl, rfl, rfl, by decide +kernel, rfl, by decide +kernel, by decide +kernel⟩
def strOf : PyData → Str
  | .str s => s
  | _ => ""
def intOf : PyData → Int
  | .int i => i
  | _ => 0
def cellOfD (d : PyData) : Cell := (strOf (itemD (itemD d 0) 0), intOf (itemD (itemD d 0) 1))
def rowOfD (ds : List PyData) : RowD := ds.map fun d => (cellOfD d, intOf (itemD d 1))
def c0 : Cell := (("" : Str), (0 : Int))
def ltAt (cs : List Cell) (i : Nat) : Bool := ltC (cs.getD i c0) (cs.getD (i + 1) c0)
def ascD (cs : List Cell) : Bool := ((List.range (cs.length - 1)).map (ltAt cs)).all id
def isRowD (d : PyData) : Bool := match d with
  | .tuple ds => ds.all isWtD && ascD (keys (rowOfD ds))
  | _ => false
def areRowsD (d : PyData) : Bool := match d with
  | .tuple ds => ds.all isRowD
  | _ => false
theorem name_of {d : PyData} (h : isNameD d = true) : ∃ s, d = .str s := by
  cases d with
  | str s => exact ⟨s, rfl⟩
  | _ => cases h
theorem num_of {d : PyData} (h : isNumD d = true) : ∃ i, d = .int i := by
  unfold isNumD at h
  rw [Bool.and_eq_true] at h
  exact int_of h.1
theorem cell_of {d : PyData} (h : isCellD d = true) : ∃ s i, d = .tuple [.str s, .int i] := by
  unfold isCellD at h
  rw [Bool.and_eq_true, Bool.and_eq_true] at h
  obtain ⟨h1, h2, h3⟩ := h
  obtain ⟨x, y, rfl⟩ := pair_of h1
  obtain ⟨s, rfl⟩ := name_of (d := x) h2
  obtain ⟨i, rfl⟩ := num_of (d := y) h3
  exact ⟨s, i, rfl⟩
theorem wt_of {d : PyData} (h : isWtD d = true) : ∃ s i j, d = .tuple [.tuple [.str s, .int i], .int j] := by
  unfold isWtD at h
  rw [Bool.and_eq_true, Bool.and_eq_true, Bool.and_eq_true] at h
  obtain ⟨h1, h2, h3, _⟩ := h
  obtain ⟨x, y, rfl⟩ := pair_of h1
  obtain ⟨s, i, rfl⟩ := cell_of (d := x) h2
  obtain ⟨j, rfl⟩ := int_of (d := y) h3
  exact ⟨s, i, j, rfl⟩
theorem pairRow_of {D : Addr} {H : Hp} {v : V} {d : PyData} (h : DH D H v d) (w : isWtD d = true) : ∃ p, v = .ref p ∧ PairRow H p (cellOfD d, intOf (itemD d 1)) := by
  obtain ⟨s, i, j, rfl⟩ := wt_of w
  obtain ⟨a, p1, p2, rfl, ha, h1, h2⟩ := h.pair_inv
  obtain ⟨b, q1, q2, rfl, hb, g1, g2⟩ := h1.pair_inv
  obtain rfl := h2.int_inv
  obtain rfl := g1.str_inv
  obtain rfl := g2.int_inv
  exact ⟨a, rfl, b, ha, hb⟩
theorem row_of {D : Addr} {H : Hp} : ∀ {xs : List V} {ds : List PyData}, DHs D H xs ds → ds.all isWtD = true → ∃ ps : List Addr, xs = ps.map V.ref ∧ Paired (PairRow H) ps (rowOfD ds)
  | _, _, .nil, _ => ⟨[], rfl, .nil⟩
  | _, _, .cons h t, w => by
    rw [List.all_cons, Bool.and_eq_true] at w
    obtain ⟨p, rfl, hp⟩ := pairRow_of h w.1
    obtain ⟨ps, rfl, hps⟩ := row_of t w.2
    exact ⟨p :: ps, rfl, .cons hp hps⟩
section
variable {P : Program} {w : World} {K : PySem.W.Frag} {mg : Str → Option Value} {base : Heap}
/-- [.. for x in t], a check of each -/
theorem lc_kindT {i a : Nat} {σ : L2.St} {H : Hp} {Q : VK} {r D : Addr} {xs : List V} {ds : List PyData} {te : TE} (g : PyData → Bool)
    (hi : σ[i]? = some (some (.ref r))) (hr : H r = some (.tup xs)) (hd : DHs D H xs ds) (hs : smallDs ds = true) (ha : a < σ.length) (hz : ds.length ≤ 1000)
    (hte : ∀ σ' H' x d (Q' : VK), DH D H' x d → smallD d = true → Same H H' → σ'[a]? = some (some x) → (∀ H'', Same H' H'' → Q' (.bl (g d)) H'') → te σ' H' Q')
    (q : ∀ H' L, Same H H' → H' L = some (.lst ((ds.map g).map V.bl)) → Q (.ref L) H') :
    tLc (iTup K (tVar i)) (gName a) tYes te [a] σ H Q := by
  refine ⟨.ref r, hi, r, rfl, ⟨_, sqT hr⟩, fun L hL => ?_⟩
  have xl := hd.len
  refine lc_tup (xs := xs) (fun i H' => Same H H' ∧ H' L = some (.lst (((ds.take i).map g).map V.bl))) ⟨same_new hL, upd_same⟩ (fun i H' _ h => sqT (h.1 _ _ hr)) (fun i x H' hx h => ?_) (fun H' h => q H' L h.1 ?_)
  · have big := sizeBig
    have il := (List.getElem?_eq_some_iff.mp hx).1
    obtain ⟨d, hdi, hdx⟩ := hd.at hx
    refine ⟨wipe1, iYes (iteT (hte _ _ x d _ (hdx.keep (KeepD.of h.1)) (smallDs_at hs hdi) h.1 (set1_at ha) fun H2 sm2 => ⟨_, sm2 _ _ h.2, ?_, ?_, ?_⟩))⟩
    · rw [List.length_map, List.length_map, List.length_take]
      omega
    · intro b o e
      rw [upd_ne (ne_of_none e hL)]
      exact sm2 _ _ (h.1 _ _ e)
    · rw [upd_same, List.take_add_one, hdi, List.map_append, List.map_append]
      rfl
  · have := h.2
    rw [xl, List.take_length] at this
    exact this
theorem all_map_id (l : List PyData) (g : PyData → Bool) : (l.map g).all id = l.all g := by
  rw [List.all_map]
  rfl
variable {fI fN fM fQ fC fW fR : Addr} {fdI fdN fdM fdQ fdC fdW fdR : FuncData}
theorem ok_isRow {f : Addr} {fd : FuncData} {k : Nat} (F : Fun K "is_row" "is_row" sIsRow f fd)
    (FW : Fun K "is_weighted_cell" "is_weighted_cell" sIsWt fW fdW) (bW : Binds K fdW ["thing"] []) (gW : mg "is_weighted_cell" = some (.ref fW)) (GW : FnG P w K mg base (k + 4) fW fdW ["thing"] (prKind isWtD))
    (mi : mg "isinstance" = none) (mt : mg "tuple" = none) (ma : mg "all" = none) (mz : mg "zip" = none) : FnG P w K mg base (k + 5) f fd ["thing"] (prKind isRowD) := by
  refine okG F scIsRow (fun vs H Q h => ?_) (fun cdv A outer s H vs Q hr h => ?_)
  · obtain ⟨_, _, _, rfl, _⟩ := h
    rfl
  · obtain ⟨v, d, D, rfl, hd, hs, q⟩ := h
    have hu := hr.room.units0
    refine ⟨_, pss_cons (ps_if (PW.pt (pw_or (pt_not (pt_val (pe_callB call_isi (by rfl) mi (by decide +kernel) (pa_cons (pv 0) (pa_cons (pe_bltn (v := .ty "tuple") (by rfl) mt (by decide +kernel) rfl) pa_nil)))))
        (pw_or1 (pt_not (pt_val (pe_callB (cr_all rfl) (by rfl) ma (by decide +kernel) (pa_cons (pe_lc (own := [("item", 2)]) (g := gName 2) (tt := tYes) rfl scIsRow.nd (pi_tup (pv 0)) (blkOk_by (N := ["thing", "cells", "item", "cell", "weight", "one", "other"]) (sc := defScope sIsRow) (by decide +kernel))
          (fun _ _ _ _ _ => pg_name (i := 2) scIsRow.nd rfl (.inl rfl)) (fun _ _ _ _ _ => pts_nil) (fun _ _ _ _ _ => pe_g GW hr (by rfl) gW FW.kp bW .nil (pa_cons (pv 2) pa_nil))) pa_nil))))))) (pss_one (ps_ret pe_bl)) pss_nil)
      (pss_cons (ps_setLc (i := 1) (own := [("cell", 3), ("weight", 4)]) (g := g2 K 3 4) (tt := tYes) rfl scIsRow.nd rfl rfl (sw_true rfl rfl rfl (by decide +kernel)) (pi_tup (pv 0))
        (blkOk_by (N := ["thing", "cells", "item", "cell", "weight", "one", "other"]) (sc := defScope sIsRow) (by decide +kernel)) (fun _ _ _ _ _ => pg_tup rfl (pgs_cons (pg_name (i := 3) scIsRow.nd rfl (.inl rfl)) (pgs_cons (pg_name (i := 4) scIsRow.nd rfl (.inl rfl)) pgs_nil))) (fun _ _ _ _ _ => pts_nil) (fun _ _ _ _ _ => pv 3))
      (pss_one (ps_ret (pe_callB (cr_all rfl) (by rfl) ma (by decide +kernel) (pa_cons (pe_lc (own := [("one", 5), ("other", 6)]) (g := g2 K 5 6) (tt := tYes) rfl scIsRow.nd (pi_zip (by rfl) mz (pa_cons (pv 1) (pa_cons (pe_slice sl_list (pv 1) (po_some pe_int) po_none) pa_nil)))
        (blkOk_by (N := ["thing", "cells", "item", "cell", "weight", "one", "other"]) (sc := defScope sIsRow) (by decide +kernel)) (fun _ _ _ _ _ => pg_tup rfl (pgs_cons (pg_name (i := 5) scIsRow.nd rfl (.inl rfl)) (pgs_cons (pg_name (i := 6) scIsRow.nd rfl (.inl rfl)) pgs_nil))) (fun _ _ _ _ _ => pts_nil)
        (fun _ _ _ _ _ => pe_cmpR (op_ltC hu) (pv 5) (pv 6) (nomark _))) pa_nil))))), ?_⟩
    have big := sizeBig
    refine iSeq ?_
    refine iIfS (iOr (iNot (iB (isi_call (K := K) (i := 0) (a := tyN d) (b := "tuple") (r := tupB d) (x := v) rfl hd.ty (kit_tup d) ⟨_, rfl, ?_⟩))))
    cases d with
    | tuple ds =>
      obtain ⟨a, xs, rfl, ha, hds⟩ := hd.tup_inv
      obtain ⟨sl, sds⟩ := small_tup hs
      refine iteF ?_
      refine iNot (iB (iCB (iCons ?_)))
      refine lc_kindT (K := K) (i := 0) (a := 2) (σ := [some (.ref a), none, none, none, none, none, none]) isWtD rfl ha hds sds (by show 2 < 7; decide) sl (fun σ' H' x d Q' hx sx sm h2 hq => ?_) (fun H1 L s1 hL => ?_)
      · exact ⟨x, h2, x, d, D, rfl, hx, sx, hq⟩
      · refine ⟨L, _, rfl, sqL hL, _, rfl, ?_⟩
        rw [all_map_id]
        cases hall : ds.all isWtD with
        | false =>
          refine iteT ?_
          have q' : Q (.bl (ds.all isWtD && ascD (keys (rowOfD ds)))) H1 := q H1 s1
          rw [hall, Bool.false_and] at q'
          exact q'
        | true =>
          refine iteF ?_
          obtain ⟨ps, rfl, hp⟩ := row_of hds hall
          have q1 : ∀ H', Same H H' → Q (.bl (ascD (keys (rowOfD ds)))) H' := fun H' sm => by
            have q' : Q (.bl (ds.all isWtD && ascD (keys (rowOfD ds)))) H' := q H' sm
            rw [hall, Bool.true_and] at q'
            exact q'
          have pl : ps.length = (rowOfD ds).length := Paired.length hp
          have rl : (rowOfD ds).length = ds.length := List.length_map _
          generalize rowOfD ds = ρ at hp q1 pl rl
          refine iNext ?_
          dsimp only
          refine iSeq (iAsg ?_)
          refine ⟨.ref a, rfl, a, rfl, ⟨_, sqT (s1 _ _ ha)⟩, fun C hC => ?_⟩
          refine lc_tup (xs := ps.map V.ref) (fun i H' => Same H1 H' ∧ ∃ bs, H' C = some (.lst (bs.map V.ref)) ∧ Paired (CellAt H') bs ((keys ρ).take i) ∧ bs.length ≤ i) ⟨same_new hC, [], upd_same, .nil, Nat.le_refl _⟩ (fun i H' _ h => sqT (h.1 _ _ (s1 _ _ ha))) (fun i x H' hx h => ?_) (fun H2 h => ?_)
          · obtain ⟨sm, bs, hbs, hbp, hbl⟩ := h
            rw [List.getElem?_map] at hx
            cases hpi : ps[i]? with
            | none =>
              rw [hpi] at hx
              cases hx
            | some p =>
              rw [hpi] at hx
              have ex : V.ref p = x := Option.some.inj hx
              subst ex
              have il := (List.getElem?_eq_some_iff.mp hpi).1
              obtain ⟨y, hy, b, h1, h2⟩ := paired_at' hp hpi
              have k1 := (KeepT.of s1).trans (KeepT.of sm)
              have T := turn2 (σ := [some (.ref a), none, none, none, none, none, none]) (a := 3) (b := 4) (v := .ref b) (w := .int y.2) (by show 3 < 7; decide) (by show 4 < 7; decide) (by decide)
              refine ⟨p, [.ref b, .int y.2], rfl, sqT (k1 _ _ h1), rfl, .ref b, [.int y.2], rfl, .int y.2, [], rfl, rfl, ?_⟩
              refine ⟨wipe2 (by decide), iYes (iteT ⟨.ref b, T.fst, _, hbs, by rw [List.length_map]; omega, ?_, bs ++ [b], ?_, ?_, ?_⟩)⟩
              · intro b' o e
                rw [upd_ne (ne_of_none e hC)]
                exact sm _ _ e
              · rw [upd_same, List.map_append]
                rfl
              · have k2 : KeepT H' (upd H' C (.lst (bs.map V.ref ++ [.ref b]))) := KeepT.put hbs fun _ z => nomatch z
                have e : (keys ρ).take (i + 1) = (keys ρ).take i ++ [y.1] := by
                  unfold keys
                  rw [List.take_add_one, List.getElem?_map, hy]
                  rfl
                rw [e]
                exact Paired.snoc (Paired.mapP hbp fun _ _ z => z.keep k2) ((h2.keep k1).keep k2)
              · rw [List.length_append]
                show bs.length + 1 ≤ i + 1
                omega
          · obtain ⟨s2, bs, hbs, hbp, hbl⟩ := h
            have ek : (keys ρ).take (ps.map V.ref).length = keys ρ := List.take_of_length_le (by unfold keys; rw [List.length_map, List.length_map]; omega)
            rw [ek] at hbp
            have kl : bs.length = (keys ρ).length := Paired.length hbp
            have kl2 : (keys ρ).length = ρ.length := List.length_map _
            refine iName ?_
            dsimp only
            refine iRet (iCB (iCons ?_))
            refine ⟨.ref C, rfl, .ref C, rfl, 1, rfl, C, bs.map V.ref, rfl, sqL hbs, fun E hE => ?_⟩
            have ed : cutV (bs.map V.ref) (some 1) none = (bs.drop 1).map V.ref := by
              unfold cutV
              rw [show HT.sIx (bs.map V.ref).length 0 (some 1) = min 1 (bs.map V.ref).length from HT.sIx_nat _ 0 1, HT.sIx_none, List.length_map]
              cases bs with
              | nil => rfl
              | cons x r =>
                rw [show min 1 (x :: r).length = 1 by
                  rw [List.length_cons]
                  omega]
                show (List.take ((x :: r).length - 1) (r.map V.ref)) = r.map V.ref
                rw [List.length_cons, Nat.add_sub_cancel]
                exact List.take_of_length_le (by rw [List.length_map]; exact Nat.le_refl _)
            rw [ed]
            have s3 : Same H2 (upd H2 E (.lst ((bs.drop 1).map V.ref))) := same_new hE
            refine ⟨C, E, bs.map V.ref, (bs.drop 1).map V.ref, rfl, sqL (s3 _ _ hbs), sqL upd_same, fun L3 hL3 => ?_⟩
            have hE3 : (upd H2 E (.lst ((bs.drop 1).map V.ref))) E = some (.lst ((bs.drop 1).map V.ref)) := upd_same
            have hb3 : Paired (CellAt (upd H2 E (.lst ((bs.drop 1).map V.ref)))) bs (keys ρ) := Paired.mapP hbp fun _ _ z => z.keep (KeepT.of s3)
            have hC3 := s3 _ _ hbs
            generalize upd H2 E (.lst ((bs.drop 1).map V.ref)) = H3 at s3 hE3 hb3 hC3 hL3 ⊢
            refine lc_it (walk_zip (K := K) (a := C) (b := E) (xs := bs.map V.ref) (ys := (bs.drop 1).map V.ref) (n := bs.length - 1) (by rw [List.length_map, List.length_map, List.length_drop]; omega)) (fun i H' => Same H3 H' ∧ H' L3 = some (.lst (((List.range i).map (ltAt (keys ρ))).map V.bl))) ⟨same_new hL3, upd_same⟩ (fun i H' _ h => ⟨sqL (h.1 _ _ hC3), sqL (h.1 _ _ hE3)⟩) (fun i x H' H4 hi h hy => ?_) (fun H4 h => ?_)
            · obtain ⟨T, x1, x2, rfl, hT, rfl, f1, f2⟩ := hy
              have f1 : (bs.map V.ref)[i]? = some x1 := f1
              have f2 : ((bs.drop 1).map V.ref)[i]? = some x2 := f2
              have i1 : i < bs.length := by omega
              have i2 : i + 1 < bs.length := by omega
              have e1 : x1 = .ref bs[i] := by
                rw [List.getElem?_map, List.getElem?_eq_getElem i1] at f1
                exact (Option.some.inj f1).symm
              have e2 : x2 = .ref bs[i + 1] := by
                rw [List.getElem?_map, List.getElem?_drop, Nat.add_comm 1 i, List.getElem?_eq_getElem i2] at f2
                exact (Option.some.inj f2).symm
              subst e1 e2
              obtain ⟨c1, hc1, hk1⟩ := paired_at' hb3 (List.getElem?_eq_getElem i1)
              obtain ⟨c2, hc2, hk2⟩ := paired_at' hb3 (List.getElem?_eq_getElem i2)
              have lt : ltC c1 c2 = ltAt (keys ρ) i := by
                unfold ltAt
                rw [List.getD_eq_getElem?_getD, List.getD_eq_getElem?_getD, hc1, hc2]
                rfl
              have sT : Same H' (upd H' T (.tup [.ref bs[i], .ref bs[i + 1]])) := same_new hT
              have kT := (KeepT.of h.1).trans (KeepT.of sT)
              have Tn := turn2 (σ := [some (.ref a), some (.ref C), none, none, none, none, none]) (a := 5) (b := 6) (v := .ref bs[i]) (w := .ref bs[i + 1]) (by show 5 < 7; decide) (by show 6 < 7; decide) (by decide)
              refine ⟨T, [.ref bs[i], .ref bs[i + 1]], rfl, sqT upd_same, rfl, .ref bs[i], [.ref bs[i + 1]], rfl, .ref bs[i + 1], [], rfl, rfl, ?_⟩
              refine ⟨wipe2 (by decide), iYes (iteT ⟨.ref bs[i], Tn.fst, .ref bs[i + 1], Tn.snd, bs[i], bs[i + 1], c1, c2, rfl, rfl, hk1.keep kT, hk2.keep kT, _, sT _ _ h.2, ?_, ?_, ?_⟩)⟩
              · rw [List.length_map, List.length_map, List.length_range]
                omega
              · intro b o e
                rw [upd_ne (ne_of_none e hL3)]
                exact sT _ _ (h.1 _ _ e)
              · rw [upd_same, lt, List.range_succ, List.map_append, List.map_append]
                rfl
            · refine ⟨L3, _, rfl, sqL h.2, ?_⟩
              have := q1 H4 (((s1.trans s2).trans s3).trans h.1)
              unfold ascD at this
              rw [← kl] at this
              exact this
    | _ => exact iteT (q H (Same.refl _))
end
end P51
/-! AskNk: what a set asks of its elements, told for nested keys (texts, numbers, tuples of them). -/
namespace Ask
open PySem PySem.Spec PyProof.Rows L2

/-- v is of no class statement, told n levels down -/
def NoCls (P : Program) (w : World) (n : Nat) (s : Shared) (v : Value) : Prop :=
  ∀ (A : Around) (E : Value → Shared → Prop) (Q : Bool → Shared → Prop), Q false s → wpAny (model P w) A (ofAClassStatement n v) Q E s

theorem NoCls.flat {P : Program} {w : World} {n : Nat} {s : Shared} {v : Value} (e : ofAClassStatement n v = pure false) : NoCls P w n s v :=
  fun A E Q hq => e ▸ wpAny_pure hq

theorem NoCls.tup {P : Program} {w : World} {n : Nat} {s : Shared} {b : Addr} {o : Obj} {items : Array Value} {m : Nat}
    (ho : s.heap.get? b = some o) (hc : o.cls = .type "tuple") (hd : o.data = .seq items m) (hall : ∀ v ∈ items.toList, NoCls P w n s v) :
    NoCls P w (n + 1) s (.ref b) := by
  intro A E Q hq
  have ty : s.TypeIs (.ref b) "tuple" := ⟨o, ho, hc⟩
  unfold ofAClassStatement
  refine wpAny_bind (wpAny_typeOf ty ?_)
  dsimp only
  simp only [show (("tuple" : String) == "tuple") = true from rfl, if_true, Bool.not_true, Bool.false_eq_true, if_false]
  try refine wpAny_bind (wpAny_pure ?_)
  try simp only [Bool.not_true, Bool.false_eq_true, if_false]
  refine wpAny_bind (m := seqItems? (.ref b)) (wpAny_seqItems ho hd ?_)
  dsimp only
  refine wpAny_bind (m := forIn items _ _) ?_
  rw [← Array.forIn_toList]
  let J : List Value → (Option Bool × PUnit) → Shared → Prop := fun r acc u => acc.1 = none ∧ u = s ∧ ∀ v ∈ r, NoCls P w n s v
  refine wpAny_forIn_list _ J _ ?_ ?_ _ _ ⟨rfl, rfl, hall⟩
  · intro v r acc u hJ
    obtain ⟨_, eu, hr⟩ := hJ
    subst eu
    refine wpAny_bind (hr v (List.mem_cons.mpr (.inl rfl)) _ _ _ ?_)
    simp only [Bool.false_eq_true, if_false]
    exact wpAny_pure ⟨rfl, rfl, fun z hz => hr z (List.mem_cons.mpr (.inr hz))⟩
  · intro acc u hJ
    obtain ⟨a1, a2⟩ := acc
    obtain ⟨e1, eu, _⟩ := hJ
    cases e1
    subst eu
    exact wpAny_pure hq

mutual
theorem noCls_key {P : Program} {w : World} : ∀ (k : NestedKey) (v : Value) (n : Nat) (s : Shared), NestedIs s.heap k v → k.depth ≤ n → NoCls P w n s v
  | .none, _, n, s, x, _ => by cases x; exact .flat (by cases n <;> rfl)
  | .num _, _, n, s, x, _ => by cases x <;> exact .flat (by cases n <;> rfl)
  | .text _, _, n, s, x, _ => by cases x; exact .flat (by cases n <;> rfl)
  | .tup ks, _, 0, s, _, hn => absurd hn (by simp only [NestedKey.depth]; omega)
  | .tup ks, _, n + 1, s, x, hn => by
    cases x with
    | tup hg hc hd hk => exact .tup hg hc hd (noCls_keys ks _ n s hk (by simp only [NestedKey.depth] at hn; omega))
theorem noCls_keys {P : Program} {w : World} : ∀ (ks : List NestedKey) (vs : List Value) (n : Nat) (s : Shared), NestedAll s.heap ks vs → NestedKey.depthAll ks ≤ n → ∀ v ∈ vs, NoCls P w n s v
  | [], _, n, s, x, _, v, hv => by cases x; cases hv
  | k :: ks, _, n, s, x, hn, v, hv => by
    cases x with
    | cons x1 x2 =>
      simp only [NestedKey.depthAll] at hn
      cases hv with
      | head => exact noCls_key k _ n s x1 (by omega)
      | tail _ hv => exact noCls_keys ks _ n s x2 (by omega) v hv
end

/-- the element at b is the key k -/
abbrev IsK (P : Program) (w : World) (h : Heap) (k : NestedKey) (b : Addr) : Prop := (nestedKind P w).is h k b

section
variable {P : Program} {w : World} {A : Around} {E : Value → Shared → Prop} {s : Shared}

/-- looking among keys for a key can't be seen -/
theorem seen_key {k : NestedKey} {b : Addr} {Q : Bool → Shared → Prop} (hk : IsK P w s.heap k b) {ys : List Value} (hy : ∀ y ∈ ys, ∃ k' c, y = Value.ref c ∧ IsK P w s.heap k' c) (hq : Q false s) :
    wpAny (model P w) A (searchCouldBeSeen (.ref b) ys) Q E s := by
  unfold searchCouldBeSeen
  let J : List Value → (Option Bool × PUnit) → Shared → Prop := fun r acc u => acc.1 = none ∧ u = s ∧ ∀ y ∈ r, ∃ k' c, y = Value.ref c ∧ IsK P w s.heap k' c
  refine wpAny_bind (wpAny_forIn_list _ J _ ?_ ?_ _ _ ⟨rfl, rfl, hy⟩)
  · intro v r acc u hJ
    obtain ⟨_, eu, hr⟩ := hJ
    subst eu
    obtain ⟨k', c, ev, hc⟩ := hr v (List.mem_cons.mpr (.inl rfl))
    subst ev
    have next : ∀ y ∈ r, ∃ k' c, y = Value.ref c ∧ IsK P w u.heap k' c := fun z hz => hr z (List.mem_cons.mpr (.inr hz))
    dsimp only
    rcases Bool.eq_false_or_eq_true (b == c || (carriedByValue (.ref b) && carriedByValue (.ref c))) with hv | hv
    · exact wp_if_pos hv (wpAny_pure ⟨rfl, rfl, next⟩)
    · refine wp_if_neg (by rw [hv]; decide) ?_
      refine wpAny_bind ((nestedKind P w).quiet hk ?_)
      simp only [Bool.not_true, Bool.false_eq_true, if_false]
      refine wpAny_bind ((nestedKind P w).quiet hc ?_)
      simp only [Bool.not_true, Bool.false_eq_true, if_false]
      refine wpAny_bind (noCls_key k _ 8 u hk.1 hk.2 _ _ _ ?_)
      simp only [Bool.false_eq_true, if_false]
      refine wpAny_bind (noCls_key k' _ 8 u hc.1 hc.2 _ _ _ ?_)
      simp only [Bool.false_eq_true, if_false]
      exact wpAny_pure ⟨rfl, rfl, next⟩
  · intro acc u hJ
    obtain ⟨a1, a2⟩ := acc
    obtain ⟨e1, eu, _⟩ := hJ
    cases e1
    subst eu
    exact wpAny_pure hq
end
end Ask
/-! AskSk: sets of nested keys, fewer than 64: looking for a key. -/
namespace Ask
open PySem PySem.Spec PyProof.Rows L2

abbrev legAt (m : Nat) (h : Int) (c : Nat) : SetTable.Probe := nth m (runAt m (SetTable.bits h % (m + 1)) (SetTable.bits h)) c
theorem adv_clean {m : Nat} {p : SetTable.Probe} (e : p.dummy = none) : (adv m p).dummy = none := by
  unfold adv
  by_cases z : p.more > 0
  · rw [if_pos z]; exact e
  · rw [if_neg z]; exact e
theorem stand_clean (m : Nat) (h : Int) : ∀ c, (legAt m h c).dummy = none
  | 0 => rfl
  | c + 1 => by
    show (nth m _ (c + 1)).dummy = none
    rw [nth_succ]
    exact adv_clean (stand_clean m h c)
theorem stand_on (m : Nat) (h : Int) (c q : Nat) : nth m (legAt m h c) q = legAt m h (c + q) := (nth_add m c _ q).symm

/-- the set at a has the keys of L, each in the object beside it -/
structure SetK (P : Program) (w : World) (h : Heap) (a : Addr) (L : List (Addr × NestedKey)) (es : Array (Int × Value)) (ep : Nat) (t : SetTable) : Prop where
  obj : ∃ o, h.get? a = some o ∧ o.ExactSet ∧ o.data = .set es ep t
  ent : es.toList = L.map fun p => (p.2.hash w, Value.ref p.1)
  tab : TabOk t (L.map fun p => p.2.hash w)
  one : (L.map Prod.snd).Nodup
  keys : ∀ p ∈ L, IsK P w h p.2 p.1
  lead : w.params.followText "set-order" = true ∨ t.led = true
  air : L.length * 5 < t.mask * 3
  few : L.length < 64

section
variable {P : Program} {w : World} {A : Around} {E : Value → Shared → Prop} {s : Shared}
variable {a : Addr} {L : List (Addr × NestedKey)} {es : Array (Int × Value)} {ep : Nat} {t : SetTable}

theorem ent_len {L : List (Addr × NestedKey)} {es : Array (Int × Value)} (e : es.toList = L.map fun p => (p.2.hash w, Value.ref p.1)) : es.size = L.length := by
  rw [← Array.length_toList, e, List.length_map]
theorem fits_of {t : SetTable} {n : Nat} (h1 : t.place.size = n) (h2 : t.dummies = #[]) (h3 : n ≤ t.mask) : t.fits n = true := by
  unfold SetTable.fits SetTable.fill
  rw [h2, Bool.and_eq_true]
  exact ⟨beq_iff_eq.mpr h1, decide_eq_true (by rw [h1]; exact h3)⟩
theorem SetK.places (S : SetK P w s.heap a L es ep t) : t.place.size = L.length := by
  have z := S.tab.sz
  rw [List.length_map] at z
  exact z
theorem SetK.fit (S : SetK P w s.heap a L es ep t) : t.fits es.size = true := by
  have z1 := S.air
  have z2 := ent_len S.ent
  exact fits_of (by rw [z2]; exact S.places) S.tab.dm (by omega)
theorem SetK.at (S : SetK P w s.heap a L es ep t) {i : Nat} {p : Addr × NestedKey} (e : L[i]? = some p) : es[i]? = some (p.2.hash w, Value.ref p.1) := by
  rw [← Array.getElem?_toList, S.ent, List.getElem?_map, e]
  rfl
theorem SetK.hashes (S : SetK P w s.heap a L es ep t) {i : Nat} {p : Addr × NestedKey} (e : L[i]? = some p) : (es[i]?.map (·.1)).getD 0 = p.2.hash w := by
  rw [S.at e]
  rfl
theorem SetK.stays (S : SetK P w s.heap a L es ep t) : ¬ t.gaveWay = true := by
  unfold SetTable.gaveWay
  rw [mask_odd S.tab.mok]
  decide

/-- what lies behind a candidate p whose slot is the q-th of the way -/
theorem behind (S : SetK P w s.heap a L es ep t) {x : Addr} {k : NestedKey} (hx : IsK P w s.heap k x) (room : A.units + 8 < cLine) {Q : SetFound → Shared → Prop} {i q f : Nat} {p : Addr × NestedKey}
    (hp : L[i]? = some p) (hi : t.place.toList[i]? = some (way t.mask (k.hash w) q)) {nx : SetTable.Probe}
    (same : p.2 = k → Q (.there none) s) (other : p.2 ≠ k → wpAny (model P w) A (setSearchFrom a (.ref x) (k.hash w) true f (some nx)) Q E s) :
    wpAny (model P w) A (searchRest a (.ref x) (k.hash w) true f es t (way t.mask (k.hash w) q) i nx) Q E s := by
  obtain ⟨o, ho, _, hd⟩ := S.obj
  have live := slot_live S.tab.ris hi
  have hpk := S.keys p (List.mem_of_getElem? hp)
  unfold searchRest
  rw [S.at hp]
  dsimp only
  refine wpAny_bind (wpAny_holding ((nestedKind P w).eqBool room hpk hx (wpAny_bind (wpAny_setState_of ho hd S.fit ?_))))
  dsimp only
  rcases Classical.em (p.2 = k) with c | c
  · exact wp_if_pos (by simp [c]) (wpAny_pure (same c))
  · refine wp_if_neg (by simp [c]) ?_
    try refine wpAny_bind (wpAny_pure ?_)
    rw [sameMem]
    dsimp only
    simp only [if_true, live, S.at hp]
    refine wpAny_bind (wpAny_isSame_ref_self (wpAny_bind (wpAny_pure ?_)))
    simp only [if_true]
    exact wp_if_neg (by simp [c]) (other c)

/-- from the c-th stand on; K is the first empty slot of the way -/
theorem look (S : SetK P w s.heap a L es ep t) {x : Addr} {k : NestedKey} (hx : IsK P w s.heap k x) (room : A.units + 8 < cLine) {K : Nat} (hb : K < 10 * SetTable.turns t.mask)
    (free : way t.mask (k.hash w) K ∉ t.place.toList) (taken : ∀ c, c < K → way t.mask (k.hash w) c ∈ t.place.toList) {Q : SetFound → Shared → Prop}
    (yes : k ∈ L.map Prod.snd → Q (.there none) s) (no : k ∉ L.map Prod.snd → Q (.free (way t.mask (k.hash w) K) false) s) (f : Nat) :
    ∀ (c : Nat) (st : Option SetTable.Probe), st.getD (t.probeStart (k.hash w)) = legAt t.mask (k.hash w) c → c ≤ K → K < c + f →
      (∀ (i : Nat) (p : Addr × NestedKey), L[i]? = some p → p.2 = k → ∃ d, c ≤ d ∧ d < K ∧ t.place.toList[i]? = some (way t.mask (k.hash w) d)) →
      wpAny (model P w) A (setSearchFrom a (.ref x) (k.hash w) true f st) Q E s := by
  obtain ⟨o, ho, _, hd⟩ := S.obj
  induction f with
  | zero => intro c st _ h1 h2; exact absurd h2 (by omega)
  | succ f ih =>
    intro c st est hc hf ahead
    have onj : ∀ q, (nth t.mask (legAt t.mask (k.hash w) c) q).j = way t.mask (k.hash w) (c + q) := fun q => by rw [stand_on]
    have toK : c + (K - c) = K := by omega
    -- a place before c's way that has the key's hash and is not ahead
    have gone : ∀ (i : Nat) (p : Addr × NestedKey), L[i]? = some p → p.2 = k → (es[i]?.map (·.1)).getD 0 = k.hash w := fun i p e1 e2 => by rw [S.hashes e1, e2]
    rw [setSearchFrom_succ]
    refine wpAny_bind (wpAny_setState_of ho hd S.fit ?_)
    dsimp only
    refine wp_if_neg S.stays ?_
    try refine wpAny_bind (wpAny_pure ?_)
    have told := go_spec t S.tab.ris S.tab.dm (fun i => (es[i]?.map (·.1)).getD 0) (k.hash w) (10 * SetTable.turns t.mask) (K - c) (legAt t.mask (k.hash w) c) (stand_clean _ _ c) (by omega)
      (fun q hq => by rw [onj]; exact taken _ (by omega)) (by rw [onj, toK]; exact free)
    cases told with
    | inr z =>
      obtain ⟨none_, got⟩ := z
      have got' : t.probe (fun i => (es[i]?.map (·.1)).getD 0) (k.hash w) (st.getD (t.probeStart (k.hash w))) = some (.empty (way t.mask (k.hash w) K) none) := by
        rw [est]
        rw [onj, toK] at got
        exact got
      rw [got']
      dsimp only
      refine wpAny_pure (no fun hm => ?_)
      obtain ⟨p, pm, pk⟩ := List.mem_map.mp hm
      obtain ⟨i, hi⟩ := List.mem_iff_getElem?.mp pm
      obtain ⟨d, d1, d2, d3⟩ := ahead i p hi pk
      have ed : c + (d - c) = d := by omega
      exact none_ (d - c) i (by omega) (by rw [onj, ed]; exact d3) (gone i p hi pk)
    | inl z =>
      obtain ⟨q, i, hq, hi, _, before, got⟩ := z
      rw [onj] at hi
      have got' : t.probe (fun i => (es[i]?.map (·.1)).getD 0) (k.hash w) (st.getD (t.probeStart (k.hash w))) = some (.candidate (way t.mask (k.hash w) (c + q)) i (legAt t.mask (k.hash w) (c + (q + 1)))) := by
        rw [est]
        rw [onj, stand_on] at got
        exact got
      rw [got']
      dsimp only
      have il : i < L.length := by
        have := (List.getElem?_eq_some_iff.mp hi).1
        rw [Array.length_toList, S.places] at this
        exact this
      obtain ⟨p, hp⟩ : ∃ p, L[i]? = some p := ⟨_, List.getElem?_eq_getElem il⟩
      have rest : wpAny (model P w) A (searchRest a (.ref x) (k.hash w) true f es t (way t.mask (k.hash w) (c + q)) i (legAt t.mask (k.hash w) (c + (q + 1)))) Q E s := by
        refine behind S hx room hp hi (fun e => yes (List.mem_map.mpr ⟨p, List.mem_of_getElem? hp, e⟩)) fun ne => ?_
        refine ih (c + (q + 1)) _ rfl (by omega) (by omega) fun i' p' h' k' => ?_
        obtain ⟨d, d1, d2, d3⟩ := ahead i' p' h' k'
        refine ⟨d, ?_, d2, d3⟩
        rcases Nat.lt_trichotomy d (c + q) with y | y | y
        · have ed : c + (d - c) = d := by omega
          exact absurd (gone i' p' h' k') (before (d - c) i' (by omega) (by rw [onj, ed]; exact d3))
        · rw [y] at d3
          have e1 := (slot_live S.tab.ris d3).symm.trans (slot_live S.tab.ris hi)
          injection e1 with e1
          rw [e1, hp] at h'
          cases h'
          exact absurd k' ne
        · omega
      rcases Classical.em (t.led = true) with c1 | c1
      · refine wp_if_neg (by simp [c1]) ?_
        try refine wpAny_bind (wpAny_pure ?_)
        exact rest
      · refine wp_if_pos (by simp [c1]) (wpAny_bind (seen_key hx (fun y hy => ?_) (wp_if_neg (by decide) ?_)))
        · obtain ⟨e, he, rfl⟩ := List.mem_map.mp hy
          have m : e ∈ es.toList := by
            have z : e ∈ es ∧ e.1 = k.hash w := by simpa using he
            simpa using z.1
          rw [S.ent] at m
          obtain ⟨p2, m2, rfl⟩ := List.mem_map.mp m
          exact ⟨p2.2, p2.1, rfl, S.keys p2 m2⟩
        · try refine wpAny_bind (wpAny_pure ?_)
          exact rest

/-- looking for a key that is to be put in -/
theorem lookup (S : SetK P w s.heap a L es ep t) {x : Addr} {k : NestedKey} (hx : IsK P w s.heap k x) (room : A.units + 8 < cLine) {Q : SetFound → Shared → Prop} (yes : k ∈ L.map Prod.snd → Q (.there none) s)
    (no : ∀ K, k ∉ L.map Prod.snd → way t.mask (k.hash w) K ∉ t.place.toList → (∀ c, c < K → way t.mask (k.hash w) c ∈ t.place.toList) → Q (.free (way t.mask (k.hash w) K) false) s) :
    wpAny (model P w) A (setSearch a (.ref x) (k.hash w) true) Q E s := by
  have air := S.air
  obtain ⟨K, small, free, taken⟩ := S.tab.first (by rw [List.length_map]; omega) (k.hash w)
  have tm : SetTable.turns t.mask ≤ 142 := by
    unfold SetTable.turns
    rcases S.tab.mok with e | e | e <;> omega
  unfold setSearch
  refine look S hx room small free taken yes (fun n => no K n free taken) 100000 0 none rfl (Nat.zero_le _) (by omega) fun i p hp pk => ?_
  have il : i < t.place.toList.length := by
    rw [Array.length_toList, S.places]
    exact (List.getElem?_eq_some_iff.mp hp).1
  have hh : (L.map fun p => p.2.hash w)[i]? = some (k.hash w) := by
    rw [List.getElem?_map, hp, ← pk]
    rfl
  obtain ⟨d, d1, d2⟩ := S.tab.before free hh (List.getElem?_eq_getElem il)
  exact ⟨d, Nat.zero_le _, d1, by rw [List.getElem?_eq_getElem il, d2]⟩
end
end Ask
/-! AskAk: sets of nested keys, fewer than 64: putting a key in. -/
namespace Ask
open PySem PySem.Spec PyProof.Rows L2

/-- asked whether its hash is one by value, v answers something, n levels down -/
def ByVal (P : Program) (w : World) (n : Nat) (s : Shared) (v : Value) : Prop :=
  ∀ (A : Around) (E : Value → Shared → Prop) (Q : Bool → Shared → Prop), (∀ b, Q b s) → wpAny (model P w) A (hashByValue n v) Q E s
theorem ByVal.flat {P : Program} {w : World} {n : Nat} {s : Shared} {v : Value} {c : Bool} (e : hashByValue n v = pure c) : ByVal P w n s v :=
  fun A E Q hq => e ▸ wpAny_pure (hq c)
theorem ByVal.tup {P : Program} {w : World} {n : Nat} {s : Shared} {b : Addr} {o : Obj} {items : Array Value} {m : Nat}
    (ho : s.heap.get? b = some o) (hc : o.cls = .type "tuple") (hd : o.data = .seq items m) (hall : ∀ v ∈ items.toList, ByVal P w n s v) :
    ByVal P w (n + 1) s (.ref b) := by
  intro A E Q hq
  have ty : s.TypeIs (.ref b) "tuple" := ⟨o, ho, hc⟩
  unfold hashByValue
  refine wpAny_bind (wpAny_specialOf ty F.slot_tuple_hash.lookup ?_)
  refine wpAny_bind (m := seqItems? (.ref b)) (wpAny_seqItems ho hd ?_)
  refine wpAny_bind (m := forIn items _ _) ?_
  rw [← Array.forIn_toList]
  let J : List Value → (Option Bool × PUnit) → Shared → Prop := fun r acc u => acc.1 = none ∧ u = s ∧ ∀ v ∈ r, ByVal P w n s v
  refine wpAny_forIn_list _ J _ ?_ ?_ _ _ ⟨rfl, rfl, hall⟩
  · intro v r acc u hJ
    obtain ⟨_, eu, hr⟩ := hJ
    subst eu
    refine wpAny_bind (hr v (List.mem_cons.mpr (.inl rfl)) _ _ _ fun c => ?_)
    cases c with
    | true =>
      simp only [Bool.not_true, Bool.false_eq_true, if_false]
      exact wpAny_pure ⟨rfl, rfl, fun z hz => hr z (List.mem_cons.mpr (.inr hz))⟩
    | false =>
      simp only [Bool.not_false, if_true]
      exact wpAny_pure (wpAny_pure (hq false))
  · intro acc u hJ
    obtain ⟨a1, a2⟩ := acc
    obtain ⟨e1, eu, _⟩ := hJ
    cases e1
    subst eu
    exact wpAny_pure (hq true)
mutual
theorem byVal_key {P : Program} {w : World} : ∀ (k : NestedKey) (v : Value) (n : Nat) (s : Shared), NestedIs s.heap k v → k.depth ≤ n → ByVal P w n s v
  | .none, _, n, s, x, _ => by cases x; exact .flat (c := true) (by cases n <;> rfl)
  | .num _, _, n, s, x, _ => by cases x <;> exact .flat (c := true) (by cases n <;> rfl)
  | .text _, _, n, s, x, _ => by cases x; exact .flat (c := false) (by cases n <;> rfl)
  | .tup ks, _, 0, s, _, hn => absurd hn (by simp only [NestedKey.depth]; omega)
  | .tup ks, _, n + 1, s, x, hn => by
    cases x with
    | tup hg hc hd hk => exact .tup hg hc hd (byVal_keys ks _ n s hk (by simp only [NestedKey.depth] at hn; omega))
theorem byVal_keys {P : Program} {w : World} : ∀ (ks : List NestedKey) (vs : List Value) (n : Nat) (s : Shared), NestedAll s.heap ks vs → NestedKey.depthAll ks ≤ n → ∀ v ∈ vs, ByVal P w n s v
  | [], _, n, s, x, _, v, hv => by cases x; cases hv
  | k :: ks, _, n, s, x, hn, v, hv => by
    cases x with
    | cons x1 x2 =>
      simp only [NestedKey.depthAll] at hn
      cases hv with
      | head => exact byVal_key k _ n s x1 (by omega)
      | tail _ hv => exact byVal_keys ks _ n s x2 (by omega) v hv
end

/-- a key stays when a set changes -/
theorem isK_past {P : Program} {w : World} {h h' : Heap} {k : NestedKey} {a b : Addr} {o : Obj} {es : Array (Int × Value)} {ep : Nat} {t : SetTable}
    (hb : IsK P w h k b) (ho : h.get? a = some o) (hd : o.data = .set es ep t) (sb : Heap.SameBut a h h') : IsK P w h' k b := by
  refine ⟨NestedIs.at (fun c u vs n hc hv => ?_) k _ hb.1, hb.2⟩
  refine (sb.2 c fun e => ?_).trans hc
  rw [e, ho] at hc
  cases hc
  rw [hd] at hv
  exact nomatch hv
theorem isK_kept {P : Program} {w : World} {h h' : Heap} {k : NestedKey} {b : Addr} (hb : IsK P w h k b) (keep : ∀ c o, h.get? c = some o → h'.get? c = some o) : IsK P w h' k b :=
  ⟨NestedIs.at (fun c u _ _ hc _ => keep c u hc) k _ hb.1, hb.2⟩

section
variable {P : Program} {w : World}
abbrev entOf (w : World) (L : List (Addr × NestedKey)) : List (Int × Value) := L.map fun p => (p.2.hash w, Value.ref p.1)

/-- what a new order of the places makes of the entries -/
theorem picked {α : Type} (L : List α) : ∀ n, n ≤ L.length → (List.range n).filterMap (fun i => L[i]?) = L.take n
  | 0, _ => rfl
  | n + 1, h => by
    have z : L[n]? = some L[n] := List.getElem?_eq_getElem h
    rw [List.range_succ, List.filterMap_append, picked L n (by omega), List.take_succ, z, List.filterMap_cons_some z]
    rfl
theorem reorder {L : List (Addr × NestedKey)} {es : Array (Int × Value)} {order : Array Nat} (hr : es.toList = entOf w L) (hp : order.toList.Perm (List.range L.length)) :
    ∃ M, (order.filterMap (es[·]?)).toList = entOf w M ∧ M.Perm L ∧ (M.map fun p => p.2.hash w) = order.toList.map fun i => (es.map (·.1)).getD i 0 := by
  have one : ∀ i, i < L.length → ∃ p, L[i]? = some p ∧ es[i]? = some (p.2.hash w, Value.ref p.1) := fun i h => by
    refine ⟨L[i], List.getElem?_eq_getElem h, ?_⟩
    rw [← Array.getElem?_toList, hr, List.getElem?_map, List.getElem?_eq_getElem h]
    rfl
  have all : ∀ l : List Nat, (∀ i ∈ l, i < L.length) → l.filterMap (fun i => es[i]?) = entOf w (l.filterMap fun i => L[i]?) ∧
      (l.filterMap fun i => L[i]?).map (fun p => p.2.hash w) = l.map fun i => (es.map (·.1)).getD i 0 := by
    intro l
    induction l with
    | nil => exact fun _ => ⟨rfl, rfl⟩
    | cons i l ih =>
      intro hl
      obtain ⟨p, e1, e2⟩ := one i (hl i (List.mem_cons.mpr (.inl rfl)))
      obtain ⟨i1, i2⟩ := ih fun j hj => hl j (List.mem_cons.mpr (.inr hj))
      have e3 : (es.map (·.1)).getD i 0 = p.2.hash w := by
        have e4 : (es.map (·.1))[i]? = some (p.2.hash w) := by
          rw [Array.getElem?_map, e2]
          rfl
        simp [Array.getD_eq_getD_getElem?, e4]
      refine ⟨?_, ?_⟩
      · rw [List.filterMap_cons_some e2, List.filterMap_cons_some e1, i1]
        rfl
      · rw [List.filterMap_cons_some e1, List.map_cons, List.map_cons, i2, e3]
  obtain ⟨z1, z2⟩ := all order.toList fun i hi => List.mem_range.mp (hp.mem_iff.mp hi)
  refine ⟨_, by first | (rw [Array.toList_filterMap]; exact z1) | simpa using z1, ?_, z2⟩
  have z3 := hp.filterMap fun i => L[i]?
  rw [picked L L.length (Nat.le_refl _), List.take_length] at z3
  exact z3

variable {A : Around} {E : Value → Shared → Prop} {s : Shared} {a : Addr} {L : List (Addr × NestedKey)} {es : Array (Int × Value)} {ep : Nat} {t : SetTable}

/-- all laid anew in a larger table -/
theorem regrow {o : Obj} (ho : s.heap.get? a = some o) (hex : o.ExactSet) (hd : o.data = .set es ep t) (ent : es.toList = entOf w L) (hsz : t.place.size = es.size) (hdm : t.dummies = #[]) (hfl : es.size ≤ t.mask)
    (one : (L.map Prod.snd).Nodup) (keys : ∀ p ∈ L, IsK P w s.heap p.2 p.1) (lead : w.params.followText "set-order" = true ∨ t.led = true) (few : L.length < 64) {want M : Nat}
    (big : SetTable.sizeAbove want - 1 = M) (mok : MaskOk M) (top : SetTable.sizeAbove want ≤ 128) (air : L.length * 5 < M * 3) {Q : Unit → Shared → Prop}
    (hQ : ∀ h' L' es' ep' t', Heap.SameBut a s.heap h' → SetK P w h' a L' es' ep' t' → L'.Perm L → Q () { s with heap := h' }) : wpAny (model P w) A (setRelay a want) Q E s := by
  have n1 : es.size = L.length := ent_len ent
  obtain ⟨u, order, e, hp, tab, em, el, _, _⟩ := relaid_ok t (hs := es.map (·.1)) (wanted := want) big mok (by rw [Array.size_map, n1]; omega)
  rw [Array.size_map, n1] at hp
  obtain ⟨M', m1, m2, m3⟩ := reorder ent hp
  rw [← m3] at tab
  have n2 : (order.filterMap (es[·]?)).size = es.size := by rw [ent_len m1, m2.length_eq, n1]
  rw [setRelay_eq]
  refine wpAny_bind (wpAny_setState_of ho hd (fits_of hsz hdm hfl) ?_)
  dsimp only
  refine wp_if_neg (by rw [sizeLine_eq]; omega) ?_
  try refine wpAny_bind (wpAny_pure ?_)
  rw [e]
  dsimp only
  refine wpAny_bind (wp_if_neg (by rw [n2]; simp) ?_)
  try refine wpAny_bind (wpAny_pure ?_)
  refine wpAny_pure ?_
  dsimp only
  refine wpAny_storeSet_of ho hd ?_ (by rw [n2, n1, sizeLine_eq]; omega)
  have sb : Heap.SameBut a s.heap (s.heap.update a (Obj.putSet (order.filterMap (es[·]?)) u)) := Heap.SameBut.update ..
  refine hQ _ M' _ (ep + 1) u sb ⟨⟨_, store_at ho hd, ⟨hex.1, hex.2.1, hex.2.2⟩, rfl⟩, m1, tab, (m2.map Prod.snd).nodup_iff.mpr one, fun p hpm => isK_past (keys p (m2.mem_iff.mp hpm)) ho hd sb, el ▸ lead, ?_, ?_⟩ m2
  · rw [m2.length_eq, em]; exact air
  · rw [m2.length_eq]; exact few
end
end Ask
/-! AskBk: one key put into a set of nested keys. -/
namespace Ask
open PySem PySem.Spec PyProof.Rows L2
theorem tab_flag {t : SetTable} {hs : List Int} (T : TabOk t hs) (b : Bool) : TabOk { t with plain := b } hs :=
  ⟨T.ris, T.dm, T.sz, T.mok, T.bd, T.reach⟩
section
variable {P : Program} {w : World} {A : Around} {E : Value → Shared → Prop} {s : Shared} {a : Addr} {L : List (Addr × NestedKey)} {es : Array (Int × Value)} {ep : Nat} {t : SetTable}

/-- the end of putting in: the new entries e1 and the new table u are stored, and all is laid anew if it is too full -/
theorem putEnd (S : SetK P w s.heap a L es ep t) {x : Addr} {k : NestedKey} (hx : IsK P w s.heap k x) (nw : k ∉ L.map Prod.snd) (few : L.length + 1 < 64) {e1 : Array (Int × Value)} {u : SetTable} {L1 : List (Addr × NestedKey)}
    (pm : L1.Perm ((x, k) :: L)) (ent : e1.toList = entOf w L1) (tab : TabOk u (L1.map fun p => p.2.hash w)) (em : u.mask = t.mask) (el : u.led = t.led) (ef : u.fill = L.length + 1) {Q : Bool → Shared → Prop}
    (hQ : ∀ h' L' es' ep' t', Heap.SameBut a s.heap h' → SetK P w h' a L' es' ep' t' → L'.Perm ((x, k) :: L) → Q true { s with heap := h' }) :
    wpAny (model P w) A (do
      storeSet a e1 u
      if !false && u.tooFull then setRelay a (SetTable.grown (es.size + 1))
      return true) Q E s := by
  obtain ⟨o, ho, hex, hd⟩ := S.obj
  have n0 := ent_len S.ent
  have air := S.air
  have n1 : L1.length = L.length + 1 := pm.length_eq
  have n2 : e1.size = L.length + 1 := by rw [ent_len ent, n1]
  refine wpAny_bind (wpAny_storeSet_of ho hd ?_ (by rw [n2, sizeLine_eq]; omega))
  have sb : Heap.SameBut a s.heap (s.heap.update a (Obj.putSet e1 u)) := Heap.SameBut.update ..
  have ho1 := store_at (es' := e1) (t' := u) ho hd
  generalize s.heap.update a (Obj.putSet e1 u) = h1 at sb ho1 ⊢
  have keys : ∀ p ∈ L1, IsK P w h1 p.2 p.1 := fun p hp => by
    cases List.mem_cons.mp (pm.mem_iff.mp hp) with
    | inl e => exact e ▸ isK_past hx ho hd sb
    | inr m => exact isK_past (S.keys p m) ho hd sb
  have one : (L1.map Prod.snd).Nodup := (pm.map Prod.snd).nodup_iff.mpr (List.nodup_cons.mpr ⟨nw, S.one⟩)
  have lead : w.params.followText "set-order" = true ∨ u.led = true := el ▸ S.lead
  have full : u.tooFull = decide ((L.length + 1) * 5 ≥ u.mask * 3) := by
    unfold SetTable.tooFull
    rw [ef]
  rcases Classical.em ((L.length + 1) * 5 ≥ u.mask * 3) with c | c
  · have hf : u.tooFull = true := by rw [full]; exact decide_eq_true c
    have size : (t.mask = 7 ∧ L.length = 4) ∨ (t.mask = 31 ∧ L.length = 18) := by
      rw [em] at c
      rcases S.tab.mok with e | e | e
      · exact .inl ⟨e, by rw [e] at c air; omega⟩
      · exact .inr ⟨e, by rw [e] at c air; omega⟩
      · rw [e] at c; omega
    have hp : u.place.size = e1.size := by
      have z := tab.sz
      rw [List.length_map, n1] at z
      rw [z, n2]
    have go : ∀ M, SetTable.sizeAbove (SetTable.grown (L.length + 1)) = M + 1 → MaskOk M → M ≤ 127 → (L.length + 1) * 5 < M * 3 →
        wpAny (model P w) A (setRelay a (SetTable.grown (L.length + 1))) (fun _ s' => wpAny (model P w) A (pure true) Q E s') E { s with heap := h1 } := fun M g1 g2 g3 g4 => by
      refine regrow (s := { s with heap := h1 }) ho1 ⟨hex.1, hex.2.1, hex.2.2⟩ rfl ent hp tab.dm (by rw [n2, em]; rcases size with ⟨e, e'⟩ | ⟨e, e'⟩ <;> omega) one keys lead (by omega) (M := M) (by omega) g2 (by omega) (by omega) ?_
      intro h2 L2 es2 ep2 t2 sb2 S2 pm2
      exact wpAny_pure (hQ h2 L2 es2 ep2 t2 (sb.trans sb2) S2 (pm2.trans pm))
    rw [n0]
    first
      | (refine wpAny_bind ?_; refine wp_if_pos (by simp [hf]) ?_)
      | (refine wp_if_pos (by simp [hf]) ?_; refine wpAny_bind ?_)
    rcases size with ⟨_, e⟩ | ⟨_, e⟩
    · exact go 31 (by rw [e]; exact size_20) (.inr (.inl rfl)) (by decide) (by omega)
    · exact go 127 (by rw [e]; exact size_76) (.inr (.inr rfl)) (by decide) (by omega)
  · have hf : u.tooFull = false := by rw [full]; exact decide_eq_false c
    first
      | refine wp_if_neg (by simp [hf]) ?_
      | (refine wpAny_bind ?_; refine wp_if_neg (by simp [hf]) ?_; refine wpAny_pure ?_)
    refine wpAny_pure (hQ h1 L1 e1 (ep + 1) u sb ⟨⟨_, ho1, ⟨hex.1, hex.2.1, hex.2.2⟩, rfl⟩, ent, tab, one, keys, lead, by omega, by omega⟩ pm)

/-- a key put in -/
theorem putKey (S : SetK P w s.heap a L es ep t) {x : Addr} {k : NestedKey} (hx : IsK P w s.heap k x) (room : A.units + 8 < cLine) (few : L.length + 1 < 64) {Q : Bool → Shared → Prop}
    (hQ : ∀ b h' L' es' ep' t', Heap.SameBut a s.heap h' → SetK P w h' a L' es' ep' t' → (k ∈ L.map Prod.snd → L' = L) → (k ∉ L.map Prod.snd → L'.Perm ((x, k) :: L)) → Q b { s with heap := h' }) :
    wpAny (model P w) A (setAddHashed a (.ref x) (k.hash w)) Q E s := by
  obtain ⟨o, ho, hex, hd⟩ := S.obj
  unfold setAddHashed
  refine wpAny_holding ?_
  rw [show (100000 : Nat) = 99999 + 1 from rfl, setAddHashedIn_succ]
  refine wpAny_bind (wpAny_setState_of ho hd S.fit ?_)
  dsimp only
  refine wp_if_neg (by simp [byScan, Value.scannable]) ?_
  try refine wpAny_bind (wpAny_pure ?_)
  refine wpAny_bind (lookup S hx room (fun m => ?_) fun K m free taken => ?_)
  · exact wpAny_pure (hQ false s.heap L es ep t (Heap.SameBut.refl a s.heap) S (fun _ => rfl) fun z => absurd m z)
  · dsimp only
    refine wpAny_bind (wpAny_setState_of ho hd S.fit ?_)
    dsimp only
    obtain ⟨q1, q2, q3, q4, q5, q6, q7, q8, q9⟩ := S.tab.put free taken
    generalize hpt : t.put (way t.mask (k.hash w) K) = pt at q1 q3 q4 q5 q6 q7 q8 q9 ⊢
    obtain ⟨u, p⟩ := pt
    dsimp only at q1 q3 q4 q5 q6 q7 q8 q9 ⊢
    subst q1
    generalize hpp : SetTable.below t.place (way t.mask (k.hash w) K) = p at q2 q3 ⊢
    have pm := put_perm L p (x, k)
    have ent : (SetTable.insertAt es p (k.hash w, Value.ref x)).toList = entOf w (L.take p ++ (x, k) :: L.drop p) := by
      rw [SetTable.toList_insertAt, S.ent]
      show _ = List.map _ _
      rw [List.map_append, List.map_cons, List.map_take, List.map_drop]
    have hh : (L.take p ++ (x, k) :: L.drop p).map (fun p => p.2.hash w) = (L.map fun p => p.2.hash w).take p ++ k.hash w :: (L.map fun p => p.2.hash w).drop p := by
      rw [List.map_append, List.map_cons, List.map_take, List.map_drop]
    rw [← hh] at q3
    have q9' : u.fill = L.length + 1 := by rw [q9, List.length_map]
    have fin : ∀ b : Bool, wpAny (model P w) A (do
        let t2 := if b then u else { u with plain := false }
        storeSet a (SetTable.insertAt es p (k.hash w, Value.ref x)) t2
        if !false && t2.tooFull then setRelay a (SetTable.grown (es.size + 1))
        return true) Q E s := fun b => by
      cases b with
      | true => exact putEnd S hx m few pm ent q3 q4 q5 q9' fun h' L' es' ep' t' r1 r2 r3 => hQ true h' L' es' ep' t' r1 r2 (fun z => absurd z m) fun _ => r3
      | false => exact putEnd S hx m few pm ent (tab_flag q3 false) q4 q5 q9' fun h' L' es' ep' t' r1 r2 r3 => hQ true h' L' es' ep' t' r1 r2 (fun z => absurd z m) fun _ => r3
    rcases Bool.eq_false_or_eq_true u.plain with c | c
    · first
        | (refine wpAny_bind ?_; refine wp_if_pos c ?_; exact byVal_key k _ 8 s hx.1 hx.2 _ _ _ fin)
        | exact wp_if_pos c (wpAny_bind (byVal_key k _ 8 s hx.1 hx.2 _ _ _ fin))
    · have c' : ¬ u.plain = true := by rw [c]; decide
      first
        | (refine wpAny_bind ?_; refine wp_if_neg c' ?_; exact wpAny_pure (fin true))
        | exact wp_if_neg c' (fin true)
end
end Ask
/-! AskSo: sorted of a set of nested keys, by any order that the keys can be told by. -/
namespace Ask
open PySem PySem.Spec PyProof.Rows L2
section
variable {P : Program} {w : World} {A : Around} {E : Value → Shared → Prop} {s : Shared} {a : Addr} {L : List (Addr × NestedKey)} {es : Array (Int × Value)} {ep : Nat} {t : SetTable}
theorem sortedK (S : SetK P w s.heap a L es ep t) (calm : A.handled = none) {ltv : Value → Value → Bool} (O : SrtO.Swo ltv)
    (can : ∀ (vs : List Value), vs.Perm (L.map fun p => Value.ref p.1) → 2 ≤ vs.length → ∀ (s1 : Shared) (l : Addr), s1.heap.get? l = some (seqObj "list" vs.toArray 0) →
      (∀ b o, s.heap.get? b = some o → b ≠ l ∧ s1.heap.get? b = some o) → SrtO.SortableO P w A.in1.in1 s1 l vs ltv) {Q : Value → Shared → Prop}
    (hQ : ∀ (s' : Shared) (p : Addr) (out : List Value) (c : Nat), (∀ b o, s.heap.get? b = some o → s'.heap.get? b = some o) → s'.gens = s.gens → s'.os = s.os → s.heap.objs.size ≤ p →
      s'.heap.get? p = some (seqObj "list" out.toArray c) → out.Perm (L.map fun p => Value.ref p.1) → SrtO.Srtd ltv out → Q (.ref p) s') :
    wpAny (model P w) A (call (.builtin "sorted") [.ref a]) Q E s := by
  obtain ⟨o, ho, hex, hd⟩ := S.obj
  have n0 := ent_len S.ent
  have few := S.few
  refine Calls.call_function_entry kind_sorted plain_sorted entry_sorted (args_sorted1 _) ?_
  unfold Builtin.«sorted»
  refine wpAny_bind (m := checkCount "sorted" 1 1 _) (wpAny_pure ?_)
  refine wpAny_bind (collect_set (A := A.in1) calm ⟨o, ho, hex.1, hd⟩ S.fit (by unfold scanBound; omega) S.tab.ris S.lead ?_)
  intro s1 vs keep grow g1 o1 pm
  have vals : es.toList.map (·.2) = L.map fun p => Value.ref p.1 := by
    rw [S.ent, List.map_map]
    rfl
  rw [vals] at pm
  have short : vs.length < 64 := by
    rw [pm.length_eq, List.length_map]
    exact few
  refine wpAny_bind (wpAny_newList ?_ (by rw [sizeLine_eq]; omega))
  have at0 : (s1.heap.push (seqObj "list" vs.toArray 0)).get? s1.heap.objs.size = some (seqObj "list" vs.toArray 0) := Heap.get?_push_size _ rfl
  have past : ∀ b u, s.heap.get? b = some u → b ≠ s1.heap.objs.size ∧ (s1.heap.push (seqObj "list" vs.toArray 0)).get? b = some u := fun b u e =>
    ⟨Nat.ne_of_lt (Heap.lt_size (keep b u e)), Heap.get?_push_of_some _ (keep b u e)⟩
  refine wpAny_bind (wpAny_holding (wpAny_call_entry slot_list_sort ⟨_, at0, rfl⟩ entry_list_sort
    (SrtO.list_sort_ord (s := { s1 with heap := s1.heap.push (seqObj "list" vs.toArray 0) }) O at0 (by rw [sizeLine_eq]; omega) (fun h2 => can vs pm h2 _ _ at0 past) fun out ord stb => ⟨_, rfl, ?_⟩) (args_list_sort _)))
  obtain ⟨c, hc⟩ := sortedHeap_at (vs := vs) (out := out.toArray) at0
  refine wpAny_pure ⟨_, rfl, hQ _ s1.heap.objs.size out c (fun b u e => ?_) g1 o1 grow hc (stb.perm.trans pm) ord⟩
  obtain ⟨ne, e2⟩ := past b u e
  show (sortedHeap (s1.heap.push (seqObj "list" vs.toArray 0)) s1.heap.objs.size vs out.toArray).get? b = some u
  rw [sortedHeap_old ne (Heap.lt_size e2)]
  exact e2
end
end Ask
/-! sorted(..) of a list of pairs of a cell and a weight. -/
namespace AskG
open PySem PySem.Spec PyProof.Rows L2
def ltX (x y : Cell × Int) : Bool := if x.1 = y.1 then decide (x.2 < y.2) else ltC x.1 y.1
theorem ltX_iff {x y : Cell × Int} : ltX x y = true ↔ ltC x.1 y.1 = true ∨ (x.1 = y.1 ∧ x.2 < y.2) := by
  unfold ltX
  by_cases e : x.1 = y.1
  · rw [if_pos e, decide_eq_true_eq]
    constructor
    · exact fun h => .inr ⟨e, h⟩
    · rintro (h | h)
      · rw [e, ltC_irr] at h
        cases h
      · exact h.2
  · rw [if_neg e]
    constructor
    · exact fun h => .inl h
    · rintro (h | h)
      · exact h
      · exact absurd h.1 e
theorem ltX_tri (x y : Cell × Int) : ltX x y = true ∨ x = y ∨ ltX y x = true := by
  rcases ltC_tri x.1 y.1 with h | h | h
  · exact .inl (ltX_iff.mpr (.inl h))
  · rcases Int.lt_trichotomy x.2 y.2 with g | g | g
    · exact .inl (ltX_iff.mpr (.inr ⟨h, g⟩))
    · exact .inr (.inl (Prod.ext h g))
    · exact .inr (.inr (ltX_iff.mpr (.inr ⟨h.symm, g⟩)))
  · exact .inr (.inr (ltX_iff.mpr (.inl h)))
theorem ltX_trans {x y z : Cell × Int} (h1 : ltX x y = true) (h2 : ltX y z = true) : ltX x z = true := by
  refine ltX_iff.mpr ?_
  rcases ltX_iff.mp h1 with a | ⟨a, a'⟩ <;> rcases ltX_iff.mp h2 with b | ⟨b, b'⟩
  · exact .inl (ltC_trans a b)
  · exact .inl (b ▸ a)
  · exact .inl (a ▸ b)
  · exact .inr ⟨a.trans b, Int.lt_trans a' b'⟩
theorem ltX_irr (x : Cell × Int) : ltX x x = false := by
  cases h : ltX x x with
  | false => rfl
  | true =>
    rcases ltX_iff.mp h with a | ⟨_, a⟩
    · rw [ltC_irr] at a
      cases a
    · exact absurd a (Int.lt_irrefl _)
theorem ltX_asym {x y : Cell × Int} (h : ltX x y = true) : ltX y x = false := by
  cases g : ltX y x with
  | false => rfl
  | true =>
    have := ltX_trans h g
    rw [ltX_irr] at this
    cases this
theorem swo_X {α : Type} (k : α → Cell × Int) : SrtO.Swo fun v u => ltX (k v) (k u) := by
  refine ⟨fun x y h => ltX_asym h, fun x y z h1 h2 => ?_⟩
  cases g : ltX (k z) (k x) with
  | false => rfl
  | true =>
    rcases ltX_tri (k x) (k y) with a | a | a
    · have := ltX_trans g a
      rw [h2] at this
      cases this
    · rw [← a, g] at h2
      cases h2
    · rw [h1] at a
      cases a
/-- the value is a tuple of a cell and an int -/
def IsPr (h : Heap) (v : Value) (x : Cell × Int) : Prop := ∃ (a b : Addr) (t : Tok), v = .ref a ∧ IsTup h a #[.ref b, .int x.2 t] ∧ IsCl h (.ref b) x.1
theorem IsPr.keeps {h h' : Heap} {v : Value} {x : Cell × Int} (p : IsPr h v x) (k : ∀ b o, h.get? b = some o → o.cls = .type "tuple" → h'.get? b = some o) : IsPr h' v x := by
  obtain ⟨a, b, t, e, ⟨o, ho, hc, r⟩, c⟩ := p
  exact ⟨a, b, t, e, ⟨o, k _ _ ho hc, hc, r⟩, c.keeps k⟩
section
variable {prog : Program} {w : World} {A : Around} {E : Value → Shared → Prop} {s : Shared}
theorem cells_lt {a b : Addr} {c d : Cell} (ha : IsCl s.heap (.ref a) c) (hb : IsCl s.heap (.ref b) d) (hu : A.units < cLine) : Ob.RcOp .Lt A s (.ref a) (.ref b) (ltC c d) := by
  obtain ⟨a', t, t', e, ht⟩ := ha
  cases e
  obtain ⟨b', u, u', e, hu2⟩ := hb
  cases e
  have R := Ob.RcOp.tuples_lt (A := A) (s := s) (e := fun j => if j = 0 then c.1 == d.1 else c.2 == d.2)
    (r := fun j => if j = 0 then decide (c.1.cps.toList < d.1.cps.toList) else decide (c.2 < d.2)) ht hu2 hu
    (fun j h1 h2 => by
      have h1 : j < 2 := h1
      match j, h1 with
      | 0, _ => exact SeqAt.EqAt.str_str c.1 t d.1 u
      | 1, _ => exact SeqAt.EqAt.int_int c.2 t' d.2 u')
    (fun j h1 h2 _ => by
      have h1 : j < 2 := h1
      match j, h1 with
      | 0, _ => exact fun _ _ _ _ h => PyProof.Rows.lt_str h
      | 1, _ => exact fun _ _ _ _ h => PyProof.Rows.lt_int h)
  have e : Ob.lexAt (fun j => if j = 0 then c.1 == d.1 else c.2 == d.2) (fun j => if j = 0 then decide (c.1.cps.toList < d.1.cps.toList) else decide (c.2 < d.2)) (decide (2 < 2)) 0 (min 2 2) = ltC c d := by
    show (if (c.1 == d.1) = true then (if (c.2 == d.2) = true then decide (2 < 2) else decide (c.2 < d.2)) else decide (c.1.cps.toList < d.1.cps.toList)) = ltC c d
    unfold ltC
    by_cases e1 : c.1 = d.1
    · rw [if_pos (beq_iff_eq.mpr e1), if_pos e1]
      by_cases e2 : c.2 = d.2
      · rw [if_pos (beq_iff_eq.mpr e2), e2, decide_eq_false (Int.lt_irrefl _)]
        rfl
      · rw [if_neg fun z => e2 (beq_iff_eq.mp z)]
    · rw [if_neg fun z => e1 (beq_iff_eq.mp z), if_neg e1]
  rw [← e]
  exact R
theorem cells_eq {a b : Addr} {c d : Cell} (ha : IsCl s.heap (.ref a) c) (hb : IsCl s.heap (.ref b) d) (hu : A.units < cLine) : SeqAt.EqAt A s (.ref a) (.ref b) (decide (c = d)) := by
  obtain ⟨a', t, t', e, ht⟩ := ha
  cases e
  obtain ⟨b', u, u', e, hu2⟩ := hb
  cases e
  by_cases z : a = b
  · subst z
    obtain ⟨o, ho, _, n, hd⟩ := ht
    obtain ⟨o', ho', _, n', hd'⟩ := hu2
    rw [ho] at ho'
    cases ho'
    rw [hd] at hd'
    have e : c = d := by
      injection hd' with e1 _
      have e1 := congrArg Array.toList e1
      simp only [List.cons.injEq, Value.str.injEq, Value.int.injEq] at e1
      exact Prod.ext e1.1.1 e1.2.1.1
    rw [decide_eq_true e]
    exact SeqAt.EqAt.same _
  · have R := SeqAt.RcAt.tuples (A := A) (s := s) (e := fun j => if j = 0 then c.1 == d.1 else c.2 == d.2) ht hu2 hu
      (fun j h1 h2 => by
        have h1 : j < 2 := h1
        match j, h1 with
        | 0, _ => exact SeqAt.EqAt.str_str c.1 t d.1 u
        | 1, _ => exact SeqAt.EqAt.int_int c.2 t' d.2 u')
    have e : ((List.range (min 2 2)).all (fun j => if j = 0 then c.1 == d.1 else c.2 == d.2) && (2 : Nat) == 2) = decide (c = d) := by
      show ((c.1 == d.1 && (c.2 == d.2 && true)) && true) = decide (c = d)
      by_cases q : c = d
      · rw [q, decide_eq_true rfl]
        simp
      · rw [decide_eq_false q]
        by_cases q1 : c.1 = d.1
        · have q2 : ¬ c.2 = d.2 := fun q2 => q (Prod.ext q1 q2)
          simp [q2]
        · simp [q1]
    rw [← e]
    exact SeqAt.EqAt.of_refs z R
theorem pr_cmp {vs : List Value} {k : Value → Cell × Int} (hu : A.units < cLine) (hp : ∀ v ∈ vs, IsPr s.heap v (k v)) :
    SrtO.Cmp prog w A s (tuples' false) (fun p => p.1 ∈ vs) (SrtO.lt2 fun v u => ltX (k v) (k u)) := by
  intro p q hm hm'
  have h1 := hp _ hm
  have h2 := hp _ hm'
  show wpAny (model prog w) A (keyLt' (tuples' false) p.1 q.1) (fun r s' => s' = s ∧ r = ltX (k p.1) (k q.1)) (fun _ _ => False) s
  generalize k p.1 = x at h1 ⊢
  generalize k q.1 = y at h2 ⊢
  obtain ⟨a, b, t, e, ⟨o, ho, hc, n, hd⟩, cb⟩ := h1
  obtain ⟨a', b', t', e', ⟨o', ho', hc', n', hd'⟩, cb'⟩ := h2
  rw [e, e']
  refine PySem.W.kat_lt ho hd ho' hd' ?_
  show PySem.W.KatLex prog w A false (decide (2 < 2)) _ [(.ref b, .ref b'), (.int x.2 t, .int y.2 t')] 0 s
  refine PySem.W.kat_cons (cells_eq cb cb' hu prog w _ _ ?_)
  refine PySem.W.kat_go (fun e1 => ?_) (fun e1 => ?_)
  · have ex : x.1 = y.1 := of_decide_eq_true e1
    refine PySem.W.kat_yes (PySem.W.kat_cons (SeqAt.EqAt.int_int x.2 t y.2 t' prog w _ _ ?_))
    refine PySem.W.kat_go (fun e2 => ?_) (fun e2 => ?_)
    · have ey : x.2 = y.2 := by simpa using e2
      have e3 : ltX x y = false := by
        rw [show x = y from Prod.ext ex ey]
        exact ltX_irr y
      exact PySem.W.kat_yes (PySem.W.kat_nil ⟨rfl, e3.symm⟩)
    · have e3 : ltX x y = decide (x.2 < y.2) := if_pos ex
      refine PySem.W.kat_no (PySem.W.kat_one _ _ (PyProof.Rows.lt_int ?_))
      exact (show s = s ∧ decide (x.2 < y.2) = ltX x y from ⟨rfl, e3.symm⟩)
  · have ex : ¬ x.1 = y.1 := of_decide_eq_false e1
    have e3 : ltX x y = ltC x.1 y.1 := if_neg ex
    refine PySem.W.kat_no (PySem.W.kat_one _ _ (cells_lt cb cb' hu prog w _ _ ?_))
    exact (show s = s ∧ ltC x.1 y.1 = ltX x y from ⟨rfl, e3.symm⟩)
theorem pr_firsts {h : Heap} : ∀ {vs : List Value}, (∀ v ∈ vs, ∃ c, IsPr h v c) →
    ∃ fs : List Value, PySem.W.KatTups h vs fs ∧ fs.length = vs.length ∧ ∀ f ∈ fs, ∃ b c, f = Value.ref b ∧ IsCl h (.ref b) c
  | [], _ => ⟨[], .nil, rfl, fun f hf => absurd hf (by simp)⟩
  | v :: vs, x => by
    obtain ⟨fs, k, hl, hi⟩ := pr_firsts (vs := vs) fun u hu => x u (List.mem_cons_of_mem _ hu)
    obtain ⟨c, a, b, t, rfl, ⟨o, ho, hc, n, hd⟩, hb⟩ := x v List.mem_cons_self
    refine ⟨.ref b :: fs, .cons ho hc hd rfl k, congrArg (· + 1) hl, fun f hf => ?_⟩
    rcases List.mem_cons.mp hf with rfl | hf
    · exact ⟨_, _, rfl, hb⟩
    · exact hi f hf
theorem pr_sortable {a : Addr} {vs : List Value} {k : Value → Cell × Int} (hu : A.units < cLine) (h0 : 0 < vs.length) (hp : ∀ v ∈ vs, IsPr s.heap v (k v))
    (ha : ∀ o, s.heap.get? a = some o → o.cls ≠ .type "tuple") : SrtO.SortableO prog w A s a vs fun v u => ltX (k v) (k u) := by
  intro h' keep
  have hp' : ∀ v ∈ vs, IsPr h' v (k v) := fun v hm => (hp v hm).keeps fun b o e c => keep b o (fun z => by subst z; exact ha o e c) e
  obtain ⟨fs, h1, h2, h3⟩ := pr_firsts fun v hm => ⟨_, hp' v hm⟩
  refine ⟨tuples' false, fun Q E hq => ?_, pr_cmp hu hp'⟩
  refine PySem.W.kat_kind (T := .type "tuple") h1 (by omega) (fun f hm => ?_) (by rfl) ?_
  · obtain ⟨b, c, rfl, b', _, _, e, o, ho, hc, _⟩ := h3 f hm
    cases e
    exact fun A Q E s k q => wpAny_typeOf ⟨o, k _ _ ho, hc⟩ q
  · have e : (Value.type "tuple" != Value.type "tuple") = false := by first | decide +kernel | rfl | decide
    rw [e]
    exact hq
end
/-- the pair that stands behind a value -/
def pairOf (H : Hp) : Value → Cell × Int
  | .ref a => match H a with
    | some (.tup [.ref b, .int w]) => (cellOf H (.ref b), w)
    | _ => ((⟨#[]⟩, 0), 0)
  | _ => ((⟨#[]⟩, 0), 0)
theorem pairOf_at {H : Hp} {p : Addr} {x : Cell × Int} (h : PairRow H p x) : pairOf H (.ref p) = x := by
  obtain ⟨b, h1, h2⟩ := h
  show (match H p with
    | some (.tup [.ref b, .int w]) => (cellOf H (.ref b), w)
    | _ => (((⟨#[]⟩, 0), 0) : Cell × Int)) = x
  rw [h1]
  show (cellOf H (.ref b), x.2) = x
  rw [cellOf_at h2]
theorem isPr_of {P : Program} {w : World} {H : Hp} {h : Heap} {p : Addr} {x : Cell × Int} (ok : HOk P w H h) (e : PairRow H p x) : IsPr h (.ref p) x := by
  obtain ⟨b, h1, h2⟩ := e
  obtain ⟨_, its, r, ht⟩ := (show ObjOk P w H h p (.tup [.ref b, .int x.2]) from ok p _ h1)
  obtain ⟨u, v, ei, ru, rv⟩ := vals2 r
  obtain ⟨t, rfl⟩ := rv
  cases ru
  subst ei
  exact ⟨p, b, t, rfl, ht, isCl_of ok h2⟩
/-- sorted(l), l a list of pairs of a cell and a weight -/
def rSortX (K : PySem.W.Frag) : List V → Hp → VK → Prop := fun xs H Q => ∃ (a : Addr) (ps : List Addr) (ρ : RowD), xs = [.ref a] ∧ SqL K H a (ps.map V.ref) ∧ Paired (PairRow H) ps ρ ∧
  ∀ (ys : List Addr) (π : RowD) (p : Addr), π.Perm ρ → π.Pairwise (fun a b => ltX b a = false) → Paired (PairRow H) ys π → H p = none → Q (.ref p) (upd H p (.lst (ys.map V.ref)))
theorem paired_map {α β : Type} {R : α → β → Prop} (f : α → β) (h : ∀ a b, R a b → f a = b) : ∀ {l : List α} {m : List β}, Paired R l m → l.map f = m
  | _, _, .nil => rfl
  | _, _, .cons h1 t => by rw [List.map_cons, h _ _ h1, paired_map f h t]
theorem paired_mem {α β : Type} {R : α → β → Prop} : ∀ {l : List α} {m : List β}, Paired R l m → ∀ a ∈ l, ∃ b, R a b
  | _, _, .nil, a, h => absurd h (by simp)
  | _, _, .cons h1 t, a, h => by
    rcases List.mem_cons.mp h with rfl | h
    · exact ⟨_, h1⟩
    · exact paired_mem t a h
section
variable {X : Cx}
theorem cr_sortX (hu : X.A.units + 64 < cLine) : CallR X (.builtin "sorted") (rSortX X.K) := by
  intro pins s σ H vs us Q I r h
  obtain ⟨a, ps, ρ, rfl, hs, hx, q⟩ := h
  obtain ⟨its, rv, hl, hz⟩ := I.list hs
  obtain ⟨u, rfl, ru⟩ := vals1 r
  obtain rfl : u = Value.ref a := ru
  have ei : its = ps.map Value.ref := by
    clear hl hz q hx hs
    induction ps generalizing its with
    | nil =>
      cases rv
      rfl
    | cons p ps ih =>
      cases rv with
      | cons h1 t =>
        cases h1
        rw [List.map_cons, ih _ t]
  subst ei
  have hp : ∀ v ∈ ps.map Value.ref, ∃ p x, v = .ref p ∧ PairRow H p x := fun v hv => by
    obtain ⟨p, hp, rfl⟩ := List.mem_map.mp hv
    obtain ⟨x, hx'⟩ := paired_mem hx p hp
    exact ⟨p, x, rfl, hx'⟩
  refine SrtO.sorted_ord (ltv := fun v u => ltX (pairOf H v) (pairOf H u)) (swo_X _) hl.isList (by rw [← rv.length]; exact hz) (fun h2 h₁ a' ha kk => ?_) fun out h1 h2 => ?_
  · refine pr_sortable (s := { s with heap := h₁ }) (by show X.A.units + 1 + 1 < cLine; omega) (by omega) (fun v hv => ?_) fun o e => ?_
    · obtain ⟨p, x, rfl, hx'⟩ := hp v hv
      rw [pairOf_at hx']
      exact (isPr_of I.hok hx').keeps fun b o e _ => (kk b o e).2
    · have e' : some o = some (seqObj "list" (ps.map Value.ref).toArray 0) := e.symm.trans ha
      cases e'
      intro c
      exact absurd (Value.type.inj c) (by decide)
  · have hout : ∀ v ∈ out, ∃ p x, v = .ref p ∧ PairRow H p x := fun v hv => hp v (h2.perm.mem_iff.mp hv)
    have hys : ∃ ys : List Addr, out = ys.map Value.ref := by
      clear h1 h2
      induction out with
      | nil => exact ⟨[], rfl⟩
      | cons v l ih =>
        obtain ⟨ys, rfl⟩ := ih fun u hu => hout u (List.mem_cons_of_mem _ hu)
        obtain ⟨p, x, rfl, _⟩ := hout v List.mem_cons_self
        exact ⟨p :: ys, rfl⟩
    obtain ⟨ys, rfl⟩ := hys
    obtain ⟨n, hn⟩ := PyProof.Rows.sortedAll_at s.heap (ps.map Value.ref) (ys.map Value.ref).toArray
    have hlen : (ys.map V.ref).length ≤ sizeLine := by
      have := h2.perm.length_eq
      rw [List.length_map, List.length_map] at this
      rw [List.length_map] at hz ⊢
      omega
    have em : (ps.map Value.ref).map (pairOf H) = ρ := by
      rw [List.map_map]
      exact paired_map (R := PairRow H) _ (fun p x h => pairOf_at h) hx
    refine ⟨.ref (s.heap.objs.size + 1), upd H (s.heap.objs.size + 1) (.lst (ys.map V.ref)), I.laid (t' := s.toks) (fun b o e => PyProof.Rows.sortedAll_old e) (Nat.le_succ _) ⟨hlen, ys.map Value.ref, n, vals_refs _, hn⟩, rfl, q ys ((ys.map Value.ref).map (pairOf H)) _ ?_ (List.pairwise_map.mpr h1) ?_ (I.hok.fresh (Nat.le_succ _))⟩
    · rw [← em]
      exact h2.perm.map _
    · rw [List.map_map]
      refine paired_of _ fun p hp' => ?_
      obtain ⟨p2, x, e2, hx'⟩ := hout (.ref p) (List.mem_map_of_mem hp')
      cases e2
      show PairRow H p (pairOf H (.ref p))
      rw [pairOf_at hx']
      exact hx'
end
end AskG
/-! Rights: their kinds, their questions; a comprehension with two fors. -/
namespace AskG
open PySem PySem.Spec PyProof.Rows L2
inductive KindM
  | tot (s : Int)
  | win (l : Int)
  | per (b e : Int)
def KindM.vals : KindM → List V
  | .tot s => [.str "total", .int s]
  | .win l => [.str "window", .int l]
  | .per b e => [.str "period", .int b, .int e]
def KindM.data : KindM → PyData
  | .tot s => .tuple [.str "total", .int s]
  | .win l => .tuple [.str "window", .int l]
  | .per b e => .tuple [.str "period", .int b, .int e]
def KindM.lo (t : Int) : KindM → Int
  | .tot s => s
  | .win l => if t - l + 1 > 0 then t - l + 1 else 0
  | .per b _ => b
def KindM.hi (t : Int) : KindM → Int
  | .tot _ => t
  | .win _ => t
  | .per _ e => if t < e then t else e
structure KindM.Ok (k : KindM) : Prop where
  nn : match k with
    | .tot s => 0 ≤ s ∧ s ≤ 30
    | .win l => 0 ≤ l ∧ l ≤ 30
    | .per b e => 0 ≤ b ∧ b ≤ 30 ∧ 0 ≤ e ∧ e ≤ 30
structure Rt where
  person : Str
  ws : List Cell
  first : Int
  last : Int
  kind : KindM
def RightAt (H : Hp) (a : Addr) (R : Rt) : Prop := ∃ (wa : Addr) (ps : List Addr) (ka : Addr), H a = some (.tup [.str R.person, .ref wa, .int R.first, .int R.last, .ref ka]) ∧
  H wa = some (.tup (ps.map V.ref)) ∧ Paired (CellAt H) ps R.ws ∧ H ka = some (.tup R.kind.vals)
theorem CellAt.keepT {H H' : Hp} {b : Addr} {c : Cell} (h : CellAt H b c) (k : KeepT H H') : CellAt H' b c := k _ _ h
theorem RightAt.keep {H H' : Hp} {a : Addr} {R : Rt} (h : RightAt H a R) (k : KeepT H H') : RightAt H' a R := by
  obtain ⟨wa, ps, ka, h1, h2, h3, h4⟩ := h
  exact ⟨wa, ps, ka, k _ _ h1, k _ _ h2, Paired.mapP h3 fun _ _ z => z.keepT k, k _ _ h4⟩
def rightD (R : Rt) : PyData := .tuple [.str R.person, .tuple (R.ws.map cellD), .int R.first, .int R.last, R.kind.data]
theorem dp_kind {K : PySem.W.Frag} {H : Hp} {a : Addr} {k : KindM} (h : H a = some (.tup k.vals)) : Dp K H (.ref a) k.data := by
  cases k with
  | tot s => exact .tup (sqT h) (.cons (.str _) (.cons (.int _) .nil))
  | win l => exact .tup (sqT h) (.cons (.str _) (.cons (.int _) .nil))
  | per b e => exact .tup (sqT h) (.cons (.str _) (.cons (.int _) (.cons (.int _) .nil)))
theorem dp_right {K : PySem.W.Frag} {H : Hp} {a : Addr} {R : Rt} (h : RightAt H a R) : Dp K H (.ref a) (rightD R) := by
  obtain ⟨wa, ps, ka, h1, h2, h3, h4⟩ := h
  exact .tup (sqT h1) (.cons (.str _) (.cons (.tup (sqT h2) (dp_all (f := cellD) (R := CellAt H) (fun _ _ z => dp_cell z) h3)) (.cons (.int _) (.cons (.int _) (.cons (dp_kind h4) .nil)))))
structure RtOk (R : Rt) : Prop where
  name : CellOk (R.person, 0)
  many : R.ws.length ≤ 3
  ws : ∀ x ∈ R.ws, CellOk x
  f0 : 0 ≤ R.first
  f1 : R.first ≤ 30
  l0 : 0 ≤ R.last
  l1 : R.last ≤ 30
  kind : R.kind.Ok
def daysOf (lo hi : Int) : List Int := (List.range (hi + 1 - lo).toNat).map fun (i : Nat) => lo + (i : Int)
def rowOn (ws : List Cell) (lo hi : Int) : RowD := ws.flatMap fun x => (daysOf lo hi).map fun d => ((x.1, d), x.2)
def usedB (R : Rt) (t : Int) : Bool := decide (R.first ≤ t) && decide (t ≤ R.last)
def rowQ (R : Rt) (t : Int) : RowD := rowOn R.ws (R.kind.lo t) (R.kind.hi t)
theorem kind_bounds {k : KindM} (h : k.Ok) {t : Int} (t0 : 0 ≤ t) (t9 : t ≤ 9) : 0 ≤ k.lo t ∧ k.lo t ≤ 30 ∧ k.hi t ≤ 9 ∧ 0 ≤ k.hi t := by
  have h := h.nn
  cases k with
  | tot s =>
    refine ⟨h.1, h.2, t9, t0⟩
  | win l =>
    have h : 0 ≤ l ∧ l ≤ 30 := h
    show 0 ≤ (if t - l + 1 > 0 then t - l + 1 else 0) ∧ (if t - l + 1 > 0 then t - l + 1 else 0) ≤ 30 ∧ t ≤ 9 ∧ 0 ≤ t
    split <;> omega
  | per b e =>
    have h : 0 ≤ b ∧ b ≤ 30 ∧ 0 ≤ e ∧ e ≤ 30 := h
    show 0 ≤ b ∧ b ≤ 30 ∧ (if t < e then t else e) ≤ 9 ∧ 0 ≤ (if t < e then t else e)
    split <;> omega
theorem days_len (lo hi : Int) : (daysOf lo hi).length = (hi + 1 - lo).toNat := by
  unfold daysOf
  rw [List.length_map, List.length_range]
theorem rowOn_len : ∀ (ws : List Cell) (lo hi : Int), (rowOn ws lo hi).length = ws.length * (hi + 1 - lo).toNat
  | [], _, _ => by
    rw [List.length_nil, Nat.zero_mul]
    rfl
  | x :: ws, lo, hi => by
    show ((daysOf lo hi).map (fun d => ((x.1, d), x.2)) ++ rowOn ws lo hi).length = _
    rw [List.length_append, List.length_map, days_len, rowOn_len ws lo hi, List.length_cons, Nat.succ_mul]
    omega
/-! ### [.. for x in t for d in range(..)] -/
section
variable {K : PySem.W.Frag} {a : Addr} {xs : List V} {g : TG} {wi1 : TI} {g1 : TG} {te : TE} {vs vs1 : List Nat} {σ : L2.St} {H1 : Hp} {D : Addr} {Qd : Hp → Prop} {lo : Int} {n : Nat}
theorem lc2_go (P : Nat → Nat → Hp → Prop) (h0 : P 0 0 (upd H1 D (.lst []))) (hl : ∀ i H, P i 0 H → SqT K H a xs)
    (hg : ∀ x σ H (Q Q' : L2.St → Hp → Prop), (∀ σ2 H2, Q σ2 H2 → Q' σ2 H2) → g x σ H Q → g x σ H Q')
    (hg1 : ∀ x σ H (Q Q' : L2.St → Hp → Prop), (∀ σ2 H2, Q σ2 H2 → Q' σ2 H2) → g1 x σ H Q → g1 x σ H Q')
    (hte : ∀ σ H (Q Q' : VK), (∀ v H2, Q v H2 → Q' v H2) → te σ H Q → te σ H Q')
    (hs : ∀ i x H, xs[i]? = some x → P i 0 H → g x (wipe σ vs) H fun σ2 H2 => wipe σ2 vs = wipe σ vs ∧ P i 0 H2 ∧ (∀ R : It → Hp → Prop, R (Itr lo n) H2 → wi1 σ2 H2 R) ∧
      ∀ j H', j < n → P i j H' → g1 (.int (lo + j)) (wipe σ2 vs1) H' fun σ3 H5 => wipe σ3 vs1 = wipe σ2 vs1 ∧ te σ3 H5 fun y H7 => ∃ acc, H7 D = some (.lst acc) ∧ acc.length < sizeLine ∧ P i (j + 1) (upd H7 D (.lst (acc ++ [y]))))
    (hn : ∀ i H, P i n H → P (i + 1) 0 H) (hd : ∀ H, P xs.length 0 H → Qd H) :
    ∃ W : Nat → Nat → Hp → Prop, (∃ m, W 0 m (upd H1 D (.lst []))) ∧ ∀ i m H, W i m H →
      ((Itt K a).stop i H ∧ Qd H) ∨ ((Itt K a).go i H ∧ ∃ Nx : Hp → Prop, (∀ H', Nx H' → ∃ m', m' < m ∧ W (i + 1) m' H') ∧ ∀ x H', (Itt K a).yld i H x H' → g x (wipe σ vs) H' fun σ2 H2 => wipe σ2 vs = wipe σ vs ∧ tYes σ2 H2 fun b H3 =>
        if b = true then wi1 σ2 H3 fun J1 H4 => ∃ W1 : Nat → Nat → Hp → Prop, (∃ m, W1 0 m H4) ∧ ∀ j k H, W1 j k H →
          (J1.stop j H ∧ Nx H) ∨ (J1.go j H ∧ ∃ Nx1 : Hp → Prop, (∀ H', Nx1 H' → ∃ k', k' < k ∧ W1 (j + 1) k' H') ∧ ∀ x H', J1.yld j H x H' → g1 x (wipe σ2 vs1) H' fun σ3 H5 => wipe σ3 vs1 = wipe σ2 vs1 ∧ tYes σ3 H5 fun b H6 =>
            if b = true then te σ3 H6 fun y H7 => ∃ acc, H7 D = some (.lst acc) ∧ acc.length < sizeLine ∧ Nx1 (upd H7 D (.lst (acc ++ [y]))) else Nx1 H6)
        else Nx H3) := by
  refine ⟨fun i m H => m = xs.length - i ∧ i ≤ xs.length ∧ P i 0 H, ⟨xs.length, by simp, Nat.zero_le _, h0⟩, ?_⟩
  rintro i m H ⟨rfl, hi, p⟩
  have q := hl i H p
  by_cases hlt : i < xs.length
  · refine .inr ⟨⟨xs, xs[i], q, by simp [hlt]⟩, fun H' => P (i + 1) 0 H', fun H' p' => ⟨xs.length - (i + 1), by omega, rfl, hlt, p'⟩, fun x H' y => ?_⟩
    obtain ⟨e, y⟩ := y
    subst e
    refine hg _ _ _ _ _ (fun σ2 H2 z => ?_) (hs i x _ (y xs q) p)
    obtain ⟨z1, z2, z3, z4⟩ := z
    refine ⟨z1, iYes (iteT (z3 _ ?_))⟩
    refine ⟨fun j k H => k = n - j ∧ j ≤ n ∧ P i j H, ⟨n, by simp, Nat.zero_le _, z2⟩, ?_⟩
    rintro j k H5 ⟨rfl, hj, pj⟩
    by_cases hjn : j < n
    · refine .inr ⟨hjn, fun H' => P i (j + 1) H', fun H' p' => ⟨n - (j + 1), by omega, rfl, hjn, p'⟩, fun x H' y => ?_⟩
      obtain ⟨rfl, rfl⟩ := y
      refine hg1 _ _ _ _ _ (fun σ3 H6 u => ?_) (z4 j _ hjn pj)
      exact ⟨u.1, iYes (iteT u.2)⟩
    · have e : j = n := by omega
      subst e
      exact .inl ⟨Nat.le_refl _, hn i _ pj⟩
  · have e : i = xs.length := by omega
    subst e
    exact .inl ⟨⟨xs, q, Nat.le_refl _⟩, hd H p⟩
end
end AskG
/-! The question of a right: account by account, and day by day and then sorted. -/
namespace AskG
open PySem PySem.Spec PyProof.Rows L2
def NamesUp (ws : List Cell) : Prop := ws.Pairwise fun a b => a.1.cps.toList < b.1.cps.toList
def flatDays (ws : List Cell) (ds : List Int) : RowD := ds.flatMap fun d => ws.map fun x => ((x.1, d), x.2)
theorem flat_split {α β : Type} (f : α → β) (g : α → List β) : ∀ ds : List α, (ds.flatMap fun d => f d :: g d).Perm (ds.map f ++ ds.flatMap g)
  | [] => .nil
  | d :: ds => by
    rw [List.flatMap_cons, List.map_cons, List.flatMap_cons, List.cons_append, List.cons_append]
    refine .cons _ ?_
    have h := flat_split f g ds
    refine (List.Perm.append_left (g d) h).trans ?_
    rw [← List.append_assoc, ← List.append_assoc]
    exact List.Perm.append_right _ List.perm_append_comm
theorem flat_perm (ds : List Int) : ∀ ws : List Cell, (flatDays ws ds).Perm (ws.flatMap fun x => ds.map fun d => ((x.1, d), x.2))
  | [] => by
    have : flatDays [] ds = [] := by
      unfold flatDays
      induction ds with
      | nil => rfl
      | cons d ds ih => exact ih
    rw [this]
    exact .nil
  | x :: ws => by
    have h1 := flat_split (fun d : Int => (((x.1, d), x.2) : Cell × Int)) (fun d => ws.map fun (y : Cell) => (((y.1, d), y.2) : Cell × Int)) ds
    exact h1.trans (List.Perm.append_left _ (flat_perm ds ws))
theorem days_up (lo hi : Int) : (daysOf lo hi).Pairwise (· < ·) := by
  unfold daysOf
  refine List.pairwise_map.mpr (List.pairwise_lt_range.imp fun h => ?_)
  omega
theorem rowOn_up (lo hi : Int) : ∀ {ws : List Cell}, NamesUp ws → (rowOn ws lo hi).Pairwise fun a b => ltX a b = true
  | [], _ => .nil
  | x :: ws, h => by
    have h := List.pairwise_cons.mp h
    show ((daysOf lo hi).map (fun d => ((x.1, d), x.2)) ++ rowOn ws lo hi).Pairwise _
    refine List.pairwise_append.mpr ⟨List.pairwise_map.mpr ((days_up lo hi).imp fun e => ?_), rowOn_up lo hi h.2, fun a ha b hb => ?_⟩
    · exact ltX_iff.mpr (.inl (ltC_iff.mpr (.inr ⟨rfl, e⟩)))
    · obtain ⟨d, _, rfl⟩ := List.mem_map.mp ha
      obtain ⟨y, hy, hb⟩ := List.mem_flatMap.mp hb
      obtain ⟨d', _, rfl⟩ := List.mem_map.mp hb
      exact ltX_iff.mpr (.inl (ltC_iff.mpr (.inl (h.1 y hy))))
theorem sortX_uniq : ∀ {a b : RowD}, a.Perm b → a.Pairwise (fun x y => ltX y x = false) → b.Pairwise (fun x y => ltX x y = true) → a = b
  | [], b, p, _, _ => (List.nil_perm.mp p).symm
  | x :: a, [], p, _, _ => absurd p.length_eq (by simp)
  | x :: a, y :: b, p, h, g => by
    have h := List.pairwise_cons.mp h
    have g := List.pairwise_cons.mp g
    have e : x = y := by
      by_cases z : x = y
      · exact z
      · have h1 : x ∈ b := by
          rcases List.mem_cons.mp (p.mem_iff.mp List.mem_cons_self) with q | q
          · exact absurd q z
          · exact q
        have h2 : y ∈ a := by
          rcases List.mem_cons.mp (p.mem_iff.mpr List.mem_cons_self) with q | q
          · exact absurd q.symm z
          · exact q
        have := h.1 y h2
        rw [g.1 x h1] at this
        cases this
    subst e
    rw [sortX_uniq p.cons_inv h.2 g.2]
theorem sorted_flat {ws : List Cell} {lo hi : Int} (h : NamesUp ws) {π : RowD} (p : π.Perm (flatDays ws (daysOf lo hi))) (s : π.Pairwise fun a b => ltX b a = false) : π = rowOn ws lo hi :=
  sortX_uniq (p.trans (flat_perm (daysOf lo hi) ws)) s (rowOn_up lo hi h)
theorem flat_snoc {ws : List Cell} {ds : List Int} {i : Nat} {d : Int} (h : ds[i]? = some d) : flatDays ws (ds.take (i + 1)) = flatDays ws (ds.take i) ++ ws.map fun x => ((x.1, d), x.2) := by
  unfold flatDays
  rw [List.take_add_one, h, List.flatMap_append]
  congr 1
  show _ ++ [] = _
  rw [List.append_nil]
theorem flat_len (ws : List Cell) : ∀ ds : List Int, (flatDays ws ds).length = ds.length * ws.length
  | [] => by
    rw [List.length_nil, Nat.zero_mul]
    rfl
  | d :: ds => by
    show (ws.map (fun x => ((x.1, d), x.2)) ++ flatDays ws ds).length = _
    rw [List.length_append, List.length_map, flat_len ws ds, List.length_cons, Nat.succ_mul]
    omega
end AskG
/-! How long the text of data is. -/
namespace AskG
open PySem PySem.Spec PyProof.Rows L2
mutual
/-- whole numbers of at most eighty digits -/
def litD : PyData → Bool
  | .int i => decide (i.natAbs < 10 ^ 80)
  | .list ds => litDs ds
  | .tuple ds => litDs ds
  | .dict _ => false
  | _ => true
def litDs : List PyData → Bool
  | [] => true
  | d :: ds => litD d && litDs ds
end
mutual
def wtD : PyData → Nat
  | .none => 5
  | .bool _ => 5
  | .int _ => 81
  | .str s => 10 * s.length + 2
  | .list ds => wtDs ds + 2 * ds.length + 3
  | .tuple ds => wtDs ds + 2 * ds.length + 3
  | .dict _ => 0
def wtDs : List PyData → Nat
  | [] => 0
  | d :: ds => wtD d + wtDs ds
end
structure Told (d : PyData) : Prop where
  shw : d.showable = true
  nod : d.hasDict = false
  len : d.shown.length ≤ wtD d
structure Tolds (ds : List PyData) : Prop where
  shw : PyData.showableAll ds = true
  nod : PyData.hasDictAll ds = false
  len : ((PyData.shownAll ds).map (·.length)).sum ≤ wtDs ds
  cnt : (PyData.shownAll ds).length = ds.length
theorem told_int {i : Int} (h : i.natAbs < 10 ^ 80) : Told (.int i) := by
  have h2 : i.natAbs < 2 ^ 1900 := Nat.lt_trans h (by decide)
  have h3 : i.natAbs.log2 < 1920 := by
    by_cases z : i.natAbs = 0
    · rw [z]
      decide
    · have := (Nat.log2_lt z).mpr h2
      omega
  refine ⟨decide_eq_true h3, rfl, ?_⟩
  show (PySem.Str.ofString (toString i)).length ≤ 81
  rw [PySem.ofString_length]
  exact PySem.int_text_length_le10 (k := 80) (by decide) h
theorem told_str {s : Str} (h : PyData.strOk s = true) : Told (.str s) := by
  refine ⟨rfl, rfl, ?_⟩
  show (reprText s).length ≤ 10 * s.length + 2
  refine StrLaws.reprText_len s fun c hc => ?_
  have := Array.all_eq_true'.mp h c (Array.mem_toList_iff.mp hc)
  have := of_decide_eq_true this
  omega
mutual
theorem told : ∀ {d : PyData}, smallD d = true → litD d = true → Told d
  | .none, _, _ => ⟨rfl, rfl, by decide +kernel⟩
  | .bool true, _, _ => ⟨rfl, rfl, by decide +kernel⟩
  | .bool false, _, _ => ⟨rfl, rfl, by decide +kernel⟩
  | .int i, _, h => told_int (of_decide_eq_true h)
  | .str s, h, _ => told_str (small_strOk h)
  | .list ds, h, g => by
    have t := tolds (small_lst h).2 (show litDs ds = true from g)
    refine ⟨t.shw, t.nod, ?_⟩
    have := listText_len_le (PyData.shownAll ds)
    show (listText (PyData.shownAll ds)).length ≤ wtDs ds + 2 * ds.length + 3
    rw [t.cnt] at this
    have := t.len
    omega
  | .tuple ds, h, g => by
    have t := tolds (small_tup h).2 (show litDs ds = true from g)
    refine ⟨t.shw, t.nod, ?_⟩
    have := tupleText_len_le (PyData.shownAll ds)
    show (tupleText (PyData.shownAll ds)).length ≤ wtDs ds + 2 * ds.length + 3
    rw [t.cnt] at this
    have := t.len
    omega
  | .dict _, h, _ => by cases h
theorem tolds : ∀ {ds : List PyData}, smallDs ds = true → litDs ds = true → Tolds ds
  | [], _, _ => ⟨rfl, rfl, Nat.le_refl _, rfl⟩
  | d :: ds, h, g => by
    unfold smallDs at h
    unfold litDs at g
    rw [Bool.and_eq_true] at h g
    have a := told h.1 g.1
    have b := tolds h.2 g.2
    refine ⟨?_, ?_, ?_, ?_⟩
    · show (d.showable && PyData.showableAll ds) = true
      rw [a.shw, b.shw]
      rfl
    · show (d.hasDict || PyData.hasDictAll ds) = false
      rw [a.nod, b.nod]
      rfl
    · show ((d.shown :: PyData.shownAll ds).map (·.length)).sum ≤ wtD d + wtDs ds
      rw [List.map_cons, List.sum_cons]
      have := a.len
      have := b.len
      omega
    · show (d.shown :: PyData.shownAll ds).length = _
      rw [List.length_cons, List.length_cons, b.cnt]
end
theorem wtDs_app : ∀ xs ys : List PyData, wtDs (xs ++ ys) = wtDs xs + wtDs ys
  | [], ys => by
    show wtDs ys = 0 + wtDs ys
    omega
  | x :: xs, ys => by
    show wtD x + wtDs (xs ++ ys) = wtD x + wtDs xs + wtDs ys
    rw [wtDs_app xs ys]
    omega
/-- the text of data at a value -/
theorem repr_told {K : PySem.W.Frag} {D H a d} {Q : VK} (h : DH D H (.ref a) d) (s : smallD d = true) (l : litD d = true) (dep : d.depth ≤ 60) (w : wtD d ≤ 16777216) (q : Q (.str d.shown) H) : rRepr K [.ref a] H Q := by
  have t := told s l
  exact ⟨a, d, rfl, h.dp, t.shw, t.nod, dep, by rw [sizeLine_eq]; exact Nat.le_trans t.len w, q⟩
end AskG
/-! Measures of data: lengths, numbers, depth, weight; how they go with lists. -/
namespace AskG
open PySem PySem.Spec PyProof.Rows L2
/-- plain signs only -/
def ascS (s : Str) : Bool := s.cps.toList.all fun c => decide (c < 128)
theorem asc_ok {s : Str} (h : ascS s = true) : PyData.strOk s = true :=
  Array.all_eq_true'.mpr fun c hc => decide_eq_true (by
    have := of_decide_eq_true (List.all_eq_true.mp h c (Array.mem_toList_iff.mpr hc))
    omega)
theorem asc_app {s z : Str} (h : ascS s = true) (g : ascS z = true) : ascS (s ++ z) = true := by
  show ((s.cps ++ z.cps).toList.all fun c => decide (c < 128)) = true
  rw [Array.toList_append, List.all_append]
  exact Bool.and_eq_true_iff.mpr ⟨h, g⟩
theorem asc_sub {s z : Str} (h : ascS s = true) (g : ∀ c ∈ z.cps.toList, c ∈ s.cps.toList) : ascS z = true :=
  List.all_eq_true.mpr fun c hc => List.all_eq_true.mp h c (g c hc)
mutual
/-- strings of plain signs, no dicts -/
def okS : PyData → Bool
  | .str s => ascS s
  | .list ds => okSs ds
  | .tuple ds => okSs ds
  | .dict _ => false
  | _ => true
def okSs : List PyData → Bool
  | [] => true
  | d :: ds => okS d && okSs ds
end
mutual
/-- the greatest length of a string, a list, a tuple in it -/
def bigD : PyData → Nat
  | .str s => s.length
  | .list ds => max ds.length (bigDs ds)
  | .tuple ds => max ds.length (bigDs ds)
  | _ => 0
def bigDs : List PyData → Nat
  | [] => 0
  | d :: ds => max (bigD d) (bigDs ds)
end
mutual
/-- the greatest whole number in it, without sign -/
def topD : PyData → Nat
  | .int i => i.natAbs
  | .list ds => topDs ds
  | .tuple ds => topDs ds
  | _ => 0
def topDs : List PyData → Nat
  | [] => 0
  | d :: ds => max (topD d) (topDs ds)
end
mutual
theorem small_by : ∀ {d : PyData}, okS d = true → bigD d ≤ 1000 → smallD d = true
  | .none, _, _ => rfl
  | .bool _, _, _ => rfl
  | .int _, _, _ => rfl
  | .str s, h, g => by
    have h : PyData.strOk s = true := asc_ok h
    have g : s.length ≤ 1000 := g
    unfold smallD
    rw [decide_eq_true g, h]
    rfl
  | .list ds, h, g => by
    have g : max ds.length (bigDs ds) ≤ 1000 := g
    unfold smallD
    rw [decide_eq_true (by omega), smalls_by (ds := ds) h (by omega)]
    rfl
  | .tuple ds, h, g => by
    have g : max ds.length (bigDs ds) ≤ 1000 := g
    unfold smallD
    rw [decide_eq_true (by omega), smalls_by (ds := ds) h (by omega)]
    rfl
  | .dict _, h, _ => by cases h
theorem smalls_by : ∀ {ds : List PyData}, okSs ds = true → bigDs ds ≤ 1000 → smallDs ds = true
  | [], _, _ => rfl
  | d :: ds, h, g => by
    unfold okSs at h
    rw [Bool.and_eq_true] at h
    have g : max (bigD d) (bigDs ds) ≤ 1000 := g
    unfold smallDs
    rw [small_by h.1 (by omega), smalls_by h.2 (by omega)]
    rfl
end
mutual
theorem lit_by : ∀ {d : PyData}, okS d = true → topD d < 10 ^ 80 → litD d = true
  | .none, _, _ => rfl
  | .bool _, _, _ => rfl
  | .int _, _, g => decide_eq_true g
  | .str _, _, _ => rfl
  | .list ds, h, g => lits_by (ds := ds) h g
  | .tuple ds, h, g => lits_by (ds := ds) h g
  | .dict _, h, _ => by cases h
theorem lits_by : ∀ {ds : List PyData}, okSs ds = true → topDs ds < 10 ^ 80 → litDs ds = true
  | [], _, _ => rfl
  | d :: ds, h, g => by
    unfold okSs at h
    rw [Bool.and_eq_true] at h
    have g : max (topD d) (topDs ds) < 10 ^ 80 := g
    unfold litDs
    rw [lit_by h.1 (by omega), lits_by h.2 (by omega)]
    rfl
end
/-- measures of a list's items, all at once -/
structure All (b t k n : Nat) (ds : List PyData) : Prop where
  ok : okSs ds = true
  big : bigDs ds ≤ b
  top : topDs ds ≤ t
  dep : PyData.depthAll ds ≤ k
  wt : wtDs ds ≤ n
structure Of (b t k n : Nat) (d : PyData) : Prop where
  ok : okS d = true
  big : bigD d ≤ b
  top : topD d ≤ t
  dep : d.depth ≤ k
  wt : wtD d ≤ n
theorem All.nil {b t k n : Nat} : All b t k n [] := ⟨rfl, Nat.zero_le _, Nat.zero_le _, Nat.zero_le _, Nat.zero_le _⟩
theorem All.cons {b t k n m : Nat} {d : PyData} {ds : List PyData} (h : Of b t k m d) (g : All b t k n ds) : All b t k (m + n) (d :: ds) := by
  refine ⟨?_, ?_, ?_, ?_, ?_⟩
  · unfold okSs
    rw [h.ok, g.ok]
    rfl
  · show max (bigD d) (bigDs ds) ≤ b
    exact Nat.max_le.mpr ⟨h.big, g.big⟩
  · show max (topD d) (topDs ds) ≤ t
    exact Nat.max_le.mpr ⟨h.top, g.top⟩
  · show max d.depth (PyData.depthAll ds) ≤ k
    exact Nat.max_le.mpr ⟨h.dep, g.dep⟩
  · show wtD d + wtDs ds ≤ m + n
    have := h.wt
    have := g.wt
    omega
theorem All.head {b t k n : Nat} {d : PyData} {ds : List PyData} (h : All b t k n (d :: ds)) : Of b t k n d := by
  have h1 := h.ok
  unfold okSs at h1
  rw [Bool.and_eq_true] at h1
  have h2 : max (bigD d) (bigDs ds) ≤ b := h.big
  have h3 : max (topD d) (topDs ds) ≤ t := h.top
  have h4 : max d.depth (PyData.depthAll ds) ≤ k := h.dep
  have h5 : wtD d + wtDs ds ≤ n := h.wt
  exact ⟨h1.1, by omega, by omega, by omega, by omega⟩
theorem All.tail {b t k n : Nat} {d : PyData} {ds : List PyData} (h : All b t k n (d :: ds)) : All b t k n ds := by
  have h1 := h.ok
  unfold okSs at h1
  rw [Bool.and_eq_true] at h1
  have h2 : max (bigD d) (bigDs ds) ≤ b := h.big
  have h3 : max (topD d) (topDs ds) ≤ t := h.top
  have h4 : max d.depth (PyData.depthAll ds) ≤ k := h.dep
  have h5 : wtD d + wtDs ds ≤ n := h.wt
  exact ⟨h1.2, by omega, by omega, by omega, by omega⟩
theorem All.mono {b t k n b' t' k' n' : Nat} {ds : List PyData} (h : All b t k n ds) (hb : b ≤ b') (ht : t ≤ t') (hk : k ≤ k') (hn : n ≤ n') : All b' t' k' n' ds :=
  ⟨h.ok, Nat.le_trans h.big hb, Nat.le_trans h.top ht, Nat.le_trans h.dep hk, Nat.le_trans h.wt hn⟩
theorem Of.mono {b t k n b' t' k' n' : Nat} {d : PyData} (h : Of b t k n d) (hb : b ≤ b') (ht : t ≤ t') (hk : k ≤ k') (hn : n ≤ n') : Of b' t' k' n' d :=
  ⟨h.ok, Nat.le_trans h.big hb, Nat.le_trans h.top ht, Nat.le_trans h.dep hk, Nat.le_trans h.wt hn⟩
theorem All.app {b t k : Nat} : ∀ {xs ys : List PyData} {n m : Nat}, All b t k n xs → All b t k m ys → All b t k (n + m) (xs ++ ys)
  | [], ys, n, m, _, g => g.mono (Nat.le_refl _) (Nat.le_refl _) (Nat.le_refl _) (by omega)
  | x :: xs, ys, n, m, h, g => by
    have w : wtD x + wtDs xs ≤ n := h.wt
    have hx : Of b t k (wtD x) x := ⟨h.head.ok, h.head.big, h.head.top, h.head.dep, Nat.le_refl _⟩
    have hxs : All b t k (wtDs xs) xs := ⟨h.tail.ok, h.tail.big, h.tail.top, h.tail.dep, Nat.le_refl _⟩
    exact (All.cons hx (All.app hxs g)).mono (Nat.le_refl _) (Nat.le_refl _) (Nat.le_refl _) (by omega)
theorem All.drop {b t k n : Nat} : ∀ {ds : List PyData} (i : Nat), All b t k n ds → All b t k n (ds.drop i)
  | _, 0, h => h
  | [], _ + 1, _ => .nil
  | _ :: _, i + 1, h => All.drop i h.tail
theorem All.take {b t k : Nat} : ∀ {ds : List PyData} {n : Nat} (i : Nat), All b t k n ds → All b t k n (ds.take i)
  | _, _, 0, _ => .nil
  | [], _, _ + 1, _ => .nil
  | x :: ds, n, i + 1, h => by
    have w : wtD x + wtDs ds ≤ n := h.wt
    have hx : Of b t k (wtD x) x := ⟨h.head.ok, h.head.big, h.head.top, h.head.dep, Nat.le_refl _⟩
    have hxs : All b t k (wtDs ds) ds := ⟨h.tail.ok, h.tail.big, h.tail.top, h.tail.dep, Nat.le_refl _⟩
    exact (All.cons hx (All.take i hxs)).mono (Nat.le_refl _) (Nat.le_refl _) (Nat.le_refl _) w
theorem All.rev {b t k : Nat} : ∀ {ds : List PyData} {n : Nat}, All b t k n ds → All b t k n ds.reverse
  | [], _, h => .nil
  | x :: ds, n, h => by
    have w : wtD x + wtDs ds ≤ n := h.wt
    have hx : Of b t k (wtD x) x := ⟨h.head.ok, h.head.big, h.head.top, h.head.dep, Nat.le_refl _⟩
    have hxs : All b t k (wtDs ds) ds := ⟨h.tail.ok, h.tail.big, h.tail.top, h.tail.dep, Nat.le_refl _⟩
    rw [List.reverse_cons]
    exact (All.app (All.rev hxs) (All.cons hx (All.nil (n := 0)))).mono (Nat.le_refl _) (Nat.le_refl _) (Nat.le_refl _) (by omega)
theorem All.at {b t k n : Nat} : ∀ {ds : List PyData} {i : Nat} {d : PyData}, All b t k n ds → ds[i]? = some d → Of b t k n d
  | [], i, _, _, e => by cases i <;> cases e
  | x :: ds, 0, _, h, e => by
    cases e
    exact h.head
  | x :: ds, i + 1, _, h, e => All.at h.tail e
theorem Of.tup {b t k n : Nat} {ds : List PyData} (h : All b t k n ds) (hl : ds.length ≤ b) : Of b t (k + 1) (n + 2 * ds.length + 3) (.tuple ds) :=
  ⟨h.ok, Nat.max_le.mpr ⟨hl, h.big⟩, h.top, Nat.succ_le_succ h.dep, by
    show wtDs ds + 2 * ds.length + 3 ≤ _
    have := h.wt
    omega⟩
theorem Of.lst {b t k n : Nat} {ds : List PyData} (h : All b t k n ds) (hl : ds.length ≤ b) : Of b t (k + 1) (n + 2 * ds.length + 3) (.list ds) :=
  ⟨h.ok, Nat.max_le.mpr ⟨hl, h.big⟩, h.top, Nat.succ_le_succ h.dep, by
    show wtDs ds + 2 * ds.length + 3 ≤ _
    have := h.wt
    omega⟩
theorem Of.items {b t k n : Nat} {ds : List PyData} (h : Of b t (k + 1) n (.tuple ds)) : All b t k n ds ∧ ds.length ≤ b ∧ wtDs ds + 2 * ds.length + 3 ≤ n := by
  have h2 : max ds.length (bigDs ds) ≤ b := h.big
  have h5 : wtDs ds + 2 * ds.length + 3 ≤ n := h.wt
  exact ⟨⟨h.ok, by omega, h.top, Nat.le_of_succ_le_succ h.dep, by omega⟩, by omega, h5⟩
theorem Of.small {b t k n : Nat} {d : PyData} (h : Of b t k n d) (hb : b ≤ 1000) : smallD d = true := small_by h.ok (Nat.le_trans h.big hb)
theorem Of.lit {b t k n : Nat} {d : PyData} (h : Of b t k n d) (ht : t < 10 ^ 80) : litD d = true := lit_by h.ok (Nat.lt_of_le_of_lt h.top ht)
end AskG
/-! t[::-1] of a tuple. -/
namespace AskG
open PySem PySem.Spec PyProof.Rows L2 HT
section
variable {prog : Program} {w : World} {A : Around} {E : Value → Shared → Prop} {s : Shared}
theorem adjust_rev (n : Nat) : Builtin.Slice.sliceAdjust none none (-1) (n : Int) = ((n : Int) - 1, -1) := rfl
theorem places_rev (n : Nat) : Builtin.Slice.slicePlaces ((n : Int) - 1) (-1) (-1) = n := by
  unfold Builtin.Slice.slicePlaces
  by_cases h : n = 0
  · subst h
    rfl
  · simp
    try omega
theorem sliceApplied_rev {sl : Addr} {vs : Value} {n : Nat} {Q : Int × Int × Nat → Shared → Prop} (hs : s.heap.IsSliceOf sl .none .none vs) (ps : IsPart vs (some (-1)))
    (h : Q ((n : Int) - 1, -1, n) s) : wpAny (model prog w) A (Builtin.Slice.sliceApplied (.ref sl) (pure (n : Int))) Q E s := by
  obtain ⟨os, hos, hcs, hds⟩ := id hs
  unfold Builtin.Slice.sliceApplied Builtin.Slice.sliceFields
  refine wpAny_bind (wpAny_bind (wpAny_field hos hds (x := .none) rfl (wpAny_bind (wpAny_field hos hds (x := .none) rfl (wpAny_bind (wpAny_field hos hds (x := vs) rfl (wpAny_pure ?_)))))))
  refine wpAny_bind (slicePart_ ps ?_)
  show wpAny _ _ (if ((-1 : Int) == 0) = true then _ else _) _ _ s
  rw [if_neg (by decide)]
  refine wpAny_bind (slicePart_none (wpAny_bind (slicePart_none (wpAny_bind (wpAny_pure ?_)))))
  show wpAny _ _ (match Builtin.Slice.sliceAdjust none none (-1) (n : Int) with | (lo, hi) => pure (lo, (-1 : Int), Builtin.Slice.slicePlaces lo hi (-1))) _ _ s
  rw [adjust_rev]
  show wpAny _ _ (pure ((n : Int) - 1, (-1 : Int), Builtin.Slice.slicePlaces ((n : Int) - 1) (-1) (-1))) _ _ s
  rw [places_rev]
  exact wpAny_pure h
theorem fm_congr {α β : Type} {f g : α → Option β} : ∀ {l : List α}, (∀ m ∈ l, f m = g m) → l.filterMap f = l.filterMap g
  | [], _ => rfl
  | x :: l, h => by
    rw [List.filterMap_cons, List.filterMap_cons, h x List.mem_cons_self, fm_congr fun m hm => h m (List.mem_cons_of_mem _ hm)]
theorem pick_rev (xs : Array Value) : ((List.range xs.size).filterMap fun (m : Nat) => xs[(((xs.size : Int) - 1) + (m : Int) * (-1)).toNat]?).toArray = xs.toList.reverse.toArray := by
  have g := pick_gen xs.toList.reverse.toArray 0 xs.size
  have e : ((xs.toList.reverse.toArray.toList.drop 0).take xs.size) = xs.toList.reverse := by
    show (xs.toList.reverse.drop 0).take xs.size = xs.toList.reverse
    rw [List.drop_zero]
    exact List.take_of_length_le (by rw [List.length_reverse, Array.length_toList]; exact Nat.le_refl _)
  rw [e] at g
  rw [← g]
  congr 1
  refine fm_congr fun m hm => ?_
  have hm' := List.mem_range.mp hm
  have e1 : (((xs.size : Int) - 1) + (m : Int) * (-1)).toNat = xs.size - 1 - m := by omega
  have e2 : (((0 : Nat) : Int) + (m : Int) * 1).toNat = m := by omega
  rw [e1, e2]
  show xs[xs.size - 1 - m]? = xs.toList.reverse.toArray[m]?
  have r : xs.toList.reverse.toArray[m]? = xs.toList.reverse[m]? := by simp
  rw [r, List.getElem?_reverse (by rw [Array.length_toList]; exact hm'), Array.length_toList, Array.getElem?_toList]
theorem getItem_tuple_rev {t sl : Addr} {items : Array Value} {vs : Value} {Q : Value → Shared → Prop} (ht : IsTup s.heap t items) (hs : s.heap.IsSliceOf sl .none .none vs) (ps : IsPart vs (some (-1)))
    (h : Q (.ref s.heap.objs.size) { s with heap := s.heap.push { cls := .type "tuple", data := .seq items.toList.reverse.toArray } })
    (hsz : items.size ≤ sizeLine) : wpAny (model prog w) A (getItem (.ref t) (.ref sl)) Q E s := by
  have htake : sizeOk (.seq items.toList.reverse.toArray) := by
    show items.toList.reverse.toArray.size ≤ sizeLine
    rw [List.size_toArray, List.length_reverse, Array.length_toList]
    exact hsz
  obtain ⟨os, hos, hcs, hds⟩ := id hs
  have hTs : s.TypeIs (.ref sl) "slice" := ⟨os, hos, hcs⟩
  unfold getItem
  try with_reducible refine wpAny_holding ?_
  try refine wpAny_bind (wpAny_pure ?_)
  refine wpAny_bind (wpAny_sequenceKey ht.typeIs (by decide) (wpAny_bind (wpAny_callSpecial?_slot (name := Str.ofString "__getitem__") ht.typeIs PyProof.Rows.slot_tuple_getitem (wpAny_call_entry PyProof.Rows.slot_tuple_getitem ht.typeIs entry_tuple_getitem ?_ (args_tuple_getitem _ _)))))
  change wpAny _ _ (Builtin.Tuple.tupleItemsOf (.ref t) >>= _) _ _ s
  refine wpAny_bind (tupleItemsOf_ ht (wpAny_bind (wpAny_typeOf hTs ?_)))
  rw [if_pos (by decide)]
  refine wpAny_bind (sliceApplied_rev hs ps ?_)
  have hno : ¬ ((((items.size : Int) - 1) == 0 && (-1 : Int) == 1 && items.size == items.size) = true) := by
    intro q
    rw [Bool.and_eq_true, Bool.and_eq_true] at q
    exact absurd q.1.2 (by decide)
  show wpAny _ _ (if ((((items.size : Int) - 1) == 0 && (-1 : Int) == 1 && items.size == items.size) = true) then _ else _) _ _ s
  rw [if_neg hno, pick_rev]
  have fin : ∀ (B : Around) (R : Value → Shared → Prop), (R (.ref s.heap.objs.size) { s with heap := s.heap.push { cls := .type "tuple", data := .seq items.toList.reverse.toArray } }) → wpAny (model prog w) B (Builtin.Tuple.tupleExact items.toList.reverse.toArray) R E s := fun B R hR => wpAny_newObj_type hR htake
  first
    | exact wpAny_bind (fin _ _ (wpAny_pure ⟨_, rfl, wpAny_pure h⟩))
    | exact wpAny_bind (wpAny_bind (fin _ _ (wpAny_pure (wpAny_pure ⟨_, rfl, wpAny_pure h⟩))))
    | exact wpAny_bind (wpAny_bind (fin _ _ (wpAny_pure ⟨_, rfl, wpAny_pure h⟩)))
    | exact wpAny_bind (fin _ _ (wpAny_bind (wpAny_pure (wpAny_pure ⟨_, rfl, wpAny_pure h⟩))))
end
/-- t[::-1] -/
def tRevT (K : PySem.W.Frag) (te : TE) : TE := fun σ H Q => te σ H fun x H1 => ∃ a xs, x = .ref a ∧ SqT K H1 a xs ∧ ∀ p, H1 p = none → Q (.ref p) (upd H1 p (.tup xs.reverse))
section
variable {X : Cx}
theorem pe_revT {e : Expr} {te : TE} {k : Nat} {p1 p2 p3 pos : Pos} (he : PE X e te) : PE X (.Subscript e (.Slice none none (some (.UnaryOp .USub (.Constant (.int 1) k p1) p2)) p3) pos) (tRevT X.K te) := by
  constructor
  intro pins s σ H Q I h
  have st : PO X (some (.UnaryOp .USub (.Constant (.int 1) k p1) p2)) (tPart (tUn (rU fun i => .int (-i)) (tC (.int 1)))) := po_some (pe_un un_neg pe_int)
  refine Subscript_ (thn (he.run pins s σ H _ I h) ?_)
  rintro v s1 ⟨x, H1, I1, r1, a, xs, rfl, hx, q⟩
  cases r1
  refine wpAny_Slice (thn (po_none.run pins s1 σ H1 (fun o G => o = none ∧ G = H1) I1 ⟨rfl, rfl⟩) ?_)
  rintro vl s2 ⟨_, _, I2, pl, rfl, rfl⟩
  refine thn (po_none.run pins s2 σ _ (fun o G => o = none ∧ G = _) I2 ⟨rfl, rfl⟩) ?_
  rintro vu s3 ⟨_, _, I3, pu, rfl, rfl⟩
  refine thn (st.run pins s3 σ _ (fun o G => o = some (-1) ∧ G = _) I3 ⟨1, rfl, -1, rfl, rfl, rfl⟩) ?_
  rintro vs s4 ⟨_, G, I4, ps, rfl, rfl⟩
  cases pl
  cases pu
  have I5 : Inv X pins σ G { s4 with heap := s4.heap.push { cls := .type "slice", data := .fields #[.none, .none, vs] } } := I4.kept (t' := s4.toks) fun _ _ z => Heap.get?_push_of_some _ z
  obtain ⟨its, r, ht, hz⟩ := I5.tuple hx
  have hl : its.toArray.size = xs.length := by rw [List.size_toArray]; exact r.length.symm
  change wpAny (model X.prog X.w) X.A (subscriptTail e _ (.ref a) (.ref s4.heap.objs.size)) (EP X pins σ Q) X.xe _
  refine tail_any (ops := [.ref a, .ref s4.heap.objs.size]) ht.typeIs (PyProof.Rows.slot_tuple_getitem.lookup) (getItem_tuple_rev ht (Heap.IsSliceOf.new _ _ _ _) ps ?_ (by rw [hl]; exact hz)) (by with_unfolding_all rfl)
  refine ⟨.ref _, _, I5.laid (t' := s4.toks) (o := .tup xs.reverse) (fun _ _ z => Heap.get?_push_of_some _ z) (Nat.le_refl _) ⟨by rw [List.length_reverse]; exact hz, _, r.reverse, IsTup.new _ _⟩, rfl, q _ (I5.hok.fresh (Nat.le_refl _))⟩
end
end AskG
/-! Displays of data: what is written down is new, and taken addresses are no part of it. -/
namespace AskG
open PySem PySem.Spec PyProof.Rows L2
abbrev Taken (H : Hp) (D : Addr) : Prop := ∃ o, H D = some o
theorem Taken.keep {H H' : Hp} {D : Addr} (h : Taken H D) (s : Same H H') : Taken H' D := by
  obtain ⟨o, e⟩ := h
  exact ⟨o, s _ _ e⟩
/-- an expression whose value is the data d, made anew -/
def tNew (d : PyData) : TE := fun _ H Q => ∀ H' v, Same H H' → (∀ D, Taken H D → DH D H' v d) → Q v H'
def tNews (ds : List PyData) : TA := fun _ H Q => ∀ H' vs, Same H H' → (∀ D, Taken H D → DHs D H' vs ds) → vs.length = ds.length → Q vs H'
section
variable {X : Cx} {e : Expr} {es : List Expr} {t t' : TE} {d : PyData} {ds : List PyData}
theorem PE.less (h : PE X e t) (m : ∀ σ H Q, t' σ H Q → t σ H Q) : PE X e t' := ⟨fun pins s σ H Q I q => h.run pins s σ H Q I (m σ H Q q)⟩
theorem new_non (h : PE X e (tC .non)) : PE X e (tNew .none) := PE.less h fun _ H _ q => q H _ (Same.refl _) fun _ _ => .non
theorem new_bl {b : Bool} (h : PE X e (tC (.bl b))) : PE X e (tNew (.bool b)) := PE.less h fun _ H _ q => q H _ (Same.refl _) fun _ _ => .bl b
theorem new_int {i : Int} (h : PE X e (tC (.int i))) : PE X e (tNew (.int i)) := PE.less h fun _ H _ q => q H _ (Same.refl _) fun _ _ => .int i
theorem new_str {x : Str} (h : PE X e (tC (.str x))) : PE X e (tNew (.str x)) := PE.less h fun _ H _ q => q H _ (Same.refl _) fun _ _ => .str x
theorem news_nil : PA X [] (tNews []) := ⟨fun pos pins s σ H Q I q => (pa_nil (X := X)).run pos pins s σ H Q I (q H [] (Same.refl _) (fun _ _ => .nil) rfl)⟩
theorem news_cons (h : PE X e (tNew d)) (g : PA X es (tNews ds)) (hs : starEach (e :: es) X.env = (false, eval e X.env) :: starEach es X.env := by rfl) : PA X (e :: es) (tNews (d :: ds)) := by
  refine ⟨fun pos pins s σ H Q I q => (pa_cons h g hs).run pos pins s σ H Q I fun H1 v s1 h1 => ?_⟩
  intro H2 vs s2 h2 l2
  refine q H2 (v :: vs) (s1.trans s2) (fun D hD => ?_) (by rw [List.length_cons, List.length_cons, l2])
  exact .cons ((h1 D hD).keep (KeepD.of s2)) (h2 D (hD.keep s1))
theorem new_tup {x1} {pos : Pos} (h : PA X es (tNews ds)) (hz : ds.length ≤ 1000) : PE X (.Tuple es x1 pos) (tNew (.tuple ds)) := by
  refine PE.less (pe_tup h) fun σ H Q q => ?_
  intro H1 vs s1 h1 l1
  refine ⟨by have := sizeBig; omega, fun p hp => ?_⟩
  have s2 := same_new (o := .tup vs) hp
  exact q _ _ (s1.trans s2) fun D hD => .tup upd_same ((h1 D hD).keep (KeepD.of s2))
theorem new_lst {pos : Pos} (h : PA X es (tNews ds)) (hz : ds.length ≤ 1000) : PE X (.List es pos) (tNew (.list ds)) := by
  refine PE.less (pe_lst h) fun σ H Q q => ?_
  intro H1 vs s1 h1 l1
  refine ⟨by have := sizeBig; omega, fun p hp => ?_⟩
  have s2 := same_new (o := .lst vs) hp
  refine q _ _ (s1.trans s2) fun D hD => .lst (fun z => ?_) upd_same ((h1 D hD).keep (KeepD.of s2))
  obtain ⟨o, ho⟩ := hD.keep s1
  rw [z, ho] at hp
  cases hp
end
end AskG
/-! Whole numbers and bools together. -/
namespace AskG
open PySem PySem.Spec PyProof.Rows L2
section
variable {X : Cx}
def b1 (k : Bool) : Int := if k = true then 1 else 0
theorem op_add_bi : OpR X (binaryOp .Add) (fun x y H Q => ∃ k i, x = .bl k ∧ y = .int i ∧ Q (.int (b1 k + i)) H) := by
  rintro pins s σ H x y v u Q I rx ry ⟨k, i, rfl, rfl, q⟩
  cases rx
  obtain ⟨t, rfl⟩ := ry
  exact PySem.IntBool.add_bool_int ⟨.int (b1 k + i), H, I.tok _, ⟨_, rfl⟩, q⟩
theorem op_sub_bi : OpR X (binaryOp .Sub) (fun x y H Q => ∃ k i, x = .bl k ∧ y = .int i ∧ Q (.int (b1 k - i)) H) := by
  rintro pins s σ H x y v u Q I rx ry ⟨k, i, rfl, rfl, q⟩
  cases rx
  obtain ⟨t, rfl⟩ := ry
  exact PySem.IntBool.sub_bool_int ⟨.int (b1 k - i), H, I.tok _, ⟨_, rfl⟩, q⟩
theorem op_sub_ib : OpR X (binaryOp .Sub) (fun x y H Q => ∃ i k, x = .int i ∧ y = .bl k ∧ Q (.int (i - b1 k)) H) := by
  rintro pins s σ H x y v u Q I rx ry ⟨i, k, rfl, rfl, q⟩
  obtain ⟨t, rfl⟩ := rx
  cases ry
  exact PySem.IntBool.sub_int_bool ⟨.int (i - b1 k), H, I.tok _, ⟨_, rfl⟩, q⟩
theorem op_eq_bi : OpR X (compareOp .Eq) (fun x y H Q => ∃ k i, x = .bl k ∧ y = .int i ∧ Q (.bl (b1 k == i)) H) := by
  rintro pins s σ H x y v u Q I rx ry ⟨k, i, rfl, rfl, q⟩
  cases rx
  obtain ⟨t, rfl⟩ := ry
  exact PySem.EqBoolInt.eq_bool_int ⟨.bl (b1 k == i), H, I, rfl, q⟩
theorem call_str_bl : CallR X (.type "str") (fun xs H Q => ∃ k : Bool, xs = [.bl k] ∧ Q (.str (if k then "True" else "False")) H) := by
  rintro pins s σ H xs us Q I r ⟨k, rfl, q⟩
  obtain ⟨u, rfl, t⟩ := vals1 r
  cases t
  exact PySem.P.str_of_bool ⟨.str (if k then "True" else "False"), H, I.tok _, ⟨_, rfl⟩, q⟩
end
end AskG
/-! Values made from one value that a name holds; what the bent values of data are. -/
namespace AskG
open PySem PySem.Spec PyProof.Rows L2
/-- the name in slot i holds the data d -/
def Src (i : Nat) (D : Addr) (d : PyData) (σ : L2.St) (H : Hp) : Prop := (∃ v, σ[i]? = some (some v) ∧ DH D H v d) ∧ Taken H D
theorem Src.keep {i : Nat} {D : Addr} {d : PyData} {σ : L2.St} {H H' : Hp} (h : Src i D d σ H) (s : Same H H') : Src i D d σ H' := by
  obtain ⟨⟨v, hv, hd⟩, t⟩ := h
  exact ⟨⟨v, hv, hd.keep (KeepD.of s)⟩, t.keep s⟩
def tFrom (i : Nat) (D : Addr) (d0 d : PyData) : TE := fun σ H Q => Src i D d0 σ H ∧ ∀ H' v, Same H H' → DH D H' v d → Q v H'
def tFroms (i : Nat) (D : Addr) (d0 : PyData) (ds : List PyData) : TA := fun σ H Q => Src i D d0 σ H ∧ ∀ H' vs, Same H H' → DHs D H' vs ds → Q vs H'
section
variable {X : Cx} {e : Expr} {es : List Expr} {i : Nat} {D : Addr} {d0 d : PyData} {ds : List PyData}
theorem from_nil : PA X [] (tFroms i D d0 []) := ⟨fun pos pins s σ H Q I q => (pa_nil (X := X)).run pos pins s σ H Q I (q.2 H [] (Same.refl _) .nil)⟩
theorem from_cons (h : PE X e (tFrom i D d0 d)) (g : PA X es (tFroms i D d0 ds)) (hs : starEach (e :: es) X.env = (false, eval e X.env) :: starEach es X.env := by rfl) : PA X (e :: es) (tFroms i D d0 (d :: ds)) := by
  refine ⟨fun pos pins s σ H Q I q => (pa_cons h g hs).run pos pins s σ H Q I ⟨q.1, fun H1 v s1 h1 => ⟨q.1.keep s1, fun H2 vs s2 h2 => ?_⟩⟩⟩
  exact q.2 H2 (v :: vs) (s1.trans s2) (.cons (h1.keep (KeepD.of s2)) h2)
theorem from_new (h : PE X e (tNew d)) : PE X e (tFrom i D d0 d) := PE.less h fun σ H Q q H' v s n => q.2 H' v s (n D q.1.2)
theorem from_var (h : PE X e (tVar i)) : PE X e (tFrom i D d d) := PE.less h fun σ H Q q => by
  obtain ⟨⟨⟨v, hv, hd⟩, _⟩, q⟩ := q
  exact ⟨v, hv, q H v (Same.refl _) hd⟩
theorem from_tup {x1} {pos : Pos} (h : PA X es (tFroms i D d0 ds)) (hz : ds.length ≤ 1000) : PE X (.Tuple es x1 pos) (tFrom i D d0 (.tuple ds)) := by
  refine PE.less (pe_tup h) fun σ H Q q => ?_
  refine ⟨q.1, fun H1 vs s1 h1 => ⟨by have := sizeBig; have := h1.len; omega, fun p hp => ?_⟩⟩
  have s2 := same_new (o := .tup vs) hp
  exact q.2 _ _ (s1.trans s2) (.tup upd_same (h1.keep (KeepD.of s2)))
theorem from_lst {pos : Pos} (h : PA X es (tFroms i D d0 ds)) (hz : ds.length ≤ 1000) : PE X (.List es pos) (tFrom i D d0 (.list ds)) := by
  refine PE.less (pe_lst h) fun σ H Q q => ?_
  refine ⟨q.1, fun H1 vs s1 h1 => ⟨by have := sizeBig; have := h1.len; omega, fun p hp => ?_⟩⟩
  have s2 := same_new (o := .lst vs) hp
  refine q.2 _ _ (s1.trans s2) (.lst (fun z => ?_) upd_same (h1.keep (KeepD.of s2)))
  obtain ⟨o, ho⟩ := q.1.2.keep s1
  rw [z, ho] at hp
  cases hp
end
/-! ### tuples -/
def cutD (ds : List PyData) (lo hi : Option Int) : List PyData := (ds.drop (HT.sIx ds.length 0 lo)).take (HT.sIx ds.length ds.length hi - HT.sIx ds.length 0 lo)
theorem DHs.drop {D : Addr} {H : Hp} : ∀ {vs : List V} {ds : List PyData} (i : Nat), DHs D H vs ds → DHs D H (vs.drop i) (ds.drop i)
  | _, _, 0, h => h
  | _, _, _ + 1, .nil => .nil
  | _, _, i + 1, .cons _ t => DHs.drop i t
theorem DHs.take {D : Addr} {H : Hp} : ∀ {vs : List V} {ds : List PyData} (i : Nat), DHs D H vs ds → DHs D H (vs.take i) (ds.take i)
  | _, _, 0, _ => .nil
  | _, _, _ + 1, .nil => .nil
  | _, _, i + 1, .cons h t => .cons h (DHs.take i t)
theorem DHs.rev {D : Addr} {H : Hp} : ∀ {vs : List V} {ds : List PyData}, DHs D H vs ds → DHs D H vs.reverse ds.reverse
  | _, _, .nil => .nil
  | _, _, .cons h t => by
    rw [List.reverse_cons, List.reverse_cons]
    exact DHs.app (DHs.rev t) (.cons h .nil)
theorem DHs.cut {D : Addr} {H : Hp} {vs : List V} {ds : List PyData} (h : DHs D H vs ds) (lo hi : Option Int) : DHs D H (cutV vs lo hi) (cutD ds lo hi) := by
  unfold cutV cutD
  rw [h.len]
  exact (h.drop _).take _
section
variable {K : PySem.W.Frag} {H : Hp} {D a b : Addr} {xs ys : List V} {ds es : List PyData} {Q : VK}
theorem sl_from {lo hi : Option Int} (ha : H a = some (.tup xs)) (hd : DHs D H xs ds) (q : ∀ H' v, Same H H' → DH D H' v (.tuple (cutD ds lo hi)) → Q v H') : rSlA K (.ref a) lo hi H Q := by
  have c := hd.cut lo hi
  refine ⟨a, xs, rfl, sqT ha, fun w => q H _ (Same.refl _) ?_, fun _ p hp => ?_⟩
  · have e : cutD ds lo hi = ds := by
      unfold cutD
      rw [← hd.len, w.1, w.2, List.drop_zero]
      exact List.take_of_length_le (by rw [hd.len]; omega)
    rw [e]
    exact .tup ha hd
  · have s2 := same_new (o := .tup (cutV xs lo hi)) hp
    exact q _ _ s2 (.tup upd_same (c.keep (KeepD.of s2)))
theorem sl_fromN {σ : L2.St} {lo : Option Int} (ha : H a = some (.tup xs)) (hd : DHs D H xs ds) (q : ∀ H' v, Same H H' → DH D H' v (.tuple (cutD ds lo none)) → Q v H') : tNoPart σ H fun u H3 => rSlA K (.ref a) lo u H3 Q := sl_from ha hd q
theorem cat_from (ha : H a = some (.tup xs)) (hd : DHs D H xs ds) (hb : H b = some (.tup ys)) (he : DHs D H ys es) (l1 : ds.length ≤ 1000) (l2 : es.length ≤ 1000)
    (q : ∀ H' v, Same H H' → DH D H' v (.tuple (ds ++ es)) → Q v H') : rCatA K (.ref a) (.ref b) H Q := by
  have big := sizeBig
  have c := hd.app he
  refine ⟨a, b, xs, ys, rfl, rfl, sqT ha, sqT hb, by rw [hd.len, he.len]; omega, fun e => ?_, fun _ e => ?_, fun _ _ p hp => ?_⟩
  · subst e
    cases hd
    exact q H _ (Same.refl _) (.tup hb he)
  · subst e
    cases he
    rw [List.append_nil] at q
    exact q H _ (Same.refl _) (.tup ha hd)
  · have s2 := same_new (o := .tup (xs ++ ys)) hp
    exact q _ _ s2 (.tup upd_same (c.keep (KeepD.of s2)))
end
theorem All.cut {b t k n : Nat} {ds : List PyData} (h : All b t k n ds) (lo hi : Option Int) : All b t k n (cutD ds lo hi) := All.take _ (All.drop _ h)
theorem cutD_len (ds : List PyData) (lo hi : Option Int) : (cutD ds lo hi).length ≤ ds.length := by
  unfold cutD
  rw [List.length_take, List.length_drop]
  omega
theorem cutD_pre (ds : List PyData) (n : Nat) (h : n ≤ ds.length) : cutD ds none (some (n : Int)) = ds.take n := by
  unfold cutD
  rw [HT.sIx_nat, HT.sIx_none, List.drop_zero, Nat.sub_zero, Nat.min_eq_left h]
theorem cutD_post (ds : List PyData) (n : Nat) (h : n ≤ ds.length) : cutD ds (some (n : Int)) none = ds.drop n := by
  unfold cutD
  rw [HT.sIx_nat, HT.sIx_none, Nat.min_eq_left h]
  exact List.take_of_length_le (by rw [List.length_drop]; exact Nat.le_refl _)
/-! ### strings -/
theorem asc_cut {s : Str} (h : ascS s = true) (lo hi : Option Int) : ascS (cutS s lo hi) = true := asc_sub h fun c hc => List.mem_of_mem_drop (List.mem_of_mem_take hc)
theorem cutS_len (s : Str) (lo hi : Option Int) : (cutS s lo hi).length ≤ s.length := by
  show ((s.cps.toList.drop _).take _).toArray.size ≤ s.cps.size
  rw [List.size_toArray, List.length_take, List.length_drop, Array.length_toList]
  omega
theorem up_one : ∀ c : Nat, c < 128 → ∀ x ∈ Unicode.upperOf c, x < 128 := by
  have h : ∀ c : Fin 128, ((Unicode.upperOf c.val).all fun x => decide (x < 128)) = true := by decide +kernel
  exact fun c hc x hx => of_decide_eq_true (List.all_eq_true.mp (h ⟨c, hc⟩) x hx)
theorem asc_upper {s : Str} (h : ascS s = true) : ascS (Txt.upper s) = true := by
  refine List.all_eq_true.mpr fun x hx => decide_eq_true ?_
  have hx : x ∈ (s.cps.mapIdx fun i c => (Unicode.upperOf c).toArray).flatten := Array.mem_toList_iff.mp hx
  obtain ⟨a, ha, hxa⟩ := Array.mem_flatten.mp hx
  obtain ⟨i, hi, e⟩ := Array.mem_mapIdx.mp ha
  subst e
  refine up_one _ ?_ x (by simpa using hxa)
  exact of_decide_eq_true (List.all_eq_true.mp h _ (Array.mem_toList_iff.mpr (Array.getElem_mem hi)))
theorem asc_int (i : Int) : ascS (toString i) = true := by
  refine List.all_eq_true.mpr fun c hc => decide_eq_true ?_
  refine Decidable.byContradiction fun z => ?_
  exact int_text_free' c ⟨by omega, by omega⟩ i hc
/-! ### how the measures of a bent value go -/
theorem Of.str {b t k n : Nat} {s : Str} (h : ascS s = true) (hb : s.length ≤ b) (hn : 10 * s.length + 2 ≤ n) : Of b t k n (.str s) := ⟨h, hb, Nat.zero_le _, Nat.zero_le _, hn⟩
theorem Of.int {b t k n : Nat} {i : Int} (ht : i.natAbs ≤ t) (hn : 81 ≤ n) : Of b t k n (.int i) := ⟨rfl, Nat.zero_le _, ht, Nat.zero_le _, hn⟩
theorem Of.bl {b t k n : Nat} {v : Bool} (hn : 5 ≤ n) : Of b t k n (.bool v) := ⟨rfl, Nat.zero_le _, Nat.zero_le _, Nat.zero_le _, hn⟩
theorem Of.non {b t k n : Nat} (hn : 5 ≤ n) : Of b t k n .none := ⟨rfl, Nat.zero_le _, Nat.zero_le _, Nat.zero_le _, hn⟩
theorem Of.exact {b t k n : Nat} {d : PyData} (h : Of b t k n d) : Of b t k (wtD d) d := ⟨h.ok, h.big, h.top, h.dep, Nat.le_refl _⟩
theorem All.exact {b t k n : Nat} {ds : List PyData} (h : All b t k n ds) : All b t k (wtDs ds) ds := ⟨h.ok, h.big, h.top, h.dep, Nat.le_refl _⟩
theorem str_len {b t k n : Nat} {s : Str} (h : Of b t k n (.str s)) : ascS s = true ∧ s.length ≤ b ∧ 10 * s.length + 2 ≤ n := ⟨h.ok, h.big, h.wt⟩
/-- the weights of what stands before, at and after a place -/
theorem wt_split : ∀ {ds : List PyData} {i : Nat} {d : PyData}, ds[i]? = some d → wtDs ds = wtDs (ds.take i) + wtD d + wtDs (ds.drop (i + 1))
  | [], i, _, e => by cases i <;> cases e
  | x :: ds, 0, _, e => by
    cases e
    show wtD x + wtDs ds = 0 + wtD x + wtDs ds
    omega
  | x :: ds, i + 1, _, e => by
    have := wt_split (ds := ds) (i := i) e
    show wtD x + wtDs ds = wtD x + wtDs (ds.take i) + wtD _ + wtDs (ds.drop (i + 1))
    omega
/-! ### what a name's data says of the value -/
section
variable {i : Nat} {D : Addr} {σ : L2.St} {H : Hp}
theorem src_str {s : Str} (h : Src i D (.str s) σ H) : σ[i]? = some (some (.str s)) := by
  obtain ⟨⟨v, hv, hd⟩, _⟩ := h
  obtain rfl := hd.str_inv
  exact hv
theorem src_int {j : Int} (h : Src i D (.int j) σ H) : σ[i]? = some (some (.int j)) := by
  obtain ⟨⟨v, hv, hd⟩, _⟩ := h
  obtain rfl := hd.int_inv
  exact hv
theorem src_bl {b : Bool} (h : Src i D (.bool b) σ H) : σ[i]? = some (some (.bl b)) := by
  obtain ⟨⟨v, hv, hd⟩, _⟩ := h
  cases hd
  exact hv
theorem src_tup {ds : List PyData} (h : Src i D (.tuple ds) σ H) : ∃ a xs, σ[i]? = some (some (.ref a)) ∧ H a = some (.tup xs) ∧ DHs D H xs ds := by
  obtain ⟨⟨v, hv, hd⟩, _⟩ := h
  obtain ⟨a, xs, rfl, ha, t⟩ := hd.tup_inv
  exact ⟨a, xs, hv, ha, t⟩
theorem DH.lst_inv {v : V} {ds : List PyData} (h : DH D H v (.list ds)) : ∃ a xs, v = .ref a ∧ a ≠ D ∧ H a = some (.lst xs) ∧ DHs D H xs ds := by
  cases h with
  | lst n e t => exact ⟨_, _, rfl, n, e, t⟩
theorem Taken.ne {p : Addr} (h : Taken H D) (hp : H p = none) : p ≠ D := fun z => by
  obtain ⟨o, ho⟩ := h
  rw [z, ho] at hp
  cases hp
theorem pickD {vs : List V} {es : List PyData} (h : DHs D H vs es) {w : Int} (w0 : 0 ≤ w) (w1 : w < (es.length : Int)) : ∃ v d, atI vs w = some v ∧ d ∈ es ∧ DH D H v d := by
  obtain ⟨n, rfl⟩ : ∃ n : Nat, w = (n : Int) := ⟨w.toNat, by omega⟩
  have hl := h.len
  have hx : vs[n]? = some vs[n] := List.getElem?_eq_getElem (by omega)
  obtain ⟨d, hd, hh⟩ := h.at hx
  exact ⟨_, d, atI_nat hx, List.mem_of_getElem? hd, hh⟩
end
end AskG
/-! Displays over several names; a list that is extended by displays. -/
namespace AskG
open PySem PySem.Spec PyProof.Rows L2
/-- the names in these slots hold these data -/
def SrcM (l : List (Nat × PyData)) (D : Addr) (σ : L2.St) (H : Hp) : Prop := (∀ x ∈ l, ∃ v, σ[x.1]? = some (some v) ∧ DH D H v x.2) ∧ Taken H D
theorem SrcM.keep {l : List (Nat × PyData)} {D : Addr} {σ : L2.St} {H H' : Hp} (h : SrcM l D σ H) (s : Same H H') : SrcM l D σ H' :=
  ⟨fun x hx => by
    obtain ⟨v, hv, hd⟩ := h.1 x hx
    exact ⟨v, hv, hd.keep (KeepD.of s)⟩, h.2.keep s⟩
theorem SrcM.keepD {l : List (Nat × PyData)} {D : Addr} {σ : L2.St} {H H' : Hp} (h : SrcM l D σ H) (s : KeepD D H H') (t : Taken H' D) : SrcM l D σ H' :=
  ⟨fun x hx => by
    obtain ⟨v, hv, hd⟩ := h.1 x hx
    exact ⟨v, hv, hd.keep s⟩, t⟩
def tFm {α : Type} (l : α → List (Nat × PyData)) (d : α → PyData) : TE := fun σ H Q => ∃ a D, SrcM (l a) D σ H ∧ ∀ H' v, Same H H' → DH D H' v (d a) → Q v H'
def tFms {α : Type} (l : α → List (Nat × PyData)) (ds : α → List PyData) : TA := fun σ H Q => ∃ a D, SrcM (l a) D σ H ∧ ∀ H' vs, Same H H' → DHs D H' vs (ds a) → Q vs H'
/-- a name that holds a whole number -/
theorem SrcM.int {l : List (Nat × PyData)} {D : Addr} {σ : L2.St} {H : Hp} {i : Nat} {j : Int} (h : SrcM l D σ H) (m : (i, .int j) ∈ l) : σ[i]? = some (some (.int j)) := by
  obtain ⟨v, hv, hd⟩ := h.1 _ m
  obtain rfl := DH.int_inv hd
  exact hv
theorem SrcM.tup {l : List (Nat × PyData)} {D : Addr} {σ : L2.St} {H : Hp} {i : Nat} {ds : List PyData} (h : SrcM l D σ H) (m : (i, .tuple ds) ∈ l) : ∃ a xs, σ[i]? = some (some (.ref a)) ∧ H a = some (.tup xs) ∧ DHs D H xs ds := by
  obtain ⟨v, hv, hd⟩ := h.1 _ m
  obtain ⟨a, xs, rfl, ha, t⟩ := DH.tup_inv hd
  exact ⟨a, xs, hv, ha, t⟩
section
variable {X : Cx} {e : Expr} {es : List Expr} {α : Type} {l : α → List (Nat × PyData)} {d : α → PyData} {ds : α → List PyData}
theorem fm_nil : PA X [] (tFms l fun _ => []) := ⟨fun pos pins s σ H Q I ⟨_, _, q⟩ => (pa_nil (X := X)).run pos pins s σ H Q I (q.2 H [] (Same.refl _) .nil)⟩
theorem fm_cons (h : PE X e (tFm l d)) (g : PA X es (tFms l ds)) (hs : starEach (e :: es) X.env = (false, eval e X.env) :: starEach es X.env := by rfl) : PA X (e :: es) (tFms l fun a => d a :: ds a) := by
  refine ⟨fun pos pins s σ H Q I ⟨a, D, q⟩ => (pa_cons h g hs).run pos pins s σ H Q I ⟨a, D, q.1, fun H1 v s1 h1 => ⟨a, D, q.1.keep s1, fun H2 vs s2 h2 => ?_⟩⟩⟩
  exact q.2 H2 (v :: vs) (s1.trans s2) (.cons (h1.keep (KeepD.of s2)) h2)
theorem fm_new {d : PyData} (h : PE X e (tNew d)) : PE X e (tFm l fun _ => d) := PE.less h fun σ H Q ⟨a, D, q⟩ H' v s n => q.2 H' v s (n D q.1.2)
theorem fm_var {i : Nat} (h : PE X e (tVar i)) (m : ∀ a, (i, d a) ∈ l a) : PE X e (tFm l d) := PE.less h fun σ H Q ⟨a, D, q⟩ => by
  obtain ⟨v, hv, hd⟩ := q.1.1 _ (m a)
  exact ⟨v, hv, q.2 H v (Same.refl _) hd⟩
theorem fm_tup {x1} {pos : Pos} (h : PA X es (tFms l ds)) (hz : ∀ a, (ds a).length ≤ 1000) : PE X (.Tuple es x1 pos) (tFm l fun a => .tuple (ds a)) := by
  refine PE.less (pe_tup h) fun σ H Q ⟨a, D, q⟩ => ?_
  refine ⟨a, D, q.1, fun H1 vs s1 h1 => ⟨by have := sizeBig; have := h1.len; have := hz a; omega, fun p hp => ?_⟩⟩
  have s2 := same_new (o := .tup vs) hp
  exact q.2 _ _ (s1.trans s2) (.tup upd_same (h1.keep (KeepD.of s2)))
theorem fm_lst {pos : Pos} (h : PA X es (tFms l ds)) (hz : ∀ a, (ds a).length ≤ 1000) : PE X (.List es pos) (tFm l fun a => .list (ds a)) := by
  refine PE.less (pe_lst h) fun σ H Q ⟨a, D, q⟩ => ?_
  refine ⟨a, D, q.1, fun H1 vs s1 h1 => ⟨by have := sizeBig; have := h1.len; have := hz a; omega, fun p hp => ?_⟩⟩
  have s2 := same_new (o := .lst vs) hp
  refine q.2 _ _ (s1.trans s2) (.lst ((q.1.2.keep s1).ne hp) upd_same (h1.keep (KeepD.of s2)))
theorem new_neg {i : Int} (h : PE X e (tUn (rU fun i => .int (-i)) (tC (.int i)))) : PE X e (tNew (.int (-i))) := PE.less h fun _ H _ q => ⟨i, rfl, q H _ (Same.refl _) fun _ _ => .int _⟩
/-- t * k -/
theorem fm_rep {te : TE} {k : Int} (h : PE X e (tOp (rRepT X.K) te (tC (.int k)))) (ht : ∀ σ H Q, tFm l (fun a => .tuple (ds a)) σ H Q → te σ H Q) (n0 : ∀ a, ds a ≠ []) (k2 : 2 ≤ k) (k3 : k ≤ 1000) (hl : ∀ a, (ds a).length ≤ 1000) : PE X e (tFm l fun a => .tuple (List.replicate k.toNat (ds a)).flatten) := by
  refine PE.less h fun σ H Q ⟨a, D, q⟩ => ht σ H _ ⟨a, D, q.1, fun H1 v s1 h1 => ?_⟩
  obtain ⟨b, xs, rfl, hb, t⟩ := h1.tup_inv
  have e := t.len
  have := hl a
  refine ⟨b, k, xs, rfl, rfl, sqT hb, fun z => n0 a ?_, k2, k3, by omega, fun p hp => ?_⟩
  · rw [z] at e
    exact List.eq_nil_of_length_eq_zero e.symm
  · have s2 := same_new (o := .tup (List.replicate k.toNat xs).flatten) hp
    refine q.2 _ _ (s1.trans s2) (.tup upd_same ?_)
    have t2 := t.keep (KeepD.of s2)
    clear s2
    generalize upd H1 p (.tup (List.replicate k.toNat xs).flatten) = H2 at t2 ⊢
    generalize k.toNat = n
    induction n with
    | zero => exact .nil
    | succ n ih =>
      rw [List.replicate_succ, List.replicate_succ, List.flatten_cons, List.flatten_cons]
      exact t2.app ih
end
/-- a list that is being filled, and the names that hold data -/
structure FoundAt (H0 : Hp) (l : List (Nat × PyData)) (σ : L2.St) (Lf : Addr) (ds : List PyData) (H : Hp) : Prop where
  new : H0 Lf = none
  keep : Same H0 H
  list : ∃ vs, H Lf = some (.lst vs) ∧ DHs Lf H vs ds
  src : SrcM l Lf σ H
theorem keepD_put {H : Hp} {Lf : Addr} {vs ws : List V} (h : H Lf = some (.lst vs)) : KeepD Lf H (upd H Lf (.lst ws)) :=
  ⟨fun b xs e => by rw [upd_ne (ne_of e h fun z => nomatch z)]; exact e, fun b xs n e => by rw [upd_ne n]; exact e⟩
/-- found.extend([..]) -/
theorem ext_read {K : PySem.W.Frag} {H0 H : Hp} {α : Type} {l : α → List (Nat × PyData)} {es : α → List PyData} {σ : L2.St} {s : Nat} {Lf : Addr} {ds : List PyData} {Q : VK} (a : α) (h : FoundAt H0 (l a) σ Lf ds H) (hs : σ[s]? = some (some (.ref Lf))) (len : ds.length + (es a).length ≤ 1000)
    (q : ∀ v H', FoundAt H0 (l a) σ Lf (ds ++ es a) H' → KeepD Lf H H' → Q v H') : tBM K "list" rExtend (tVar s) (tCons (tFm l fun a => .list (es a)) tNil) σ H Q := by
  obtain ⟨vs, hv, hd⟩ := h.list
  refine ⟨.ref Lf, hs, .inl ⟨rfl, _, sqL hv⟩, a, Lf, h.src, fun H1 v s1 h1 => ?_⟩
  obtain ⟨p, ys, rfl, np, hp, hys⟩ := h1.lst_inv
  have big := sizeBig
  have l1 := hd.len
  have l2 := hys.len
  refine ⟨Lf, p, vs, ys, rfl, rfl, s1 _ _ hv, hp, by omega, ?_⟩
  have kd := keepD_put (ws := vs ++ ys) (s1 _ _ hv)
  refine q _ _ ⟨h.new, fun b o e => ?_, ⟨vs ++ ys, upd_same, ((hd.keep (KeepD.of s1)).app hys).keep kd⟩, (h.src.keep s1).keepD kd ⟨_, upd_same⟩⟩ ((KeepD.of s1).trans kd)
  rw [upd_ne (ne_of_none e h.new)]
  exact s1 _ _ (h.keep _ _ e)
/-- found + [..] -/
theorem cat_read {H0 H : Hp} {α : Type} {l : α → List (Nat × PyData)} {es : α → List PyData} {σ : L2.St} {s : Nat} {Lf : Addr} {ds : List PyData} {Q : VK} (a : α) (h : FoundAt H0 (l a) σ Lf ds H) (hs : σ[s]? = some (some (.ref Lf))) (len : ds.length + (es a).length ≤ 1000)
    (q : ∀ p H' ys, Same H0 H' → Same H H' → H p = none → H' p = some (.lst ys) → DHs Lf H' ys (ds ++ es a) → Q (.ref p) H') : tOp rCat (tVar s) (tFm l fun a => .list (es a)) σ H Q := by
  obtain ⟨vs, hv, hd⟩ := h.list
  refine ⟨.ref Lf, hs, a, Lf, h.src, fun H1 v s1 h1 => ?_⟩
  obtain ⟨p, ys, rfl, np, hp, hys⟩ := h1.lst_inv
  have big := sizeBig
  have l1 := hd.len
  have l2 := hys.len
  refine ⟨Lf, p, vs, ys, rfl, rfl, s1 _ _ hv, hp, by omega, fun c hc => ?_⟩
  have s2 := same_new (o := .lst (vs ++ ys)) hc
  have s12 := s1.trans s2
  have hc0 : H c = none := by
    cases e : H c with
    | none => rfl
    | some o =>
      have := s1 _ _ e
      rw [hc] at this
      cases this
  exact q c _ _ (h.keep.trans s12) s12 hc0 upd_same (((hd.keep (KeepD.of s1)).app hys).keep (KeepD.of s2))
theorem iDrop {te : TE} {D : Ends} {σ : L2.St} {H : Hp} (h : te σ H fun _ H1 => D.nx σ H1) : tDrop te D σ H := h
end AskG
/-! repr of any value; rights and rows out of data; append. -/
namespace AskG
open PySem PySem.Spec PyProof.Rows L2
def rReprV (K : PySem.W.Frag) : List V → Hp → VK → Prop := fun xs H Q => rRepr K xs H Q ∨ (xs = [.non] ∧ Q (.str PyData.none.shown) H)
theorem call_reprV {X : Cx} {k : Nat} (hr : RG k X.A) : CallR X (.builtin "repr") (rReprV X.K) := by
  intro pins s σ H xs us Q I r q
  rcases q with q | ⟨rfl, q⟩
  · exact call_repr hr pins s σ H xs us Q I r q
  · obtain ⟨u, rfl, rx⟩ := vals1 r
    cases rx
    exact PySem.P.repr_of_none ⟨.str PyData.none.shown, H, I.tok _, ⟨_, rfl⟩, q⟩
theorem reprV_ref {K : PySem.W.Frag} {H : Hp} {a : Addr} {d : PyData} {n m : Nat} {Q : VK} (h : Dp K H (.ref a) d) (f : Fine n m d) (hn : n ≤ 60) (hm : m ≤ 16777216) (q : Q (.str d.shown) H) : rReprV K [.ref a] H Q :=
  .inl ⟨a, d, rfl, h, f.shw, f.nod, Nat.le_trans f.dep hn, by rw [sizeLine_eq]; exact Nat.le_trans f.len hm, q⟩
/-- None or a row -/
def OptAt (H : Hp) (v : V) : Option RowD → Prop
  | none => v = .non
  | some ρ => ∃ p, v = .ref p ∧ RowAt H p ρ
def optD : Option RowD → PyData
  | none => .none
  | some ρ => rowPD ρ
theorem OptAt.keep {H H' : Hp} {v : V} {o : Option RowD} (h : OptAt H v o) (k : KeepT H H') : OptAt H' v o := by
  cases o with
  | none => exact h
  | some ρ =>
    obtain ⟨p, rfl, h⟩ := h
    exact ⟨p, rfl, h.keep k⟩
theorem reprV_opt {K : PySem.W.Frag} {H : Hp} {v : V} {o : Option RowD} {Q : VK} (h : OptAt H v o) (f : ∀ ρ, o = some ρ → RowOk ρ) (q : Q (.str (optD o).shown) H) : rReprV K [v] H Q := by
  cases o with
  | none =>
    obtain rfl : v = .non := h
    exact .inr ⟨rfl, q⟩
  | some ρ =>
    obtain ⟨p, rfl, h⟩ := h
    exact reprV_ref (dp_row h) (fine_row (f ρ rfl)) (by decide) (by decide) q
/-! ### out of data -/
theorem dhs_cells {D : Addr} {H : Hp} : ∀ {ws : List Cell} {xs : List V}, DHs D H xs (ws.map cellD) → ∃ ps : List Addr, xs = ps.map V.ref ∧ Paired (CellAt H) ps ws
  | [], _, .nil => ⟨[], rfl, .nil⟩
  | c :: ws, _, .cons h t => by
    obtain ⟨ps, rfl, hp⟩ := dhs_cells t
    obtain ⟨a, p, q, rfl, ha, h1, h2⟩ := DH.pair_inv h
    obtain rfl := h1.str_inv
    obtain rfl := h2.int_inv
    exact ⟨a :: ps, rfl, .cons ha hp⟩
theorem dh_kind_inv {D : Addr} {H : Hp} {v : V} {k : KindM} (h : DH D H v k.data) : ∃ a, v = .ref a ∧ H a = some (.tup k.vals) := by
  cases k with
  | tot s =>
    obtain ⟨a, p, q, rfl, ha, h1, h2⟩ := DH.pair_inv h
    obtain rfl := h1.str_inv
    obtain rfl := h2.int_inv
    exact ⟨a, rfl, ha⟩
  | win l =>
    obtain ⟨a, p, q, rfl, ha, h1, h2⟩ := DH.pair_inv h
    obtain rfl := h1.str_inv
    obtain rfl := h2.int_inv
    exact ⟨a, rfl, ha⟩
  | per b e =>
    obtain ⟨a, xs, rfl, ha, t⟩ := DH.tup_inv h
    cases t with
    | cons h1 t => cases t with
      | cons h2 t => cases t with
        | cons h3 t =>
          cases t
          obtain rfl := h1.str_inv
          obtain rfl := h2.int_inv
          obtain rfl := h3.int_inv
          exact ⟨a, rfl, ha⟩
theorem right_inv {D : Addr} {H : Hp} {v : V} {R : Rt} (h : DH D H v (rightD R)) : ∃ a, v = .ref a ∧ RightAt H a R := by
  obtain ⟨a, xs, rfl, ha, t⟩ := DH.tup_inv h
  cases t with
  | cons h1 t => cases t with
    | cons h2 t => cases t with
      | cons h3 t => cases t with
        | cons h4 t => cases t with
          | cons h5 t =>
            cases t
            obtain rfl := h1.str_inv
            obtain ⟨wa, ys, rfl, hwa, hys⟩ := h2.tup_inv
            obtain ⟨ps, rfl, hp⟩ := dhs_cells hys
            obtain rfl := h3.int_inv
            obtain rfl := h4.int_inv
            obtain ⟨ka, rfl, hka⟩ := dh_kind_inv h5
            exact ⟨a, rfl, wa, ps, ka, ha, hwa, hp, hka⟩
theorem dhs_pairs {D : Addr} {H : Hp} : ∀ {ρ : RowD} {xs : List V}, DHs D H xs (ρ.map pairD) → ∃ ps : List Addr, xs = ps.map V.ref ∧ Paired (PairRow H) ps ρ
  | [], _, .nil => ⟨[], rfl, .nil⟩
  | x :: ρ, _, .cons h t => by
    obtain ⟨ps, rfl, hp⟩ := dhs_pairs t
    obtain ⟨a, p, q, rfl, ha, h1, h2⟩ := DH.pair_inv h
    obtain ⟨b, p', q', rfl, hb, h3, h4⟩ := DH.pair_inv h1
    obtain rfl := h2.int_inv
    obtain rfl := h3.str_inv
    obtain rfl := h4.int_inv
    exact ⟨a :: ps, rfl, .cons ⟨b, ha, hb⟩ hp⟩
theorem row_inv {D : Addr} {H : Hp} {v : V} {ρ : RowD} (h : DH D H v (rowPD ρ)) : ∃ a, v = .ref a ∧ RowAt H a ρ := by
  obtain ⟨a, xs, rfl, ha, t⟩ := DH.tup_inv h
  obtain ⟨ps, rfl, hp⟩ := dhs_pairs t
  exact ⟨a, rfl, ps, ha, hp⟩
/-! ### found.append(..) -/
theorem app_read {K : PySem.W.Frag} {H0 H : Hp} {α : Type} {l : α → List (Nat × PyData)} {d : α → PyData} {σ : L2.St} {s : Nat} {Lf : Addr} {ds : List PyData} {Q : VK} (a : α) (h : FoundAt H0 (l a) σ Lf ds H) (hs : σ[s]? = some (some (.ref Lf))) (len : ds.length < 1000)
    (q : ∀ v H', FoundAt H0 (l a) σ Lf (ds ++ [d a]) H' → KeepD Lf H H' → Q v H') : tBM K "list" rAppend (tVar s) (tCons (tFm l d) tNil) σ H Q := by
  obtain ⟨vs, hv, hd⟩ := h.list
  refine ⟨.ref Lf, hs, .inl ⟨rfl, _, sqL hv⟩, a, Lf, h.src, fun H1 v s1 h1 => ?_⟩
  have big := sizeBig
  have l1 := hd.len
  refine ⟨Lf, vs, v, rfl, rfl, s1 _ _ hv, by omega, ?_⟩
  have kd := keepD_put (ws := vs ++ [v]) (s1 _ _ hv)
  refine q _ _ ⟨h.new, fun b o e => ?_, ⟨vs ++ [v], upd_same, ((hd.keep (KeepD.of s1)).app (.cons h1 .nil)).keep kd⟩, (h.src.keep s1).keepD kd ⟨_, upd_same⟩⟩ ((KeepD.of s1).trans kd)
  rw [upd_ne (ne_of_none e h.new)]
  exact s1 _ _ (h.keep _ _ e)
/-! ### the question of a right, or None -/
def qOf (R : Rt) (t : Int) : Option RowD := if usedB R t = true then some (rowQ R t) else none
theorem qOf_ok {R : Rt} (h : RtOk R) {t : Int} (t0 : 0 ≤ t) (t9 : t ≤ 9) : ∀ ρ, qOf R t = some ρ → RowOk ρ := by
  intro ρ e
  unfold qOf at e
  by_cases u : usedB R t = true
  · rw [if_pos u] at e
    cases e
    obtain ⟨b1, b2, b3, b4⟩ := kind_bounds h.kind t0 t9
    have lit : ∀ {i : Int}, -1000 ≤ i → i ≤ 1000 → i.natAbs.log2 < 1920 := fun {i} h1 h2 => by
      by_cases z : i.natAbs = 0
      · rw [z]
        decide
      · have : i.natAbs < 2 ^ 10 := by omega
        have := (Nat.log2_lt z).mpr this
        omega
    have mem : ∀ x ∈ rowQ R t, ∃ c ∈ R.ws, ∃ d ∈ daysOf (R.kind.lo t) (R.kind.hi t), x = ((c.1, d), c.2) := fun x hx => by
      obtain ⟨c, hc, hx⟩ := List.mem_flatMap.mp hx
      obtain ⟨d, hd, rfl⟩ := List.mem_map.mp hx
      exact ⟨c, hc, d, hd, rfl⟩
    refine ⟨?_, fun x hx => ?_, fun x hx => ?_⟩
    · show (rowOn R.ws (R.kind.lo t) (R.kind.hi t)).length ≤ 100
      rw [rowOn_len]
      have : R.ws.length * (R.kind.hi t + 1 - R.kind.lo t).toNat ≤ 3 * 10 := Nat.mul_le_mul h.many (by omega)
      omega
    · obtain ⟨c, hc, d, hd, rfl⟩ := mem x hx
      have k := h.ws c hc
      obtain ⟨i, hi, rfl⟩ := List.mem_map.mp hd
      have hi := List.mem_range.mp hi
      exact ⟨k.short, k.plain, k.ok, lit (by show -1000 ≤ R.kind.lo t + (i : Int); omega) (by show R.kind.lo t + (i : Int) ≤ 1000; omega)⟩
    · obtain ⟨c, hc, d, hd, rfl⟩ := mem x hx
      exact (h.ws c hc).lit
  · rw [if_neg u] at e
    cases e
/-- how the promises of the two questions are used -/
theorem q_opt {R : Rt} {t : Int} {H' : Hp} {Q : VK} (h : ∀ v, OptAt H' v (qOf R t) → Q v H') : (usedB R t = false → Q .non H') ∧ (usedB R t = true → ∀ p, RowAt H' p (rowQ R t) → Q (.ref p) H') := by
  refine ⟨fun e => h _ ?_, fun e p hp => h _ ?_⟩
  · unfold qOf
    rw [e]
    exact rfl
  · unfold qOf
    rw [if_pos e]
    exact ⟨p, rfl, hp⟩
end AskG
/-! More displays: items of a list that a name holds, a tuple that a name holds + a tuple. -/
namespace AskG
open PySem PySem.Spec PyProof.Rows L2
theorem SrcM.lst {l : List (Nat × PyData)} {D : Addr} {σ : L2.St} {H : Hp} {i : Nat} {ds : List PyData} (h : SrcM l D σ H) (m : (i, .list ds) ∈ l) : ∃ a xs, σ[i]? = some (some (.ref a)) ∧ H a = some (.lst xs) ∧ DHs D H xs ds := by
  obtain ⟨v, hv, hd⟩ := h.1 _ m
  obtain ⟨a, xs, rfl, _, ha, t⟩ := DH.lst_inv hd
  exact ⟨a, xs, hv, ha, t⟩
theorem DHs.get {D : Addr} {H : Hp} : ∀ {xs : List V} {ds : List PyData}, DHs D H xs ds → ∀ {k : Nat} {d : PyData}, ds[k]? = some d → ∃ v, xs[k]? = some v ∧ DH D H v d
  | _, _, .nil, k, d, e => by cases k <;> cases e
  | _, _, .cons h t, 0, d, e => by
    cases e
    exact ⟨_, rfl, h⟩
  | _, _, .cons h t, k + 1, d, e => DHs.get t e
section
variable {X : Cx} {e : Expr} {α : Type} {l : α → List (Nat × PyData)}
theorem fm_ix {i k : Nat} {ds : List PyData} {d : PyData} (h : PE X e (tOp (rIxL X.K) (tVar i) (tC (.int (k : Int))))) (m : ∀ a, (i, .list ds) ∈ l a) (hd : ds[k]? = some d) : PE X e (tFm l fun _ => d) := PE.less h fun σ H Q ⟨a, D, q⟩ => by
  obtain ⟨b, xs, hv, hb, t⟩ := q.1.lst (m a)
  obtain ⟨v, hk, hh⟩ := t.get hd
  exact ⟨_, hv, b, xs, _, v, rfl, rfl, sqL hb, atI_nat hk, q.2 H v (Same.refl _) hh⟩
theorem fm_cat {i : Nat} {te : TE} {ds : List PyData} {es : α → List PyData} (h : PE X e (tOp (rCatA X.K) (tVar i) te)) (ht : ∀ σ H Q, tFm l (fun a => .tuple (es a)) σ H Q → te σ H Q) (m : ∀ a, (i, .tuple ds) ∈ l a) (l1 : ds.length ≤ 1000) (l2 : ∀ a, (es a).length ≤ 1000) : PE X e (tFm l fun a => .tuple (ds ++ es a)) := PE.less h fun σ H Q ⟨a, D, q⟩ => by
  obtain ⟨b, xs, hv, hb, t⟩ := q.1.tup (m a)
  refine ⟨_, hv, ht σ H _ ⟨a, D, q.1, fun H1 v1 s1 h1 => ?_⟩⟩
  obtain ⟨c, ys, rfl, hc, t2⟩ := h1.tup_inv
  exact cat_from (s1 _ _ hb) (t.keep (KeepD.of s1)) hc t2 l1 (l2 a) fun H2 v2 s2 h2 => q.2 _ _ (s1.trans s2) h2
end
end AskG
/-! AskTk: the set of nested keys as a thing of the hand layer; set.add. -/
namespace Ask
open PySem PySem.Spec PyProof.Rows L2

mutual
/-- the value v is the key k -/
def HKey (K : PySem.W.Frag) (H : Hp) : NestedKey → V → Prop
  | .none, v => v = .non
  | .num i, v => v = .int i
  | .text x, v => v = .str x
  | .tup ks, v => ∃ a xs, v = .ref a ∧ SqT K H a xs ∧ HKeys K H ks xs
def HKeys (K : PySem.W.Frag) (H : Hp) : List NestedKey → List V → Prop
  | [], xs => xs = []
  | k :: ks, xs => ∃ y ys, xs = y :: ys ∧ HKey K H k y ∧ HKeys K H ks ys
end
mutual
theorem hkey_is {X : Cx} {pins : List (Addr × Obj)} {σ : L2.St} {H : Hp} {s : Shared} (I : Inv X pins σ H s) : ∀ (k : NestedKey) (v : V) (u : Value), HKey X.K H k v → RelV v u → NestedIs s.heap k u
  | .none, v, u, h, r => by
    have e : v = .non := h
    subst e
    cases r
    exact .none
  | .num i, v, u, h, r => by
    have e : v = .int i := h
    subst e
    obtain ⟨t, rfl⟩ := r
    exact .int i t
  | .text x, v, u, h, r => by
    have e : v = .str x := h
    subst e
    obtain ⟨t, rfl⟩ := r
    exact .text x t
  | .tup ks, v, u, h, r => by
    obtain ⟨a, xs, e, hq, hs⟩ := h
    subst e
    cases r
    obtain ⟨its, rv, ⟨o, ho, hc, n, hd⟩, _⟩ := I.tuple hq
    exact .tup ho hc hd (by simpa using hkeys_are I ks xs its hs rv)
theorem hkeys_are {X : Cx} {pins : List (Addr × Obj)} {σ : L2.St} {H : Hp} {s : Shared} (I : Inv X pins σ H s) : ∀ (ks : List NestedKey) (xs : List V) (us : List Value), HKeys X.K H ks xs → Vals xs us → NestedAll s.heap ks us
  | [], xs, us, h, r => by
    have e : xs = [] := h
    subst e
    cases r
    exact .nil
  | k :: ks, xs, us, h, r => by
    obtain ⟨y, ys, e, h1, h2⟩ := h
    subst e
    cases r with
    | cons r1 r2 => exact .cons (hkey_is I k y _ h1 r1) (hkeys_are I ks ys _ h2 r2)
end

/-- the set at a, its keys aside -/
structure SetK0 (w : World) (h : Heap) (a : Addr) (L : List (Addr × NestedKey)) : Prop where
  has : ∃ (es : Array (Int × Value)) (ep : Nat) (t : SetTable), (∃ o, h.get? a = some o ∧ o.ExactSet ∧ o.data = .set es ep t) ∧ es.toList = entOf w L ∧ TabOk t (L.map fun p => p.2.hash w) ∧ (L.map Prod.snd).Nodup ∧
    (w.params.followText "set-order" = true ∨ t.led = true) ∧ L.length * 5 < t.mask * 3 ∧ L.length < 64
def SetKO (w : World) (a : Addr) (L : List (Addr × NestedKey)) : HO := .ext fun h => SetK0 w h a L
theorem SetK.bare {P : Program} {w : World} {h : Heap} {a : Addr} {L : List (Addr × NestedKey)} {es : Array (Int × Value)} {ep : Nat} {t : SetTable} (S : SetK P w h a L es ep t) : SetK0 w h a L :=
  ⟨es, ep, t, S.obj, S.ent, S.tab, S.one, S.lead, S.air, S.few⟩
theorem SetK0.whole {P : Program} {w : World} {h : Heap} {a : Addr} {L : List (Addr × NestedKey)} (S : SetK0 w h a L) (keys : ∀ p ∈ L, IsK P w h p.2 p.1) : ∃ es ep t, SetK P w h a L es ep t := by
  obtain ⟨es, ep, t, z1, z2, z3, z4, z5, z6, z7⟩ := S.has
  exact ⟨es, ep, t, z1, z2, z3, z4, keys, z5, z6, z7⟩
theorem setKO_ok {P : Program} {w : World} {H : Hp} {h : Heap} {a : Addr} {L : List (Addr × NestedKey)} (S : SetK0 w h a L) : ObjOk P w H h a (SetKO w a L) := by
  obtain ⟨es, ep, t, ⟨o, ho, r⟩, q⟩ := id S.has
  refine ⟨S, ⟨o, ho⟩, fun h1 h2 p k => ?_⟩
  obtain ⟨es', ep', t', ⟨o', ho', r'⟩, q'⟩ := SetK0.has p
  exact ⟨es', ep', t', ⟨o', k o' ho', r'⟩, q'⟩
theorem setK_empty {P : Program} {w : World} {h : Heap} {a : Addr} (ho : h.get? a = some { cls := .type "set", dict := none, data := .set #[] 0 (.fresh 0 0 (!w.params.followText "set-order")) }) : SetK0 w h a [] := by
  refine ⟨#[], 0, _, ⟨_, ho, ⟨rfl, rfl, rfl⟩, rfl⟩, rfl, ⟨List.Pairwise.nil, rfl, rfl, .inl rfl, fun x hx => ?_, fun i h j e => ?_⟩, List.Pairwise.nil, ?_, (show 0 * 5 < 7 * 3 by decide), (show 0 < 64 by decide)⟩
  · exact absurd hx (by simp [SetTable.fresh])
  · exact absurd e (by simp)
  · show _ ∨ (!w.params.followText "set-order") = true
    cases w.params.followText "set-order" <;> simp

section
variable {X : Cx} {pins : List (Addr × Obj)} {σ : L2.St} {H : Hp} {s : Shared} {E : Value → Shared → Prop}
/-- the keys of the list L stand where it says -/
def KeysAt (K : PySem.W.Frag) (H : Hp) (L : List (Addr × NestedKey)) : Prop := ∀ p ∈ L, HKey K H p.2 (.ref p.1) ∧ p.2.depth ≤ 8
theorem KeysAt.are {L : List (Addr × NestedKey)} (h : KeysAt X.K H L) (I : Inv X pins σ H s) : ∀ p ∈ L, IsK X.prog X.w s.heap p.2 p.1 :=
  fun p hp => ⟨hkey_is I p.2 (.ref p.1) (.ref p.1) (h p hp).1 rfl, (h p hp).2⟩
theorem KeysAt.put {L L' : List (Addr × NestedKey)} {x : Addr} {k : NestedKey} (h : KeysAt X.K H L) (hk : HKey X.K H k (.ref x)) (hd : k.depth ≤ 8) (pm : L'.Perm ((x, k) :: L)) : KeysAt X.K H L' := fun p hp => by
  cases List.mem_cons.mp (pm.mem_iff.mp hp) with
  | inl e => exact e ▸ ⟨hk, hd⟩
  | inr m => exact h p m

/-- D.add(x), x a key -/
theorem addK_ok {D x : Addr} {L : List (Addr × NestedKey)} {k : NestedKey} {Q : Value → Shared → Prop} (I : Inv X pins σ H s) (room : X.A.units + 10 < cLine) (hD : H D = some (SetKO X.w D L)) (hL : KeysAt X.K H L) (few : L.length + 1 < 64)
    (hk : HKey X.K H k (.ref x)) (hd : k.depth ≤ 8)
    (h : ∀ s' L', Inv X pins σ (upd H D (SetKO X.w D L')) s' → (k ∈ L.map Prod.snd → L' = L) → (k ∉ L.map Prod.snd → L'.Perm ((x, k) :: L)) → Q .none s') :
    wpAny (model X.prog X.w) X.A (call (.builtin "set.add") [.ref D, .ref x]) Q E s := by
  have S0 : SetK0 X.w s.heap D L := (I.hok D _ hD).1
  obtain ⟨es, ep, t, S⟩ := S0.whole (P := X.prog) (hL.are I)
  have kx : IsK X.prog X.w s.heap k x := ⟨hkey_is I k (.ref x) (.ref x) hk rfl, hd⟩
  obtain ⟨o, ho, hex, _⟩ := S.obj
  have ty : s.TypeIs (.ref D) "set" := ⟨o, ho, hex.1⟩
  refine wpAny_call_entry F.slot_set_add ty F.entry_set_add ?_ (F.args_set_add_2 _ _)
  unfold Builtin.«set.add» Builtin.Frozenset.oneOther
  simp only [List.isEmpty_nil, bind_assoc]
  unfold Builtin.Frozenset.addrOf setAdd
  refine wpAny_bind (wpAny_pure ?_)
  try dsimp only
  refine wpAny_bind (wpAny_pure ?_)
  try dsimp only
  refine wpAny_bind (wpAny_holding (wpAny_bind ((nestedKind X.prog X.w).pyHash (show X.A.in1.units + 8 < cLine by rw [Around.in1_units]; omega) kx ?_)))
  refine putKey (s := { s with toks := s.toks + k.draws }) S kx (by rw [Around.in1_units]; omega) few fun b h' L' es' ep' t' sb S' q1 q2 => ?_
  refine wpAny_pure ⟨_, rfl, h _ L' ?_ q1 q2⟩
  obtain ⟨o', ho', _⟩ := S'.obj
  exact I.write (e := D) (t' := s.toks + k.draws) (by rw [hD]; trivial) (.inl rfl) (fun b u hb hu => (sb.2 b hb).trans hu) ⟨o', ho'⟩ (setKO_ok S'.bare)
end
end Ask
/-! AskUk: the loops of a set comprehension with two for. -/
namespace Ask
open PySem PySem.Spec PyProof.Rows L2
abbrev sc2 (elt t0 i0 t1 i1 : Expr) (scope : Scope) (pos : Pos) : Expr := .SetComp elt [⟨t0, i0, [], 0⟩, ⟨t1, i1, [], 0⟩] scope pos
theorem sc2_first (elt t0 i0 t1 i1 : Expr) (scope : Scope) (pos : Pos) (it acc : Value) (env : Env) :
    compTurn (sc2 elt t0 i0 t1 i1 scope pos) 0 it acc env = (do
      standAt i0.pos
      match ← pyNext it with
      | none => pure (.done .next)
      | some v =>
        letOwnedTupleGo t0 it v
        assign t0 env v
        let mut go := true
        for c in ([] : List Expr) do
          if go then go ← isTrue c env (eval c env)
        if go then
          let x ← eval i1 env
          standAt i1.pos
          let x ← foldedSetIterable i1 env x
          let _ ← runOwn (.compStart (sc2 elt t0 i0 t1 i1 scope pos) 1 (← holding [x] (pyIter x)) acc env) env
        again (.compLoop (sc2 elt t0 i0 t1 i1 scope pos) 0 it acc env)) := by rfl
theorem sc2_second (elt t0 i0 t1 i1 : Expr) (scope : Scope) (pos : Pos) (it acc : Value) (env : Env) :
    compTurn (sc2 elt t0 i0 t1 i1 scope pos) 1 it acc env = (do
      standAt i1.pos
      match ← pyNext it with
      | none => pure (.done .next)
      | some v =>
        letOwnedTupleGo t1 it v
        assign t1 env v
        let mut go := true
        for c in ([] : List Expr) do
          if go then go ← isTrue c env (eval c env)
        if go then
          (do let v ← eval elt env; standAt elt.pos; let _ ← call (.builtin "set.add") [acc, v])
        again (.compLoop (sc2 elt t0 i0 t1 i1 scope pos) 1 it acc env)) := by rfl
section
variable {prog : Program} {w : World} {A : Around} {R : Result → Shared → Prop} {s : Shared} {elt t0 i0 t1 i1 : Expr} {scope : Scope} {pos : Pos} {it acc : Value} {env : Env}
/-- no error -/
abbrev Calm (prog : Program) (w : World) (A : Around) {α : Type} (m : Sem α) (Q : α → Shared → Prop) (s : Shared) : Prop := wpAny (model prog w) A m Q (fun _ _ => False) s
theorem Calm.any {α : Type} {m : Sem α} {Q Q' : α → Shared → Prop} {E : Value → Shared → Prop} (h : Calm prog w A m Q s) (k : ∀ v s', Q v s' → Q' v s') : wpAny (model prog w) A m Q' E s :=
  wpAny_mono h k fun _ _ z => z.elim

theorem sc2_outer (hs : ∀ x, foldedSetIterable i1 env x = pure x) (J : Nat → Shared → Prop)
    (turn : ∀ n s, J n s → Calm prog w A (pyNext it) (fun r s1 => match r with
      | none => R (.ok .next) s1
      | some v => Calm prog w A (letOwnedTupleGo t0 it v) (fun _ s2 => Calm prog w A (assign t0 env v) (fun _ s3 => Calm prog w A (eval i1 env) (fun x s4 => Calm prog w A (pyIter x) (fun it1 s5 =>
          codeAny (model prog w) A (.compStart (sc2 elt t0 i0 t1 i1 scope pos) 1 it1 acc env) (fun r s' => match r with
            | .ok _ => ∃ m, m < n ∧ J m s'
            | .error _ => False) s5) s4) s3) s2) s1) s) (n : Nat) (h : J n s) :
    codeAny (model prog w) A (.compLoop (sc2 elt t0 i0 t1 i1 scope pos) 0 it acc env) R s := by
  refine codeAny_loop rfl J (fun n s hJ => ?_) n h
  show wpAny _ A ((compTurn (sc2 elt t0 i0 t1 i1 scope pos) 0 it acc env).onRaise (fun x => do noteFrame x env; theTreesLotGoes x)) _ _ s
  refine wpAny_noted ?_
  rw [sc2_first]
  refine wpAny_bind (wpAny_standAt (wpAny_bind ((turn n s hJ).any fun r s1 h1 => ?_)))
  cases r with
  | none => exact wpAny_pure h1
  | some v =>
    refine wpAny_bind (Calm.any h1 fun _ s2 h2 => wpAny_bind (Calm.any h2 fun _ s3 h3 => ?_))
    refine wpAny_bind (wpAny_of_eq (a := true) rfl (wpAny_bind (Calm.any h3 fun x s4 h4 => ?_)))
    refine wpAny_bind (wpAny_standAt (wpAny_bind (wpAny_of_eq (hs x) (wpAny_bind (wpAny_holding (Calm.any h4 fun it1 s5 h5 => ?_))))))
    refine wpAny_bind (wpAny_runOwn ?_)
    rw [Around.mark_none]
    refine codeAny_mono h5 fun r s' hr => ?_
    cases r with
    | ok f => first
      | exact wpAny_pure ⟨rfl, hr⟩
      | exact wpAny_bind (wpAny_pure (wpAny_pure ⟨rfl, hr⟩))
    | error e => exact hr.elim
theorem sc2_inner (J : Nat → Shared → Prop)
    (turn : ∀ n s, J n s → Calm prog w A (pyNext it) (fun r s1 => match r with
      | none => R (.ok .next) s1
      | some v => Calm prog w A (letOwnedTupleGo t1 it v) (fun _ s2 => Calm prog w A (assign t1 env v) (fun _ s3 => Calm prog w A (eval elt env) (fun x s4 =>
          Calm prog w A (call (.builtin "set.add") [acc, x]) (fun _ s5 => ∃ m, m < n ∧ J m s5) s4) s3) s2) s1) s) (n : Nat) (h : J n s) :
    codeAny (model prog w) A (.compLoop (sc2 elt t0 i0 t1 i1 scope pos) 1 it acc env) R s := by
  refine codeAny_loop rfl J (fun n s hJ => ?_) n h
  show wpAny _ A ((compTurn (sc2 elt t0 i0 t1 i1 scope pos) 1 it acc env).onRaise (fun x => do noteFrame x env; theTreesLotGoes x)) _ _ s
  refine wpAny_noted ?_
  rw [sc2_second]
  refine wpAny_bind (wpAny_standAt (wpAny_bind ((turn n s hJ).any fun r s1 h1 => ?_)))
  cases r with
  | none => exact wpAny_pure h1
  | some v =>
    refine wpAny_bind (Calm.any h1 fun _ s2 h2 => wpAny_bind (Calm.any h2 fun _ s3 h3 => ?_))
    refine wpAny_bind (wpAny_of_eq (a := true) rfl (wpAny_bind (wpAny_bind (Calm.any h3 fun x s4 h4 => ?_))))
    exact wpAny_bind (wpAny_standAt (wpAny_bind (Calm.any h4 fun _ s5 h5 => wpAny_pure (wpAny_pure ⟨rfl, h5⟩))))
theorem sc2_start (h0 : codeAny (model prog w) A (.compLoop (sc2 elt t0 i0 t1 i1 scope pos) 1 it acc env) R s)
    (h : Calm prog w A (pyIter it) (fun it' s' => codeAny (model prog w) A (.compLoop (sc2 elt t0 i0 t1 i1 scope pos) 1 it' acc env) R s') s) :
    codeAny (model prog w) A (.compStart (sc2 elt t0 i0 t1 i1 scope pos) 1 it acc env) R s := by
  refine codeAny_of_tree ?_
  show wpAny _ _ ((compStart (sc2 elt t0 i0 t1 i1 scope pos) 1 it acc env).onRaise (fun x => do noteFrame x env; standAt theWindowsPlace)) _ _ s
  refine wpAny_notedAt ?_
  unfold compStart
  refine wpAny_bind (m := ask) (wpAny_askSetting (wpAny_ite ?_))
  split
  · first
      | exact wpAny_bind (wpAny_pure (wpAny_pure ⟨rfl, h0⟩))
      | exact wpAny_pure ⟨rfl, h0⟩
  · refine wpAny_bind (wpAny_rule ?_)
    refine wpAny_bind (m := standAt i1.pos) (wpAny_standAt (wpAny_bind (Calm.any h fun it' s' h' => wpAny_pure ⟨rfl, h'⟩)))
end
end Ask
/-! AskWk: {x for .. in .. for .. in ..}, x a nested key. -/
namespace Ask
open PySem PySem.Spec PyProof.Rows L2
/-- the reading: D the new set -/
def tSc2 (K : PySem.W.Frag) (w : World) (wi : TI) (g : TG) (wi1 : TI) (g1 : TG) (te : TE) (vs vs1 : List Nat) : TE := fun σ H Q => wi σ H fun J H1 => ∀ D, H1 D = none →
  ∃ W : Nat → Nat → Hp → Prop, (∃ m, W 0 m (upd H1 D (SetKO w D []))) ∧ ∀ i m H, W i m H →
    (J.stop i H ∧ Q (.ref D) H) ∨ (J.go i H ∧ ∃ Nx : Hp → Prop, (∀ H', Nx H' → ∃ m', m' < m ∧ W (i + 1) m' H') ∧
      ∀ x H', J.yld i H x H' → g x (wipe σ vs) H' fun σ2 H2 => wipe σ2 vs = wipe σ vs ∧ wi1 σ2 H2 fun J1 H4 =>
        ∃ W1 : Nat → Nat → Hp → Prop, (∃ m, W1 0 m H4) ∧ ∀ j k H, W1 j k H →
          (J1.stop j H ∧ Nx H) ∨ (J1.go j H ∧ ∃ Nx1 : Hp → Prop, (∀ H', Nx1 H' → ∃ k', k' < k ∧ W1 (j + 1) k' H') ∧
            ∀ x H', J1.yld j H x H' → g1 x (wipe σ2 vs1) H' fun σ3 H5 => wipe σ3 vs1 = wipe σ2 vs1 ∧ te σ3 H5 fun y H7 =>
              ∃ b L q, y = .ref b ∧ H7 D = some (SetKO w D L) ∧ KeysAt K H7 L ∧ L.length + 1 < 64 ∧ HKey K H7 q (.ref b) ∧ q.depth ≤ 8 ∧
                ∀ L', (q ∈ L.map Prod.snd → L' = L) → (q ∉ L.map Prod.snd → L'.Perm ((b, q) :: L)) → Nx1 (upd H7 D (SetKO w D L'))))
section
variable {X : Cx}
theorem pe_sc2 {elt tg iter tg1 iter1 : Expr} {scope : Scope} {own : List (Str × Nat)} {vs1 : List Nat} {pos : Pos} {wi wi1 : TI} {g g1 : TG} {te : TE}
    (hu : X.A.units + 10 < cLine) (hc : X.calm = true) (hN : X.N.Nodup) (hi : PI X tg iter wi) (ok : BlkOk X.N X.env.scope scope own) (hv : ∀ i ∈ vs1, i ∈ own.map (·.2))
    (hg : ∀ (s : Shared) (H : Hp) (C : Addr) (cl : List (Str × Addr)) (fp : List Addr), PG (X.blk s H scope (compEnvC scope cl C X.env) fp) tg g)
    (hi1 : ∀ (s : Shared) (H : Hp) (C : Addr) (cl : List (Str × Addr)) (fp : List Addr), PI (X.blk s H scope (compEnvC scope cl C X.env) fp) tg1 iter1 wi1)
    (hg1 : ∀ (s : Shared) (H : Hp) (C : Addr) (cl : List (Str × Addr)) (fp : List Addr), PG (X.blk s H scope (compEnvC scope cl C X.env) fp) tg1 g1)
    (he : ∀ (s : Shared) (H : Hp) (C : Addr) (cl : List (Str × Addr)) (fp : List Addr), PE (X.blk s H scope (compEnvC scope cl C X.env) fp) elt te)
    (hs : ∀ x, foldedSetIterable iter X.env x = pure x := by intro _; rfl) (hs1 : ∀ env x, foldedSetIterable iter1 env x = pure x := by intro _ _; rfl) :
    PE X (sc2 elt tg iter tg1 iter1 scope pos) (tSc2 X.K X.w wi g wi1 g1 te (own.map (·.2)) vs1) := by
  constructor
  intro pins s σ H Q I h
  rw [arm_eval_SetComp]
  have hfree : ∀ y ∈ scope.names, y.2 = .free → ∃ c, X.env.cells.lookup y.1 = some c := by
    intro y hy e
    exact (ok.free y hy e).elim (fun k => I.ok.has _ (.inl k)) fun k => I.ok.has _ (.inr k)
  refine wpAny_comprehension_free rfl hs (closure_ok hfree) ok.kind (fun y hy e => by rw [ok.uniq y hy, e])
    (thn (hi.run pins s σ H _ I h) fun xv s1 hx => thn hx ?_)
  rintro itv s2 ⟨it, fp, tn, J, H2, e, I2, T, st2, f2, q⟩
  subst e
  refine wpAny_newSet_raw fun led eled => newEnv_comp ?_
  subst eled
  generalize hD : s2.heap.objs.size = D
  have hDn : H2 D = none := I2.hok.fresh (Nat.le_of_eq hD)
  obtain ⟨W, ⟨m0, w0⟩, turn⟩ := q D hDn
  generalize hnew : ({ cls := .type "set", dict := none, data := .set #[] 0 (.fresh 0 0 (!X.w.params.followText "set-order")) } : Obj) = new
  generalize hs3 : ({ s2 with heap := s2.heap.push new } : Shared) = s3
  have I3 : Inv X pins σ (upd H2 D (SetKO X.w D [])) s3 := by
    rw [← hs3]
    refine I2.laid (t' := s2.toks) (fun b o e => Heap.get?_push_of_some _ e) (Nat.le_of_eq hD) (setKO_ok (setK_empty (P := X.prog) ?_))
    rw [← hD, ← hnew]
    exact Heap.get?_push_size _ rfl
  have h3 : s3.heap = s2.heap.push new := by rw [← hs3]
  have f3 : ∀ b ∈ fp, FpOk X pins (upd H2 D (SetKO X.w D [])) b ∧ b < s3.heap.objs.size := by
    intro b hb
    have hlt : b < s2.heap.objs.size := (T.obj _ _ st2 b hb).elim fun o e => Heap.lt_size e.1
    refine ⟨⟨?_, (f2 b hb).2⟩, by rw [h3, Heap.size_push]; exact Nat.lt_succ_of_lt hlt⟩
    rw [upd_ne (by rw [← hD]; exact Nat.ne_of_lt hlt)]
    exact (f2 b hb).1
  have st3 : tn 0 s3.heap := T.keep _ _ _ st2 fun b _ o e => h3 ▸ Heap.get?_push_of_some _ e
  have I4 := block_start I3 ok hN f3
  generalize hcl : cellsFrom (s3.heap.objs.size + 1) scope.names (cloFrom X.env.cells scope.names []) = cl at I4 ⊢
  have pg := hg s3 (upd H2 D (SetKO X.w D [])) s3.heap.objs.size cl fp
  have pe := he s3 (upd H2 D (SetKO X.w D [])) s3.heap.objs.size cl fp
  have pi1 := hi1 s3 (upd H2 D (SetKO X.w D [])) s3.heap.objs.size cl fp
  have pg1 := hg1 s3 (upd H2 D (SetKO X.w D [])) s3.heap.objs.size cl fp
  have nfp : ∀ b ∈ fp, (upd H2 D (SetKO X.w D [])) b = none := fun b hb => (f3 b hb).1.1
  show codeAny _ _ (.compStart (sc2 elt tg iter tg1 iter1 scope pos) 0 (.ref it) (.ref D) (compEnvC scope cl s3.heap.objs.size X.env)) _
    { s3 with heap := pushCells (s3.heap.push { cls := .type "dict", data := .dict #[] }) scope.names }
  generalize hce : compEnvC scope cl s3.heap.objs.size X.env = ce at I4 pg pe pi1 pg1 ⊢
  have cL : ce.locals = s3.heap.objs.size := by
    subst hce
    rfl
  generalize hH3 : upd H2 D (SetKO X.w D []) = H3 at I3 I4 pg pe pi1 pg1 w0 nfp f3
  generalize hs4 : ({ s3 with heap := pushCells (s3.heap.push { cls := .type "dict", data := .dict #[] }) scope.names } : Shared) = s4 at I4 ⊢
  have st4 : tn 0 s4.heap := T.keep _ _ _ st3 fun b _ o e => by
    rw [← hs4]
    exact pushCells_keeps _ _ _ _ (Heap.get?_push_of_some _ e)
  have stat : ∀ {σ' : L2.St} {H' : Hp} {s' : Shared}, Inv (X.blk s3 H3 scope ce fp) [] σ' H' s' → (∀ b ∈ fp, H' b = none) →
      ∀ b ∈ fp, FpOk (X.blk s3 H3 scope ce fp) [] H' b := by
    intro σ' H' s' I' hn b hb
    exact ⟨hn b hb, (I'.ok.exf b hb).1, I'.ok.exfs b hb, .inl hb, fun x c e => (I'.ok.exf b hb).2 x c e,
      fun p hp => absurd (show p ∈ ([] : List (Addr × Obj)) ++ [] from hp) (by simp)⟩
  refine codeAny_compStart_set ?loop (T.self X.A 0 _ _ _ st4 ?loop)
  refine sc2_outer (hs1 ce) (fun n s' => ∃ i H', Inv (X.blk s3 H3 scope ce fp) [] (wipe σ (own.map (·.2))) H' s' ∧ tn i s'.heap ∧
    (∀ b ∈ fp, H' b = none) ∧ W i n H') ?_ m0 ⟨0, H3, I4, st4, nfp, w0⟩
  rintro n s5 ⟨i, H5, I5, st5, n5, w5⟩
  rcases turn i n H5 w5 with ⟨stop, qq⟩ | ⟨go, Nx, hNx, step⟩
  · have td := T.done (X.blk s3 H3 scope ce fp) rfl rfl rfl hc i [] s5 _ H5 (fun _ _ => False) I5 (stat I5 n5) st5 stop
    refine thnF td ?_
    rintro r s6 ⟨hr, I6⟩
    subst hr
    have I7 : Inv X pins σ H5 s6 := I3.call' (ch := fp) I6.os I6.base I6.hok I6.bare fun b hb =>
      ⟨(f3 b hb).1.2.2.2.1, (f3 b hb).1.2.1, (f3 b hb).1.2.2.2.2.1, (f3 b hb).1.2.2.2.2.2⟩
    have nC : H5 s3.heap.objs.size = none := by
      have z : H5 ce.locals = none := I6.free
      rw [cL] at z
      exact z
    obtain ⟨m, hn, _⟩ := I6.loc
    have hn : s6.heap.Ns ce.locals m := hn
    rw [cL] at hn
    obtain ⟨f0, f1, f2, f3, f4, f5⟩ := I3.fpOk (Nat.le_refl _) nC
    refine ⟨m, hn, fun h'' sb => ?_⟩
    exact ⟨.ref D, H5, I7.turned (t' := s6.toks) (fun b o hb e => (sb.2 b hb).trans e) f0 f1 f3 f4 f5, rfl, qq⟩
  · have ti := T.item (X.blk s3 H3 scope ce fp) rfl rfl rfl hc i [] s5 _ H5 (fun _ _ => False) I5 (stat I5 n5) st5 go
    refine thnF ti ?_
    rintro r s6 ⟨u, hr, h6⟩
    subst hr
    refine thnF h6 ?_
    rintro _ s7 ⟨x, H7, I7, r7, y7, st7, n7⟩
    have I7' := I7.pinned (stat I7 n7) (T.obj _ _ st7)
    refine thnF (pg.run _ s7 _ H7 x u _ I7' r7 (step x H7 y7)) ?_
    rintro _ s8 ⟨σ8, H8, I8, hw8, q8⟩
    have hl8 : (wipe σ (own.map (·.2))).length = σ8.length := by rw [← hw8, wipe_length]
    have knows : ∀ (j : Nat) v, (wipe σ (own.map (·.2)))[j]? = some (some v) → (wipe σ8 vs1)[j]? = some (some v) := by
      intro j v e
      rw [← hw8] at e
      obtain ⟨e1, e2⟩ := wipe_some e
      rw [wipe_out fun z => e2 (hv j z)]
      exact e1
    have fin : ∀ {s' : Shared} {H' : Hp}, Inv (X.blk s3 H3 scope ce fp) ([] ++ pinsAt fp s7.heap) (wipe σ8 vs1) H' s' → Nx H' →
        ∃ m, m < n ∧ ∃ i H', Inv (X.blk s3 H3 scope ce fp) [] (wipe σ (own.map (·.2))) H' s' ∧ tn i s'.heap ∧ (∀ b ∈ fp, H' b = none) ∧ W i m H' := by
      intro s' H' I' nx
      obtain ⟨m', hm, w'⟩ := hNx H' nx
      have pin' : ∀ b ∈ fp, ∀ o, s7.heap.get? b = some o → s'.heap.get? b = some o ∧ H' b = none := by
        intro b hb o e
        have z := I'.pin (b, o) (List.mem_append_right _ (List.mem_append_right _ (mem_pinsAt hb e)))
        exact ⟨z.1, z.2.1⟩
      refine ⟨m', hm, i + 1, H', (I'.unpinned (pins := [])).weak (hl8.trans (wipe_length σ8 vs1).symm) knows,
        T.keep _ _ _ st7 fun b hb o e => (pin' b hb o e).1, fun b hb => ?_, w'⟩
      obtain ⟨o, e, _⟩ := T.obj _ _ st7 b hb
      exact (pin' b hb o e).2
    refine thnF (pi1.run _ s8 σ8 H8 _ I8 q8) fun xv s10 hx => thnF hx ?_
    rintro itv s11 ⟨it1, fp1, tn1, J1, H11, e1, I11, T1, st11, f11, W1, ⟨m1, w1⟩, turn1⟩
    subst e1
    have stat1 : ∀ {H' : Hp}, (∀ b ∈ fp1, H' b = none) → ∀ b ∈ fp1, FpOk (X.blk s3 H3 scope ce fp) ([] ++ pinsAt fp s7.heap) H' b :=
      fun hn b hb => ⟨hn b hb, (f11 b hb).2⟩
    refine sc2_start ?loop1 (T1.self X.A 0 _ _ _ st11 ?loop1)
    refine sc2_inner (fun k s' => ∃ j H', Inv (X.blk s3 H3 scope ce fp) ([] ++ pinsAt fp s7.heap) (wipe σ8 vs1) H' s' ∧ tn1 j s'.heap ∧ (∀ b ∈ fp1, H' b = none) ∧ W1 j k H') ?_ m1
      ⟨0, H11, I11.weak (wipe_length _ _) (fun j v e => (wipe_some e).1), st11, fun b hb => (f11 b hb).1, w1⟩
    rintro k s12 ⟨j, H12, I12, st12, n12, w12⟩
    rcases turn1 j k H12 w12 with ⟨stop1, nx1⟩ | ⟨go1, Nx1, hNx1, step1⟩
    · refine thnF (T1.done (X.blk s3 H3 scope ce fp) rfl rfl rfl hc j _ s12 (wipe σ8 vs1) H12 (fun _ _ => False) I12 (stat1 n12) st12 stop1) ?_
      rintro r s13 ⟨hr, I13⟩
      subst hr
      exact fin I13 nx1
    · refine thnF (T1.item (X.blk s3 H3 scope ce fp) rfl rfl rfl hc j _ s12 (wipe σ8 vs1) H12 (fun _ _ => False) I12 (stat1 n12) st12 go1) ?_
      rintro r s13 ⟨u1, hr, h13⟩
      subst hr
      refine thnF h13 ?_
      rintro _ s14 ⟨x1, H14, I14, r14, y14, st14, n14⟩
      have I14' := I14.pinned (stat1 n14) (T1.obj _ _ st14)
      refine thnF (pg1.run _ s14 (wipe σ8 vs1) H14 x1 u1 _ I14' r14 (step1 x1 H14 y14)) ?_
      rintro _ s15 ⟨σ15, H15, I15, hw15, q15⟩
      refine thnF (pe.run _ s15 σ15 H15 _ I15 q15) ?_
      rintro z s17 ⟨yv, H17, I17, r17, b, L, q, ey, hD17, hL, few, hq, hdq, nx⟩
      subst ey
      cases r17
      refine addK_ok (X := X.blk s3 H3 scope ce fp) I17 hu hD17 hL few hq hdq ?_
      intro s18 L' I18 p1 p2
      obtain ⟨m', hm, w'⟩ := hNx1 _ (nx L' p1 p2)
      have pin' : ∀ b ∈ fp1, ∀ o, s14.heap.get? b = some o → s18.heap.get? b = some o ∧ (upd H17 D (SetKO X.w D L')) b = none := by
        intro b hb o e
        have z := I18.pin (b, o) (List.mem_append_right _ (List.mem_append_right _ (mem_pinsAt hb e)))
        exact ⟨z.1, z.2.1⟩
      refine ⟨m', hm, j + 1, _, I18.unpinned.weak (by rw [← hw15, wipe_length]) (fun j v e => ?_), T1.keep _ _ _ st14 fun b hb o e => (pin' b hb o e).1, fun b hb => ?_, w'⟩
      · rw [← hw15] at e
        exact (wipe_some e).1
      · obtain ⟨o, e, _⟩ := T1.obj _ _ st14 b hb
        exact (pin' b hb o e).2
end
end Ask
/-! AskCk: sorted of a set of cells. -/
namespace Ask
open PySem PySem.Spec PyProof.Rows L2 AskG
def cellK (c : Cell) : NestedKey := .tup [.text c.1, .num c.2]
theorem cellK_inj {c d : Cell} (h : cellK c = cellK d) : c = d := by
  unfold cellK at h
  injection h with h
  injection h with h1 h2
  injection h2 with h2 _
  injection h1 with h1
  injection h2 with h2
  exact Prod.ext h1 h2
theorem cellK_deep (c : Cell) : (cellK c).depth ≤ 8 := by
  show max 0 (max 0 0) + 1 ≤ 8
  decide
theorem cell_key {K : PySem.W.Frag} {H : Hp} {b : Addr} {c : Cell} (h : CellAt H b c) : HKey K H (cellK c) (.ref b) :=
  ⟨b, _, rfl, .inl (.inl h), _, _, rfl, rfl, _, _, rfl, rfl, rfl⟩
theorem refs_vals : ∀ bs : List Addr, Vals (bs.map V.ref) (bs.map Value.ref)
  | [] => .nil
  | _ :: bs => .cons rfl (refs_vals bs)
/-- L is a list of cells, each where it says -/
def CellsAt (H : Hp) (L : List (Addr × NestedKey)) : Prop := ∀ p ∈ L, ∃ c, p.2 = cellK c ∧ CellAt H p.1 c
theorem CellsAt.keys {K : PySem.W.Frag} {H : Hp} {L : List (Addr × NestedKey)} (h : CellsAt H L) : KeysAt K H L := fun p hp => by
  obtain ⟨c, e, hc⟩ := h p hp
  rw [e]
  exact ⟨cell_key hc, cellK_deep c⟩
/-- sorted(a), a a set of cells -/
def rSortSC (w : World) : List V → Hp → VK → Prop := fun xs H Q => ∃ (a : Addr) (L : List (Addr × NestedKey)), xs = [.ref a] ∧ H a = some (SetKO w a L) ∧ CellsAt H L ∧
  ∀ (ys : List Cell) (bs : List Addr) (p : Addr), (∀ c, c ∈ ys ↔ cellK c ∈ L.map Prod.snd) → ys.length = L.length → ys.Pairwise (fun a b => ltC a b = true) →
    Paired (CellAt H) bs ys → H p = none → Q (.ref p) (upd H p (.lst (bs.map V.ref)))
section
variable {X : Cx}
theorem cr_sortSC (hc : X.calm = true) : CallR X (.builtin "sorted") (rSortSC X.w) := by
  intro pins s σ H xs us Q I r q
  obtain ⟨a, L, rfl, ha, hL, q⟩ := q
  obtain ⟨u, rfl, ru⟩ := vals1 r
  obtain rfl : u = Value.ref a := ru
  have S0 : SetK0 X.w s.heap a L := (I.hok a _ ha).1
  obtain ⟨es, ep, t, S⟩ := S0.whole (P := X.prog) ((hL.keys (K := X.K)).are I)
  have vals : ∀ v ∈ L.map (fun p => Value.ref p.1), ∃ b c, v = .ref b ∧ CellAt H b c := fun v hv => by
    obtain ⟨p, hp, rfl⟩ := List.mem_map.mp hv
    obtain ⟨c, _, h⟩ := hL p hp
    exact ⟨_, c, rfl, h⟩
  refine sortedK S (I.ok.hd hc) (ltv := fun v u => ltC (cellOf H v) (cellOf H u)) (swo_cells _) (fun vs pm h2 s1 l hl past => ?_) fun s' p out c keep g o hp at' pm srt => ?_
  · refine cells_sortable (by omega) (fun v hv => ?_) fun o' eo => ?_
    · obtain ⟨b, c, rfl, h⟩ := vals v (pm.mem_iff.mp hv)
      rw [cellOf_at h]
      exact (isCl_of I.hok h).keeps fun b o e _ => (past b o e).2
    · have e' : some o' = some (seqObj "list" vs.toArray 0) := eo.symm.trans hl
      cases e'
      intro c
      exact absurd (Value.type.inj c) (by decide)
  · have hout : ∀ v ∈ out, ∃ b c, v = .ref b ∧ CellAt H b c := fun v hv => vals v (pm.mem_iff.mp hv)
    obtain ⟨bs, rfl⟩ : ∃ bs : List Addr, out = bs.map Value.ref := by
      clear pm srt at'
      induction out with
      | nil => exact ⟨[], rfl⟩
      | cons v l ih =>
        obtain ⟨bs, e⟩ := ih fun u hu => hout u (List.mem_cons_of_mem _ hu)
        obtain ⟨b, _, e', _⟩ := hout v List.mem_cons_self
        exact ⟨b :: bs, by rw [e', e]; rfl⟩
    have at2 : ∀ b ∈ bs, CellAt H b (cellOf H (.ref b)) := fun b hb => by
      obtain ⟨b', c', e, h⟩ := hout (.ref b) (List.mem_map.mpr ⟨b, hb, rfl⟩)
      cases e
      rw [cellOf_at h]
      exact h
    have kL : L.map Prod.snd = ((L.map fun p => Value.ref p.1).map (cellOf H)).map cellK := by
      rw [List.map_map, List.map_map]
      refine List.map_congr_left fun p hp => ?_
      obtain ⟨c, e, h⟩ := hL p hp
      show p.2 = cellK (cellOf H (.ref p.1))
      rw [cellOf_at h, e]
    have pmc : ((bs.map Value.ref).map (cellOf H)).Perm ((L.map fun p => Value.ref p.1).map (cellOf H)) := pm.map _
    have ys : (bs.map Value.ref).map (cellOf H) = bs.map fun b => cellOf H (.ref b) := by rw [List.map_map]; rfl
    have nd : ((bs.map Value.ref).map (cellOf H)).Nodup := by
      refine pmc.nodup_iff.mpr ?_
      have one := S.one
      rw [kL] at one
      exact (List.pairwise_map.mp one).imp fun h e => h (congrArg cellK e)
    have st := strict_of (List.pairwise_map.mpr srt) nd
    have len : (bs.map Value.ref).length = L.length := by rw [pm.length_eq, List.length_map]
    rw [List.length_map] at len
    have few := S.few
    have hn : H p = none := I.hok.fresh hp
    have hv : Vals (bs.map V.ref) (bs.map Value.ref) := refs_vals bs
    have J : Inv X pins σ (upd H p (.lst (bs.map V.ref))) { s with heap := s'.heap, gens := s'.gens, drawn := s'.drawn, toks := s'.toks } :=
      I.call (ch := []) (Un.laid keep hp hn) (I.hok.laid keep hp ⟨by rw [List.length_map, sizeLine_eq]; omega, bs.map Value.ref, c, hv, at'⟩) (by rw [g]; exact I.bare) (fun _ z => nomatch z)
    have e : s' = { s with heap := s'.heap, gens := s'.gens, drawn := s'.drawn, toks := s'.toks } := by
      cases s'
      cases s
      cases o
      rfl
    rw [e]
    refine ⟨.ref p, _, J, rfl, q _ bs p (fun c => ?_) ?_ (ys ▸ st) (paired_of (fun b => cellOf H (.ref b)) at2) hn⟩
    · rw [← ys, pmc.mem_iff, kL]
      exact ⟨fun m => List.mem_map.mpr ⟨c, m, rfl⟩, fun m => by
        obtain ⟨d, hd, e⟩ := List.mem_map.mp m
        rw [← cellK_inj e]
        exact hd⟩
    · rw [List.length_map]
      exact len
end
end Ask
/-! AskRk: the order of rows, and rows that can be sorted. -/
namespace Ask
open PySem PySem.Spec PyProof.Rows L2 AskG
def ltR : List (Cell × Int) → List (Cell × Int) → Bool
  | [], [] => false
  | [], _ :: _ => true
  | _ :: _, [] => false
  | x :: xs, y :: ys => if x = y then ltR xs ys else ltX x y
theorem ltR_tri : ∀ x y, ltR x y = true ∨ x = y ∨ ltR y x = true
  | [], [] => .inr (.inl rfl)
  | [], _ :: _ => .inl rfl
  | _ :: _, [] => .inr (.inr rfl)
  | x :: xs, y :: ys => by
    unfold ltR
    by_cases e : x = y
    · subst e
      rw [if_pos rfl, if_pos rfl]
      rcases ltR_tri xs ys with h | h | h
      · exact .inl h
      · exact .inr (.inl (by rw [h]))
      · exact .inr (.inr h)
    · rw [if_neg e, if_neg fun z => e z.symm]
      rcases ltX_tri x y with h | h | h
      · exact .inl h
      · exact absurd h e
      · exact .inr (.inr h)
theorem ltR_irr : ∀ x, ltR x x = false
  | [] => rfl
  | x :: xs => by
    unfold ltR
    rw [if_pos rfl]
    exact ltR_irr xs
theorem ltR_trans : ∀ {x y z}, ltR x y = true → ltR y z = true → ltR x z = true
  | [], [], _, h, _ => by cases h
  | [], _ :: _, [], _, h => by cases h
  | [], _ :: _, _ :: _, _, _ => rfl
  | _ :: _, [], _, h, _ => by cases h
  | _ :: _, _ :: _, [], _, h => by cases h
  | x :: xs, y :: ys, z :: zs, h1, h2 => by
    unfold ltR at h1 h2 ⊢
    by_cases e : x = y
    · subst e
      rw [if_pos rfl] at h1
      by_cases e2 : x = z
      · rw [if_pos e2] at h2 ⊢
        exact ltR_trans h1 h2
      · rw [if_neg e2] at h2 ⊢
        exact h2
    · rw [if_neg e] at h1
      by_cases e2 : y = z
      · subst e2
        rw [if_neg e]
        exact h1
      · rw [if_neg e2] at h2
        have h3 := ltX_trans h1 h2
        have ne : ¬ x = z := fun e3 => by rw [e3, ltX_irr] at h3; cases h3
        rw [if_neg ne]
        exact h3
theorem ltR_asym {x y : List (Cell × Int)} (h : ltR x y = true) : ltR y x = false := by
  cases g : ltR y x with
  | false => rfl
  | true =>
    have := ltR_trans h g
    rw [ltR_irr] at this
    cases this
theorem swo_R {α : Type} (k : α → List (Cell × Int)) : SrtO.Swo fun v u => ltR (k v) (k u) := by
  refine ⟨fun x y h => ltR_asym h, fun x y z h1 h2 => ?_⟩
  cases g : ltR (k z) (k x) with
  | false => rfl
  | true =>
    rcases ltR_tri (k x) (k y) with a | a | a
    · have := ltR_trans g a
      rw [h2] at this
      cases this
    · rw [← a, g] at h2
      cases h2
    · rw [h1] at a
      cases a
/-- the value is a tuple of pairs of a cell and a weight -/
def IsRw (h : Heap) (v : Value) (ρ : List (Cell × Int)) : Prop := ∃ (a : Addr) (o : Obj) (items : Array Value) (n : Nat), v = .ref a ∧ h.get? a = some o ∧ o.cls = .type "tuple" ∧ o.data = .seq items n ∧ Paired (IsPr h) items.toList ρ
theorem paired_imp {α β : Type} {R S : α → β → Prop} (k : ∀ a b, R a b → S a b) : ∀ {l : List α} {m : List β}, Paired R l m → Paired S l m
  | _, _, .nil => .nil
  | _, _, .cons h t => .cons (k _ _ h) (paired_imp k t)
theorem IsRw.keeps {h h' : Heap} {v : Value} {ρ : List (Cell × Int)} (p : IsRw h v ρ) (k : ∀ b o, h.get? b = some o → o.cls = .type "tuple" → h'.get? b = some o) : IsRw h' v ρ := by
  obtain ⟨a, o, items, n, e, ho, hc, hd, hp⟩ := p
  exact ⟨a, o, items, n, e, k _ _ ho hc, hc, hd, paired_imp (fun _ _ z => z.keeps k) hp⟩
theorem isPr_key {h : Heap} {v : Value} {x : Cell × Int} (p : IsPr h v x) : NestedIs h (.tup [cellK x.1, .num x.2]) v := by
  obtain ⟨a, b, t, rfl, ⟨o, ho, hc, n, hd⟩, a', t1, t2, e, o2, ho2, hc2, n2, hd2⟩ := p
  cases e
  exact .tup ho hc hd (.cons (.tup ho2 hc2 hd2 (.cons (.text _ _) (.cons (.int _ _) .nil))) (.cons (.int _ _) .nil))
section
variable {prog : Program} {w : World} {A : Around} {E : Value → Shared → Prop} {s : Shared}
theorem pairs_eq {u v : Value} {x y : Cell × Int} (hx : IsPr s.heap u x) (hy : IsPr s.heap v y) (hu : A.units + 2 < cLine) : SeqAt.EqAt A s u v (decide (x = y)) := by
  have h := eqAt_key _ _ A s u v (isPr_key hx) (isPr_key hy) (by show A.units + min (max (max 0 (max 0 0) + 1) (max 0 0) + 1) _ < cLine; omega)
  have e : NestedKey.beq (.tup [cellK x.1, .num x.2]) (.tup [cellK y.1, .num y.2]) = decide (x = y) := by
    rw [← NestedKey.decide_eq]
    refine decide_eq_decide.mpr ⟨fun z => ?_, fun z => by rw [z]⟩
    injection z with z
    injection z with z1 z2
    injection z2 with z2 _
    injection z2 with z2
    exact Prod.ext (cellK_inj z1) z2
  rw [← e]
  exact h
end
end Ask
/-! AskQk: rows compared, and a list of rows that can be sorted. -/
namespace Ask
open PySem PySem.Spec PyProof.Rows L2 AskG
section
variable {prog : Program} {w : World} {A : Around} {E : Value → Shared → Prop} {s : Shared}
theorem pairs_lt {u v : Value} {x y : Cell × Int} (hx : IsPr s.heap u x) (hy : IsPr s.heap v y) (hu : A.units + 2 < cLine) : Ob.RcOp .Lt A s u v (ltX x y) := by
  obtain ⟨a, b, t, rfl, ta, cb⟩ := hx
  obtain ⟨a', b', t', rfl, ta', cb'⟩ := hy
  have low : A.in1.units < cLine := by rw [Around.in1_units]; omega
  have R := Ob.RcOp.tuples_lt (A := A) (s := s) (e := fun j => if j = 0 then decide (x.1 = y.1) else x.2 == y.2)
    (r := fun j => if j = 0 then ltC x.1 y.1 else decide (x.2 < y.2)) ta ta' (by omega)
    (fun j h1 h2 => by
      have h1 : j < 2 := h1
      match j, h1 with
      | 0, _ => exact cells_eq cb cb' low
      | 1, _ => exact SeqAt.EqAt.int_int x.2 t y.2 t')
    (fun j h1 h2 _ => by
      have h1 : j < 2 := h1
      match j, h1 with
      | 0, _ => exact cells_lt cb cb' low
      | 1, _ => exact Ob.RcOp.lt_int x.2 y.2 t t')
  have e : Ob.lexAt (fun j => if j = 0 then decide (x.1 = y.1) else x.2 == y.2) (fun j => if j = 0 then ltC x.1 y.1 else decide (x.2 < y.2)) (decide (2 < 2)) 0 (min 2 2) = ltX x y := by
    show (if decide (x.1 = y.1) = true then (if (x.2 == y.2) = true then decide (2 < 2) else decide (x.2 < y.2)) else ltC x.1 y.1) = ltX x y
    unfold ltX
    by_cases e1 : x.1 = y.1
    · rw [if_pos (decide_eq_true e1), if_pos e1]
      by_cases e2 : x.2 = y.2
      · rw [if_pos (beq_iff_eq.mpr e2), e2, decide_eq_false (Int.lt_irrefl _)]
        rfl
      · rw [if_neg fun z => e2 (beq_iff_eq.mp z)]
    · rw [if_neg fun z => e1 (of_decide_eq_true z), if_neg e1]
  rw [← e]
  exact R
theorem paired_len {α β : Type} {R : α → β → Prop} : ∀ {l : List α} {m : List β}, Paired R l m → l.length = m.length
  | _, _, .nil => rfl
  | _, _, .cons _ t => congrArg (· + 1) (paired_len t)
/-- two rows from their i-th pairs on -/
theorem rows_lex (hu : A.units + 2 < cLine) : ∀ (xs ys : List (Cell × Int)) (us vs : List Value) (i : Nat) (fin : Bool) (Q : Bool → Shared → Prop), Paired (IsPr s.heap) us xs → Paired (IsPr s.heap) vs ys →
    fin = decide (xs.length < ys.length) → Q (ltR xs ys) s → PySem.W.KatLex prog w A false fin Q (us.zip vs) i s
  | [], [], _, _, i, fin, Q, .nil, .nil, e, q => by
    subst e
    exact PySem.W.kat_nil q
  | [], _ :: _, _, _, i, fin, Q, .nil, .cons _ _, e, q => by
    subst e
    exact PySem.W.kat_nil (show Q (decide (0 < _ + 1)) s by rw [decide_eq_true (Nat.succ_pos _)]; exact q)
  | _ :: _, [], _, _, i, fin, Q, .cons _ _, .nil, e, q => by
    subst e
    exact PySem.W.kat_nil (show Q (decide (_ + 1 < 0)) s by rw [decide_eq_false (Nat.not_lt_zero _)]; exact q)
  | x :: xs, y :: ys, _, _, i, fin, Q, .cons hx tx, .cons hy ty, e, q => by
    unfold ltR at q
    refine PySem.W.kat_cons (pairs_eq hx hy hu prog w _ _ (PySem.W.kat_go (fun e1 => ?_) (fun e1 => ?_)))
    · rw [if_pos (of_decide_eq_true e1)] at q
      refine PySem.W.kat_yes (rows_lex hu xs ys _ _ (i + 1) fin Q tx ty ?_ q)
      rw [e, List.length_cons, List.length_cons]
      exact decide_eq_decide.mpr (by omega)
    · rw [if_neg (of_decide_eq_false e1)] at q
      exact PySem.W.kat_no (PySem.W.kat_one _ _ (pairs_lt hx hy hu prog w _ _ q))
theorem row_cmp {vs : List Value} {k : Value → List (Cell × Int)} (hu : A.units + 2 < cLine) (hp : ∀ v ∈ vs, IsRw s.heap v (k v)) :
    SrtO.Cmp prog w A s (tuples' false) (fun p => p.1 ∈ vs) (SrtO.lt2 fun v u => ltR (k v) (k u)) := by
  intro p q hm hm'
  have h1 := hp _ hm
  have h2 := hp _ hm'
  show wpAny (model prog w) A (keyLt' (tuples' false) p.1 q.1) (fun r s' => s' = s ∧ r = ltR (k p.1) (k q.1)) (fun _ _ => False) s
  generalize k p.1 = x at h1 ⊢
  generalize k q.1 = y at h2 ⊢
  obtain ⟨a, o, its, n, e, ho, hc, hd, hx⟩ := h1
  obtain ⟨a', o', its', n', e', ho', hc', hd', hy⟩ := h2
  rw [e, e']
  refine PySem.W.kat_lt ho hd ho' hd' (rows_lex hu x y _ _ 0 _ _ hx hy ?_ ⟨rfl, rfl⟩)
  rw [← paired_len hx, ← paired_len hy, Array.length_toList, Array.length_toList]
theorem row_firsts {h : Heap} : ∀ {vs : List Value}, (∀ v ∈ vs, ∃ ρ, ρ ≠ [] ∧ IsRw h v ρ) →
    ∃ fs : List Value, PySem.W.KatTups h vs fs ∧ fs.length = vs.length ∧ ∀ f ∈ fs, ∃ x, IsPr h f x
  | [], _ => ⟨[], .nil, rfl, fun f hf => absurd hf (by simp)⟩
  | v :: vs, z => by
    obtain ⟨fs, k, hl, hi⟩ := row_firsts (vs := vs) fun u hu => z u (List.mem_cons.mpr (.inr hu))
    obtain ⟨ρ, ne, a, o, its, n, rfl, ho, hc, hd, hp⟩ := z v (List.mem_cons.mpr (.inl rfl))
    cases hq : its.toList with
    | nil =>
      rw [hq] at hp
      cases hp
      exact absurd rfl ne
    | cons f l =>
      rw [hq] at hp
      cases hp with
      | cons h1 _ =>
        refine ⟨f :: fs, .cons ho hc hd ?_ k, congrArg (· + 1) hl, fun g hg => ?_⟩
        · first
            | (rw [← Array.getElem?_toList, hq]; rfl)
            | (rw [hq]; rfl)
            | simp [hq]
        · cases hg with
          | head => exact ⟨_, h1⟩
          | tail _ hg => exact hi g hg
theorem rows_sortable {a : Addr} {vs : List Value} {k : Value → List (Cell × Int)} (hu : A.units + 2 < cLine) (h0 : 0 < vs.length) (hp : ∀ v ∈ vs, IsRw s.heap v (k v)) (ne : ∀ v ∈ vs, k v ≠ [])
    (ha : ∀ o, s.heap.get? a = some o → o.cls ≠ .type "tuple") : SrtO.SortableO prog w A s a vs fun v u => ltR (k v) (k u) := by
  intro h' keep
  have hp' : ∀ v ∈ vs, IsRw h' v (k v) := fun v hm => (hp v hm).keeps fun b o e c => keep b o (fun z => by subst z; exact ha o e c) e
  obtain ⟨fs, h1, h2, h3⟩ := row_firsts fun v hm => ⟨_, ne v hm, hp' v hm⟩
  refine ⟨tuples' false, fun Q E hq => ?_, row_cmp hu hp'⟩
  refine PySem.W.kat_kind (T := .type "tuple") h1 (by omega) (fun f hm => ?_) (by rfl) ?_
  · obtain ⟨x, b, _, _, rfl, ⟨o, ho, hc, _⟩, _⟩ := h3 f hm
    exact fun A Q E s k q => wpAny_typeOf ⟨o, k _ _ ho, hc⟩ q
  · have e : (Value.type "tuple" != Value.type "tuple") = false := by first | decide +kernel | rfl | decide
    rw [e]
    exact hq
end
end Ask
/-! AskZk: sorted of a set of rows that are not (). -/
namespace Ask
open PySem PySem.Spec PyProof.Rows L2 AskG
def pairK (x : Cell × Int) : NestedKey := .tup [cellK x.1, .num x.2]
def rowK (ρ : RowD) : NestedKey := .tup (ρ.map pairK)
theorem pairK_inj {x y : Cell × Int} (h : pairK x = pairK y) : x = y := by
  unfold pairK at h
  injection h with h
  injection h with h1 h2
  injection h2 with h2 _
  injection h2 with h2
  exact Prod.ext (cellK_inj h1) h2
theorem pairs_inj : ∀ {ρ π : RowD}, ρ.map pairK = π.map pairK → ρ = π
  | [], [], _ => rfl
  | [], _ :: _, h => by cases h
  | _ :: _, [], h => by cases h
  | x :: ρ, y :: π, h => by
    rw [List.map_cons, List.map_cons] at h
    injection h with h1 h2
    rw [pairK_inj h1, pairs_inj h2]
theorem rowK_inj {ρ π : RowD} (h : rowK ρ = rowK π) : ρ = π := by
  unfold rowK at h
  injection h with h
  exact pairs_inj h
theorem pairs_deep : ∀ ρ : RowD, NestedKey.depthAll (ρ.map pairK) ≤ 2
  | [] => Nat.zero_le _
  | x :: ρ => by
    have h := pairs_deep ρ
    have e : (pairK x).depth = 2 := rfl
    rw [List.map_cons]
    simp only [NestedKey.depthAll, e]
    omega
theorem rowK_deep (ρ : RowD) : (rowK ρ).depth ≤ 8 := by
  have h := pairs_deep ρ
  show NestedKey.depthAll (ρ.map pairK) + 1 ≤ 8
  omega
theorem pair_key {K : PySem.W.Frag} {H : Hp} {p : Addr} {x : Cell × Int} (h : PairRow H p x) : HKey K H (pairK x) (.ref p) := by
  obtain ⟨b, h1, h2⟩ := h
  exact ⟨p, _, rfl, .inl (.inl h1), _, _, rfl, cell_key h2, _, _, rfl, rfl, rfl⟩
theorem pairs_key {K : PySem.W.Frag} {H : Hp} : ∀ {ps : List Addr} {ρ : RowD}, Paired (PairRow H) ps ρ → HKeys K H (ρ.map pairK) (ps.map V.ref)
  | _, _, .nil => rfl
  | _, _, .cons h t => ⟨_, _, rfl, pair_key h, pairs_key t⟩
theorem row_key {K : PySem.W.Frag} {H : Hp} {r : Addr} {ρ : RowD} (h : RowAt H r ρ) : HKey K H (rowK ρ) (.ref r) := by
  obtain ⟨ps, h1, h2⟩ := h
  exact ⟨r, _, rfl, .inl (.inl h1), pairs_key h2⟩
theorem isRw_of {P : Program} {w : World} {H : Hp} {h : Heap} {r : Addr} {ρ : RowD} (ok : HOk P w H h) (e : RowAt H r ρ) : IsRw h (.ref r) ρ := by
  obtain ⟨ps, h1, h2⟩ := e
  obtain ⟨_, its, rv, o, ho, hc, n, hd⟩ := (show ObjOk P w H h r (.tup (ps.map V.ref)) from ok r _ h1)
  refine ⟨r, o, _, n, rfl, ho, hc, hd, ?_⟩
  have z : ∀ {ps : List Addr} {ρ : RowD} {us : List Value}, Paired (PairRow H) ps ρ → Vals (ps.map V.ref) us → Paired (IsPr h) us ρ := by
    intro ps ρ us hp
    induction hp generalizing us with
    | nil =>
      intro v
      cases v
      exact .nil
    | cons h1 _ ih =>
      intro v
      cases v with
      | cons r1 r2 =>
        cases r1
        exact .cons (isPr_of ok h1) (ih r2)
  simpa using z h2 rv
/-- the row behind a value -/
noncomputable def rowOfV (H : Hp) (v : Value) : RowD := @dite _ (∃ a ρ, v = .ref a ∧ RowAt H a ρ) (Classical.propDecidable _) (fun h => h.choose_spec.choose) fun _ => []
theorem RowAt.one {H : Hp} {a : Addr} {ρ π : RowD} (h : RowAt H a ρ) (g : RowAt H a π) : ρ = π := by
  obtain ⟨ps, h1, h2⟩ := h
  obtain ⟨qs, g1, g2⟩ := g
  have e : ps = qs := by
    rw [h1] at g1
    injection g1 with g1
    injection g1 with g1
    clear h1 h2 g2
    induction ps generalizing qs with
    | nil =>
      cases qs with
      | nil => rfl
      | cons _ _ => cases g1
    | cons p ps ih =>
      cases qs with
      | nil => cases g1
      | cons q qs =>
        rw [List.map_cons, List.map_cons] at g1
        injection g1 with e1 e2
        injection e1 with e1
        rw [e1, ih qs e2]
  subst e
  clear h1 g1
  induction h2 generalizing π with
  | nil =>
    cases g2
    rfl
  | cons k _ ih =>
    cases g2 with
    | cons k' t' =>
      rw [ih t', ← pairOf_at k, ← pairOf_at k']
theorem rowOfV_at {H : Hp} {a : Addr} {ρ : RowD} (h : RowAt H a ρ) : rowOfV H (.ref a) = ρ := by
  have ex : ∃ b π, Value.ref a = .ref b ∧ RowAt H b π := ⟨a, ρ, rfl, h⟩
  unfold rowOfV
  rw [dif_pos ex]
  obtain ⟨e, g⟩ := ex.choose_spec.choose_spec
  injection e with e
  exact RowAt.one g (e ▸ h)
/-- L is a list of rows that are not (), each where it says -/
def RowsIn (H : Hp) (L : List (Addr × NestedKey)) : Prop := ∀ p ∈ L, ∃ ρ, ρ ≠ [] ∧ p.2 = rowK ρ ∧ RowAt H p.1 ρ
theorem RowsIn.keys {K : PySem.W.Frag} {H : Hp} {L : List (Addr × NestedKey)} (h : RowsIn H L) : KeysAt K H L := fun p hp => by
  obtain ⟨ρ, _, e, hr⟩ := h p hp
  rw [e]
  exact ⟨row_key hr, rowK_deep ρ⟩
theorem strictR : ∀ {ys : List RowD}, ys.Pairwise (fun a b => ltR b a = false) → ys.Nodup → ys.Pairwise (fun a b => ltR a b = true) := by
  intro ys h n
  refine (h.and n).imp ?_
  rintro a b ⟨h1, h2⟩
  rcases ltR_tri a b with g | g | g
  · exact g
  · exact absurd g h2
  · rw [h1] at g
    cases g
/-- sorted(a), a a set of rows -/
def rSortSR (w : World) : List V → Hp → VK → Prop := fun xs H Q => ∃ (a : Addr) (L : List (Addr × NestedKey)), xs = [.ref a] ∧ H a = some (SetKO w a L) ∧ RowsIn H L ∧
  ∀ (ys : List RowD) (bs : List Addr) (p : Addr), (∀ ρ, ρ ∈ ys ↔ rowK ρ ∈ L.map Prod.snd) → ys.length = L.length → ys.Pairwise (fun a b => ltR a b = true) →
    Paired (RowAt H) bs ys → H p = none → Q (.ref p) (upd H p (.lst (bs.map V.ref)))
section
variable {X : Cx}
theorem cr_sortSR (hc : X.calm = true) (hu : X.A.units + 8 < cLine) : CallR X (.builtin "sorted") (rSortSR X.w) := by
  intro pins s σ H xs us Q I r q
  obtain ⟨a, L, rfl, ha, hL, q⟩ := q
  obtain ⟨u, rfl, ru⟩ := vals1 r
  obtain rfl : u = Value.ref a := ru
  have S0 : SetK0 X.w s.heap a L := (I.hok a _ ha).1
  obtain ⟨es, ep, t, S⟩ := S0.whole (P := X.prog) ((hL.keys (K := X.K)).are I)
  have vals : ∀ v ∈ L.map (fun p => Value.ref p.1), ∃ b ρ, v = .ref b ∧ ρ ≠ [] ∧ RowAt H b ρ := fun v hv => by
    obtain ⟨p, hp, rfl⟩ := List.mem_map.mp hv
    obtain ⟨ρ, ne, _, h⟩ := hL p hp
    exact ⟨_, ρ, rfl, ne, h⟩
  refine sortedK S (I.ok.hd hc) (ltv := fun v u => ltR (rowOfV H v) (rowOfV H u)) (swo_R _) (fun vs pm h2 s1 l hl past => ?_) fun s' p out c keep g o hp at' pm srt => ?_
  · refine rows_sortable (by rw [Around.in1_units, Around.in1_units]; omega) (by omega) (fun v hv => ?_) (fun v hv => ?_) fun o' eo => ?_
    · obtain ⟨b, ρ, rfl, _, h⟩ := vals v (pm.mem_iff.mp hv)
      rw [rowOfV_at h]
      exact (isRw_of I.hok h).keeps fun b o e _ => (past b o e).2
    · obtain ⟨b, ρ, rfl, ne, h⟩ := vals v (pm.mem_iff.mp hv)
      rw [rowOfV_at h]
      exact ne
    · have e' : some o' = some (seqObj "list" vs.toArray 0) := eo.symm.trans hl
      cases e'
      intro c
      exact absurd (Value.type.inj c) (by decide)
  · have hout : ∀ v ∈ out, ∃ b ρ, v = .ref b ∧ RowAt H b ρ := fun v hv => by
      obtain ⟨b, ρ, e, _, h⟩ := vals v (pm.mem_iff.mp hv)
      exact ⟨b, ρ, e, h⟩
    obtain ⟨bs, rfl⟩ : ∃ bs : List Addr, out = bs.map Value.ref := by
      clear pm srt at'
      induction out with
      | nil => exact ⟨[], rfl⟩
      | cons v l ih =>
        obtain ⟨bs, e⟩ := ih fun u hu => hout u (List.mem_cons_of_mem _ hu)
        obtain ⟨b, _, e', _⟩ := hout v List.mem_cons_self
        exact ⟨b :: bs, by rw [e', e]; rfl⟩
    have at2 : ∀ b ∈ bs, RowAt H b (rowOfV H (.ref b)) := fun b hb => by
      obtain ⟨b', c', e, h⟩ := hout (.ref b) (List.mem_map.mpr ⟨b, hb, rfl⟩)
      cases e
      rw [rowOfV_at h]
      exact h
    have kL : L.map Prod.snd = ((L.map fun p => Value.ref p.1).map (rowOfV H)).map rowK := by
      rw [List.map_map, List.map_map]
      refine List.map_congr_left fun p hp => ?_
      obtain ⟨ρ, _, e, h⟩ := hL p hp
      show p.2 = rowK (rowOfV H (.ref p.1))
      rw [rowOfV_at h, e]
    have pmc : ((bs.map Value.ref).map (rowOfV H)).Perm ((L.map fun p => Value.ref p.1).map (rowOfV H)) := pm.map _
    have ys : (bs.map Value.ref).map (rowOfV H) = bs.map fun b => rowOfV H (.ref b) := by rw [List.map_map]; rfl
    have nd : ((bs.map Value.ref).map (rowOfV H)).Nodup := by
      refine pmc.nodup_iff.mpr ?_
      have one := S.one
      rw [kL] at one
      exact (List.pairwise_map.mp one).imp fun h e => h (congrArg rowK e)
    have st := strictR (List.pairwise_map.mpr srt) nd
    have len : (bs.map Value.ref).length = L.length := by rw [pm.length_eq, List.length_map]
    rw [List.length_map] at len
    have few := S.few
    have hn : H p = none := I.hok.fresh hp
    have J : Inv X pins σ (upd H p (.lst (bs.map V.ref))) { s with heap := s'.heap, gens := s'.gens, drawn := s'.drawn, toks := s'.toks } :=
      I.call (ch := []) (Un.laid keep hp hn) (I.hok.laid keep hp ⟨by rw [List.length_map, sizeLine_eq]; omega, bs.map Value.ref, c, refs_vals bs, at'⟩) (by rw [g]; exact I.bare) (fun _ z => nomatch z)
    have e : s' = { s with heap := s'.heap, gens := s'.gens, drawn := s'.drawn, toks := s'.toks } := by
      cases s'
      cases s
      cases o
      rfl
    rw [e]
    refine ⟨.ref p, _, J, rfl, q _ bs p (fun ρ => ?_) ?_ (ys ▸ st) (paired_of (fun b => rowOfV H (.ref b)) at2) hn⟩
    · rw [← ys, pmc.mem_iff, kL]
      exact ⟨fun m => List.mem_map.mpr ⟨ρ, m, rfl⟩, fun m => by
        obtain ⟨π, hd, e⟩ := List.mem_map.mp m
        rw [← rowK_inj e]
        exact hd⟩
    · rw [List.length_map]
      exact len
end
end Ask
/-! AskDk: a dict whose keys are nested keys and whose values are all True. -/
namespace Ask
open PySem PySem.Spec PyProof.Rows L2 AskG
abbrev KA := Addr × NestedKey
/-- the dict's entries -/
abbrev asEnt (L : List KA) : List (NestedKey × Addr × Value) := L.map fun p => (p.2, p.1, Value.bool true)
def putD (L : List KA) (b : Addr) (k : NestedKey) : List KA := if k ∈ L.map Prod.snd then L else L ++ [(b, k)]
theorem atKey_in : ∀ {L : List KA} {k : NestedKey}, (atKey (asEnt L) k).isSome = decide (k ∈ L.map Prod.snd)
  | [], _ => rfl
  | p :: L, k => by
    have ih := atKey_in (L := L) (k := k)
    show (Option.map (·.2) (List.find? (fun x => decide (x.1 = k)) ((p.2, p.1, Value.bool true) :: asEnt L))).isSome = decide (k ∈ p.2 :: L.map Prod.snd)
    by_cases e : p.2 = k
    · rw [List.find?_cons_of_pos (by exact decide_eq_true e), decide_eq_true (List.mem_cons.mpr (.inl e.symm))]
      rfl
    · rw [List.find?_cons_of_neg (by intro z; exact e (of_decide_eq_true z))]
      refine ih.trans (decide_eq_decide.mpr ⟨fun m => List.mem_cons.mpr (.inr m), fun m => ?_⟩)
      cases List.mem_cons.mp m with
      | inl z => exact absurd z.symm e
      | inr z => exact z
theorem putAt_same {L : List KA} {k : NestedKey} : (asEnt L).map (putAt k (Value.bool true)) = asEnt L := by
  induction L with
  | nil => rfl
  | cons p L ih =>
    show putAt k (Value.bool true) (p.2, p.1, Value.bool true) :: (asEnt L).map (putAt k (Value.bool true)) = _
    rw [ih]
    have e : putAt k (Value.bool true) (p.2, p.1, Value.bool true) = (p.2, p.1, Value.bool true) := by
      unfold putAt
      split <;> rfl
    rw [e]
    rfl
theorem stored_put (L : List KA) (b : Addr) (k : NestedKey) : storedH (asEnt L) k b (Value.bool true) = asEnt (putD L b k) := by
  unfold storedH putD
  rw [atKey_in]
  by_cases h : k ∈ L.map Prod.snd
  · rw [if_pos (decide_eq_true h), if_pos h, putAt_same]
  · rw [if_neg (by rw [decide_eq_false h]; decide), if_neg h]
    show _ = List.map _ (L ++ [(b, k)])
    rw [List.map_append]
    rfl
/-- the dict at a, its keys aside -/
structure DicK0 (P : Program) (w : World) (h : Heap) (a : Addr) (L : List KA) : Prop where
  sys : (a == sysModules) = false
  has : ∃ o es ep, h.get? a = some o ∧ o.ExactDict ∧ o.data = .dict es ep ∧ es.toList = (asEnt L).map (entryOfKey (nestedKind P w)) ∧ (L.map Prod.snd).Nodup
def DicKO (P : Program) (w : World) (a : Addr) (L : List KA) : HO := .ext fun h => DicK0 P w h a L
theorem dicKO_ok {P : Program} {w : World} {H : Hp} {h : Heap} {a : Addr} {L : List KA} (S : DicK0 P w h a L) : ObjOk P w H h a (DicKO P w a L) := by
  obtain ⟨o, es, ep, ho, r⟩ := id S.has
  refine ⟨S, ⟨o, ho⟩, fun h1 h2 p k => ?_⟩
  obtain ⟨sy, o', es', ep', ho', r'⟩ := (show DicK0 P w h1 a L from p)
  exact ⟨sy, o', es', ep', k o' ho', r'⟩
theorem asEnt_keys (L : List KA) : (asEnt L).map (·.1) = L.map Prod.snd := by
  rw [List.map_map]
  rfl
section
variable {X : Cx} {pins : List (Addr × Obj)} {σ : L2.St} {H : Hp} {s : Shared} {E : Value → Shared → Prop}
theorem DicK0.whole {L : List KA} {a : Addr} (S : DicK0 X.prog X.w s.heap a L) (hL : KeysAt X.K H L) (I : Inv X pins σ H s) : s.heap.DictOfH (nestedKind X.prog X.w) a (asEnt L) := by
  obtain ⟨_, o, es, ep, ho, hx, hd, he, hn⟩ := S
  refine ⟨o, es, ep, ho, hx, hd, he, fun x m => ?_, by rw [asEnt_keys]; exact hn⟩
  obtain ⟨p, hp, rfl⟩ := List.mem_map.mp m
  exact hL.are I p hp
/-- D[x] = True -/
theorem putD_ok {D x : Addr} {L : List KA} {k : NestedKey} {Q : Unit → Shared → Prop} (I : Inv X pins σ H s) (room : X.A.units + 10 < cLine) (hD : H D = some (DicKO X.prog X.w D L)) (hL : KeysAt X.K H L) (few : L.length ≤ 1000)
    (hk : HKey X.K H k (.ref x)) (hd : k.depth ≤ 8) (h : ∀ s', Inv X pins σ (upd H D (DicKO X.prog X.w D (putD L x k))) s' → Q () s') :
    wpAny (model X.prog X.w) X.A (dictSet D (.ref x) (.bool true)) Q E s := by
  have S : DicK0 X.prog X.w s.heap D L := (I.hok D _ hD).1
  refine wpAny_dictSet_heap (knd := nestedKind X.prog X.w) (show X.A.units + 8 < cLine by omega) ⟨hkey_is I k (.ref x) (.ref x) hk rfl, hd⟩ (S.whole hL I) (fun h' dd sb => h _ ?_) (by rw [List.length_map, sizeLine_eq]; omega)
  rw [stored_put] at dd
  obtain ⟨o, es, ep, ho, hx, hdd, he, _, hn⟩ := dd
  rw [asEnt_keys] at hn
  exact I.write (e := D) (t' := s.toks + k.draws) (by rw [hD]; trivial) (.inl rfl) (fun b u hb hu => (sb.2 b hb).trans hu) ⟨o, ho⟩ (dicKO_ok ⟨S.sys, o, es, ep, ho, hx, hdd, he, hn⟩)
end
end Ask
/-! AskEk: {} as a dict of nested keys, d[k] = True. -/
namespace Ask
open PySem PySem.Spec PyProof.Rows L2 AskG
def tDNewN (P : Program) (w : World) : TE := fun _ H Q => ∀ p, H p = none → Q (.ref p) (upd H p (DicKO P w p []))
/-- d[k] = True -/
def sDPutN (P : Program) (w : World) (K : PySem.W.Frag) (td ty tv : TE) : TS := fun D σ H => tv σ H fun v H1 => td σ H1 fun x H2 => ty σ H2 fun y H3 => ∃ a b L k, v = .bl true ∧ x = .ref a ∧ y = .ref b ∧
  H3 a = some (DicKO P w a L) ∧ KeysAt K H3 L ∧ L.length ≤ 1000 ∧ HKey K H3 k (.ref b) ∧ k.depth ≤ 8 ∧ D.nx σ (upd H3 a (DicKO P w a (putD L b k)))
section
variable {X : Cx} {o i value : Expr} {pos pos' : Pos} {td ty tv : TE}
theorem pe_dnewN : PE X (.Dict [] [] pos) (tDNewN X.prog X.w) := by
  constructor
  intro pins s σ H Q I h
  refine wpAny_Dict_empty ⟨.ref s.heap.objs.size, _, I.laid (a := s.heap.objs.size) (o := DicKO X.prog X.w s.heap.objs.size []) (t' := s.toks) (fun _ _ q => Heap.get?_push_of_some _ q) (Nat.le_refl _) (dicKO_ok ⟨?_, ?_⟩), rfl, h _ (I.hok.fresh (Nat.le_refl _))⟩
  · exact beq_eq_false_iff_ne.mpr (Ne.symm (Nat.ne_of_lt I.big))
  · exact ⟨_, #[], 0, Heap.get?_push_size _ rfl, ⟨rfl, rfl, rfl⟩, rfl, rfl, List.nodup_nil⟩
theorem setN {pins : List (Addr × Obj)} {σ : L2.St} {H : Hp} {s : Shared} {E : Value → Shared → Prop} {D x : Addr} {L : List KA} {k : NestedKey} {Q : Unit → Shared → Prop} (I : Inv X pins σ H s) (room : X.A.units + 10 < cLine)
    (hD : H D = some (DicKO X.prog X.w D L)) (hL : KeysAt X.K H L) (few : L.length ≤ 1000) (hk : HKey X.K H k (.ref x)) (hd : k.depth ≤ 8)
    (h : ∀ s', Inv X pins σ (upd H D (DicKO X.prog X.w D (putD L x k))) s' → Q () s') : wpAny (model X.prog X.w) X.A (setItem (.ref D) (.ref x) (.bool true)) Q E s := by
  have S : DicK0 X.prog X.w s.heap D L := (I.hok D _ hD).1
  refine wpAny_setItem_heap (knd := nestedKind X.prog X.w) (show X.A.in1.units + 8 < cLine by rw [Around.in1_units]; omega) ⟨hkey_is I k (.ref x) (.ref x) hk rfl, hd⟩ (S.whole hL I) (fun h' dd sb => h _ ?_) (by rw [List.length_map, sizeLine_eq]; omega)
  rw [stored_put] at dd
  obtain ⟨o, es, ep, ho, hx, hdd, he, _, hn⟩ := dd
  rw [asEnt_keys] at hn
  exact I.write (e := D) (t' := s.toks + k.draws) (by rw [hD]; trivial) (.inl rfl) (fun b u hb hu => (sb.2 b hb).trans hu) ⟨o, ho⟩ (dicKO_ok ⟨S.sys, o, es, ep, ho, hx, hdd, he, hn⟩)
theorem ps_dputN (hu : X.A.units + 10 < cLine) (ho : PE X o td) (hi : PE X i ty) (hv : PE X value tv) (hs : swapsWith value (some (.Subscript o i pos')) pos.line X.env = pure false) :
    PS X (.Assign [.Subscript o i pos'] value pos) (sDPutN X.prog X.w X.K td ty tv) := by
  constructor
  intro pins s σ H D I h
  refine wpAny_Assign_Subscript (thn (hv.run pins s σ H _ I h) ?_) hs
  rintro r s1 ⟨v, H1, I1, rv, q1⟩
  refine thn (ho.run pins s1 σ H1 _ I1 q1) ?_
  rintro u s2 ⟨x, H2, I2, rx, q2⟩
  refine thn (hi.run pins s2 σ H2 _ I2 q2) ?_
  rintro iv s3 ⟨y, H3, I3, ry, a, b, L, k, ev, ex, ey, hD, hL, few, hk, hd, q3⟩
  subst ev ex ey
  cases rv
  cases rx
  cases ry
  exact setN I3 hu hD hL few hk hd fun s4 I4 => ⟨σ, _, I4, q3⟩
end
end Ask
/-! AskFk: sorted of a dict whose keys are rows that are not (). -/
namespace Ask
open PySem PySem.Spec PyProof.Rows L2 AskG
/-- sorted(d), d a dict of rows -/
def rSortDR (P : Program) (w : World) : List V → Hp → VK → Prop := fun xs H Q => ∃ (a : Addr) (L : List KA), xs = [.ref a] ∧ H a = some (DicKO P w a L) ∧ RowsIn H L ∧ L.length ≤ 1000 ∧
  ∀ (ys : List RowD) (bs : List Addr) (p : Addr), (∀ ρ, ρ ∈ ys ↔ rowK ρ ∈ L.map Prod.snd) → ys.length = L.length → ys.Pairwise (fun a b => ltR a b = true) →
    Paired (RowAt H) bs ys → H p = none → Q (.ref p) (upd H p (.lst (bs.map V.ref)))
section
variable {X : Cx}
theorem cr_sortDR (hc : X.calm = true) (hu : X.A.units + 8 < cLine) : CallR X (.builtin "sorted") (rSortDR X.prog X.w) := by
  intro pins s σ H xs us Q I r q
  obtain ⟨a, L, rfl, ha, hL, few, q⟩ := q
  obtain ⟨u, rfl, ru⟩ := vals1 r
  obtain rfl : u = Value.ref a := ru
  obtain ⟨hs, o, es, ep, ho, hx, hdt, he, hn⟩ := (show DicK0 X.prog X.w s.heap a L from (I.hok a _ ha).1)
  have l1 : es.size = L.length := by rw [size_of_entries he, List.length_map]
  have vals : ∀ v ∈ L.map (fun p => Value.ref p.1), ∃ b ρ, v = .ref b ∧ ρ ≠ [] ∧ RowAt H b ρ := fun v hv => by
    obtain ⟨p, hp, rfl⟩ := List.mem_map.mp hv
    obtain ⟨ρ, ne, _, h⟩ := hL p hp
    exact ⟨_, ρ, rfl, ne, h⟩
  refine Calls.call_function_entry PyProof.Rows.kind_sorted PyProof.Rows.plain_sorted
    PyProof.Rows.entry_sorted (PyProof.Rows.args_sorted1 _) ?_
  unfold Builtin.«sorted»
  refine wpAny_bind (m := checkCount "sorted" 1 1 _) (wpAny_pure ?_)
  refine wpAny_bind (PySem.W.kdu_collect (A := X.A.in1) (kdl_raw hs hx hdt) (I.ok.hd hc) ho (by rw [l1, sizeLine_eq]; omega) ?_)
  intro h' tk acc hk it
  have ea : acc.toList = L.map fun p => Value.ref p.1 := by
    have hl : acc.toList.length = L.length := by
      rw [Array.length_toList, it.1]
      exact l1
    apply List.ext_getElem?
    intro j
    rw [List.getElem?_map]
    cases hj : acc.toList[j]? with
    | none =>
      have h1 := List.getElem?_eq_none_iff.mp hj
      rw [List.getElem?_eq_none (by omega)]
      all_goals rfl
    | some v =>
      obtain ⟨en, hen, hv⟩ := it.2 j v (by rw [← Array.getElem?_toList]; exact hj)
      have qe := entry_at he j
      rw [hen, List.getElem?_map] at qe
      cases hb : L[j]? with
      | none =>
        rw [hb] at qe
        exact nomatch (show some en = none from qe)
      | some b =>
        rw [hb] at qe
        have e2 : en = entryOfKey (nestedKind X.prog X.w) (b.2, b.1, Value.bool true) := Option.some.inj qe
        rw [hv, e2]
        all_goals rfl
  generalize acc.toList = vs at ea ⊢
  subst ea
  have hz : (L.map fun p => Value.ref p.1).length ≤ sizeLine := by
    rw [List.length_map, sizeLine_eq]
    omega
  have I1 : Inv X pins σ H { s with heap := h', toks := tk } := I.kept hk
  refine wpAny_bind (wpAny_newList ?_ hz)
  generalize hvs : (L.map fun p => Value.ref p.1) = vs at hz vals ⊢
  have hoL : (h'.push (seqObj "list" vs.toArray 0)).get? h'.objs.size = some (seqObj "list" vs.toArray 0) := Heap.get?_push_size _ rfl
  show wpAny _ _ _ _ _ { s with heap := h'.push (seqObj "list" vs.toArray 0), toks := tk }
  refine wpAny_bind (wpAny_holding (wpAny_call_entry PyProof.Rows.slot_list_sort ⟨_, hoL, rfl⟩ PyProof.Rows.entry_list_sort
    (SrtO.list_sort_ord (ltv := fun v u => ltR (rowOfV H v) (rowOfV H u)) (swo_R _) hoL hz (fun h2 => ?_) (fun out srt hb => ⟨_, rfl, ?_⟩))
    (PyProof.Rows.args_list_sort _)))
  · refine rows_sortable (by rw [Around.in1_units, Around.in1_units]; omega) (by omega) (fun v hv => ?_) (fun v hv => ?_) fun o' eo => ?_
    · obtain ⟨b, ρ, rfl, _, h⟩ := vals v hv
      rw [rowOfV_at h]
      exact (isRw_of I1.hok h).keeps fun b o e _ => Heap.get?_push_of_some _ e
    · obtain ⟨b, ρ, rfl, ne, h⟩ := vals v hv
      rw [rowOfV_at h]
      exact ne
    · have e' : some o' = some (seqObj "list" vs.toArray 0) := eo.symm.trans hoL
      cases e'
      intro c
      exact absurd (Value.type.inj c) (by decide)
  · obtain ⟨e', at'⟩ := PyProof.Rows.sortedHeap_at (vs := vs) (out := out.toArray) hoL
    have pm : out.Perm (L.map fun p => Value.ref p.1) := hvs ▸ hb.perm
    have hout : ∀ v ∈ out, ∃ b ρ, v = .ref b ∧ RowAt H b ρ := fun v hv => by
      obtain ⟨b, ρ, e, _, h⟩ := vals v (hb.perm.mem_iff.mp hv)
      exact ⟨b, ρ, e, h⟩
    clear hb
    obtain ⟨bs, rfl⟩ : ∃ bs : List Addr, out = bs.map Value.ref := by
      clear pm srt at'
      induction out with
      | nil => exact ⟨[], rfl⟩
      | cons v l ih =>
        obtain ⟨bs, e⟩ := ih fun u hu => hout u (List.mem_cons_of_mem _ hu)
        obtain ⟨b, _, e', _⟩ := hout v List.mem_cons_self
        exact ⟨b :: bs, by rw [e', e]; rfl⟩
    have at2 : ∀ b ∈ bs, RowAt H b (rowOfV H (.ref b)) := fun b hb => by
      obtain ⟨b', c', e, h⟩ := hout (.ref b) (List.mem_map.mpr ⟨b, hb, rfl⟩)
      cases e
      rw [rowOfV_at h]
      exact h
    have kL : L.map Prod.snd = ((L.map fun p => Value.ref p.1).map (rowOfV H)).map rowK := by
      rw [List.map_map, List.map_map]
      refine List.map_congr_left fun p hp => ?_
      obtain ⟨ρ, _, e, h⟩ := hL p hp
      show p.2 = rowK (rowOfV H (.ref p.1))
      rw [rowOfV_at h, e]
    have pmc : ((bs.map Value.ref).map (rowOfV H)).Perm ((L.map fun p => Value.ref p.1).map (rowOfV H)) := pm.map _
    have ys : (bs.map Value.ref).map (rowOfV H) = bs.map fun b => rowOfV H (.ref b) := by rw [List.map_map]; rfl
    have nd : ((bs.map Value.ref).map (rowOfV H)).Nodup := by
      refine pmc.nodup_iff.mpr ?_
      have one := hn
      rw [kL] at one
      exact (List.pairwise_map.mp one).imp fun h e => h (congrArg rowK e)
    have st := strictR (List.pairwise_map.mpr srt) nd
    have len : (bs.map Value.ref).length = L.length := by rw [pm.length_eq, List.length_map]
    rw [List.length_map] at len
    have hlen : (bs.map V.ref).length ≤ sizeLine := by
      rw [List.length_map, sizeLine_eq]
      omega
    refine wpAny_pure ⟨_, rfl, .ref h'.objs.size, upd H h'.objs.size (.lst (bs.map V.ref)), I1.laid (t' := tk) (fun b u e => ?_) (Nat.le_refl _)
      (show ObjOk X.prog X.w _ _ _ (.lst (bs.map V.ref)) from ⟨hlen, bs.map Value.ref, e', refs_vals _, at'⟩), rfl,
      q _ bs _ (fun ρ => ?_) ?_ (ys ▸ st) (paired_of (fun b => rowOfV H (.ref b)) at2) (I1.hok.fresh (Nat.le_refl _))⟩
    · have hb : b < h'.objs.size := Heap.lt_size e
      rw [PyProof.Rows.sortedHeap_old (Nat.ne_of_lt hb) (by rw [size_push']; exact Nat.lt_succ_of_lt hb)]
      exact Heap.get?_push_of_some _ e
    · rw [← ys, pmc.mem_iff, kL]
      exact ⟨fun m => List.mem_map.mpr ⟨ρ, m, rfl⟩, fun m => by
        obtain ⟨π, hd, e⟩ := List.mem_map.mp m
        rw [← rowK_inj e]
        exact hd⟩
    · rw [List.length_map]
      exact len
end
end Ask
/-! AskLk: sorted of a list of rows that are not (). -/
namespace Ask
open PySem PySem.Spec PyProof.Rows L2 AskG
/-- sorted(l), l a list of rows -/
def rSortLR (K : PySem.W.Frag) : List V → Hp → VK → Prop := fun xs H Q => ∃ (a : Addr) (ps : List Addr) (rs : List RowD), xs = [.ref a] ∧ SqL K H a (ps.map V.ref) ∧ Paired (RowAt H) ps rs ∧ (∀ ρ ∈ rs, ρ ≠ []) ∧
  ∀ (ys : List Addr) (ts : List RowD) (p : Addr), ts.Perm rs → ts.Pairwise (fun a b => ltR b a = false) → Paired (RowAt H) ys ts → H p = none → Q (.ref p) (upd H p (.lst (ys.map V.ref)))
theorem paired_both {α β : Type} {R : α → β → Prop} : ∀ {l : List α} {m : List β}, Paired R l m → ∀ a ∈ l, ∃ b ∈ m, R a b
  | _, _, .nil, a, h => absurd h (by simp)
  | _, _, .cons h1 t, a, h => by
    cases List.mem_cons.mp h with
    | inl e => exact ⟨_, List.mem_cons.mpr (.inl rfl), e ▸ h1⟩
    | inr m =>
      obtain ⟨b, hb, r⟩ := paired_both t a m
      exact ⟨b, List.mem_cons.mpr (.inr hb), r⟩
section
variable {X : Cx}
theorem cr_sortLR (hu : X.A.units + 8 < cLine) : CallR X (.builtin "sorted") (rSortLR X.K) := by
  intro pins s σ H vs us Q I r h
  obtain ⟨a, ps, rs, rfl, hs, hx, ne, q⟩ := h
  obtain ⟨its, rv, hl, hz⟩ := I.list hs
  obtain ⟨u, rfl, ru⟩ := vals1 r
  obtain rfl : u = Value.ref a := ru
  have ei : its = ps.map Value.ref := by
    clear hl hz q hx hs ne
    induction ps generalizing its with
    | nil =>
      cases rv
      rfl
    | cons p ps ih =>
      cases rv with
      | cons h1 t =>
        cases h1
        rw [List.map_cons, ih _ t]
  subst ei
  have hp : ∀ v ∈ ps.map Value.ref, ∃ p ρ, v = .ref p ∧ ρ ≠ [] ∧ RowAt H p ρ := fun v hv => by
    obtain ⟨p, hp, rfl⟩ := List.mem_map.mp hv
    obtain ⟨ρ, hm, hr⟩ := paired_both hx p hp
    exact ⟨p, ρ, rfl, ne ρ hm, hr⟩
  refine SrtO.sorted_ord (ltv := fun v u => ltR (rowOfV H v) (rowOfV H u)) (swo_R _) hl.isList (by rw [← rv.length]; exact hz) (fun h2 h₁ a' ha kk => ?_) fun out h1 h2 => ?_
  · refine rows_sortable (s := { s with heap := h₁ }) (by rw [Around.in1_units, Around.in1_units]; omega) (by omega) (fun v hv => ?_) (fun v hv => ?_) fun o e => ?_
    · obtain ⟨p, ρ, rfl, _, hr⟩ := hp v hv
      rw [rowOfV_at hr]
      exact (isRw_of I.hok hr).keeps fun b o e _ => (kk b o e).2
    · obtain ⟨p, ρ, rfl, hne, hr⟩ := hp v hv
      rw [rowOfV_at hr]
      exact hne
    · have e' : some o = some (seqObj "list" (ps.map Value.ref).toArray 0) := e.symm.trans ha
      cases e'
      intro c
      exact absurd (Value.type.inj c) (by decide)
  · have hout : ∀ v ∈ out, ∃ p ρ, v = .ref p ∧ RowAt H p ρ := fun v hv => by
      obtain ⟨p, ρ, e, _, hr⟩ := hp v (h2.perm.mem_iff.mp hv)
      exact ⟨p, ρ, e, hr⟩
    have hys : ∃ ys : List Addr, out = ys.map Value.ref := by
      clear h1 h2
      induction out with
      | nil => exact ⟨[], rfl⟩
      | cons v l ih =>
        obtain ⟨ys, rfl⟩ := ih fun u hu => hout u (List.mem_cons_of_mem _ hu)
        obtain ⟨p, x, rfl, _⟩ := hout v List.mem_cons_self
        exact ⟨p :: ys, rfl⟩
    obtain ⟨ys, rfl⟩ := hys
    obtain ⟨n, hn⟩ := PyProof.Rows.sortedAll_at s.heap (ps.map Value.ref) (ys.map Value.ref).toArray
    have hlen : (ys.map V.ref).length ≤ sizeLine := by
      have := h2.perm.length_eq
      rw [List.length_map, List.length_map] at this
      rw [List.length_map] at hz ⊢
      omega
    have em : (ps.map Value.ref).map (rowOfV H) = rs := by
      rw [List.map_map]
      exact paired_map (R := RowAt H) _ (fun p x h => rowOfV_at h) hx
    refine ⟨.ref (s.heap.objs.size + 1), upd H (s.heap.objs.size + 1) (.lst (ys.map V.ref)), I.laid (t' := s.toks) (fun b o e => PyProof.Rows.sortedAll_old e) (Nat.le_succ _) ⟨hlen, ys.map Value.ref, n, refs_vals _, hn⟩, rfl, q ys ((ys.map Value.ref).map (rowOfV H)) _ ?_ (List.pairwise_map.mpr h1) ?_ (I.hok.fresh (Nat.le_succ _))⟩
    · rw [← em]
      exact h2.perm.map _
    · rw [List.map_map]
      refine paired_of _ fun p hp' => ?_
      obtain ⟨p2, x, e2, hx'⟩ := hout (.ref p) (List.mem_map_of_mem hp')
      cases e2
      show RowAt H p (rowOfV H (.ref p))
      rw [rowOfV_at hx']
      exact hx'
end
end Ask
/-! AskWa: the walk over a tuple, a list, a range, told once for loops of comprehensions of any shape. -/
namespace Ask
open PySem PySem.Spec PyProof.Rows L2 AskG
/-- what a loop over J asks: it begins at H0, each turn is Body, the end is Qd -/
def Loops (J : It) (H0 : Hp) (Qd : Hp → Prop) (Body : V → Hp → (Hp → Prop) → Prop) : Prop :=
  ∃ W : Nat → Nat → Hp → Prop, (∃ m, W 0 m H0) ∧ ∀ i m H, W i m H →
    (J.stop i H ∧ Qd H) ∨ (J.go i H ∧ ∃ Nx : Hp → Prop, (∀ H', Nx H' → ∃ m', m' < m ∧ W (i + 1) m' H') ∧ ∀ x H', J.yld i H x H' → Body x H' Nx)
section
variable {K : PySem.W.Frag} {a : Addr} {xs : List V} {H0 : Hp} {Qd : Hp → Prop} {Body : V → Hp → (Hp → Prop) → Prop}
theorem loop_tup (Pv : Nat → Hp → Prop) (h0 : Pv 0 H0) (hl : ∀ i H, Pv i H → SqT K H a xs) (hs : ∀ i x H, xs[i]? = some x → Pv i H → Body x H (Pv (i + 1))) (hd : ∀ H, Pv xs.length H → Qd H) : Loops (Itt K a) H0 Qd Body := by
  refine ⟨fun i m H => m + i = xs.length ∧ Pv i H, ⟨xs.length, Nat.add_zero _, h0⟩, fun i m H h => ?_⟩
  obtain ⟨e, p⟩ := h
  have q := hl i H p
  cases m with
  | zero =>
    have e : i = xs.length := by omega
    subst e
    exact .inl ⟨⟨xs, q, Nat.le_refl _⟩, hd H p⟩
  | succ m =>
    have lt : i < xs.length := by omega
    refine .inr ⟨⟨xs, xs[i], q, List.getElem?_eq_getElem lt⟩, Pv (i + 1), fun H' p' => ⟨m, Nat.lt_succ_self _, by omega, p'⟩, fun x H' y => ?_⟩
    obtain ⟨rfl, y⟩ := y
    exact hs i x _ (y xs q) p
theorem loop_lst (Pv : Nat → Hp → Prop) (h0 : Pv 0 H0) (hl : ∀ i H, Pv i H → SqL K H a xs) (hs : ∀ i x H, xs[i]? = some x → Pv i H → Body x H (Pv (i + 1))) (hd : ∀ H, Pv xs.length H → Qd H) : Loops (Itl K a) H0 Qd Body := by
  refine ⟨fun i m H => m + i = xs.length ∧ Pv i H, ⟨xs.length, Nat.add_zero _, h0⟩, fun i m H h => ?_⟩
  obtain ⟨e, p⟩ := h
  have q := hl i H p
  cases m with
  | zero =>
    have e : i = xs.length := by omega
    subst e
    exact .inl ⟨⟨xs, q, Nat.le_refl _⟩, hd H p⟩
  | succ m =>
    have lt : i < xs.length := by omega
    refine .inr ⟨⟨xs, xs[i], q, List.getElem?_eq_getElem lt⟩, Pv (i + 1), fun H' p' => ⟨m, Nat.lt_succ_self _, by omega, p'⟩, fun x H' y => ?_⟩
    obtain ⟨rfl, y⟩ := y
    exact hs i x _ (y xs q) p
theorem loop_rg {lo : Int} {n : Nat} (Pv : Nat → Hp → Prop) (h0 : Pv 0 H0) (hs : ∀ (i : Nat) H, i < n → Pv i H → Body (.int (lo + (i : Int))) H (Pv (i + 1))) (hd : ∀ H, Pv n H → Qd H) : Loops (Itr lo n) H0 Qd Body := by
  refine ⟨fun i m H => m + i = n ∧ Pv i H, ⟨n, Nat.add_zero _, h0⟩, fun i m H h => ?_⟩
  obtain ⟨e, p⟩ := h
  cases m with
  | zero =>
    have e : i = n := by omega
    subst e
    exact .inl ⟨Nat.le_refl _, hd H p⟩
  | succ m =>
    have lt : i < n := by omega
    refine .inr ⟨lt, Pv (i + 1), fun H' p' => ⟨m, Nat.lt_succ_self _, by omega, p'⟩, fun x H' y => ?_⟩
    obtain ⟨rfl, rfl⟩ := y
    exact hs i _ lt p
end
/-! ### the keys of a dict of nested keys -/
/-- the dict at a, the object o -/
def DicFO (P : Program) (w : World) (a : Addr) (o : Obj) (L : List KA) : HO := .ext fun h => h.get? a = some o ∧ DicK0 P w h a L
def Itn (P : Program) (w : World) (d : Addr) (o : Obj) (L : List KA) : It where
  go := fun i H => H d = some (DicFO P w d o L) ∧ i < L.length
  yld := fun i H x H' => H' = H ∧ ∃ p, L[i]? = some p ∧ x = .ref p.1
  stop := fun i H => H d = some (DicFO P w d o L) ∧ L.length ≤ i
theorem dicF_at {P : Program} {w : World} {H : Hp} {h : Heap} {d : Addr} {o : Obj} {L : List KA} {es : Array DictEntry} {ep : Nat} (ok : HOk P w H h) (e : H d = some (DicFO P w d o L)) (hod : o.data = .dict es ep) :
    h.get? d = some o ∧ es.size = L.length ∧ ∀ (i : Nat) (p : KA), L[i]? = some p → ∃ en : DictEntry, es[i]? = some en ∧ en.key = .ref p.1 := by
  obtain ⟨g, sy, o', es', ep', ho, hx, hd, he, hn⟩ := (show h.get? d = some o ∧ DicK0 P w h d L from (ok d _ e).1)
  obtain rfl : o = o' := Option.some.inj (g.symm.trans ho)
  obtain ⟨rfl, rfl⟩ := dict_ep hod hd
  have sz : es'.size = L.length := by rw [size_of_entries he, List.length_map]
  refine ⟨g, sz, fun i p hp => ?_⟩
  have z := entry_at he i
  rw [List.getElem?_map, hp] at z
  exact ⟨_, z, rfl⟩
theorem turn_n {P : Program} {w : World} {K : PySem.W.Frag} {tg : Expr} {d it : Addr} {o : Obj} {L : List KA} {es : Array DictEntry} {ep : Nat} (hod : o.data = .dict es ep) :
    Turn P w K tg (Itn P w d o L) [it] it (fun i h => h.IsKeyIter it d i L.length ep) where
  mem := List.mem_singleton.mpr rfl
  obj := fun i h k b hb => by
    rw [List.mem_singleton.mp hb]
    obtain ⟨x, hx, _, hf⟩ := k
    refine ⟨x, hx, fun v z => ?_⟩
    rw [hf] at z
    cases z
  keep := fun i h h' k st => k.at fun x e => st it (List.mem_singleton.mpr rfl) x e
  item := by
    intro X eP eW eK calm i pins s σ H E I fine key g
    subst eP eW eK
    obtain ⟨gd, sz, at'⟩ := dicF_at I.hok g.1 hod
    obtain ⟨p, hp⟩ : ∃ p, L[i]? = some p := ⟨_, List.getElem?_eq_getElem g.2⟩
    obtain ⟨en, hen, hk⟩ := at' i p hp
    obtain ⟨y0, y1, y2, y3, y4, y5⟩ := fine it (List.mem_singleton.mpr rfl)
    refine next_key_item key gd hod sz hen fun hh key' same => ?_
    have J := I.turned (t' := s.toks) (fun b x nb e => (same.2 b nb).trans e) y0 y1 y3 y4 y5
    obtain ⟨x, hx, hc, hf⟩ := id key'
    refine ⟨en.key, rfl, ?_⟩
    refine go_of (s := { s with heap := hh }) hx hc hf (by decide) ?_
    exact ⟨.ref p.1, H, J, by rw [hk]; rfl, ⟨rfl, p, hp, rfl⟩, key', fun b hb => (fine b hb).1⟩
  done := by
    intro X eP eW eK calm i pins s σ H E I fine key g
    subst eP eW eK
    obtain ⟨gd, sz, _⟩ := dicF_at I.hok g.1 hod
    obtain ⟨y0, y1, y2, y3, y4, y5⟩ := fine it (List.mem_singleton.mpr rfl)
    refine next_key_end (I.ok.hd calm) key gd hod sz g.2 fun hh eb => ⟨rfl, ?_⟩
    exact I.turned (t' := s.toks) (fun b x nb e => eb b x nb e) y0 y1 y3 y4 y5
  self := fun A i s Q E key q => by
    refine wpAny_pyIter_slot key.typeIs F.slot_dict_keyiterator_iter ?_
    refine wpAny_call_entry F.slot_dict_keyiterator_iter key.typeIs F.entry_dict_keyiterator_iter ?_ (F.args_dict_keyiterator_iter_1 _)
    exact wpAny_pure ⟨_, rfl, "dict_keyiterator", _, key.typeIs, F.slot_dict_keyiterator_next.lookup, q⟩
/-- for k in d -/
def iKeysN (P : Program) (w : World) (td : TE) : TI := fun σ H R => td σ H fun x H1 => ∃ d L, x = .ref d ∧ H1 d = some (DicKO P w d L) ∧ ∀ o, R (Itn P w d o L) (upd H1 d (DicFO P w d o L))
theorem pi_keysN {X : Cx} {tg e : Expr} {td : TE} (he : PE X e td) : PI X tg e (iKeysN X.prog X.w td) := by
  constructor
  intro pins s σ H R I h
  refine thn (he.run pins s σ H _ I h) fun u s1 q1 => ?_
  obtain ⟨x, H1, I1, rx, d, L, ex, hd, q⟩ := q1
  subst ex
  obtain rfl : u = Value.ref d := rx
  have S : DicK0 X.prog X.w s1.heap d L := (I1.hok d _ hd).1
  obtain ⟨sy, o, es, ep, ho, hx, hdt, hes, hn⟩ := id S
  have I2 : Inv X pins σ (upd H1 d (DicFO X.prog X.w d o L)) s1 := by
    refine I1.write (h' := s1.heap) (e := d) (t' := s1.toks) (by rw [hd]; trivial) (.inl rfl) (fun b x _ e => e) ⟨o, ho⟩ ⟨⟨ho, S⟩, ⟨o, ho⟩, fun h1 h2 p k => ?_⟩
    obtain ⟨g1, sy', o', es', ep', ho', r'⟩ := (show h1.get? d = some o ∧ DicK0 X.prog X.w h1 d L from p)
    exact ⟨k o g1, sy', o', es', ep', k o' ho', r'⟩
  refine iter_keys sy ho hx hdt ?_
  refine pi_one (tk := s1.toks) I2 _ (turn_n hdt) ⟨_, Heap.get?_push_size _ rfl, rfl, ?_⟩ (q o)
  rw [size_of_entries hes, List.length_map] <;> rfl
section
variable {P : Program} {w : World} {d : Addr} {o : Obj} {L : List KA} {H0 : Hp} {Qd : Hp → Prop} {Body : V → Hp → (Hp → Prop) → Prop}
theorem loop_keys (Pv : Nat → Hp → Prop) (h0 : Pv 0 H0) (hl : ∀ i H, Pv i H → H d = some (DicFO P w d o L)) (hs : ∀ i p H, L[i]? = some p → Pv i H → Body (.ref p.1) H (Pv (i + 1))) (hd : ∀ H, Pv L.length H → Qd H) : Loops (Itn P w d o L) H0 Qd Body := by
  refine ⟨fun i m H => m + i = L.length ∧ Pv i H, ⟨L.length, Nat.add_zero _, h0⟩, fun i m H h => ?_⟩
  obtain ⟨e, p⟩ := h
  cases m with
  | zero =>
    have e : i = L.length := by omega
    subst e
    exact .inl ⟨⟨hl _ H p, Nat.le_refl _⟩, hd H p⟩
  | succ m =>
    have lt : i < L.length := by omega
    refine .inr ⟨⟨hl i H p, lt⟩, Pv (i + 1), fun H' p' => ⟨m, Nat.lt_succ_self _, by omega, p'⟩, fun x H' y => ?_⟩
    obtain ⟨rfl, k, hk, rfl⟩ := y
    exact hs i k _ hk p
end
end Ask
namespace P51
open PySem PySem.Spec PyProof.Rows L2 AskG Ask RZ
abbrev sTupOf : Stmt := topS 10
abbrev sAsc : Stmt := topS 11
abbrev sNames : Stmt := topS 12
abbrev sAccs : Stmt := topS 13
abbrev sWall : Stmt := topS 15
theorem scTupOf : FnScope ["many", "thing"] ["many", "thing"] (defScope sTupOf) := ⟨rfl, rfl, rfl, by decide +kernel, rfl, by decide +kernel, by decide +kernel⟩
theorem scAsc : FnScope ["items", "one", "other"] ["items"] (defScope sAsc) := ⟨rfl, rfl, rfl, by decide +kernel, rfl, by decide +kernel, by decide +kernel⟩
theorem scNames : FnScope ["thing", "item"] ["thing"] (defScope sNames) := ⟨rfl, rfl, rfl, by decide +kernel, rfl, by decide +kernel, by decide +kernel⟩
theorem scAccs : FnScope ["thing"] ["thing"] (defScope sAccs) := ⟨rfl, rfl, rfl, by decide +kernel, rfl, by decide +kernel, by decide +kernel⟩
theorem scWall : FnScope ["thing", "group", "question", "m"] ["thing"] (defScope sWall) := ⟨rfl, rfl, rfl, by decide +kernel, rfl, by decide +kernel, by decide +kernel⟩
/-! ### what the values are -/
def lenB (n : Nat) (d : PyData) : Bool := match d with
  | .tuple ds => decide (ds.length = n)
  | _ => false
def areNamesD (d : PyData) : Bool := match d with
  | .tuple ds => ds.all isNameD
  | _ => false
def ltS (zs : List Str) (i : Nat) : Bool := decide ((zs.getD i "").cps.toList < (zs.getD (i + 1) "").cps.toList)
def ascS (zs : List Str) : Bool := ((List.range (zs.length - 1)).map (ltS zs)).all id
def accD (d : PyData) : Bool := areNamesD d && (match d with
  | .tuple ds => !ds.isEmpty && ascS (ds.map strOf)
  | _ => false)
def ne1D (d : PyData) : Bool := match d with
  | .int i => decide (i ≠ 1)
  | _ => true
def guardD (d : PyData) : Bool := lenB 3 d && (accD (itemD d 0) && (isRowD (itemD d 1) && (isNumD (itemD d 2) && ne1D (itemD d 2))))
theorem names_of {D : Addr} {H : Hp} : ∀ {xs : List V} {ds : List PyData}, DHs D H xs ds → ds.all isNameD = true → xs = (ds.map strOf).map V.str ∧ ds = (ds.map strOf).map PyData.str
  | _, _, .nil, _ => ⟨rfl, rfl⟩
  | _, _, .cons h t, w => by
    rw [List.all_cons, Bool.and_eq_true] at w
    obtain ⟨z, rfl⟩ := name_of w.1
    obtain rfl := h.str_inv
    obtain ⟨e1, e2⟩ := names_of t w.2
    exact ⟨by rw [List.map_cons, List.map_cons, ← e1]; rfl, by rw [List.map_cons, List.map_cons, ← e2]; rfl⟩
theorem shaped_tstr {zs : List Str} (h : ∀ z ∈ zs, PyData.strOk z = true) : SeqAt.shaped (.tuple (zs.map PyData.str)) = true := by
  have h1 : PyData.canLayAll0 (zs.map PyData.str) = true := can_all fun z hz => h z hz
  have h2 : PyData.depthAll (zs.map PyData.str) ≤ 0 := depth_all fun z _ => Nat.le_refl _
  show (PyData.canLayAll0 (zs.map PyData.str) && decide (PyData.depthAll (zs.map PyData.str) + 1 ≤ 64)) = true
  rw [h1, decide_eq_true (by omega)]
  rfl
theorem shaped_t0 : SeqAt.shaped (.tuple []) = true := by decide
theorem dp_tstr {K : PySem.W.Frag} {H : Hp} : ∀ zs : List Str, DpAll K H (zs.map V.str) (zs.map PyData.str)
  | [] => .nil
  | z :: zs => .cons (.str z) (dp_tstr zs)
theorem eqv_t0 (l : List PyData) : PyData.eqv (.tuple l) (.tuple []) = l.isEmpty := by
  cases l <;> rfl
/-- a loop over zip of two tuples -/
theorem loop_zipT {K : PySem.W.Frag} {a b : Addr} {xs ys : List V} {H0 : Hp} {Qd : Hp → Prop} {Body : V → Hp → (Hp → Prop) → Prop} {n : Nat} (hn : n = min xs.length ys.length) (Pv : Nat → Hp → Prop) (h0 : Pv 0 H0)
    (hl : ∀ i H, Pv i H → SqT K H a xs ∧ SqT K H b ys) (hs : ∀ i T x y H, i < n → xs[i]? = some x → ys[i]? = some y → H T = none → Pv i H → Body (.ref T) (upd H T (.tup [x, y])) (Pv (i + 1))) (hd : ∀ H, Pv n H → Qd H) : Loops (ItzT K a b) H0 Qd Body := by
  refine ⟨fun i m H => m + i = n ∧ Pv i H, ⟨n, Nat.add_zero _, h0⟩, fun i m H h => ?_⟩
  obtain ⟨e, p⟩ := h
  obtain ⟨q1, q2⟩ := hl i H p
  cases m with
  | zero =>
    have e : i = n := by omega
    subst e
    exact .inl ⟨⟨xs, ys, q1, q2, by omega⟩, hd H p⟩
  | succ m =>
    have l1 : i < xs.length := by omega
    have l2 : i < ys.length := by omega
    refine .inr ⟨⟨xs, ys, xs[i], ys[i], q1, q2, List.getElem?_eq_getElem l1, List.getElem?_eq_getElem l2⟩, Pv (i + 1), fun H' p' => ⟨m, Nat.lt_succ_self _, by omega, p'⟩, fun v H' y => ?_⟩
    obtain ⟨T, x, y, rfl, hT, rfl, f1, f2⟩ := y
    exact hs i T x y H (by omega) (f1 xs q1) (f2 ys q2) hT p
theorem cut_tail {xs : List V} (h : xs ≠ []) : cutV xs (some 1) none = xs.drop 1 := by
  unfold cutV
  have l1 : 1 ≤ xs.length := List.length_pos_iff.mpr h
  rw [show HT.sIx xs.length 0 (some 1) = min 1 xs.length from HT.sIx_nat _ 0 1, HT.sIx_none, Nat.min_eq_left l1]
  exact List.take_of_length_le (by rw [List.length_drop]; exact Nat.le_refl _)
section
variable {P : Program} {w : World} {K : PySem.W.Frag} {mg : Str → Option Value} {base : Heap}
variable {fN fR fA fC fT fM fS : Addr} {fdN fdR fdA fdC fdT fdM fdS : FuncData}
def prTupOf : Pr := fun vs H Q => ∃ (v : V) (d : PyData) (D : Addr), vs = [.int 3, v] ∧ DH D H v d ∧ smallD d = true ∧ Q (.bl (lenB 3 d)) H
theorem ok_tupOf {f : Addr} {fd : FuncData} {k : Nat} (F : Fun K "is_tuple_of" "is_tuple_of" sTupOf f fd) (mi : mg "isinstance" = none) (mt : mg "tuple" = none) (ml : mg "len" = none) : FnG P w K mg base (k + 1) f fd ["many", "thing"] prTupOf := by
  refine okG F scTupOf (fun vs H Q h => ?_) (fun cdv A outer s H vs Q hr h => ?_)
  · obtain ⟨_, _, _, rfl, _⟩ := h
    rfl
  · obtain ⟨v, d, D, rfl, hd, hs, q⟩ := h
    refine ⟨_, pss_one (ps_ret (pe_and (pe_callB call_isi (by rfl) mi (by decide +kernel) (pa_cons (pv 1) (pa_cons (pe_bltn (v := .ty "tuple") (by rfl) mt (by decide +kernel) rfl) pa_nil)))
      (pe_one (pe_cmpR op_eq (pe_callB call_len_seq (by rfl) ml PySem.boot_len (pa_cons (pv 1) pa_nil)) (pv 0) (nomark _))))), ?_⟩
    refine iRet (iAndV (isi_call (K := K) (i := 1) (a := tyN d) (b := "tuple") (r := tupB d) (x := v) rfl hd.ty (kit_tup d) ⟨_, rfl, ?_⟩))
    cases d with
    | tuple ds =>
      obtain ⟨a, xs, rfl, ha, hds⟩ := hd.tup_inv
      refine iteT ⟨.ref a, rfl, a, xs, rfl, .inr (sqT ha), .int 3, rfl, rfl, ?_⟩
      have e : decide (V.int (xs.length : Int) = V.int 3) = decide (ds.length = 3) := by
        rw [hds.len]
        refine decide_eq_decide.mpr ⟨fun z => ?_, fun z => by rw [z]; rfl⟩
        have := V.int.inj z
        omega
      rw [e]
      exact q
    | _ => exact iteF q
def prAscS : Pr := fun vs H Q => ∃ (a : Addr) (zs : List Str), vs = [.ref a] ∧ H a = some (.tup (zs.map V.str)) ∧ zs ≠ [] ∧ zs.length ≤ 1000 ∧ ∀ H', Same H H' → Q (.bl (ascS zs)) H'
theorem ok_asc {f : Addr} {fd : FuncData} {k : Nat} (F : Fun K "are_ascending" "are_ascending" sAsc f fd) (ma : mg "all" = none) (mz : mg "zip" = none) : FnG P w K mg base (k + 1) f fd ["items"] prAscS := by
  refine okG F scAsc (fun vs H Q h => ?_) (fun cdv A outer s H vs Q hr h => ?_)
  · obtain ⟨_, _, rfl, _⟩ := h
    rfl
  · obtain ⟨a, zs, rfl, ha, ne, lz, q⟩ := h
    have big := sizeBig
    refine ⟨_, pss_one (ps_ret (pe_callB (cr_all rfl) (by rfl) ma (by decide +kernel) (pa_cons (pe_lc (own := [("one", 1), ("other", 2)]) (g := g2 K 1 2) (tt := tYes) rfl scAsc.nd (pi_zipA (by rfl) mz (pa_cons (pv 0) (pa_cons (pe_slice sl_tup (pv 0) (po_some pe_int) po_none) pa_nil)))
        (blkOk_by (N := ["items", "one", "other"]) (sc := defScope sAsc) (by decide +kernel)) (fun _ _ _ _ _ => pg_tup rfl (pgs_cons (pg_name (i := 1) scAsc.nd rfl (.inl rfl)) (pgs_cons (pg_name (i := 2) scAsc.nd rfl (.inl rfl)) pgs_nil))) (fun _ _ _ _ _ => pts_nil)
        (fun _ _ _ _ _ => pe_cmpR op_lt_str (pv 1) (pv 2) (nomark _))) pa_nil))), ?_⟩
    have xne : zs.map V.str ≠ [] := fun z => ne (List.map_eq_nil_iff.mp z)
    have l1 : 1 ≤ (zs.map V.str).length := List.length_pos_iff.mpr xne
    refine iRet (iCB (iCons ?_))
    refine ⟨.ref a, rfl, .ref a, rfl, 1, rfl, a, zs.map V.str, rfl, sqT ha, fun z => ?_, fun E hE => ?_⟩
    · have z1 := z.1
      rw [show HT.sIx (zs.map V.str).length 0 (some 1) = min 1 (zs.map V.str).length from HT.sIx_nat _ 0 1] at z1
      omega
    rw [cut_tail xne]
    have s3 : Same H (upd H E (.tup ((zs.map V.str).drop 1))) := same_new hE
    have hE3 : (upd H E (.tup ((zs.map V.str).drop 1))) E = some (.tup ((zs.map V.str).drop 1)) := upd_same
    refine ⟨a, E, zs.map V.str, (zs.map V.str).drop 1, rfl, .inr ⟨sqT (s3 _ _ ha), sqT hE3, fun L3 hL3 => ?_⟩⟩
    generalize upd H E (.tup ((zs.map V.str).drop 1)) = H3 at s3 hE3 hL3 ⊢
    refine loop_zipT (K := K) (n := zs.length - 1) (by rw [List.length_drop, List.length_map]; omega) (fun i H' => Same H3 H' ∧ H' L3 = some (.lst (((List.range i).map (ltS zs)).map V.bl))) ⟨same_new hL3, upd_same⟩ (fun i H' h => ⟨sqT (h.1 _ _ (s3 _ _ ha)), sqT (h.1 _ _ hE3)⟩) (fun i T x y H' hi hx hy hT h => ?_) (fun H' h => ?_)
    · rw [List.getElem?_map] at hx
      obtain ⟨z1, hz1, rfl⟩ := Option.map_eq_some_iff.mp hx
      rw [List.getElem?_drop, Nat.add_comm 1 i, List.getElem?_map] at hy
      obtain ⟨z2, hz2, rfl⟩ := Option.map_eq_some_iff.mp hy
      have lt : decide (z1.cps.toList < z2.cps.toList) = ltS zs i := by
        unfold ltS
        rw [List.getD_eq_getElem?_getD, List.getD_eq_getElem?_getD, hz1, hz2]
        rfl
      have sT : Same H' (upd H' T (.tup [.str z1, .str z2])) := same_new hT
      refine ⟨T, _, rfl, sqT upd_same, rfl, .str z1, _, rfl, .str z2, _, rfl, rfl, ?_⟩
      refine ⟨wipe2 (by decide), iYes (iteT ⟨.str z1, rfl, .str z2, rfl, z1, z2, rfl, rfl, _, sT _ _ h.2, ?_, ?_, ?_⟩)⟩
      · rw [List.length_map, List.length_map, List.length_range]
        omega
      · intro b o e
        rw [upd_ne (ne_of_none e hL3)]
        exact sT _ _ (h.1 _ _ e)
      · rw [upd_same, lt, List.range_succ, List.map_append, List.map_append]
        rfl
    · exact ⟨L3, _, rfl, sqL h.2, q H' (s3.trans h.1)⟩
theorem ok_names {f : Addr} {fd : FuncData} {k : Nat} (F : Fun K "are_names" "are_names" sNames f fd)
    (FR : Fun K "is_name" "is_name" sIsName fR fdR) (bR : Binds K fdR ["thing"] []) (gR : mg "is_name" = some (.ref fR)) (GR : FnG P w K mg base (k + 1) fR fdR ["thing"] (prKind isNameD))
    (mi : mg "isinstance" = none) (mt : mg "tuple" = none) (ma : mg "all" = none) : FnG P w K mg base (k + 2) f fd ["thing"] (prKind areNamesD) := by
  refine okG F scNames (fun vs H Q h => ?_) (fun cdv A outer s H vs Q hr h => ?_)
  · obtain ⟨_, _, _, rfl, _⟩ := h
    rfl
  · obtain ⟨v, d, D, rfl, hd, hs, q⟩ := h
    refine ⟨_, pss_one (ps_ret (pe_and (pe_callB call_isi (by rfl) mi (by decide +kernel) (pa_cons (pv 0) (pa_cons (pe_bltn (v := .ty "tuple") (by rfl) mt (by decide +kernel) rfl) pa_nil)))
      (pe_one (pe_callB (cr_all rfl) (by rfl) ma (by decide +kernel) (pa_cons (pe_lc (own := [("item", 1)]) (g := gName 1) (tt := tYes) rfl scNames.nd (pi_tup (pv 0)) (blkOk_by (N := ["thing", "item"]) (sc := defScope sNames) (by decide +kernel))
          (fun _ _ _ _ _ => pg_name (i := 1) scNames.nd rfl (.inl rfl)) (fun _ _ _ _ _ => pts_nil) (fun _ _ _ _ _ => pe_g GR hr (by rfl) gR FR.kp bR .nil (pa_cons (pv 1) pa_nil))) pa_nil))))), ?_⟩
    refine iRet (iAndV (isi_call (K := K) (i := 0) (a := tyN d) (b := "tuple") (r := tupB d) (x := v) rfl hd.ty (kit_tup d) ⟨_, rfl, ?_⟩))
    cases d with
    | tuple ds =>
      obtain ⟨a, xs, rfl, ha, hds⟩ := hd.tup_inv
      obtain ⟨sl, sds⟩ := small_tup hs
      refine iteT ?_
      refine iCB (iCons ?_)
      refine lc_kindT (K := K) (i := 0) (a := 1) (σ := [some (.ref a), none]) isNameD rfl ha hds sds (by show 1 < 2; decide) sl (fun σ' H' x d Q' hx sx sm h2 hq => ?_) (fun H1 L s1 hL => ?_)
      · exact ⟨x, h2, x, d, D, rfl, hx, sx, hq⟩
      · refine ⟨L, _, rfl, sqL hL, ?_⟩
        rw [all_map_id]
        exact q H1 s1
    | _ => exact iteF (q H (Same.refl _))
theorem strOk_of : ∀ {zs : List Str}, smallDs (zs.map PyData.str) = true → ∀ z ∈ zs, PyData.strOk z = true
  | y :: zs, h, z, hz => by
    have h : ((decide (y.length ≤ 1000) && PyData.strOk y) && smallDs (zs.map PyData.str)) = true := h
    rw [Bool.and_eq_true, Bool.and_eq_true] at h
    cases List.mem_cons.mp hz with
    | inl e =>
      rw [e]
      exact h.1.2
    | inr m => exact strOk_of h.2 z m
theorem ok_accs {f : Addr} {fd : FuncData} {k : Nat} (F : Fun K "are_accounts" "are_accounts" sAccs f fd)
    (FN : Fun K "are_names" "are_names" sNames fN fdN) (bN : Binds K fdN ["thing"] []) (gN : mg "are_names" = some (.ref fN)) (GN : FnG P w K mg base (k + 2) fN fdN ["thing"] (prKind areNamesD))
    (FA : Fun K "are_ascending" "are_ascending" sAsc fA fdA) (bA : Binds K fdA ["items"] []) (gA : mg "are_ascending" = some (.ref fA)) (GA : FnG P w K mg base (k + 2) fA fdA ["items"] prAscS) : FnG P w K mg base (k + 3) f fd ["thing"] (prKind accD) := by
  refine okG F scAccs (fun vs H Q h => ?_) (fun cdv A outer s H vs Q hr h => ?_)
  · obtain ⟨_, _, _, rfl, _⟩ := h
    rfl
  · obtain ⟨v, d, D, rfl, hd, hs, q⟩ := h
    have hun := hr.room.units
    refine ⟨_, pss_one (ps_ret (pe_and (pe_g GN hr (by rfl) gN FN.kp bN .nil (pa_cons (pv 0) pa_nil)) (pe_and (pe_cmpR (op_neD hun) (pv 0) (pe_tup pa_nil) (nomark _)) (pe_one (pe_g GA hr (by rfl) gA FA.kp bA .nil (pa_cons (pv 0) pa_nil)))))), ?_⟩
    refine iRet (iAndV ⟨v, rfl, v, d, D, rfl, hd, hs, fun H1 s1 => ⟨_, rfl, ?_⟩⟩)
    refine and_by (fun e => ?_) (fun e => ?_)
    · cases d with
      | tuple ds =>
        obtain ⟨a, xs, rfl, ha, hds⟩ := hd.tup_inv
        obtain ⟨sl, sds⟩ := small_tup hs
        obtain ⟨ex, ed⟩ := names_of hds e
        have q1 : ∀ H', Same H H' → Q (.bl (!ds.isEmpty && ascS (ds.map strOf))) H' := fun H' sm => by
          have q' : Q (.bl (areNamesD (.tuple ds) && (!ds.isEmpty && ascS (ds.map strOf)))) H' := q H' sm
          rw [e, Bool.true_and] at q'
          exact q'
        have lz : (ds.map strOf).length = ds.length := List.length_map _
        have ie : ds.isEmpty = (ds.map strOf).isEmpty := by cases ds <;> rfl
        rw [ie] at q1
        rw [ex] at ha
        rw [ed] at sds
        generalize ds.map strOf = zs at q1 ha sds lz ex ed
        have so := strOk_of sds
        refine iAndV ⟨.ref a, rfl, Nat.zero_le _, fun e1 he1 => ?_⟩
        have s2 := same_new (o := .tup []) he1
        refine ⟨.tuple (zs.map PyData.str), .tuple [], .tup (sqT (s2 _ _ (s1 _ _ ha))) (dp_tstr zs), .tup (sqT upd_same) .nil, shaped_tstr so, shaped_t0, ⟨_, rfl, ?_⟩⟩
        rw [eqv_t0]
        cases zs with
        | nil => exact iteF (q1 _ (s1.trans s2))
        | cons z zs =>
          refine iteT ?_
          exact ⟨.ref a, rfl, a, z :: zs, rfl, s2 _ _ (s1 _ _ ha), List.cons_ne_nil _ _, by omega, fun H3 s3 => q1 H3 ((s1.trans s2).trans s3)⟩
      | _ => cases e
    · have q' := q H1 s1
      unfold accD at q'
      rw [e, Bool.false_and] at q'
      exact q'
theorem trip_of {d : PyData} (h : lenB 3 d = true) : ∃ x y z, d = .tuple [x, y, z] := by
  cases d with
  | tuple ds =>
    have := of_decide_eq_true h
    match ds, this with
    | [x, y, z], _ => exact ⟨x, y, z, rfl⟩
  | _ => cases h
theorem DH.trip_inv {D : Addr} {H : Hp} {v : V} {x y z : PyData} (h : DH D H v (.tuple [x, y, z])) : ∃ a p q r, v = .ref a ∧ H a = some (.tup [p, q, r]) ∧ DH D H p x ∧ DH D H q y ∧ DH D H r z := by
  obtain ⟨a, xs, rfl, ha, t⟩ := DH.tup_inv h
  cases t with
  | cons h1 t => cases t with
    | cons h2 t => cases t with
      | cons h3 t =>
        cases t
        exact ⟨a, _, _, _, rfl, ha, h1, h2, h3⟩
theorem ok_wall {f : Addr} {fd : FuncData} {k : Nat} (F : Fun K "wall_has_form" "wall_has_form" sWall f fd)
    (FT : Fun K "is_tuple_of" "is_tuple_of" sTupOf fT fdT) (bT : Binds K fdT ["many", "thing"] []) (gT : mg "is_tuple_of" = some (.ref fT)) (GT : FnG P w K mg base (k + 5) fT fdT ["many", "thing"] prTupOf)
    (FC : Fun K "are_accounts" "are_accounts" sAccs fC fdC) (bC : Binds K fdC ["thing"] []) (gC : mg "are_accounts" = some (.ref fC)) (GC : FnG P w K mg base (k + 5) fC fdC ["thing"] (prKind accD))
    (FR : Fun K "is_row" "is_row" sIsRow fR fdR) (bR : Binds K fdR ["thing"] []) (gR : mg "is_row" = some (.ref fR)) (GR : FnG P w K mg base (k + 5) fR fdR ["thing"] (prKind isRowD))
    (FM : Fun K "is_number" "is_number" sIsNum fM fdM) (bM : Binds K fdM ["thing"] []) (gM : mg "is_number" = some (.ref fM)) (GM : FnG P w K mg base (k + 5) fM fdM ["thing"] (prKind isNumD)) : FnG P w K mg base (k + 6) f fd ["thing"] (prKind guardD) := by
  refine okG F scWall (fun vs H Q h => ?_) (fun cdv A outer s H vs Q hr h => ?_)
  · obtain ⟨_, _, _, rfl, _⟩ := h
    rfl
  · obtain ⟨v, d, D, rfl, hd, hs, q⟩ := h
    refine ⟨_, pss_cons (ps_if (pt_not (pt_val (pe_g GT hr (by rfl) gT FT.kp bT .nil (pa_cons pe_int (pa_cons (pv 0) pa_nil))))) (pss_one (ps_ret pe_bl)) pss_nil)
      (pss_cons (ps_asg (pv 0) (pg_tup (by rfl) (pgs_cons (pg_name (i := 1) scWall.nd rfl (.inl rfl)) (pgs_cons (pg_name (i := 2) scWall.nd rfl (.inl rfl)) (pgs_cons (pg_name (i := 3) scWall.nd rfl (.inl rfl)) pgs_nil)))))
      (pss_one (ps_ret (pe_and (pe_g GC hr (by rfl) gC FC.kp bC .nil (pa_cons (pv 1) pa_nil)) (pe_and (pe_g GR hr (by rfl) gR FR.kp bR .nil (pa_cons (pv 2) pa_nil)) (pe_and (pe_g GM hr (by rfl) gM FM.kp bM .nil (pa_cons (pv 3) pa_nil)) (pe_one (pe_cmpR op_ne (pv 3) pe_int (nomark _))))))))), ?_⟩
    refine iSeq (iIfS (iNot (iB ⟨v, rfl, v, d, D, rfl, hd, hs, _, rfl, ?_⟩)))
    cases e : lenB 3 d with
    | false =>
      have q' := q H (Same.refl _)
      unfold guardD at q'
      rw [e, Bool.false_and] at q'
      exact iteT q'
    | true =>
      obtain ⟨x, y, z, rfl⟩ := trip_of e
      obtain ⟨a, p1, p2, p3, rfl, ha, h1, h2, h3⟩ := DH.trip_inv hd
      obtain ⟨_, sm⟩ := small_tup hs
      have sx : smallD x = true := smallDs_at (i := 0) sm rfl
      have sy : smallD y = true := smallDs_at (i := 1) sm rfl
      have sz : smallD z = true := smallDs_at (i := 2) sm rfl
      have q1 : ∀ H', Same H H' → Q (.bl (accD x && (isRowD y && (isNumD z && ne1D z)))) H' := fun H' s => q H' s
      refine iteF (iNext ?_)
      dsimp only
      refine iSeq (iAsg ⟨.ref a, rfl, ?_⟩)
      refine ⟨a, _, rfl, sqT ha, rfl, p1, _, rfl, p2, _, rfl, p3, _, rfl, rfl, ?_⟩
      dsimp only
      refine iRet (iAndV ⟨p1, rfl, p1, x, D, rfl, h1, sx, fun H1 s1 => ⟨_, rfl, ?_⟩⟩)
      refine and_by (fun e1 => ?_) (fun e1 => ?_)
      · refine iAndV ⟨p2, rfl, p2, y, D, rfl, h2.keep (KeepD.of s1), sy, fun H2 s2 => ⟨_, rfl, ?_⟩⟩
        have s12 := s1.trans s2
        refine and_by (fun e2 => ?_) (fun e2 => ?_)
        · refine iAndV ⟨p3, rfl, p3, z, D, rfl, h3.keep (KeepD.of s12), sz, fun H3 s3 => ⟨_, rfl, ?_⟩⟩
          have s13 := s12.trans s3
          have q' := q1 H3 s13
          refine and_by (fun e3 => ?_) (fun e3 => ?_)
          · obtain ⟨i, rfl⟩ := num_of e3
            obtain rfl := h3.int_inv
            rw [e1, e2, e3, Bool.true_and, Bool.true_and, Bool.true_and] at q'
            refine ⟨.int i, rfl, rfl, ?_⟩
            have e4 : (!decide (V.int i = V.int 1)) = ne1D (.int i) := by
              show _ = decide (i ≠ 1)
              by_cases c : i = 1
              · subst c
                rfl
              · rw [decide_eq_false (fun z => c (V.int.inj z)), decide_eq_true c]
                rfl
            rw [e4]
            exact q'
          · rw [e1, e2, e3, Bool.true_and, Bool.true_and, Bool.false_and] at q'
            exact q'
        · have q' := q1 H2 s12
          rw [e1, e2, Bool.true_and, Bool.false_and] at q'
          exact q'
      · have q' := q1 H1 s1
        rw [e1, Bool.false_and] at q'
        exact q'
end
end P51
/-! AskSf: set(xs), xs a list or a tuple, told by what each put does. -/
namespace Ask
open PySem PySem.Spec PyProof.Rows L2
def newSet (w : World) : Obj := { cls := .type "set", dict := none, data := .set #[] 0 (.fresh 0 0 (!w.params.followText "set-order")) }
/-- what a set that is being filled has after i puts -/
structure Fills (P : Program) (w : World) (h0 : Heap) (S : Addr) (its : Array Value) (n : Nat) (G : Nat → Heap → Prop) : Prop where
  start : ∀ h, h.get? S = some (newSet w) → (∀ b o, h0.get? b = some o → h.get? b = some o) → G 0 h
  keep : ∀ i h h', G i h → (∀ o, h.get? S = some o → h'.get? S = some o) → (∀ b o, h0.get? b = some o → h'.get? b = some o) → G i h'
  put : ∀ (B : Around) (i : Nat) (v : Value) (u : Shared) (E : Value → Shared → Prop) (Q : Bool → Shared → Prop), B.units ≤ n → its[i]? = some v → G i u.heap → (∀ b o, h0.get? b = some o → u.heap.get? b = some o) →
    (∀ b h' tk, Heap.SameBut S u.heap h' → G (i + 1) h' → u.toks ≤ tk → Q b { u with heap := h', toks := tk }) → wpAny (model P w) B (setAdd S v) Q E u
section
variable {P : Program} {w : World} {A : Around} {E : Value → Shared → Prop}
/-- the loop behind set(xs) -/
theorem fill_loop {I : Addr} {fp wr : List Addr} {Gn : Array GenState → Array GenState → Prop} {its : Array Value} {St : Nat → Shared → Prop} {R : Result → Shared → Prop} {G : Nat → Heap → Prop} {n : Nat}
    (W : WalksS P w A.in1 I fp wr Gn its.size (fun i v => its[i]? = some v) St) {S : Addr} (ns : S ∉ fp) {h0 : Heap} (fl : Fills P w h0 S its n G) (hn : A.in1.units ≤ n) (free : ∀ b ∈ wr, h0.get? b = none) (none0 : h0.get? S = none) :
    ∀ (m i : Nat) (u : Shared), its.size - i = m → i ≤ its.size → St i u → (∀ b o, h0.get? b = some o → u.heap.get? b = some o) → G i u.heap →
      (∀ u', Moved (S :: wr) Gn u u' → G its.size u'.heap → (∀ b o, h0.get? b = some o → u'.heap.get? b = some o) → R (.ok (.ret .none)) u') →
      codeAny (model P w) A (.builtin "set.update.loop" ⟨[.ref S, .ref I], []⟩) R u := by
  have nw : S ∉ wr := fun z => ns (W.sub _ z)
  have more : ∀ b ∈ wr, b ∈ S :: wr := fun b z => .tail _ z
  have past : ∀ {u u' : Shared}, Moved wr Gn u u' → (∀ b o, h0.get? b = some o → u.heap.get? b = some o) → ∀ b o, h0.get? b = some o → u'.heap.get? b = some o := fun mv kp b o e =>
    mv.heap b o (fun z => by rw [free b z] at e; cases e) (kp b o e)
  intro m
  induction m with
  | zero =>
    intro i u hm hi st kp g hR
    obtain rfl : i = its.size := by omega
    refine codeAny_builtin F.entry_set_update_loop ?_
    rw [Around.under_plainId F.plain_set_update_loop _]
    show wpAny _ A.in1 (pyNext (.ref I) >>= _) _ _ u
    refine wpAny_bind (W.done u _ _ st fun u' mv => ?_)
    show wpAny _ A.in1 (ret Value.none) _ _ u'
    exact wpAny_pure (hR u' (mv.mono more) (fl.keep _ _ _ g (fun o e => mv.heap S o nw e) (past mv kp)) (past mv kp))
  | succ m ih =>
    intro i u hm hi st kp g hR
    have lt : i < its.size := by omega
    refine codeAny_builtin F.entry_set_update_loop ?_
    rw [Around.under_plainId F.plain_set_update_loop _]
    show wpAny _ A.in1 (pyNext (.ref I) >>= _) _ _ u
    refine wpAny_bind (W.item i u _ _ lt st fun v u' hv st' mv => ?_)
    have g' := fl.keep _ _ _ g (fun o e => mv.heap S o nw e) (past mv kp)
    show wpAny _ A.in1 (holding [v] (setAdd S v) >>= _) _ _ u'
    refine wpAny_bind (wpAny_holding ?_)
    refine fl.put A.in1 i v u' _ _ hn hv g' (past mv kp) fun b h' tk sb g2 tl => ?_
    have kp2 : ∀ b o, h0.get? b = some o → h'.get? b = some o := fun b o e => (sb.2 b (fun z => by rw [z, none0] at e; cases e)).trans (past mv kp b o e)
    refine wpAny_pure ⟨plainId_quiet F.plain_set_update_loop _, ih (i + 1) { u' with heap := h', toks := tk } (by omega) lt (W.frame _ u' _ _ st' tl fun b hb o e => ?_) kp2 g2 fun u2 mv2 g3 kp3 => ?_⟩
    · rw [sb.2 b (fun z : b = S => ns (z ▸ hb))]
      exact e
    · refine hR u2 (Moved.trans W.gtrans ((mv.mono more).then_heap tl fun b o hb e => ?_) mv2) g3 kp3
      rw [sb.2 b (fun z : b = S => hb (z ▸ .head _))]
      exact e
set_option maxHeartbeats 3200000 in
/-- set(xs), xs a list -/
theorem set_of_list {s : Shared} {l : Addr} {its : Array Value} {G : Nat → Heap → Prop} {Q : Value → Shared → Prop} (calm : A.handled = none) (hq : s.heap.IsList l its) (fl : Fills P w s.heap s.heap.objs.size its (A.units + 3) G)
    (h : ∀ (h' : Heap) (tk : Nat), G its.size h' → (∀ b o, s.heap.get? b = some o → h'.get? b = some o) → Q (.ref s.heap.objs.size) { s with heap := h', toks := tk }) :
    wpAny (model P w) A (call (.type "set") [.ref l]) Q E s := by
  obtain ⟨c0, tl0, mro0⟩ := F.called_set.mro
  have made0 := F.called_set.made
  have sub0 := F.called_set.sub
  refine wpAny_call (codeAny_of_tree ?_)
  show wpAny _ _ (callAny (.type "set") _) _ _ _
  refine wpAny_pure ⟨Code.quiet_builtin _ (by decide +kernel), codeAny_builtin F.entry_type_call ?_⟩
  rw [Around.under_plain (weight_type_call_type "set" [.ref l] []) rfl]
  have y1 := F.called_set.notType
  have y2 := F.called_set.canCreate
  have y3 := F.typeCall_set_1 (.ref l)
  repeat (any_goals (first | assumption | wp_step))
  refine codeAny_mono (code_set_led1 (.ref l) (E := E) (Q₁ := fun x u => x = .ref s.heap.objs.size ∧ u = { s with heap := s.heap.push (newSet w) }) ⟨rfl, rfl⟩) fun r u hr => ?_
  cases r with
  | error e => exact hr
  | ok fl1 =>
    cases fl1 with
    | ret x =>
      obtain ⟨rfl, rfl⟩ := hr
      have at0 : (s.heap.push (newSet w)).get? s.heap.objs.size = some (newSet w) := Heap.get?_push_size _ rfl
      have ty0 : Shared.TypeIs { s with heap := s.heap.push (newSet w) } (.ref s.heap.objs.size) "set" := ⟨_, at0, rfl⟩
      have in1 := F.called_set.init.lookup
      have in2 := F.called_set.init.bind (.ref s.heap.objs.size)
      repeat (any_goals (first | assumption | wp_step))
      refine codeAny_mono (codeAny_call_builtin (R := wants (fun r u => r = .none ∧ ∃ h' tk, u = { s with heap := h', toks := tk } ∧ G its.size h' ∧ (∀ b o, s.heap.get? b = some o → h'.get? b = some o)) E)
        F.called_set.init.plain F.entry_set_init (check_set_init_1 ty0 ?_)) fun r2 u2 hr2 => ?_
      · obtain ⟨ol, hol, hcl, nl, hdl⟩ := hq
        obtain ⟨oc, od, odt, osl⟩ := ol
        simp only at hcl hdl
        subst hcl; subst hdl
        have hol1 : (s.heap.push (newSet w)).get? l = some { cls := .type "list", dict := od, data := .seq its nl, slots := osl } := Heap.get?_push_of_some _ hol
        have z1 := F.sub_list_set
        have z2 := F.sub_list_frozenset
        have z3 : (Value.type "list" == Value.type "dict") = false := by decide
        have hq1 : (s.heap.push (newSet w)).IsList l its := ⟨_, hol1, rfl, nl, rfl⟩
        unfold Builtin.«set.__init__» noKeywords Builtin.Frozenset.updateFrom
        generalize ePI : pyIter = PI
        wp_walk
        subst ePI
        refine wpAny_pyIter_list hq1 ?_
        refine wpAny_bind (wpAny_runValue ?_)
        have lS : l < s.heap.objs.size := Heap.lt_size hol
        have calm3 : A.in1.in1.in1.handled = none := by simp [calm]
        have sz1 : (s.heap.push (newSet w)).objs.size = s.heap.objs.size + 1 := Heap.size_push ..
        have neI : l ≠ (s.heap.push (newSet w)).objs.size := by
          rw [sz1]
          exact Nat.ne_of_lt (Nat.lt_succ_of_lt lS)
        have nS : s.heap.objs.size ∉ [(s.heap.push (newSet w)).objs.size, l] := by
          rw [sz1]
          simp only [List.mem_cons, List.mem_singleton, List.not_mem_nil, or_false, not_or]
          exact ⟨Nat.ne_of_lt (Nat.lt_succ_self _), Nat.ne_of_gt lS⟩
        have gone : ∀ b, s.heap.objs.size ≤ b → s.heap.get? b = none := fun b hb => by
          cases q : s.heap.get? b with
          | none => rfl
          | some o => exact absurd (Nat.lt_of_lt_of_le (Heap.lt_size q) hb) (Nat.lt_irrefl _)
        refine fill_loop ((Walks.list calm3 _ l neI its).toS) nS fl (by simp only [Around.in1_units]; omega) (fun b hb => gone b (by
          rw [List.mem_singleton.mp hb, sz1]
          exact Nat.le_succ _)) (gone _ (Nat.le_refl _)) (its.size - 0) 0 _ rfl (Nat.zero_le _) ⟨⟨_, Heap.get?_push_size _ rfl, rfl, rfl⟩, (hq1.push _)⟩ (fun b o e => Heap.get?_push_of_some _ (Heap.get?_push_of_some _ e)) ?g0 ?gR
        case g0 => exact fl.start _ (Heap.get?_push_of_some _ at0) fun b o e => Heap.get?_push_of_some _ (Heap.get?_push_of_some _ e)
        case gR =>
          intro u3 mv g3 kp3
          obtain ⟨hh, gg, dd, tt, oo⟩ := u3
          obtain rfl : gg = s.gens := mv.gens
          obtain rfl : dd = s.drawn := mv.drawn
          obtain rfl : oo = s.os := mv.os
          show wpAny _ _ _ _ _ _
          refine wpAny_pure ?_
          show wpAny _ _ (ret Value.none) _ _ _
          exact wpAny_pure ⟨rfl, hh, tt, rfl, g3, kp3⟩
      · cases r2 with
        | error e => exact hr2
        | ok fl2 =>
          cases fl2 with
          | ret r =>
            obtain ⟨rfl, hh, tt, rfl, g3, kp3⟩ := hr2
            repeat (any_goals (first | assumption | wp_step))
            exact h _ _ g3 kp3
          | _ => exact hr2.elim
    | _ => exact hr.elim
set_option maxHeartbeats 3200000 in
/-- set(xs), xs a tuple -/
theorem set_of_tuple {s : Shared} {l : Addr} {its : Array Value} {G : Nat → Heap → Prop} {Q : Value → Shared → Prop} (calm : A.handled = none) (hq : s.heap.IsTuple l its) (fl : Fills P w s.heap s.heap.objs.size its (A.units + 3) G)
    (h : ∀ (h' : Heap) (tk : Nat), G its.size h' → (∀ b o, s.heap.get? b = some o → h'.get? b = some o) → Q (.ref s.heap.objs.size) { s with heap := h', toks := tk }) :
    wpAny (model P w) A (call (.type "set") [.ref l]) Q E s := by
  obtain ⟨c0, tl0, mro0⟩ := F.called_set.mro
  have made0 := F.called_set.made
  have sub0 := F.called_set.sub
  refine wpAny_call (codeAny_of_tree ?_)
  show wpAny _ _ (callAny (.type "set") _) _ _ _
  refine wpAny_pure ⟨Code.quiet_builtin _ (by decide +kernel), codeAny_builtin F.entry_type_call ?_⟩
  rw [Around.under_plain (weight_type_call_type "set" [.ref l] []) rfl]
  have y1 := F.called_set.notType
  have y2 := F.called_set.canCreate
  have y3 := F.typeCall_set_1 (.ref l)
  repeat (any_goals (first | assumption | wp_step))
  refine codeAny_mono (code_set_led1 (.ref l) (E := E) (Q₁ := fun x u => x = .ref s.heap.objs.size ∧ u = { s with heap := s.heap.push (newSet w) }) ⟨rfl, rfl⟩) fun r u hr => ?_
  cases r with
  | error e => exact hr
  | ok fl1 =>
    cases fl1 with
    | ret x =>
      obtain ⟨rfl, rfl⟩ := hr
      have at0 : (s.heap.push (newSet w)).get? s.heap.objs.size = some (newSet w) := Heap.get?_push_size _ rfl
      have ty0 : Shared.TypeIs { s with heap := s.heap.push (newSet w) } (.ref s.heap.objs.size) "set" := ⟨_, at0, rfl⟩
      have in1 := F.called_set.init.lookup
      have in2 := F.called_set.init.bind (.ref s.heap.objs.size)
      repeat (any_goals (first | assumption | wp_step))
      refine codeAny_mono (codeAny_call_builtin (R := wants (fun r u => r = .none ∧ ∃ h' tk, u = { s with heap := h', toks := tk } ∧ G its.size h' ∧ (∀ b o, s.heap.get? b = some o → h'.get? b = some o)) E)
        F.called_set.init.plain F.entry_set_init (check_set_init_1 ty0 ?_)) fun r2 u2 hr2 => ?_
      · obtain ⟨ol, hol, hcl, nl, hdl⟩ := hq
        obtain ⟨oc, od, odt, osl⟩ := ol
        simp only at hcl hdl
        subst hcl; subst hdl
        have hol1 : (s.heap.push (newSet w)).get? l = some { cls := .type "tuple", dict := od, data := .seq its nl, slots := osl } := Heap.get?_push_of_some _ hol
        have z1 := F.sub_tuple_set
        have z2 := F.sub_tuple_frozenset
        have z3 : (Value.type "tuple" == Value.type "dict") = false := by decide
        have hq1 : (s.heap.push (newSet w)).IsTuple l its := ⟨_, hol1, rfl, nl, rfl⟩
        unfold Builtin.«set.__init__» noKeywords Builtin.Frozenset.updateFrom
        generalize ePI : pyIter = PI
        wp_walk
        subst ePI
        refine wpAny_pyIter_tuple hq1 ?_
        refine wpAny_bind (wpAny_runValue ?_)
        have lS : l < s.heap.objs.size := Heap.lt_size hol
        have calm3 : A.in1.in1.in1.handled = none := by simp [calm]
        have sz1 : (s.heap.push (newSet w)).objs.size = s.heap.objs.size + 1 := Heap.size_push ..
        have neI : l ≠ (s.heap.push (newSet w)).objs.size := by
          rw [sz1]
          exact Nat.ne_of_lt (Nat.lt_succ_of_lt lS)
        have nS : s.heap.objs.size ∉ [(s.heap.push (newSet w)).objs.size, l] := by
          rw [sz1]
          simp only [List.mem_cons, List.mem_singleton, List.not_mem_nil, or_false, not_or]
          exact ⟨Nat.ne_of_lt (Nat.lt_succ_self _), Nat.ne_of_gt lS⟩
        have gone : ∀ b, s.heap.objs.size ≤ b → s.heap.get? b = none := fun b hb => by
          cases q : s.heap.get? b with
          | none => rfl
          | some o => exact absurd (Nat.lt_of_lt_of_le (Heap.lt_size q) hb) (Nat.lt_irrefl _)
        refine fill_loop ((Walks.tuple calm3 _ l neI its).toS) nS fl (by simp only [Around.in1_units]; omega) (fun b hb => gone b (by
          rw [List.mem_singleton.mp hb, sz1]
          exact Nat.le_succ _)) (gone _ (Nat.le_refl _)) (its.size - 0) 0 _ rfl (Nat.zero_le _) ⟨⟨_, Heap.get?_push_size _ rfl, rfl, rfl⟩, (hq1.push _)⟩ (fun b o e => Heap.get?_push_of_some _ (Heap.get?_push_of_some _ e)) ?g0 ?gR
        case g0 => exact fl.start _ (Heap.get?_push_of_some _ at0) fun b o e => Heap.get?_push_of_some _ (Heap.get?_push_of_some _ e)
        case gR =>
          intro u3 mv g3 kp3
          obtain ⟨hh, gg, dd, tt, oo⟩ := u3
          obtain rfl : gg = s.gens := mv.gens
          obtain rfl : dd = s.drawn := mv.drawn
          obtain rfl : oo = s.os := mv.os
          show wpAny _ _ _ _ _ _
          refine wpAny_pure ?_
          show wpAny _ _ (ret Value.none) _ _ _
          exact wpAny_pure ⟨rfl, hh, tt, rfl, g3, kp3⟩
      · cases r2 with
        | error e => exact hr2
        | ok fl2 =>
          cases fl2 with
          | ret r =>
            obtain ⟨rfl, hh, tt, rfl, g3, kp3⟩ := hr2
            repeat (any_goals (first | assumption | wp_step))
            exact h _ _ g3 kp3
          | _ => exact hr2.elim
    | _ => exact hr.elim
end
end Ask
/-! AskSs: sets of texts, fewer than 64: made of a tuple, sorted. -/
namespace Ask
open PySem PySem.Spec PyProof.Rows L2 PySem.Froz
abbrev ST := Str × Tok
def sE (w : World) (p : ST) : Int × Value := (hashStr w p.1, Value.str p.1 p.2)
/-- the payload D holds the texts of L -/
structure DatS (P : Program) (w : World) (D : SD) (L : List ST) : Prop where
  ok : TxOk P w D (L.map Prod.fst)
  ent : D.1.toList = L.map (sE w)
  tab : TabOk D.2.2 (L.map fun p => hashStr w p.1)
  lead : w.params.followText "set-order" = true ∨ D.2.2.led = true
  air : L.length * 5 < D.2.2.mask * 3
  few : L.length < 64
  one : (L.map Prod.fst).Nodup
theorem tx_perm {P : Program} {w : World} {D : SD} {l m : List Str} (h : TxOk P w D l) (p : m.Perm l) : TxOk P w D m :=
  ⟨h.el, fun k => p.mem_iff.trans (h.mem k), h.sz.trans p.length_eq.symm, h.fit⟩
section
variable {P : Program} {w : World} {A : Around} {E : Value → Shared → Prop} {s : Shared}
/-- where a new text goes -/
theorem lay_is {es : Array (Int × Value)} {t : SetTable} {hs : List Int} (T : TabOk t hs) (n : es.size = hs.length) (air : hs.length * 5 < t.mask * 3) (h : Int) (v : Value) :
    ∃ K, way t.mask h K ∉ t.place.toList ∧ (∀ c, c < K → way t.mask h c ∈ t.place.toList) ∧ layNew t es h v = (SetTable.insertAt es (SetTable.below t.place (way t.mask h K)) (h, v), (t.put (way t.mask h K)).1, false, false) := by
  obtain ⟨K, small, free, taken⟩ := T.first (by omega) h
  refine ⟨K, free, taken, ?_⟩
  have told := go_spec t T.ris T.dm (fun _ => h + 1) h (10 * SetTable.turns t.mask) K (legAt t.mask h 0) (stand_clean _ _ 0) small (fun q hq => by rw [stand_on, Nat.zero_add]; exact taken q hq) (by rw [stand_on, Nat.zero_add]; exact free)
  have got : t.probe (fun _ => h + 1) h (t.probeStart h) = some (.empty (way t.mask h K) none) := by
    cases told with
    | inl z =>
      obtain ⟨_, _, _, _, e, _⟩ := z
      omega
    | inr z =>
      have g := z.2
      rw [stand_on, Nat.zero_add] at g
      exact g
  have fs : t.freeSlot h = some (way t.mask h K, false) := by
    unfold SetTable.freeSlot
    rw [got]
    rfl
  obtain ⟨q1, q2, q3, q4, q5, q6, q7, q8, q9⟩ := T.put free taken
  generalize hpt : t.put (way t.mask h K) = pt at q1 q3 q4 q5 q6 q7 q8 q9 ⊢
  obtain ⟨u, p⟩ := pt
  dsimp only at q1 q3 q4 q5 q6 q7 q8 q9 ⊢
  have sz : (SetTable.insertAt es p (h, v)).size = hs.length + 1 := by
    rw [← Array.length_toList, SetTable.toList_insertAt, List.length_append, List.length_cons, List.length_take, List.length_drop, Array.length_toList]
    omega
  have fit : u.fits (SetTable.insertAt es p (h, v)).size = true := by
    refine fits_of ?_ q3.dm ?_
    · rw [q3.sz, sz, List.length_append, List.length_cons, List.length_take, List.length_drop]
      omega
    · rw [sz, q4]
      omega
  unfold layNew
  rw [fs]
  dsimp only
  rw [hpt]
  dsimp only
  unfold SetTable.orStandIn
  rw [if_pos fit, fit, q1]
  rfl
theorem reorderS {L : List ST} {es : Array (Int × Value)} {order : Array Nat} (hr : es.toList = L.map (sE w)) (hp : order.toList.Perm (List.range L.length)) :
    ∃ M : List ST, (order.filterMap (es[·]?)).toList = M.map (sE w) ∧ M.Perm L ∧ (M.map fun p => hashStr w p.1) = order.toList.map fun i => (es.map (·.1)).getD i 0 := by
  have one : ∀ i, i < L.length → ∃ p, L[i]? = some p ∧ es[i]? = some (sE w p) := fun i h => by
    refine ⟨L[i], List.getElem?_eq_getElem h, ?_⟩
    rw [← Array.getElem?_toList, hr, List.getElem?_map, List.getElem?_eq_getElem h]
    rfl
  have all : ∀ l : List Nat, (∀ i ∈ l, i < L.length) → l.filterMap (fun i => es[i]?) = (l.filterMap fun i => L[i]?).map (sE w) ∧
      (l.filterMap fun i => L[i]?).map (fun p => hashStr w p.1) = l.map fun i => (es.map (·.1)).getD i 0 := by
    intro l
    induction l with
    | nil => exact fun _ => ⟨rfl, rfl⟩
    | cons i l ih =>
      intro hl
      obtain ⟨p, e1, e2⟩ := one i (hl i (List.mem_cons.mpr (.inl rfl)))
      obtain ⟨i1, i2⟩ := ih fun j hj => hl j (List.mem_cons.mpr (.inr hj))
      have e3 : (es.map (·.1)).getD i 0 = hashStr w p.1 := by
        have e4 : (es.map (·.1))[i]? = some (hashStr w p.1) := by
          rw [Array.getElem?_map, e2]
          rfl
        simp [Array.getD_eq_getD_getElem?, e4]
      refine ⟨?_, ?_⟩
      · rw [List.filterMap_cons_some e2, List.filterMap_cons_some e1, i1]
        rfl
      · rw [List.filterMap_cons_some e1, List.map_cons, List.map_cons, i2, e3]
  obtain ⟨z1, z2⟩ := all order.toList fun i hi => List.mem_range.mp (hp.mem_iff.mp hi)
  refine ⟨_, by first | (rw [Array.toList_filterMap]; exact z1) | simpa using z1, ?_, z2⟩
  have z3 := hp.filterMap fun i => L[i]?
  rw [picked L L.length (Nat.le_refl _), List.take_length] at z3
  exact z3
/-- a new text put in, told of the payload -/
theorem datS_put {D : SD} {L : List ST} (S : DatS P w D L) {k : Str} (u : Tok) (nw : k ∉ L.map Prod.fst) (few : L.length + 1 < 64) :
    ∃ L', DatS P w (addTx (hashStr w k) (.str k u) D) L' ∧ L'.Perm ((k, u) :: L) := by
  have ok := add_ok (k := k) u S.ok
  obtain ⟨es, ep, t⟩ := D
  have tab : TabOk t (L.map fun p => hashStr w p.1) := S.tab
  have ent : es.toList = L.map (sE w) := S.ent
  have air : L.length * 5 < t.mask * 3 := S.air
  have lead : w.params.followText "set-order" = true ∨ t.led = true := S.lead
  have n0 : es.size = L.length := by rw [← Array.length_toList, ent, List.length_map]
  obtain ⟨K, free, taken, lay⟩ := lay_is (es := es) tab (by rw [n0, List.length_map]) (by rw [List.length_map]; exact air) (hashStr w k) (.str k u)
  obtain ⟨q1, q2, q3, q4, q5, q6, q7, q8, q9⟩ := tab.put free taken
  generalize hp : SetTable.below t.place (way t.mask (hashStr w k) K) = p at q2 q3 lay
  generalize (t.put (way t.mask (hashStr w k) K)).1 = t1 at q3 q4 q5 q9 lay
  clear q1 q6 q7 q8
  have pm := put_perm L p (k, u)
  have ent1 : (SetTable.insertAt es p (hashStr w k, Value.str k u)).toList = (L.take p ++ (k, u) :: L.drop p).map (sE w) := by
    rw [SetTable.toList_insertAt, ent, List.map_append, List.map_cons, List.map_take, List.map_drop]
    rfl
  have tab1 : TabOk t1 ((L.take p ++ (k, u) :: L.drop p).map fun p => hashStr w p.1) := by
    have e : ((L.take p ++ (k, u) :: L.drop p).map fun p => hashStr w p.1) = (L.map fun p => hashStr w p.1).take p ++ hashStr w k :: (L.map fun p => hashStr w p.1).drop p := by
      rw [List.map_append, List.map_cons, List.map_take, List.map_drop]
    rw [e]
    exact q3
  have fill1 : t1.fill = L.length + 1 := by rw [q9, List.length_map]
  generalize hL1 : L.take p ++ (k, u) :: L.drop p = L1 at pm ent1 tab1
  generalize he1 : SetTable.insertAt es p (hashStr w k, Value.str k u) = e1 at ent1 lay
  have n1 : L1.length = L.length + 1 := pm.length_eq
  have n2 : e1.size = L.length + 1 := by rw [← Array.length_toList, ent1, List.length_map, n1]
  have addIs : addTx (hashStr w k) (.str k u) (es, ep, t) = tailTx ep e1 (if t1.plain = true then { t1 with plain := false } else t1) false := by
    unfold addTx
    dsimp only
    rw [lay]
  rw [addIs] at ok ⊢
  obtain ⟨t2, et2⟩ : ∃ t2, (if t1.plain = true then { t1 with plain := false } else t1) = t2 := ⟨_, rfl⟩
  have t2p : TabOk t2 (L1.map fun p => hashStr w p.1) ∧ t2.mask = t.mask ∧ t2.led = t.led ∧ t2.fill = L.length + 1 := by
    rw [← et2]
    by_cases c : t1.plain = true
    · rw [if_pos c]
      exact ⟨tab_flag tab1 false, q4, q5, fill1⟩
    · rw [if_neg c]
      exact ⟨tab1, q4, q5, fill1⟩
  rw [et2] at ok ⊢
  obtain ⟨tb2, m2, l2, f2⟩ := t2p
  have oneL : ∀ {M : List ST}, M.Perm L1 → (M.map Prod.fst).Nodup := fun {M} h => ((h.trans pm).map Prod.fst).nodup_iff.mpr (List.nodup_cons.mpr ⟨nw, S.one⟩)
  have okL : ∀ {M : List ST}, M.Perm L1 → (M.map Prod.fst).Perm (k :: L.map Prod.fst) := fun {M} h => (h.trans pm).map Prod.fst
  have full : t2.tooFull = decide ((L.length + 1) * 5 ≥ t2.mask * 3) := by
    unfold SetTable.tooFull
    rw [f2]
  by_cases c : (L.length + 1) * 5 ≥ t2.mask * 3
  · have size : (t.mask = 7 ∧ L.length = 4) ∨ (t.mask = 31 ∧ L.length = 18) := by
      rw [m2] at c
      rcases tab.mok with e | e | e
      · exact .inl ⟨e, by rw [e] at c air; omega⟩
      · exact .inr ⟨e, by rw [e] at c air; omega⟩
      · rw [e] at c; omega
    have tail : tailTx ep e1 t2 false = ((relayAll t2 e1 (SetTable.grown e1.size)).1, ep + 2, (relayAll t2 e1 (SetTable.grown e1.size)).2.1) := by
      unfold tailTx
      rw [full, decide_eq_true c]
      rfl
    have go : ∀ M, SetTable.sizeAbove (SetTable.grown (L.length + 1)) = M + 1 → MaskOk M → (L.length + 1) * 5 < M * 3 → ∃ L', DatS P w (tailTx ep e1 t2 false) L' ∧ L'.Perm ((k, u) :: L) := fun M g1 g2 g4 => by
      obtain ⟨u3, order, e, hpm, tab3, em, el, _, dm⟩ := relaid_ok t2 (hs := e1.map (·.1)) (wanted := SetTable.grown e1.size) (M := M) (by rw [n2]; omega) g2 (by rw [Array.size_map, n2]; omega)
      rw [Array.size_map, n2, ← n1] at hpm
      obtain ⟨M', m1, mp, m3⟩ := reorderS ent1 hpm
      rw [← m3] at tab3
      have n3 : (order.filterMap (e1[·]?)).size = L.length + 1 := by rw [← Array.length_toList, m1, List.length_map, mp.length_eq, n1]
      have cov : coversAll order e1.size = true := by
        unfold coversAll
        rw [n2, ← n1]
        exact List.isPerm_iff.mpr hpm
      have fit : u3.fits (order.filterMap (e1[·]?)).size = true := by
        refine fits_of ?_ tab3.dm ?_
        · rw [tab3.sz, List.length_map, n3, mp.length_eq, n1]
        · rw [n3, em]
          omega
      have rel : relayAll t2 e1 (SetTable.grown e1.size) = (order.filterMap (e1[·]?), u3, false) := by
        unfold relayAll
        rw [e]
        dsimp only
        rw [cov, fit]
        rfl
      rw [tail, rel] at ok ⊢
      refine ⟨M', ⟨tx_perm ok (okL mp), m1, tab3, ?_, ?_, ?_, oneL mp⟩, mp.trans pm⟩
      · show _ ∨ u3.led = true
        rw [el, l2]
        exact lead
      · show M'.length * 5 < u3.mask * 3
        rw [mp.length_eq, n1, em]
        exact g4
      · rw [mp.length_eq, n1]
        exact few
    rcases size with ⟨_, e⟩ | ⟨_, e⟩
    · exact go 31 (by rw [e]; exact size_20) (.inr (.inl rfl)) (by omega)
    · exact go 127 (by rw [e]; exact size_76) (.inr (.inr rfl)) (by omega)
  · have tail : tailTx ep e1 t2 false = (e1, ep + 1, t2) := by
      unfold tailTx
      rw [full, decide_eq_false c]
      rfl
    rw [tail] at ok ⊢
    refine ⟨L1, ⟨tx_perm ok (okL (List.Perm.refl _)), ent1, tb2, ?_, ?_, by omega, oneL (List.Perm.refl _)⟩, pm⟩
    · show _ ∨ t2.led = true
      rw [l2]
      exact lead
    · show L1.length * 5 < t2.mask * 3
      omega
/-- a text that is there already -/
theorem same_x {a : Addr} {D : SD} {l : List Str} {k : Str} {u : Tok} {Q : Bool → Shared → Prop} (ho : s.heap.get? a = some (sObj "set" D)) (F : TxOk P w D l) (hk : k ∈ l) (hb : l.length < scanBound)
    (h : Q false s) : wpAny (model P w) A (setAddHashed a (.str k u) (hashStr w k)) Q E s := by
  obtain ⟨es, ep, t⟩ := D
  have hd : (sObj "set" (es, ep, t)).data = .set es ep t := rfl
  have hf : t.fits es.size = true := F.fit
  have hel : ElemsOf (strKind P w) es.toList := F.el
  have hsz : es.size = l.length := F.sz
  have key : (strKind P w).is k (.str k u) = true := is_str k u
  unfold setAddHashed setAddHashedIn
  refine wpAny_holding (wpAny_bind (wpAny_setState_of ho hd hf ?_))
  dsimp only
  rw [byScan_of rfl (by omega) hel]
  simp only [↓reduceIte]
  unfold setAddByScan
  refine wpAny_bind ?_
  refine wpAny_bind (wpAny_rule ?_)
  refine wpAny_bind (wpAny_setScan_of (knd := strKind P w) (k := k) key ho hd hf hel ?_)
  cases hr : List.findIdx? (fun e => (strKind P w).is k e.2) es.toList with
  | none =>
    obtain ⟨e, he, z⟩ := (F.mem k).mp hk
    have := List.findIdx?_eq_none_iff.mp hr e he
    rw [z] at this
    cases this
  | some j =>
    dsimp only
    exact wpAny_pure (wpAny_pure h)
end
end Ask
/-! AskSt: set(xs) of texts and of nested keys, sorted(set of texts), as rules of the hand layer. -/
namespace Ask
open PySem PySem.Spec PyProof.Rows L2 PySem.Froz AskG
def SetS0 (P : Program) (w : World) (h : Heap) (a : Addr) (ns : List Str) : Prop := ∃ D L, h.get? a = some (sObj "set" D) ∧ DatS P w D L ∧ (L.map Prod.fst).Perm ns
def SetSO (P : Program) (w : World) (a : Addr) (ns : List Str) : HO := .ext fun h => SetS0 P w h a ns
theorem setSO_ok {P : Program} {w : World} {H : Hp} {h : Heap} {a : Addr} {ns : List Str} (S : SetS0 P w h a ns) : ObjOk P w H h a (SetSO P w a ns) := by
  obtain ⟨D, L, ho, r⟩ := id S
  refine ⟨S, ⟨_, ho⟩, fun h1 h2 p k => ?_⟩
  obtain ⟨D', L', ho', r'⟩ := (show SetS0 P w h1 a ns from p)
  exact ⟨D', L', k _ ho', r'⟩
theorem datS_nil {P : Program} {w : World} : DatS P w (#[], 0, .fresh 0 0 (!w.params.followText "set-order")) [] where
  ok := TxOk.nil (by
    refine fits_of rfl rfl ?_
    exact Nat.zero_le _)
  ent := rfl
  tab := ⟨List.Pairwise.nil, rfl, rfl, .inl rfl, fun x hx => absurd hx (by simp [SetTable.fresh]), fun i h j e => absurd e (by simp)⟩
  lead := by
    show _ ∨ (!w.params.followText "set-order") = true
    cases w.params.followText "set-order" <;> simp
  air := show 0 * 5 < 7 * 3 by decide
  few := show 0 < 64 by decide
  one := List.nodup_nil
section
variable {P : Program} {w : World} {A : Around} {E : Value → Shared → Prop} {s : Shared}
/-- set(xs), xs texts -/
theorem fills_txt {h0 : Heap} {S : Addr} {its : Array Value} {zs : List Str} {n : Nat} (hz : ∀ (i : Nat) (v : Value), its[i]? = some v → ∃ z t, zs[i]? = some z ∧ v = Value.str z t) (few : zs.length < 64) :
    Fills P w h0 S its n fun i h => ∃ D L, h.get? S = some (sObj "set" D) ∧ DatS P w D L ∧ (∀ z, z ∈ L.map Prod.fst ↔ z ∈ zs.take i) ∧ L.length ≤ i where
  start := fun h e _ => ⟨(#[], 0, .fresh 0 0 (!w.params.followText "set-order")), [], e, datS_nil, fun z => by rw [List.take_zero]; exact Iff.rfl, Nat.le_refl _⟩
  keep := fun i h h' g k _ => by
    obtain ⟨D, L, ho, r⟩ := g
    exact ⟨D, L, k _ ho, r⟩
  put := fun B i v u E Q hB hv g kp hQ => by
    obtain ⟨D, L, ho, S', mem, len⟩ := g
    obtain ⟨z, tk, hzi, rfl⟩ := hz i v hv
    have il : i < zs.length := (List.getElem?_eq_some_iff.mp hzi).1
    have step : ∀ x, x ∈ zs.take (i + 1) ↔ x ∈ zs.take i ∨ x = z := fun x => by
      rw [List.take_add_one, hzi, List.mem_append]
      exact or_congr Iff.rfl List.mem_singleton
    unfold setAdd
    refine wpAny_holding (wpAny_bind ((strKind P w).pyHash (k := z) (is_str z tk) ?_))
    by_cases c : z ∈ L.map Prod.fst
    · refine same_x (s := { u with toks := u.toks + 1 }) ho S'.ok c (by rw [List.length_map]; unfold scanBound; omega) ?_
      refine hQ false u.heap (u.toks + 1) (Heap.SameBut.refl S u.heap) ⟨D, L, ho, S', fun x => ?_, by omega⟩ (Nat.le_succ _)
      rw [mem, step]
      exact ⟨.inl, fun y => y.elim id fun y => y ▸ (mem z).mp c⟩
    · obtain ⟨L', S2, pm⟩ := datS_put S' tk c (by omega)
      refine add_x (s := { u with toks := u.toks + 1 }) ho S'.ok c (by rw [List.length_map]; unfold scanBound; omega) ?_
      refine hQ true _ (u.toks + 1) (Heap.SameBut.update ..) ⟨_, L', get_upd _ ho rfl, S2, fun x => ?_, by rw [pm.length_eq, List.length_cons]; omega⟩ (Nat.le_succ _)
      rw [(pm.map Prod.fst).mem_iff, List.map_cons, List.mem_cons, mem, step]
      exact or_comm
/-- set(xs), xs nested keys -/
theorem fills_key {h0 : Heap} {S : Addr} {its : Array Value} {ks : List (Addr × NestedKey)} {n : Nat} (hz : ∀ (i : Nat) (v : Value), its[i]? = some v → ∃ p : Addr × NestedKey, ks[i]? = some p ∧ v = Value.ref p.1) (few : ks.length < 64) (hk : ∀ p ∈ ks, IsK P w h0 p.2 p.1) (room : n + 8 < cLine) :
    Fills P w h0 S its n fun i h => ∃ L es ep t, SetK P w h S L es ep t ∧ (∀ k, k ∈ L.map Prod.snd ↔ k ∈ (ks.take i).map Prod.snd) ∧ (∀ p ∈ L, p ∈ ks) ∧ L.length ≤ i where
  start := fun h e _ => by
    obtain ⟨es, ep, t, S'⟩ := (setK_empty (P := P) (w := w) e).whole (P := P) (fun p hp => absurd hp (by simp))
    exact ⟨[], es, ep, t, S', fun k => by rw [List.take_zero], fun p hp => absurd hp (by simp), Nat.le_refl _⟩
  keep := fun i h h' g k kp => by
    obtain ⟨L, es, ep, t, S', mem, sub, len⟩ := g
    obtain ⟨o, ho, r⟩ := S'.obj
    exact ⟨L, es, ep, t, ⟨⟨o, k o ho, r⟩, S'.ent, S'.tab, S'.one, fun p hp => isK_kept (hk p (sub p hp)) kp, S'.lead, S'.air, S'.few⟩, mem, sub, len⟩
  put := fun B i v u E Q hB hv g kp hQ => by
    obtain ⟨L, es, ep, t, S', mem, sub, len⟩ := g
    obtain ⟨p, hp, rfl⟩ := hz i v hv
    have il : i < ks.length := (List.getElem?_eq_some_iff.mp hp).1
    have kx : IsK P w u.heap p.2 p.1 := isK_kept (hk p (List.mem_of_getElem? hp)) kp
    have step : ∀ x, x ∈ (ks.take (i + 1)).map Prod.snd ↔ x ∈ (ks.take i).map Prod.snd ∨ x = p.2 := fun x => by
      rw [List.take_add_one, hp, List.map_append, List.mem_append]
      exact or_congr Iff.rfl List.mem_singleton
    unfold setAdd
    refine wpAny_holding (wpAny_bind ((nestedKind P w).pyHash (show B.units + 8 < cLine by omega) kx ?_))
    refine putKey (s := { u with toks := u.toks + p.2.draws }) S' kx (by omega) (by omega) fun b h' L' es' ep' t' sb S2 q1 q2 => ?_
    refine hQ b h' (u.toks + p.2.draws) sb ⟨L', es', ep', t', S2, ?_⟩ (Nat.le_add_right _ _)
    by_cases c : p.2 ∈ L.map Prod.snd
    · rw [q1 c]
      refine ⟨fun x => ?_, sub, by omega⟩
      rw [mem, step]
      exact ⟨.inl, fun y => y.elim id fun y => y ▸ (mem _).mp c⟩
    · have pm := q2 c
      refine ⟨fun x => ?_, fun y hy => ?_, by rw [pm.length_eq, List.length_cons]; omega⟩
      · rw [(pm.map Prod.snd).mem_iff, List.map_cons, List.mem_cons, mem, step]
        exact or_comm
      · cases List.mem_cons.mp (pm.mem_iff.mp hy) with
        | inl e =>
          rw [e]
          exact List.mem_of_getElem? hp
        | inr m => exact sub y m
/-! ### sorted -/
def sv : Value → List Nat
  | .str x _ => x.cps.toList
  | _ => []
def ltSv (v u : Value) : Bool := decide (sv v < sv u)
theorem swo_sv : SrtO.Swo ltSv := by
  refine ⟨fun x y h => ?_, fun x y z h1 h2 => ?_⟩
  · have a := of_decide_eq_true (p := sv x < sv y) h
    exact decide_eq_false (p := sv y < sv x) fun b => List.lt_irrefl _ (List.lt_trans a b)
  · have a := of_decide_eq_false (p := sv y < sv x) h1
    have b := of_decide_eq_false (p := sv z < sv y) h2
    refine decide_eq_false (p := sv z < sv x) fun c => ?_
    rcases codes_tri (sv x) (sv y) with d | d | d
    · exact b (List.lt_trans c d)
    · rw [d] at c
      exact b c
    · exact a d
theorem strs_of : ∀ {vs : List Value}, (∀ v ∈ vs, ∃ x t, v = Value.str x t) → ∃ xs, StrsAre vs xs
  | [], _ => ⟨[], .nil⟩
  | v :: vs, h => by
    obtain ⟨xs, r⟩ := strs_of fun u hu => h u (List.mem_cons_of_mem _ hu)
    obtain ⟨x, t, rfl⟩ := h v List.mem_cons_self
    exact ⟨x :: xs, .cons x t r⟩
theorem strs_sortable {a : Addr} {vs : List Value} (hs : ∀ v ∈ vs, ∃ x t, v = Value.str x t) (h2 : 2 ≤ vs.length) : SrtO.SortableO P w A s a vs ltSv := by
  intro h' _
  obtain ⟨xs, r⟩ := strs_of hs
  refine ⟨oneType', fun Q E hq => ?_, fun p q hm hm' => ?_⟩
  · match vs, r, h2 with
    | v1 :: v2 :: rest, r, _ =>
      rw [keyKind_strs r]
      exact wpAny_pure hq
    | [], _, h => exact absurd h (by decide)
    | [v], _, h => exact absurd h (by simp)
  · obtain ⟨x, t, e⟩ := hs _ hm
    obtain ⟨y, u, e'⟩ := hs _ hm'
    show wpAny (model P w) A (keyLt' oneType' p.1 q.1) (fun r s' => s' = { s with heap := h' } ∧ r = ltSv p.1 q.1) (fun _ _ => False) { s with heap := h' }
    rw [e, e', keyLt'_oneType]
    exact oneLt_str ⟨rfl, rfl⟩
theorem sorted_txt {a : Addr} {D : SD} {L : List ST} (ho : s.heap.get? a = some (sObj "set" D)) (S : DatS P w D L) (calm : A.handled = none) {Q : Value → Shared → Prop}
    (hQ : ∀ (s' : Shared) (p : Addr) (out : List Value) (c : Nat), (∀ b o, s.heap.get? b = some o → s'.heap.get? b = some o) → s'.gens = s.gens → s'.os = s.os → s.heap.objs.size ≤ p →
      s'.heap.get? p = some (seqObj "list" out.toArray c) → out.Perm (L.map fun p => Value.str p.1 p.2) → SrtO.Srtd ltSv out → Q (.ref p) s') :
    wpAny (model P w) A (call (.builtin "sorted") [.ref a]) Q E s := by
  have n0 : D.1.size = L.length := by rw [← Array.length_toList, S.ent, List.length_map]
  have few := S.few
  refine Calls.call_function_entry kind_sorted plain_sorted entry_sorted (args_sorted1 _) ?_
  unfold Builtin.«sorted»
  refine wpAny_bind (m := checkCount "sorted" 1 1 _) (wpAny_pure ?_)
  refine wpAny_bind (collect_set (A := A.in1) calm ⟨_, ho, rfl, rfl⟩ S.ok.fit (by unfold scanBound; omega) S.tab.ris S.lead ?_)
  intro s1 vs keep grow g1 o1 pm
  have vals : D.1.toList.map (·.2) = L.map fun p => Value.str p.1 p.2 := by
    rw [S.ent, List.map_map]
    rfl
  rw [vals] at pm
  have short : vs.length < 64 := by
    rw [pm.length_eq, List.length_map]
    exact few
  have all : ∀ v ∈ vs, ∃ x t, v = Value.str x t := fun v hv => by
    obtain ⟨p, _, rfl⟩ := List.mem_map.mp (pm.mem_iff.mp hv)
    exact ⟨_, _, rfl⟩
  refine wpAny_bind (wpAny_newList ?_ (by rw [sizeLine_eq]; omega))
  have at0 : (s1.heap.push (seqObj "list" vs.toArray 0)).get? s1.heap.objs.size = some (seqObj "list" vs.toArray 0) := Heap.get?_push_size _ rfl
  refine wpAny_bind (wpAny_holding (wpAny_call_entry slot_list_sort ⟨_, at0, rfl⟩ entry_list_sort
    (SrtO.list_sort_ord (s := { s1 with heap := s1.heap.push (seqObj "list" vs.toArray 0) }) swo_sv at0 (by rw [sizeLine_eq]; omega) (fun h2 => strs_sortable all h2) fun out ord stb => ⟨_, rfl, ?_⟩) (args_list_sort _)))
  obtain ⟨c, hc⟩ := sortedHeap_at (vs := vs) (out := out.toArray) at0
  refine wpAny_pure ⟨_, rfl, hQ _ s1.heap.objs.size out c (fun b u e => ?_) g1 o1 grow hc (stb.perm.trans pm) ord⟩
  have e1 := keep b u e
  have lt := Heap.lt_size e1
  show (sortedHeap (s1.heap.push (seqObj "list" vs.toArray 0)) s1.heap.objs.size vs out.toArray).get? b = some u
  rw [sortedHeap_old (Nat.ne_of_lt lt) (Heap.lt_size (Heap.get?_push_of_some _ e1))]
  exact Heap.get?_push_of_some _ e1
end
/-! ### the rules -/
section
variable {X : Cx}
theorem strs_at {zs : List Str} {us : List Value} (r : Vals (zs.map V.str) us) : ∀ (i : Nat) (v : Value), us.toArray[i]? = some v → ∃ z t, zs[i]? = some z ∧ v = Value.str z t := by
  intro i v e
  rw [List.getElem?_toArray] at e
  induction zs generalizing us i with
  | nil =>
    cases r
    cases i <;> cases e
  | cons z zs ih =>
    cases r with
    | cons h t =>
      cases i with
      | zero =>
        cases e
        obtain ⟨tk, rfl⟩ := h
        exact ⟨z, tk, rfl, rfl⟩
      | succ i => exact ih t i (by simpa using e)
/-- set(xs), xs a tuple of texts -/
def rSetTS (K : PySem.W.Frag) (P : Program) (w : World) : List V → Hp → VK → Prop := fun xs H Q => ∃ (l : Addr) (zs : List Str), xs = [.ref l] ∧ SqT K H l (zs.map V.str) ∧ zs.length < 64 ∧
  ∀ a ns, H a = none → (∀ z, z ∈ ns ↔ z ∈ zs) → ns.Nodup → Q (.ref a) (upd H a (SetSO P w a ns))
theorem cr_setTS (hc : X.calm = true) : CallR X (.type "set") (rSetTS X.K X.prog X.w) := by
  intro pins s σ H xs us Q I r h
  obtain ⟨l, zs, rfl, hl, few, q⟩ := h
  obtain ⟨u, rfl, ru⟩ := vals1 r
  obtain rfl : u = Value.ref l := ru
  obtain ⟨its, rv, ⟨o, ho, hcl, n, hd⟩, hz⟩ := I.tuple hl
  have len : its.length = zs.length := by rw [← rv.length, List.length_map]
  refine set_of_tuple (I.ok.hd hc) (its := its.toArray) ⟨o, ho, hcl, n, hd⟩ (fills_txt (strs_at rv) few) fun h' tk g kp => ?_
  obtain ⟨D, L, hD, S, mem, ln⟩ := g
  refine ⟨.ref s.heap.objs.size, _, I.laid (t' := tk) kp (Nat.le_refl _) (setSO_ok (ns := L.map Prod.fst) ⟨D, L, hD, S, List.Perm.refl _⟩), rfl, q _ _ (I.hok.fresh (Nat.le_refl _)) (fun z => ?_) S.one⟩
  rw [mem, List.take_of_length_le (by rw [List.size_toArray]; omega)]
/-- set(xs), xs a list of nested keys -/
def rSetLK (K : PySem.W.Frag) (w : World) : List V → Hp → VK → Prop := fun xs H Q => ∃ (l : Addr) (ks : List (Addr × NestedKey)), xs = [.ref l] ∧ SqL K H l (ks.map fun p => V.ref p.1) ∧ KeysAt K H ks ∧ ks.length < 64 ∧
  ∀ a L, H a = none → (∀ k, k ∈ L.map Prod.snd ↔ k ∈ ks.map Prod.snd) → (∀ p ∈ L, p ∈ ks) → Q (.ref a) (upd H a (SetKO w a L))
theorem refs_ats {ks : List (Addr × NestedKey)} {us : List Value} (r : Vals (ks.map fun p => V.ref p.1) us) : ∀ (i : Nat) (v : Value), us.toArray[i]? = some v → ∃ p : Addr × NestedKey, ks[i]? = some p ∧ v = Value.ref p.1 := by
  intro i v e
  rw [List.getElem?_toArray] at e
  induction ks generalizing us i with
  | nil =>
    cases r
    cases i <;> cases e
  | cons z zs ih =>
    cases r with
    | cons h t =>
      cases i with
      | zero =>
        cases e
        cases h
        exact ⟨z, rfl, rfl⟩
      | succ i => exact ih t i (by simpa using e)
theorem cr_setLK (hc : X.calm = true) (hu : X.A.units + 12 < cLine) : CallR X (.type "set") (rSetLK X.K X.w) := by
  intro pins s σ H xs us Q I r h
  obtain ⟨l, ks, rfl, hl, hk, few, q⟩ := h
  obtain ⟨u, rfl, ru⟩ := vals1 r
  obtain rfl : u = Value.ref l := ru
  obtain ⟨its, rv, pl, hz⟩ := I.list hl
  have len : its.length = ks.length := by rw [← rv.length, List.length_map]
  refine set_of_list (I.ok.hd hc) (its := its.toArray) pl.isList (fills_key (refs_ats rv) few (hk.are I) (by omega)) fun h' tk g kp => ?_
  obtain ⟨L, es, ep, t, S, mem, sub, ln⟩ := g
  refine ⟨.ref s.heap.objs.size, _, I.laid (t' := tk) kp (Nat.le_refl _) (setKO_ok S.bare), rfl, q _ _ (I.hok.fresh (Nat.le_refl _)) (fun z => ?_) sub⟩
  rw [mem, List.take_of_length_le (by rw [List.size_toArray]; omega)]
/-- sorted(a), a a set of texts -/
def rSortSS (P : Program) (w : World) : List V → Hp → VK → Prop := fun xs H Q => ∃ (a : Addr) (ns : List Str), xs = [.ref a] ∧ H a = some (SetSO P w a ns) ∧
  ∀ (ys : List Str) (p : Addr), (∀ z, z ∈ ys ↔ z ∈ ns) → ys.Pairwise (fun a b => a.cps.toList < b.cps.toList) → H p = none → Q (.ref p) (upd H p (.lst (ys.map V.str)))
theorem vals_strs : ∀ {vs : List Value}, (∀ v ∈ vs, ∃ x t, v = Value.str x t) → ∃ xs : List Str, Vals (xs.map V.str) vs ∧ vs.map sv = xs.map fun x => x.cps.toList
  | [], _ => ⟨[], .nil, rfl⟩
  | v :: vs, h => by
    obtain ⟨xs, r, e⟩ := vals_strs fun u hu => h u (List.mem_cons_of_mem _ hu)
    obtain ⟨x, t, rfl⟩ := h v List.mem_cons_self
    exact ⟨x :: xs, .cons ⟨t, rfl⟩ r, by rw [List.map_cons, List.map_cons, e]; rfl⟩
theorem cr_sortSS (hc : X.calm = true) : CallR X (.builtin "sorted") (rSortSS X.prog X.w) := by
  intro pins s σ H xs us Q I r h
  obtain ⟨a, ns, rfl, ha, q⟩ := h
  obtain ⟨u, rfl, ru⟩ := vals1 r
  obtain rfl : u = Value.ref a := ru
  obtain ⟨D, L, hD, S, pn⟩ := (show SetS0 X.prog X.w s.heap a ns from (I.hok a _ ha).1)
  refine sorted_txt hD S (I.ok.hd hc) fun s' p out c keep g o hp at' pm srt => ?_
  have all : ∀ v ∈ out, ∃ x t, v = Value.str x t := fun v hv => by
    obtain ⟨p, _, rfl⟩ := List.mem_map.mp (pm.mem_iff.mp hv)
    exact ⟨_, _, rfl⟩
  obtain ⟨ys, rv, es⟩ := vals_strs all
  have few := S.few
  have ml : (ys.map fun x => x.cps.toList).Perm ((L.map Prod.fst).map fun x => x.cps.toList) := by
    rw [← es]
    have z := pm.map sv
    rw [List.map_map] at z
    rw [List.map_map]
    exact z
  have mem : ∀ z, z ∈ ys ↔ z ∈ ns := fun z => by
    rw [← pn.mem_iff]
    have inj : ∀ (l : List Str), z ∈ l ↔ z.cps.toList ∈ l.map fun x => x.cps.toList := fun l => by
      constructor
      · exact fun m => List.mem_map_of_mem m
      · intro m
        obtain ⟨y, hy, e⟩ := List.mem_map.mp m
        rw [← str_ext e]
        exact hy
    rw [inj ys, inj, ml.mem_iff]
  have nd : (ys.map fun x => x.cps.toList).Nodup := ml.nodup_iff.mpr (List.pairwise_map.mpr (S.one.imp fun h e => h (str_ext e)))
  have st : (ys.map fun x => x.cps.toList).Pairwise (fun a b => ¬ b < a) := by
    rw [← es]
    exact List.pairwise_map.mpr (srt.imp fun {x y} h => of_decide_eq_false (p := sv y < sv x) h)
  have up : ys.Pairwise (fun a b => a.cps.toList < b.cps.toList) := by
    have z := (st.and nd).imp (S := fun a b => a < b) fun {x y} h => by
      rcases codes_tri x y with d | d | d
      · exact d
      · exact absurd d h.2
      · exact absurd d h.1
    exact List.pairwise_map.mp z
  have len : (ys.map V.str).length ≤ sizeLine := by
    have := ml.length_eq
    rw [List.length_map, List.length_map, List.length_map] at this
    rw [List.length_map, sizeLine_eq]
    omega
  have hn : H p = none := I.hok.fresh hp
  have J : Inv X pins σ (upd H p (.lst (ys.map V.str))) { s with heap := s'.heap, gens := s'.gens, drawn := s'.drawn, toks := s'.toks } :=
    I.call (ch := []) (Un.laid keep hp hn) (I.hok.laid keep hp ⟨len, out, c, rv, at'⟩) (by rw [g]; exact I.bare) (fun _ z => nomatch z)
  have e : s' = { s with heap := s'.heap, gens := s'.gens, drawn := s'.drawn, toks := s'.toks } := by
    cases s'
    cases s
    cases o
    rfl
  rw [e]
  exact ⟨.ref p, _, J, rfl, q ys p mem up hn⟩
end
end Ask
namespace P51
open PySem PySem.Spec PyProof.Rows L2 AskG Ask
abbrev sFeed : Stmt := topS 17
theorem scFeed : FnScope ["_law_script"] ["_law_script"] (defScope sFeed) := ⟨rfl, rfl, rfl, by decide +kernel, rfl, by decide +kernel, by decide +kernel⟩
abbrev sDraw : Stmt := topS 18
abbrev NDraw : List Str := ["_law_source_here", "_law_limit", "_law_draws", "_law_digit", "_law_used", "_law_cell", "_law_mixed"]
theorem scDraw : FnScope NDraw ["_law_source_here", "_law_limit"] (defScope sDraw) := ⟨rfl, rfl, rfl, by decide +kernel, rfl, by decide +kernel, by decide +kernel⟩
def feedKvs (L : Addr) (at' left n : Int) : List (Key × V) := [(Sum.inr "cells", .ref L), (Sum.inr "rest", .int left), (Sum.inr "used", .int at'), (Sum.inr "draws", .int n)]
/-- the source; at most b draws so far -/
def FeedAt (H : Hp) (F L : Addr) (b : Int) : Prop := ∃ (ns : List Int) (at' left n : Int), H F = some (.dK (feedKvs L at' left n)) ∧ H L = some (.lst (ns.map V.int)) ∧ 0 ≤ n ∧ n ≤ b
def KeepF (F : Addr) (H H' : Hp) : Prop := ∀ b o, b ≠ F → H b = some o → H' b = some o
theorem KeepF.refl (F : Addr) (H : Hp) : KeepF F H H := fun _ _ _ e => e
theorem KeepF.trans {F : Addr} {H H1 H2 : Hp} (h : KeepF F H H1) (g : KeepF F H1 H2) : KeepF F H H2 := fun b o n e => g b o n (h b o n e)
theorem KeepF.of {F : Addr} {H H' : Hp} (h : Same H H') : KeepF F H H' := fun b o _ e => h b o e
theorem KeepF.tup {F L : Addr} {H H' : Hp} {b : Int} (h : KeepF F H H') (f : FeedAt H F L b) : KeepT H H' := fun b xs e => by
  obtain ⟨_, _, _, _, hF, _⟩ := f
  exact h b _ (ne_of e hF fun z => nomatch z) e
theorem FeedAt.same {F L : Addr} {H H' : Hp} {b : Int} (f : FeedAt H F L b) (h : Same H H') : FeedAt H' F L b := by
  obtain ⟨ns, a, l, n, h1, h2, h3⟩ := f
  exact ⟨ns, a, l, n, h _ _ h1, h _ _ h2, h3⟩
theorem FeedAt.up {F L : Addr} {H : Hp} {b c : Int} (f : FeedAt H F L b) (h : b ≤ c) : FeedAt H F L c := by
  obtain ⟨ns, a, l, n, h1, h2, h3, h4⟩ := f
  exact ⟨ns, a, l, n, h1, h2, h3, Int.le_trans h4 h⟩
theorem dg_count {H : Hp} {F L : Addr} {a l n : Int} (h : H F = some (.dK (feedKvs L a l n))) : DGet H F (.str "draws") (some (.int n)) := DGet.k (k := Sum.inr "draws") h
theorem dg_left {H : Hp} {F L : Addr} {a l n : Int} (h : H F = some (.dK (feedKvs L a l n))) : DGet H F (.str "rest") (some (.int l)) := DGet.k (k := Sum.inr "rest") h
theorem dg_at {H : Hp} {F L : Addr} {a l n : Int} (h : H F = some (.dK (feedKvs L a l n))) : DGet H F (.str "used") (some (.int a)) := DGet.k (k := Sum.inr "used") h
theorem dg_cells {H : Hp} {F L : Addr} {a l n : Int} (h : H F = some (.dK (feedKvs L a l n))) : DGet H F (.str "cells") (some (.ref L)) := DGet.k (k := Sum.inr "cells") h
theorem four : (feedKvs 0 0 0 0).length < sizeLine := by
  show 4 < sizeLine
  decide
theorem dp_count {H : Hp} {F L : Addr} {a l n x : Int} (h : H F = some (.dK (feedKvs L a l n))) : DPut H F (.str "draws") (.int x) (upd H F (.dK (feedKvs L a l x))) := DPut.k (k := Sum.inr "draws") h four
theorem dp_left {H : Hp} {F L : Addr} {a l n x : Int} (h : H F = some (.dK (feedKvs L a l n))) : DPut H F (.str "rest") (.int x) (upd H F (.dK (feedKvs L a x n))) := DPut.k (k := Sum.inr "rest") h four
theorem dp_at {H : Hp} {F L : Addr} {a l n x : Int} (h : H F = some (.dK (feedKvs L a l n))) : DPut H F (.str "used") (.int x) (upd H F (.dK (feedKvs L x l n))) := DPut.k (k := Sum.inr "used") h four
theorem cut63 (ns : List Int) : ∃ ms : List Int, cutV (ns.map V.int) none (some 63) = ms.map V.int := by
  unfold cutV
  rw [← List.map_drop, ← List.map_take]
  exact ⟨_, rfl⟩
section
variable {P : Program} {w : World} {K : PySem.W.Frag} {mg : Str → Option Value} {base : Heap}
def prFeed (K : PySem.W.Frag) : Pr := fun vs H Q => ∃ (a : Addr) (ns : List Int), vs = [.ref a] ∧ SqL K H a (ns.map V.int) ∧ ∀ H' F L, Same H H' → FeedAt H' F L 0 → Q (.ref F) H'
theorem ok_feed {f : Addr} {fd : FuncData} {k : Nat} (F : Fun K "_law_source" "_law_source" sFeed f fd) : FnG P w K mg base (k + 1) f fd ["_law_script"] (prFeed K) := by
  refine okG F scFeed (fun vs H Q h => ?_) (fun cdv A outer s H vs Q hr h => ?_)
  · obtain ⟨_, _, rfl, _⟩ := h
    rfl
  · obtain ⟨a, ns, rfl, hS, q⟩ := h
    refine ⟨_, pss_one (ps_ret (pe_disp (pps_cons pe_str (pe_slice sl_list (pv 0) po_none (po_some pe_int)) (pps_cons pe_str pe_int (pps_cons pe_str pe_int (pps_cons pe_str pe_int pps_nil)))) (by rfl) (by rfl) (fun z => by cases z) (by decide))), ?_⟩
    obtain ⟨ms, hms⟩ := cut63 ns
    refine iRet (fun p hp => ?_)
    have s1 : Same H (upd H p (.dK [])) := same_new hp
    refine ⟨.ref a, rfl, 63, rfl, a, ns.map V.int, rfl, s1.seq hS, fun c hc => ?_⟩
    rw [hms]
    have s2 : Same (upd H p (.dK [])) (upd (upd H p (.dK [])) c (.lst (ms.map V.int))) := same_new hc
    have hpp : (upd (upd H p (.dK [])) c (.lst (ms.map V.int))) p = some (.dK []) := s2 _ _ upd_same
    refine ⟨hpp, feedKvs c 0 0 0, rfl, by show 4 ≤ 15; decide, ?_⟩
    have npl : c ≠ p := fun e => by
      rw [e, upd_same] at hc
      cases hc
    refine q _ p c (fun b o e => ?_) ⟨ms, 0, 0, 0, upd_same, ?_, by decide, by decide⟩
    · rw [upd_ne (ne_of_none e hp)]
      exact s2 _ _ (s1 _ _ e)
    · rw [upd_ne npl, upd_same]
def prDraw : Pr := fun vs H Q => ∃ (F L : Addr) (m b : Int), vs = [.ref F, .int m] ∧ FeedAt H F L b ∧ 0 < m ∧ m < 1000 ∧ b ≤ 100000 ∧
  ∀ d H', 0 ≤ d → d < m → KeepF F H H' → FeedAt H' F L (b + 1) → Q (.int d) H'
theorem ok_draw {f : Addr} {fd : FuncData} {k : Nat} (F : Fun K "_law_next" "_law_next" sDraw f fd) (ml : mg "len" = none) : FnG P w K mg base (k + 1) f fd ["_law_source_here", "_law_limit"] prDraw := by
  refine okG F scDraw (fun vs H Q h => ?_) (fun cdv A outer s H vs Q hr h => ?_)
  · obtain ⟨_, _, _, _, rfl, _⟩ := h
    rfl
  · obtain ⟨F, L, m, b, rfl, ⟨ns, a, l, n, hF, hL, n0, nb⟩, m1, m2, b1, q⟩ := h
    have hu := hu_of hr.room
    refine ⟨_, pss_cons (ps_set (i := 2) scDraw.nd rfl (.inl rfl) (pe_dget hu (pv 0) pe_str (fun _ _ => rfl)))
      (pss_cons (ps_dput hu (pv 0) pe_str (pe_op op_add (pv 2) pe_int) rfl)
      (pss_cons (ps_if (pt_cmpR op_gt (pe_dget hu (pv 0) pe_str (fun _ _ => rfl)) pe_int (nomark _))
        (pss_cons (ps_set (i := 3) scDraw.nd rfl (.inl rfl) (pe_op op_mod (pe_dget hu (pv 0) pe_str (fun _ _ => rfl)) (pv 1)))
          (pss_cons (ps_dput hu (pv 0) pe_str (pe_op op_fdiv (pe_dget hu (pv 0) pe_str (fun _ _ => rfl)) (pv 1)) rfl)
          (pss_one (ps_ret (pv 3))))) pss_nil)
      (pss_cons (ps_set (i := 4) scDraw.nd rfl (.inl rfl) (pe_dget hu (pv 0) pe_str (fun _ _ => rfl)))
      (pss_cons (ps_dput hu (pv 0) pe_str (pe_op op_add (pv 4) pe_int) rfl)
      (pss_cons (ps_set (i := 5) scDraw.nd rfl (.inl rfl) pe_int)
      (pss_cons (ps_if (pt_cmpR (op_neD hr.room.units) (pe_dget hu (pv 0) pe_str (fun _ _ => rfl)) (pe_lst pa_nil) (nomark _))
        (pss_one (ps_set (i := 5) scDraw.nd rfl (.inl rfl) (pe_ix ix_list (pe_dget hu (pv 0) pe_str (fun _ _ => rfl)) (pe_op op_mod (pv 4) (pe_callB call_len_seq (by rfl) ml PySem.boot_len (pa_cons (pe_dget hu (pv 0) pe_str (fun _ _ => rfl)) pa_nil))) (fun _ _ => rfl)))) pss_nil)
      (pss_cons (ps_if (PW.pt (pw_and (pt_cmpR op_ge (pv 5) (pe_op op_pow pe_int pe_int) (nomark _)) (pw_and1 (pt_cmpR op_lt (pv 4) (pe_callB call_len_seq (by rfl) ml PySem.boot_len (pa_cons (pe_dget hu (pv 0) pe_str (fun _ _ => rfl)) pa_nil)) (nomark _)))))
        (pss_cons (ps_dput hu (pv 0) pe_str (pe_op op_fdiv (pv 5) (pv 1)) rfl) (pss_one (ps_ret (pe_op op_mod (pv 5) (pv 1))))) pss_nil)
      (pss_cons (ps_set (i := 6) scDraw.nd rfl (.inl rfl) (pe_op op_add (pe_op op_add (pe_op op_add (pe_op op_mod (pv 5) pe_int) (pe_op op_mul (pe_op op_mul pe_int (pv 2)) (pv 2))) (pe_op op_mul pe_int (pv 2))) pe_int))
      (pss_cons (ps_set (i := 6) scDraw.nd rfl (.inl rfl) (pe_op op_mod (pe_op op_add (pe_op op_add (pe_op op_mul (pv 6) (pv 6)) (pe_op op_mul pe_int (pv 2))) pe_int) pe_int))
      (pss_one (ps_ret (pe_op op_mod (pe_op op_fdiv (pe_op op_mod (pe_op op_add (pe_op op_mul (pv 6) (pv 6)) (pe_op op_mul pe_int (pv 6))) pe_int) pe_int) (pv 1))))))))))))), ?_⟩
    have nLF : L ≠ F := ne_of hL hF fun z => nomatch z
    refine ⟨.ref F, rfl, F, .int n, rfl, dg_count hF, ?_⟩
    refine ⟨.int n, rfl, n, 1, rfl, rfl, .ref F, rfl, F, _, rfl, dp_count hF, ?_⟩
    have hF1 : (upd H F (.dK (feedKvs L a l (n + 1)))) F = some (.dK (feedKvs L a l (n + 1))) := upd_same
    have hL1 : (upd H F (.dK (feedKvs L a l (n + 1)))) L = some (.lst (ns.map V.int)) := by
      rw [upd_ne nLF]
      exact hL
    have k1 : KeepF F H (upd H F (.dK (feedKvs L a l (n + 1)))) := fun b o h e => by
      rw [upd_ne h]
      exact e
    generalize upd H F (.dK (feedKvs L a l (n + 1))) = H1 at hF1 hL1 k1 ⊢
    have nb1 : 0 ≤ n + 1 ∧ n + 1 ≤ b + 1 := ⟨by omega, by omega⟩
    refine ⟨.ref F, rfl, F, .int l, rfl, dg_left hF1, l, 0, rfl, rfl, _, rfl, ite2 (fun e => ?_) (fun e => ?_)⟩
    · refine ⟨.ref F, rfl, F, .int l, rfl, dg_left hF1, .int m, rfl, l, m, rfl, rfl, m1, ?_⟩
      refine ⟨.ref F, rfl, F, .int l, rfl, dg_left hF1, .int m, rfl, l, m, rfl, rfl, ⟨m1, by omega⟩, .ref F, rfl, F, _, rfl, dp_left hF1, ?_⟩
      refine ⟨.int (l % m), rfl, q _ _ (Int.emod_nonneg _ (by omega)) (Int.emod_lt_of_pos _ m1) (k1.trans fun b o h e => ?_) ⟨ns, a, l / m, n + 1, upd_same, ?_, nb1⟩⟩
      · rw [upd_ne h]
        exact e
      · rw [upd_ne nLF]
        exact hL1
    · refine ⟨.ref F, rfl, F, .int a, rfl, dg_at hF1, ?_⟩
      refine ⟨.int a, rfl, a, 1, rfl, rfl, .ref F, rfl, F, _, rfl, dp_at hF1, ?_⟩
      have hF2 : (upd H1 F (.dK (feedKvs L (a + 1) l (n + 1)))) F = some (.dK (feedKvs L (a + 1) l (n + 1))) := upd_same
      have hL2 : (upd H1 F (.dK (feedKvs L (a + 1) l (n + 1)))) L = some (.lst (ns.map V.int)) := by
        rw [upd_ne nLF]
        exact hL1
      have k2 : KeepF F H (upd H1 F (.dK (feedKvs L (a + 1) l (n + 1)))) := k1.trans fun b o h e => by
        rw [upd_ne h]
        exact e
      generalize upd H1 F (.dK (feedKvs L (a + 1) l (n + 1))) = H2 at hF2 hL2 k2 ⊢
      dsimp only
      refine iSeq (iAsg (iName ?_))
      dsimp only
      refine iSeq ?_
      refine split_s (fun σ' H3 => ∃ c, σ' = [some (.ref F), some (.int m), some (.int n), none, some (.int a), some (.int c), none] ∧ H3 F = some (.dK (feedKvs L (a + 1) l (n + 1))) ∧ H3 L = some (.lst (ns.map V.int)) ∧ KeepF F H H3) (fun nx hnx => ?_) (fun σ' H3 hv => ?_)
      · refine ⟨.ref F, rfl, F, .ref L, rfl, dg_cells hF2, Nat.zero_le _, fun p hp => ?_⟩
        have s3 : Same H2 (upd H2 p (.lst [])) := same_new hp
        have k3 : KeepF F H (upd H2 p (.lst [])) := k2.trans (KeepF.of s3)
        refine ⟨.list (ns.map PyData.int), .list [], .lst (sqL (s3 _ _ hL2)) (dp_ints ns), .lst (sqL upd_same) .nil, shaped_ints ns, shaped_nil, _, rfl, ?_⟩
        cases ns with
        | nil => exact iteF (hnx _ _ ⟨41, rfl, s3 _ _ hF2, s3 _ _ hL2, k3⟩)
        | cons x ns =>
          refine iteT ?_
          refine iAsg ⟨.ref F, rfl, F, .ref L, rfl, dg_cells (s3 _ _ hF2), .int a, rfl, .ref F, rfl, F, .ref L, rfl, dg_cells (s3 _ _ hF2), L, _, rfl, .inl (sqL (s3 _ _ hL2)), a, (((x :: ns).map V.int).length : Int), rfl, rfl, ?_, ?_⟩
          · rw [List.length_map, List.length_cons]
            show (0 : Int) < ((ns.length + 1 : Nat) : Int)
            omega
          · have hlen : (0 : Int) < (((x :: ns).map V.int).length : Int) := by
              rw [List.length_map, List.length_cons]
              omega
            have h0 := Int.emod_nonneg a (show (((x :: ns).map V.int).length : Int) ≠ 0 by omega)
            have h1 := Int.emod_lt_of_pos a hlen
            obtain ⟨jn, ej⟩ : ∃ jn : Nat, a % (((x :: ns).map V.int).length : Int) = (jn : Int) := ⟨(a % (((x :: ns).map V.int).length : Int)).toNat, by omega⟩
            have hj : jn < ((x :: ns).map V.int).length := by omega
            have hjn : jn < (x :: ns).length := by rw [List.length_map] at hj; exact hj
            refine ⟨L, _, _, .int (x :: ns)[jn], rfl, rfl, sqL (s3 _ _ hL2), (by rw [ej]; exact atI_nat (j := jn) (by rw [List.getElem?_map, List.getElem?_eq_getElem hjn]; rfl)), ?_⟩
            refine iName ?_
            exact hnx _ _ ⟨_, rfl, s3 _ _ hF2, s3 _ _ hL2, k3⟩
      · obtain ⟨c, rfl, hF3, hL3, k3⟩ := hv
        dsimp only
        refine iSeq ?_
        refine split_s (fun σ' H' => σ' = [some (.ref F), some (.int m), some (.int n), none, some (.int a), some (.int c), none] ∧ H' = H3) (fun nx hnx => ?_) (fun σ' H' hx => ?_)
        · refine ⟨.int c, rfl, 10, 18, rfl, rfl, ⟨by decide, by decide, by decide⟩, c, _, rfl, rfl, _, rfl, ite2 (fun e1 => ?_) (fun e1 => ?_)⟩
          · refine ⟨.int a, rfl, .ref F, rfl, F, .ref L, rfl, dg_cells hF3, L, _, rfl, .inl (sqL hL3), a, _, rfl, rfl, _, rfl, ite2 (fun e2 => ?_) (fun e2 => ?_)⟩
            · refine ⟨.int c, rfl, .int m, rfl, c, m, rfl, rfl, ⟨m1, by omega⟩, .ref F, rfl, F, _, rfl, dp_left hF3, ?_⟩
              refine ⟨.int c, rfl, .int m, rfl, c, m, rfl, rfl, m1, q _ _ (Int.emod_nonneg _ (by omega)) (Int.emod_lt_of_pos _ m1) (k3.trans fun b o h e => ?_) ⟨ns, a + 1, c / m, n + 1, upd_same, ?_, nb1⟩⟩
              · rw [upd_ne h]
                exact e
              · rw [upd_ne nLF]
                exact hL3
            · exact hnx _ _ ⟨rfl, rfl⟩
          · exact iteF (hnx _ _ ⟨rfl, rfl⟩)
        · obtain ⟨rfl, rfl⟩ := hx
          dsimp only
          have c0 := Int.emod_nonneg c (show (2147483587 : Int) ≠ 0 by decide)
          have c1 := Int.emod_lt_of_pos c (show (0 : Int) < 2147483587 by decide)
          have nn : 0 ≤ n ∧ n ≤ 100000 := ⟨n0, by omega⟩
          have n2 : 0 ≤ n * n ∧ n * n ≤ 10000000000 := ⟨Int.mul_nonneg nn.1 nn.1, by
            have h1 : n * n ≤ 100000 * n := Int.mul_le_mul_of_nonneg_right nn.2 nn.1
            omega⟩
          refine iSeq (iAsg ⟨.int c, rfl, c, 2147483587, rfl, rfl, (by decide : (0 : Int) < 2147483587), .int n, rfl, 10331, n, rfl, rfl, .inl ⟨by decide, by decide⟩, .int n, rfl, 10331 * n, n, rfl, rfl, .inr ⟨by omega, by omega⟩, _, _, rfl, rfl, .int n, rfl, 3571, n, rfl, rfl, .inl ⟨by decide, by decide⟩, _, _, rfl, rfl, _, 677, rfl, rfl, ?_⟩)
          refine iName ?_
          dsimp only
          have e10 : 10331 * n * n = 10331 * (n * n) := Int.mul_assoc _ _ _
          obtain ⟨x, ex⟩ : ∃ x, c % 2147483587 + 10331 * n * n + 3571 * n + 677 = x := ⟨_, rfl⟩
          rw [ex]
          have x0 : 0 ≤ x ∧ x < 2 ^ 64 := by
            rw [← ex, e10]
            constructor
            · omega
            · omega
          refine iSeq (iAsg ⟨.int x, rfl, .int x, rfl, x, x, rfl, rfl, .inl ⟨by omega, by omega⟩, .int n, rfl, 70001, n, rfl, rfl, .inl ⟨by decide, by decide⟩, _, _, rfl, rfl, _, 101, rfl, rfl, _, 2147483549, rfl, rfl, (by decide : (0 : Int) < 2147483549), ?_⟩)
          refine iName ?_
          dsimp only
          have d0 := Int.emod_nonneg (x * x + 70001 * n + 101) (show (2147483549 : Int) ≠ 0 by decide)
          have d1 := Int.emod_lt_of_pos (x * x + 70001 * n + 101) (show (0 : Int) < 2147483549 by decide)
          generalize (x * x + 70001 * n + 101) % 2147483549 = y at d0 d1 ⊢
          refine iRet ⟨.int y, rfl, .int y, rfl, y, y, rfl, rfl, .inl ⟨by omega, by omega⟩, .int y, rfl, 43, y, rfl, rfl, .inl ⟨by decide, by decide⟩, _, _, rfl, rfl, _, 2147483543, rfl, rfl, (by decide : (0 : Int) < 2147483543), _, 64, rfl, rfl, ⟨by decide, by decide⟩, .int m, rfl, _, m, rfl, rfl, m1, ?_⟩
          exact q _ _ (Int.emod_nonneg _ (by omega)) (Int.emod_lt_of_pos _ m1) k3 ⟨ns, a + 1, l, n + 1, hF3, hL3, nb1⟩
end
end P51
/-! != of two lists of the same texts. -/
namespace AskG
open PySem PySem.Spec PyProof.Rows L2
def rNeS (K : PySem.W.Frag) : R2 := fun x y H Q => ∃ (a b : Addr) (xs : List Str), x = .ref a ∧ y = .ref b ∧ SqL K H a (xs.map V.str) ∧ SqL K H b (xs.map V.str) ∧ Q (.bl false) H
theorem vals_strs : ∀ {xs : List Str} {us : List Value}, Vals (xs.map V.str) us → ∀ j (h : j < us.length), ∃ x t, xs[j]? = some x ∧ us[j] = .str x t
  | [], _, .nil, j, h => absurd h (by simp)
  | x :: xs, _, .cons h1 t, 0, h => by
    obtain ⟨tk, rfl⟩ := h1
    exact ⟨x, tk, rfl, rfl⟩
  | x :: xs, _, .cons h1 t, j + 1, h => by
    obtain ⟨y, tk, e1, e2⟩ := vals_strs t j (by simpa using h)
    exact ⟨y, tk, e1, by simpa using e2⟩
theorem op_neS {X : Cx} (hu : X.A.units + 64 < cLine) : OpR X (compareOp .NotEq) (rNeS X.K) := by
  intro pins s σ H x y v u Q I rx ry h
  obtain ⟨a, b, xs, rfl, rfl, ha, hb, q⟩ := h
  cases rx
  cases ry
  obtain ⟨us, ru, pu, _⟩ := I.list ha
  obtain ⟨ws, rw', pw, _⟩ := I.list hb
  have hsz : us.toArray.size = ws.toArray.size := by
    rw [List.size_toArray, List.size_toArray, ← ru.length, ← rw'.length]
  have R := SeqAt.RcNeAt.lists (A := X.A) (s := s) (e := fun _ => true) pu.isList pw.isList hsz (by omega) (fun j h1 h2 => by
    obtain ⟨x1, t1, e1, e2⟩ := vals_strs ru j (by simpa using h1)
    obtain ⟨x2, t2, e3, e4⟩ := vals_strs rw' j (by simpa using h2)
    rw [e1] at e3
    cases e3
    have g1 : us.toArray[j] = .str x1 t1 := by simpa using e2
    have g2 : ws.toArray[j] = .str x1 t2 := by simpa using e4
    rw [g1, g2]
    have := SeqAt.EqAt.str_str (A := X.A.in1) (s := s) x1 t1 x1 t2
    rw [beq_self_eq_true] at this
    exact this)
  have z : wpAny (model X.prog X.w) X.A (compareOp .NotEq (.ref a) (.ref b)) (EP X pins σ Q) X.xe s := by
    refine R X.prog X.w X.xe (EP X pins σ Q) ⟨.bl false, H, I, ?_, q⟩
    show Value.bool _ = Value.bool false
    congr 1
    simp
  exact z
end AskG
namespace P51
open PySem PySem.Spec PyProof.Rows L2 AskG Ask
abbrev sRow : Stmt := topS 19
abbrev sCells : Stmt := topS 20
abbrev sGroup : Stmt := topS 21
abbrev NRow : List Str := ["_law_source_here", "_law_cells_here", "_law_share", "_law_pairs", "_law_cell"]
abbrev NGroup : List Str := ["_law_source_here", "_law_found", "_law_name"]
theorem scRow : FnScope NRow ["_law_source_here", "_law_cells_here", "_law_share"] (defScope sRow) := ⟨rfl, rfl, rfl, by decide +kernel, rfl, by decide +kernel, by decide +kernel⟩
theorem scCells : FnScope [] [] (defScope sCells) := ⟨rfl, rfl, rfl, by decide +kernel, rfl, by decide +kernel, by decide +kernel⟩
theorem scGroup : FnScope NGroup ["_law_source_here"] (defScope sGroup) := ⟨rfl, rfl, rfl, by decide +kernel, rfl, by decide +kernel, by decide +kernel⟩
def sixC : List Cell := [("a", 0), ("a", 1), ("b", 0), ("b", 1), ("c", 0), ("c", 2)]
def three : List Str := ["ann", "bob", "cy"]
theorem iDrop' {te : TE} {D : Ends} {σ : L2.St} {H : Hp} (h : te σ H fun _ H1 => D.nx σ H1) : tDrop te D σ H := h
theorem iNext {D : Ends} {σ : L2.St} {H : Hp} (h : D.nx σ H) : tNext D σ H := h
/-- rows that the law draws -/
structure RowDr (ρ : RowD) : Prop where
  sub : (ρ.map (·.1)).Sublist sixC
  lit : ∀ x ∈ ρ, -3 ≤ x.2 ∧ x.2 ≤ 3 ∧ x.2 ≠ 0
theorem shaped_lstr {zs : List Str} (h : ∀ z ∈ zs, PyData.strOk z = true) : SeqAt.shaped (.list (zs.map PyData.str)) = true := by
  have h1 : PyData.canLayAll0 (zs.map PyData.str) = true := can_all fun z hz => h z hz
  have h2 : PyData.depthAll (zs.map PyData.str) ≤ 0 := depth_all fun z _ => Nat.le_refl _
  show (PyData.canLayAll0 (zs.map PyData.str) && decide (PyData.depthAll (zs.map PyData.str) + 1 ≤ 64)) = true
  rw [h1, decide_eq_true (by omega)]
  rfl
theorem FeedAt.taken {H : Hp} {F L : Addr} {b : Int} (h : FeedAt H F L b) : Taken H F := by
  obtain ⟨_, _, _, _, e, _⟩ := h
  exact ⟨_, e⟩
section
variable {P : Program} {w : World} {K : PySem.W.Frag} {mg : Str → Option Value} {base : Heap}
variable {fD : Addr} {fdD : FuncData}
def prCells : Pr := fun vs H Q => vs = [] ∧ (∃ D, Taken H D) ∧ ∀ H' p bs, Same H H' → H p = none → H' p = some (.lst (bs.map V.ref)) → Paired (CellAt H') bs sixC → Q (.ref p) H'
theorem ok_cells {f : Addr} {fd : FuncData} {k : Nat} (F : Fun K "_law_cells" "_law_cells" sCells f fd) : FnG P w K mg base (k + 1) f fd [] prCells := by
  refine okG F scCells (fun vs H Q h => by rw [h.1]; rfl) (fun cdv A outer s H vs Q hr h => ?_)
  obtain ⟨rfl, ⟨D0, hD0⟩, q⟩ := h
  refine ⟨_, pss_one (ps_ret (pe_lst (pa_cons (pe_tup (pa_cons pe_str (pa_cons pe_int pa_nil))) (pa_cons (pe_tup (pa_cons pe_str (pa_cons pe_int pa_nil))) (pa_cons (pe_tup (pa_cons pe_str (pa_cons pe_int pa_nil))) (pa_cons (pe_tup (pa_cons pe_str (pa_cons pe_int pa_nil))) (pa_cons (pe_tup (pa_cons pe_str (pa_cons pe_int pa_nil))) (pa_cons (pe_tup (pa_cons pe_str (pa_cons pe_int pa_nil))) pa_nil)))))))), ?_⟩
  have two : 2 ≤ sizeLine := by decide
  refine iRet ⟨two, fun a1 h1 => ⟨two, fun a2 h2 => ⟨two, fun a3 h3 => ⟨two, fun a4 h4 => ⟨two, fun a5 h5 => ⟨two, fun a6 h6 => ⟨by show 6 ≤ sizeLine; decide, fun l hl => ?_⟩⟩⟩⟩⟩⟩⟩
  have s1 := same_new (o := .tup [.str "a", .int 0]) h1
  have s2 := same_new (o := .tup [.str "a", .int 1]) h2
  have s3 := same_new (o := .tup [.str "b", .int 0]) h3
  have s4 := same_new (o := .tup [.str "b", .int 1]) h4
  have s5 := same_new (o := .tup [.str "c", .int 0]) h5
  have s6 := same_new (o := .tup [.str "c", .int 2]) h6
  have s7 := same_new (o := .lst [.ref a1, .ref a2, .ref a3, .ref a4, .ref a5, .ref a6]) hl
  have t6 := s7
  have t5 := s6.trans t6
  have t4 := s5.trans t5
  have t3 := s4.trans t4
  have t2 := s3.trans t3
  have t1 := s2.trans t2
  have hn : H l = none := by
    cases e : H l with
    | none => rfl
    | some o =>
      have := ((((((s1.trans s2).trans s3).trans s4).trans s5).trans s6) _ _ e)
      rw [this] at hl
      cases hl
  refine q _ l [a1, a2, a3, a4, a5, a6] (s1.trans t1) hn upd_same ?_
  exact .cons (t1 _ _ upd_same) (.cons (t2 _ _ upd_same) (.cons (t3 _ _ upd_same) (.cons (t4 _ _ upd_same) (.cons (t5 _ _ upd_same) (.cons (t6 _ _ upd_same) .nil)))))
def prRow : Pr := fun vs H Q => ∃ (F L lc : Addr) (bs : List Addr) (b : Int), vs = [.ref F, .ref lc, .int 2] ∧ FeedAt H F L b ∧ b ≤ 90000 ∧ H lc = some (.lst (bs.map V.ref)) ∧ Paired (CellAt H) bs sixC ∧
  ∀ H' p ρ, KeepF F H H' → FeedAt H' F L (b + 12) → RowAt H' p ρ → RowDr ρ → Q (.ref p) H'
theorem ok_row {f : Addr} {fd : FuncData} {k : Nat} (F : Fun K "_law_row" "_law_row" sRow f fd)
    (FD : Fun K "_law_next" "_law_next" sDraw fD fdD) (bD : Binds K fdD ["_law_source_here", "_law_limit"] []) (gD : mg "_law_next" = some (.ref fD)) (ml : mg "len" = none) (mt : mg "tuple" = none) : FnG P w K mg base (k + 2) f fd ["_law_source_here", "_law_cells_here", "_law_share"] prRow := by
  have GD : FnG P w K mg base (k + 1) fD fdD ["_law_source_here", "_law_limit"] prDraw := ok_draw FD ml
  refine okG F scRow (fun vs H Q h => ?_) (fun cdv A outer s H vs Q hr h => ?_)
  · obtain ⟨_, _, _, _, _, rfl, _⟩ := h
    rfl
  · obtain ⟨F, L, lc, bs, b, rfl, hF, b9, hlc, hbs, q⟩ := h
    have big := sizeBig
    refine ⟨_, pss_cons (ps_set (i := 3) scRow.nd rfl (.inl rfl) (pe_lst pa_nil))
      (pss_cons (ps_for PassesOwn.never rfl (pi_list (pv 1)) (pg_name (i := 4) scRow.nd rfl (.inl rfl))
        (pss_one (ps_if (pt_cmpR op_eq (pe_g GD hr (by rfl) gD FD.kp bD .nil (pa_cons (pv 0) (pa_cons (pv 2) pa_nil))) pe_int (nomark _))
          (pss_one (ps_expr (pe_bm PySem.F.plainAttrs_list PySem.F.slot_list_append PySem.F.type_list_append mt_append (pv 3) (pa_cons (pe_tup (pa_cons (pv 4) (pa_cons
            (pe_ix (ix_list : IxR _ (rIxL K)) (pe_lst (pa_cons pe_int (pa_cons pe_int (pa_cons (pe_un un_neg pe_int) (pa_cons pe_int (pa_cons pe_int (pa_cons (pe_un un_neg pe_int) (pa_cons (pe_un un_neg pe_int) pa_nil)))))))) (pe_g GD hr (by rfl) gD FD.kp bD .nil (pa_cons (pv 0) (pa_cons pe_int pa_nil))) (fun _ _ => rfl)) pa_nil))) pa_nil)))) pss_nil)))
      (pss_one (ps_ret (pe_callTy call_tuple_of (by rfl) mt (by decide +kernel) (pa_cons (pv 3) pa_nil))))), ?_⟩
    refine iSeq (iAsg ⟨Nat.zero_le _, fun Lp hLp => ?_⟩)
    have s1 := same_new (o := .lst []) hLp
    refine iName ?_
    dsimp only
    have nLF : Lp ≠ F := by
      obtain ⟨_, _, _, _, e, _⟩ := hF
      exact (ne_of_none e hLp).symm
    have nLL : L ≠ Lp := by
      obtain ⟨_, _, _, _, _, e, _⟩ := hF
      exact ne_of_none e hLp
    have ncF : lc ≠ F := by
      obtain ⟨_, _, _, _, e, _⟩ := hF
      exact ne_of hlc e fun z => nomatch z
    have ncp : lc ≠ Lp := ne_of_none hlc hLp
    refine iSeq ?_
    refine ⟨.ref lc, rfl, lc, rfl, ⟨_, sqL (s1 _ _ hlc)⟩, ?_⟩
    refine for_list (xs := bs.map V.ref) (fun i σ' H' => (∃ x4, σ' = [some (.ref F), some (.ref lc), some (.int 2), some (.ref Lp), x4]) ∧ i ≤ 6 ∧ KeepF F H H' ∧ FeedAt H' F L (b + 2 * (i : Int)) ∧ H' lc = some (.lst (bs.map V.ref)) ∧ ∃ qs ρ, H' Lp = some (.lst (qs.map V.ref)) ∧ Paired (PairRow H') qs ρ ∧ (ρ.map (·.1)).Sublist (sixC.take i) ∧ ∀ x ∈ ρ, -3 ≤ x.2 ∧ x.2 ≤ 3 ∧ x.2 ≠ 0)
      ⟨⟨none, rfl⟩, by decide, KeepF.of s1, by rw [show b + 2 * ((0 : Nat) : Int) = b by omega]; exact hF.same s1, s1 _ _ hlc, [], [], upd_same, .nil, List.nil_sublist _, fun x hx => absurd hx (by simp)⟩ (fun i σ' H' _ h => sqL h.2.2.2.2.1) (fun i x σ' H' hx h => ?_) (fun σ' H' h => ?_)
    · obtain ⟨⟨x4, rfl⟩, i6, k1, hF1, hlc1, qs, ρ, hqs, hqq, sub, lit⟩ := h
      rw [List.getElem?_map] at hx
      obtain ⟨cb, hcb, rfl⟩ := Option.map_eq_some_iff.mp hx
      obtain ⟨c, hc, hcell⟩ := paired_at' hbs hcb
      have il : i < 6 := (List.getElem?_eq_some_iff.mp hc).1
      have ql := Paired.length hqq
      have rl := sub.length_le
      rw [List.length_map, List.length_take] at rl
      have tk : sixC.take (i + 1) = sixC.take i ++ [c] := by
        rw [List.take_add_one, hc]
        rfl
      have eb : b + 2 * ((i + 1 : Nat) : Int) = b + 2 * (i : Int) + 2 := by omega
      refine iName ?_
      dsimp only
      refine ⟨.ref F, rfl, .int 2, rfl, F, L, 2, b + 2 * (i : Int), rfl, hF1, by decide, by decide, by omega, fun d H2 d0 d1 k2 hF2 => ?_⟩
      refine ⟨rfl, _, rfl, ite2 (fun e => ?_) (fun e => ?_)⟩
      · have k12 := k1.trans k2
        refine iDrop' ⟨.ref Lp, rfl, .inl ⟨rfl, _, sqL (k2 _ _ nLF hqs)⟩, ?_⟩
        refine ⟨.ref cb, rfl, 1, rfl, 2, rfl, 3, rfl, by show 7 ≤ sizeLine; omega, fun l7 hl7 => ?_⟩
        have s3 := same_new (o := .lst [.int 1, .int 1, .int (-1), .int 2, .int 3, .int (-2), .int (-3)]) hl7
        have n7 : l7 ≠ F := by
          obtain ⟨_, _, _, _, e, _⟩ := hF2
          exact (ne_of_none e hl7).symm
        refine ⟨.ref F, rfl, F, L, 7, b + 2 * (i : Int) + 1, rfl, hF2.same s3, by decide, by decide, by omega, fun d2 H3 d20 d21 k3 hF3 => ?_⟩
        obtain ⟨n, rfl⟩ : ∃ n : Nat, d2 = (n : Int) := ⟨d2.toNat, by omega⟩
        have hl73 := k3 _ _ n7 (upd_same (H := H2) (a := l7) (o := .lst [.int 1, .int 1, .int (-1), .int 2, .int 3, .int (-2), .int (-3)]))
        have wt : ∃ wv : Int, ([.int 1, .int 1, .int (-1), .int 2, .int 3, .int (-2), .int (-3)] : List V)[n]? = some (.int wv) ∧ -3 ≤ wv ∧ wv ≤ 3 ∧ wv ≠ 0 := by
          match n, d21 with
          | 0, _ => exact ⟨1, rfl, by decide⟩
          | 1, _ => exact ⟨1, rfl, by decide⟩
          | 2, _ => exact ⟨-1, rfl, by decide⟩
          | 3, _ => exact ⟨2, rfl, by decide⟩
          | 4, _ => exact ⟨3, rfl, by decide⟩
          | 5, _ => exact ⟨-2, rfl, by decide⟩
          | 6, _ => exact ⟨-3, rfl, by decide⟩
          | n + 7, h => exact absurd h (by omega)
        obtain ⟨wv, hwv, w1, w2, w3⟩ := wt
        refine ⟨l7, _, _, .int wv, rfl, rfl, sqL hl73, atI_nat hwv, by show 2 ≤ sizeLine; omega, fun p hp => ?_⟩
        have s4 := same_new (o := .tup [.ref cb, .int wv]) hp
        have kall := (k2.trans (KeepF.of s3)).trans (k3.trans (KeepF.of s4))
        have hqs4 := kall _ _ nLF hqs
        refine ⟨Lp, qs.map V.ref, .ref p, rfl, rfl, hqs4, by rw [List.length_map, ql, ← List.length_map (f := (·.1))]; rw [List.length_map]; omega, ?_⟩
        have kp : KeepT _ (upd _ Lp (.lst (qs.map V.ref ++ [.ref p]))) := KeepT.put hqs4 fun _ z => nomatch z
        have kt := (kall.tup hF1).trans kp
        refine ⟨⟨_, rfl⟩, by omega, fun c' o hc' e => ?_, ?_, ?_, qs ++ [p], ρ ++ [(c, wv)], by rw [upd_same, List.map_append]; rfl, Paired.snoc (Paired.mapP hqq fun _ _ z => z.keep kt) ⟨cb, kp _ _ upd_same, (kt _ _ ((k1.tup hF) _ _ hcell))⟩, ?_, fun x hx => ?_⟩
        · rw [upd_ne (ne_of_none e hLp)]
          exact kall _ _ hc' (k1 _ _ hc' e)
        · rw [eb]
          obtain ⟨ns', a1, l1', n1, e1, e2, e3⟩ := hF3.same s4
          exact ⟨ns', a1, l1', n1, by rw [upd_ne nLF.symm]; exact e1, by rw [upd_ne nLL]; exact e2, e3.1, by have := e3.2; omega⟩
        · rw [upd_ne ncp]
          exact kall _ _ ncF hlc1
        · rw [List.map_append, tk]
          exact sub.append (List.Sublist.refl _)
        · rcases List.mem_append.mp hx with h | h
          · exact lit x h
          · rw [List.mem_singleton.mp h]
            exact ⟨w1, w2, w3⟩
      · refine ⟨⟨_, rfl⟩, by omega, k1.trans k2, by rw [eb]; exact hF2.up (by omega), k2 _ _ ncF hlc1, qs, ρ, k2 _ _ nLF hqs, Paired.mapP hqq fun _ _ z => z.keep (k2.tup hF1), sub.trans (by rw [tk]; exact List.sublist_append_left _ _), lit⟩
    · obtain ⟨⟨x4, rfl⟩, i6, k1, hF1, hlc1, qs, ρ, hqs, hqq, sub, lit⟩ := h
      dsimp only
      have bl : bs.length = 6 := Paired.length hbs
      rw [List.length_map, bl] at hF1 sub
      refine iRet ⟨.ref Lp, rfl, Lp, _, rfl, .inl ⟨sqL hqs, fun p hp => ?_⟩⟩
      have s5 := same_new (o := .tup (qs.map V.ref)) hp
      exact q _ p ρ (k1.trans (KeepF.of s5)) (hF1.same s5) ⟨qs, upd_same, Paired.mapP hqq fun _ _ z => z.keep (KeepT.of s5)⟩ ⟨sub, lit⟩
def prGroup : Pr := fun vs H Q => ∃ (F L : Addr) (b : Int), vs = [.ref F] ∧ FeedAt H F L b ∧ b ≤ 90000 ∧ ∀ H' p ns, KeepF F H H' → FeedAt H' F L (b + 3) → H' p = some (.tup (ns.map V.str)) → ns.Sublist three → ns ≠ [] → Q (.ref p) H'
theorem ok_group {f : Addr} {fd : FuncData} {k : Nat} (F : Fun K "_law_group" "_law_group" sGroup f fd)
    (FD : Fun K "_law_next" "_law_next" sDraw fD fdD) (bD : Binds K fdD ["_law_source_here", "_law_limit"] []) (gD : mg "_law_next" = some (.ref fD)) (ml : mg "len" = none) (mt : mg "tuple" = none) : FnG P w K mg base (k + 2) f fd ["_law_source_here"] prGroup := by
  have GD : FnG P w K mg base (k + 1) fD fdD ["_law_source_here", "_law_limit"] prDraw := ok_draw FD ml
  refine okG F scGroup (fun vs H Q h => ?_) (fun cdv A outer s H vs Q hr h => ?_)
  · obtain ⟨_, _, _, rfl, _⟩ := h
    rfl
  · obtain ⟨F, L, b, rfl, hF, b9, q⟩ := h
    have big := sizeBig
    have hun := hr.room.units
    refine ⟨_, pss_cons (ps_setLc (i := 1) (own := [("_law_name", 2)]) (g := gName 2) rfl scGroup.nd rfl rfl (sw_true rfl rfl rfl (by decide +kernel)) (pi_list (pe_lst (pa_cons pe_str (pa_cons pe_str (pa_cons pe_str pa_nil))))) (blkOk_by (N := NGroup) (sc := defScope sGroup) (by decide +kernel))
        (fun _ _ _ _ _ => pg_name (i := 2) scGroup.nd rfl (.inl rfl)) (fun _ _ _ _ _ => pts_one (pt_cmpR op_eq (pe_g GD hr (by rfl) gD FD.kp bD .nil (pa_cons (pv 0) (pa_cons pe_int pa_nil))) pe_int (nomark _))) (fun _ _ _ _ _ => pv 2))
      (pss_one (ps_ret (pe_ifExp (pt_cmpR (op_neD hun) (pv 1) (pe_lst pa_nil) (nomark _)) (pe_callTy call_tuple_of (by rfl) mt (by decide +kernel) (pa_cons (pv 1) pa_nil)) (pe_tup (pa_cons pe_str pa_nil))))), ?_⟩
    refine iSeq (iAsg ⟨by show 3 ≤ sizeLine; omega, fun l3 hl3 => ?_⟩)
    have s1 := same_new (o := .lst (three.map V.str)) hl3
    have n3 : l3 ≠ F := by
      obtain ⟨_, _, _, _, e, _⟩ := hF
      exact (ne_of_none e hl3).symm
    refine ⟨l3, rfl, ⟨_, sqL upd_same⟩, fun D hD => ?_⟩
    have nDF : D ≠ F := by
      obtain ⟨_, _, _, _, e, _⟩ := hF.same s1
      exact (ne_of_none e hD).symm
    have nDL : L ≠ D := by
      obtain ⟨_, _, _, _, _, e, _⟩ := hF.same s1
      exact ne_of_none e hD
    have n3D : l3 ≠ D := ne_of_none upd_same hD
    have s2 := same_new (o := .lst []) hD
    have hDn : H D = none := by
      cases e : H D with
      | none => rfl
      | some o => exact absurd ((s1 _ _ e).symm.trans hD) (fun z => nomatch z)
    refine loop_lst (K := K) (a := l3) (xs := three.map V.str) (fun i H' => i ≤ 3 ∧ KeepF F H H' ∧ FeedAt H' F L (b + (i : Int)) ∧ H' l3 = some (.lst (three.map V.str)) ∧ ∃ ns, H' D = some (.lst (ns.map V.str)) ∧ ns.Sublist (three.take i))
      ⟨by decide, KeepF.of (s1.trans s2), by rw [show b + ((0 : Nat) : Int) = b by omega]; exact (hF.same s1).same s2, s2 _ _ upd_same, [], upd_same, List.nil_sublist _⟩ (fun i H' h => sqL h.2.2.2.1) (fun i x H' hx h => ?_) (fun H' h => ?_)
    · obtain ⟨i3, k1, hF1, hl1, ns, hns, sub⟩ := h
      rw [List.getElem?_map] at hx
      obtain ⟨z, hz, rfl⟩ := Option.map_eq_some_iff.mp hx
      have il : i < 3 := (List.getElem?_eq_some_iff.mp hz).1
      have tk : three.take (i + 1) = three.take i ++ [z] := by
        rw [List.take_add_one, hz]
        rfl
      have eb : b + ((i + 1 : Nat) : Int) = b + (i : Int) + 1 := by omega
      have nl := sub.length_le
      rw [List.length_take] at nl
      refine ⟨wipe1, .ref F, rfl, F, L, 2, b + (i : Int), rfl, hF1, by decide, by decide, by omega, fun d H2 d0 d1 k2 hF2 => ?_⟩
      refine ⟨rfl, _, rfl, ?_⟩
      have hns2 := k2 _ _ nDF hns
      refine ite2 (fun e => ?_) (fun e => ?_)
      · refine ⟨.str z, rfl, _, hns2, by rw [List.length_map]; omega, by omega, fun c o hc e => ?_, ?_, ?_, ns ++ [z], by rw [upd_same, List.map_append]; rfl, ?_⟩
        · rw [upd_ne (ne_of_none e hDn)]
          exact k2 _ _ hc (k1 _ _ hc e)
        · rw [eb]
          obtain ⟨ns', a1, l1', n1, e1, e2, e3⟩ := hF2
          exact ⟨ns', a1, l1', n1, by rw [upd_ne nDF.symm]; exact e1, by rw [upd_ne nDL]; exact e2, e3⟩
        · rw [upd_ne n3D]
          exact k2 _ _ n3 hl1
        · rw [tk]
          exact sub.append (List.Sublist.refl _)
      · exact ⟨by omega, k1.trans k2, by rw [eb]; exact hF2, k2 _ _ n3 hl1, ns, hns2, sub.trans (by rw [tk]; exact List.sublist_append_left _ _)⟩
    · obtain ⟨i3, k1, hF1, hl1, ns, hns, sub⟩ := h
      refine iName ?_
      dsimp only
      refine iRet ⟨.ref D, rfl, Nat.zero_le _, fun e1 he1 => ?_⟩
      have s3 := same_new (o := .lst []) he1
      have okn : ∀ z ∈ ns, PyData.strOk z = true := fun z hz => by
        have h : (three.all fun z => PyData.strOk z) = true := by decide +kernel
        exact List.all_eq_true.mp h z (List.mem_of_mem_take (sub.subset hz))
      refine ⟨.list (ns.map PyData.str), .list [], .lst (sqL (s3 _ _ hns)) (dp_tstr ns), .lst (sqL upd_same) .nil, shaped_lstr okn, shaped_nil, _, rfl, ?_⟩
      have hF3 : FeedAt _ F L (b + 3) := hF1.same s3
      have k3 := k1.trans (KeepF.of s3)
      have sub3 : ns.Sublist three := sub
      cases ns with
      | nil =>
        refine iteF ⟨by show 1 ≤ sizeLine; omega, fun p hp => ?_⟩
        have s4 := same_new (o := .tup [.str "ann"]) hp
        exact q _ p ["ann"] (k3.trans (KeepF.of s4)) (hF3.same s4) upd_same (List.Sublist.cons_cons _ (List.nil_sublist _)) (List.cons_ne_nil _ _)
      | cons z ns =>
        refine iteT ⟨.ref D, rfl, D, _, rfl, .inl ⟨sqL (s3 _ _ hns), fun p hp => ?_⟩⟩
        have s4 := same_new (o := .tup ((z :: ns).map V.str)) hp
        exact q _ p (z :: ns) (k3.trans (KeepF.of s4)) (hF3.same s4) upd_same sub3 (List.cons_ne_nil _ _)
end
end P51
namespace P51
open PySem PySem.Spec PyProof.Rows L2 AskG Ask
abbrev lInt : Stmt := topS 22
abbrev lName : Stmt := topS 23
abbrev lRow : Stmt := topS 24
abbrev NLRow : List Str := ["_law_value", "_law_cells_here", "_law_pair", "_law_cell"]
theorem scLInt : FnScope ["_law_value"] ["_law_value"] (defScope lInt) := ⟨rfl, rfl, rfl, by decide +kernel, rfl, by decide +kernel, by decide +kernel⟩
theorem scLName : FnScope ["_law_value", "_law_char"] ["_law_value"] (defScope lName) := ⟨rfl, rfl, rfl, by decide +kernel, rfl, by decide +kernel, by decide +kernel⟩
theorem scLRow : FnScope NLRow ["_law_value"] (defScope lRow) := ⟨rfl, rfl, rfl, by decide +kernel, rfl, by decide +kernel, by decide +kernel⟩
/-! ### ascending: neighbour by neighbour, or all pairs -/
theorem adj_pair {α : Type} {lt : α → α → Bool} (tr : ∀ a b c, lt a b = true → lt b c = true → lt a c = true) (d : α) : ∀ xs : List α, ((List.range (xs.length - 1)).map fun i => lt (xs.getD i d) (xs.getD (i + 1) d)).all id = true ↔ xs.Pairwise (fun a b => lt a b = true)
  | [] => ⟨fun _ => .nil, fun _ => rfl⟩
  | [x] => ⟨fun _ => List.pairwise_singleton _ _, fun _ => rfl⟩
  | x :: y :: xs => by
    have ih := adj_pair (lt := lt) tr d (y :: xs)
    have e : (List.range ((x :: y :: xs).length - 1)) = 0 :: (List.range ((y :: xs).length - 1)).map Nat.succ := by
      show List.range (xs.length + 1) = 0 :: (List.range xs.length).map Nat.succ
      exact List.range_succ_eq_map
    rw [e, List.map_cons, List.map_map, List.all_cons, Bool.and_eq_true, List.pairwise_cons]
    have ih' : (((List.range ((y :: xs).length - 1)).map ((fun i => lt ((x :: y :: xs).getD i d) ((x :: y :: xs).getD (i + 1) d)) ∘ Nat.succ)).all id = true) ↔ (y :: xs).Pairwise (fun a b => lt a b = true) := ih
    rw [ih']
    constructor
    · rintro ⟨h1, h2⟩
      have h1 : lt x y = true := h1
      refine ⟨fun z hz => ?_, h2⟩
      cases List.mem_cons.mp hz with
      | inl e => exact e ▸ h1
      | inr m => exact tr _ _ _ h1 ((List.pairwise_cons.mp h2).1 z m)
    · rintro ⟨h1, h2⟩
      exact ⟨h1 y List.mem_cons_self, h2⟩
theorem strict_one {α : Type} {lt : α → α → Bool} (tr : ∀ a b c, lt a b = true → lt b c = true → lt a c = true) (ir : ∀ a, lt a a = false) :
    ∀ {ys zs : List α}, ys.Pairwise (fun a b => lt a b = true) → zs.Pairwise (fun a b => lt a b = true) → (∀ c, c ∈ ys ↔ c ∈ zs) → ys = zs
  | [], [], _, _, _ => rfl
  | [], z :: zs, _, _, h => absurd ((h z).mpr List.mem_cons_self) (by simp)
  | y :: ys, [], _, _, h => absurd ((h y).mp List.mem_cons_self) (by simp)
  | y :: ys, z :: zs, h1, h2, h => by
    obtain ⟨a1, a2⟩ := List.pairwise_cons.mp h1
    obtain ⟨b1, b2⟩ := List.pairwise_cons.mp h2
    have no : ∀ {a}, lt a a = true → False := fun {a} z => by
      rw [ir a] at z
      cases z
    have e : y = z := by
      rcases List.mem_cons.mp ((h y).mp List.mem_cons_self) with e | m
      · exact e
      · rcases List.mem_cons.mp ((h z).mpr List.mem_cons_self) with e | m'
        · exact e.symm
        · exact (no (tr _ _ _ (b1 y m) (a1 z m'))).elim
    subst e
    rw [strict_one (lt := lt) tr ir a2 b2 fun c => ⟨fun m => ?_, fun m => ?_⟩]
    · rcases List.mem_cons.mp ((h c).mp (List.mem_cons_of_mem _ m)) with e | m'
      · exact (no (a1 y (e ▸ m))).elim
      · exact m'
    · rcases List.mem_cons.mp ((h c).mpr (List.mem_cons_of_mem _ m)) with e | m'
      · exact (no (b1 y (e ▸ m))).elim
      · exact m'
/-- sorted(set(xs)) == xs -/
theorem sorted_same {α : Type} [DecidableEq α] {lt : α → α → Bool} (tr : ∀ a b c, lt a b = true → lt b c = true → lt a c = true) (ir : ∀ a, lt a a = false) (d : α) {xs ys : List α} (st : ys.Pairwise (fun a b => lt a b = true)) (mem : ∀ c, c ∈ ys ↔ c ∈ xs) :
    decide (xs = ys) = ((List.range (xs.length - 1)).map fun i => lt (xs.getD i d) (xs.getD (i + 1) d)).all id := by
  rw [Bool.eq_iff_iff, decide_eq_true_iff, adj_pair (lt := lt) tr d]
  exact ⟨fun e => e ▸ st, fun h => strict_one (lt := lt) tr ir h st fun c => (mem c).symm⟩
theorem eqv_cell (c e : Cell) : PyData.eqv (AskG.cellD c) (AskG.cellD e) = decide (c = e) := by
  show (c.1 == e.1 && (c.2 == e.2 && true)) = decide (c = e)
  rw [Bool.and_true, Bool.eq_iff_iff, Bool.and_eq_true, beq_iff_eq, beq_iff_eq, decide_eq_true_iff]
  exact ⟨fun h => Prod.ext h.1 h.2, fun h => by rw [h]; exact ⟨rfl, rfl⟩⟩
theorem eqv_cells : ∀ cs es : List Cell, PyData.eqvAll (cs.map AskG.cellD) (es.map AskG.cellD) = decide (cs = es)
  | [], [] => rfl
  | [], _ :: _ => rfl
  | _ :: _, [] => rfl
  | c :: cs, e :: es => by
    show (PyData.eqv (AskG.cellD c) (AskG.cellD e) && PyData.eqvAll (cs.map AskG.cellD) (es.map AskG.cellD)) = _
    rw [eqv_cell, eqv_cells cs es, Bool.eq_iff_iff, Bool.and_eq_true, decide_eq_true_iff, decide_eq_true_iff, decide_eq_true_iff, List.cons_eq_cons]
theorem shaped_cells {ws : List Cell} (h : ∀ x ∈ ws, PyData.strOk x.1 = true) : SeqAt.shaped (.list (ws.map AskG.cellD)) = true := by
  have h1 : PyData.canLayAll0 (ws.map AskG.cellD) = true := can_all fun x hx => by
    show ((PyData.strOk x.1) && (true && true)) = true
    rw [h x hx]
    rfl
  have h2 : PyData.depthAll (ws.map AskG.cellD) ≤ 1 := depth_all fun x _ => by
    show max 0 (max 0 0) + 1 ≤ 1
    decide
  show (PyData.canLayAll0 (ws.map AskG.cellD) && decide (PyData.depthAll (ws.map AskG.cellD) + 1 ≤ 64)) = true
  rw [h1, decide_eq_true (by omega)]
  rfl
def one (n : Nat) : Str := ⟨#[n]⟩
def oddS (z : Str) : List Nat := z.cps.toList.filter fun n => !decide (n ∈ lettersD.cps.toList)
theorem odd_none {z : Str} (l1 : 1 ≤ z.length) (l2 : z.length ≤ 8) : nameS z = (oddS z).isEmpty := by
  unfold nameS oddS
  rw [decide_eq_true l1, decide_eq_true l2, Bool.true_and, Bool.true_and]
  rw [Bool.eq_iff_iff, List.all_eq_true, List.isEmpty_iff, List.filter_eq_nil_iff]
  refine forall_congr' fun n => imp_congr_right fun _ => ?_
  cases decide (n ∈ lettersD.cps.toList) <;> simp
theorem eqv_nil (l : List PyData) : PyData.eqv (.list l) (.list []) = l.isEmpty := by
  cases l <;> rfl
theorem dp_strs {K : PySem.W.Frag} {H : Hp} : ∀ l : List Nat, DpAll K H (l.map fun n => V.str (one n)) (l.map fun n => PyData.str (one n))
  | [] => .nil
  | n :: l => .cons (.str _) (dp_strs l)
theorem shaped_one {l : List Nat} (h : ∀ n ∈ l, n < 0x110000) : SeqAt.shaped (.list (l.map fun n => PyData.str (one n))) = true := by
  have h1 : PyData.canLayAll0 (l.map fun n => PyData.str (one n)) = true := can_all fun n hn => by
    show PyData.strOk (one n) = true
    unfold PyData.strOk one
    simp [h n hn]
  have h2 : PyData.depthAll (l.map fun n => PyData.str (one n)) ≤ 0 := depth_all fun n _ => Nat.le_refl _
  show (PyData.canLayAll0 (l.map fun n => PyData.str (one n)) && decide (PyData.depthAll (l.map fun n => PyData.str (one n)) + 1 ≤ 64)) = true
  rw [h1, decide_eq_true (by omega)]
  rfl
section
variable {P : Program} {w : World} {K : PySem.W.Frag} {mg : Str → Option Value} {base : Heap}
theorem eq_empty {H : Hp} {L E : Addr} {l : List PyData} {Q : VK} (h : Dp K H (.ref L) (.list l)) (hs : SeqAt.shaped (.list l) = true) (hE : H E = some (.lst [])) (q : Q (.bl l.isEmpty) H) : rEqD K (.ref L) (.ref E) H Q := by
  refine ⟨.list l, .list [], h, .lst (sqL hE) .nil, hs, shaped_nil, ?_⟩
  rw [eqv_nil]
  exact q
theorem ok_lInt {f : Addr} {fd : FuncData} {k : Nat} (F : Fun K "_law_is_integer" "_law_is_integer" lInt f fd) (mi : mg "isinstance" = none) (mn : mg "int" = none) (mb : mg "bool" = none) : FnG P w K mg base (k + 1) f fd ["_law_value"] (prKind isIntD) := by
  refine okG F scLInt (fun vs H Q h => ?_) (fun cdv A outer s H vs Q hr h => ?_)
  · obtain ⟨_, _, _, rfl, _⟩ := h
    rfl
  · obtain ⟨v, d, D, rfl, hd, hs, q⟩ := h
    refine ⟨_, pss_one (ps_ret (pe_and (pe_callB call_isi (by rfl) mi (by decide +kernel) (pa_cons (pv 0) (pa_cons (pe_bltn (v := .ty "int") (by rfl) mn (by decide +kernel) rfl) pa_nil)))
      (pe_one (pe_not (pe_callB call_isi (by rfl) mi (by decide +kernel) (pa_cons (pv 0) (pa_cons (pe_bltn (v := .ty "bool") (by rfl) mb (by decide +kernel) rfl) pa_nil))))))), ?_⟩
    refine iRet (iAndV (isi_call (K := K) (i := 0) (a := tyN d) (b := "int") (r := intB d) (x := v) rfl hd.ty (kit_int d) ⟨_, rfl, ?_⟩))
    have q' := q H (Same.refl _)
    refine and_by (fun e => ?_) (fun e => ?_)
    · refine iNotV (isi_call (K := K) (i := 0) (a := tyN d) (b := "bool") (r := boolB d) (x := v) rfl hd.ty (kit_bool d) ⟨_, rfl, ?_⟩)
      unfold isIntD at q'
      rw [e, Bool.true_and] at q'
      exact q'
    · unfold isIntD at q'
      rw [e, Bool.false_and] at q'
      exact q'
theorem ok_lName {f : Addr} {fd : FuncData} {k : Nat} (F : Fun K "_law_is_name" "_law_is_name" lName f fd) (mi : mg "isinstance" = none) (mst : mg "str" = none) (ml : mg "len" = none) : FnG P w K mg base (k + 1) f fd ["_law_value"] (prKind isNameD) := by
  refine okG F scLName (fun vs H Q h => ?_) (fun cdv A outer s H vs Q hr h => ?_)
  · obtain ⟨_, _, _, rfl, _⟩ := h
    rfl
  · obtain ⟨v, d, D, rfl, hd, hs, q⟩ := h
    have hun := hr.room.units
    refine ⟨_, pss_cons (ps_if (PW.pt (pw_or (pt_not (pt_val (pe_callB call_isi (by rfl) mi (by decide +kernel) (pa_cons (pv 0) (pa_cons (pe_bltn (v := .ty "str") (by rfl) mst (by decide +kernel) rfl) pa_nil)))))
        (pw_or1 (pt_not (pt_chain op_le op_le pe_int (pe_callB call_len_str (by rfl) ml PySem.boot_len (pa_cons (pv 0) pa_nil)) pe_int))))) (pss_one (ps_ret pe_bl)) pss_nil)
      (pss_one (ps_ret (pe_cmpR (op_eqD hun) (pe_lc (own := [("_law_char", 1)]) (g := gName 1) rfl scLName.nd (pi_str (pv 0)) (blkOk_by (N := ["_law_value", "_law_char"]) (sc := defScope lName) (by decide +kernel))
        (fun _ _ _ _ _ => pg_name (i := 1) scLName.nd rfl (.inl rfl)) (fun _ _ _ _ _ => pts_one (pt_cmpR op_notIn_sign (pv 1) pe_str (by rfl))) (fun _ _ _ _ _ => pv 1)) (pe_lst pa_nil) (nomark _)))), ?_⟩
    have big := sizeBig
    refine iSeq ?_
    refine iIfS (iOr (iNot (iB (isi_call (K := K) (i := 0) (a := tyN d) (b := "str") (r := strB d) (x := v) rfl hd.ty (kit_str d) ⟨_, rfl, ?_⟩))))
    cases d with
    | str z =>
      obtain rfl := hd.str_inv
      have hz := small_str hs
      refine iteF ?_
      refine iNot ⟨.str z, rfl, z, rfl, by omega, 1, _, rfl, rfl, _, rfl, ?_⟩
      have q0 : ∀ H', Same H H' → nameS z = false → Q (.bl false) H' := fun H' sm e => by
        have h : Q (.bl (nameS z)) H' := q H' sm
        rw [e] at h
        exact h
      refine and_by (fun e1 => ?_) (fun e1 => ?_)
      · refine ⟨_, 8, rfl, rfl, _, rfl, ?_⟩
        have l1 : 1 ≤ z.length := by
          have := of_decide_eq_true e1
          omega
        by_cases l2 : z.length ≤ 8
        · rw [decide_eq_true (by omega : ((z.length : Nat) : Int) ≤ 8)]
          refine iteF ?_
          refine iNext ?_
          dsimp only
          refine iRet (iOp ?_)
          refine ⟨.str z, rfl, z, rfl, fun L hL => ?_⟩
          have sz : z.cps.size ≤ 8 := l2
          refine lc_it (walk_str (z := z)) (fun i H' => Same H H' ∧ H' L = some (.lst (((z.cps.toList.take i).filter fun n => !decide (n ∈ lettersD.cps.toList)).map fun n => V.str (one n)))) ⟨same_new hL, upd_same⟩ (fun _ _ _ _ => trivial) (fun i x H' H2 hi h hy => ?_) (fun H' h => ?_)
          · obtain ⟨rfl, n, hn, rfl⟩ := hy
            have hn' : z.cps.toList[i]? = some n := by
              rw [Array.getElem?_toList]
              exact hn
            have et : (z.cps.toList.take (i + 1)).filter (fun n => !decide (n ∈ lettersD.cps.toList)) = (z.cps.toList.take i).filter (fun n => !decide (n ∈ lettersD.cps.toList)) ++ [n].filter (fun n => !decide (n ∈ lettersD.cps.toList)) := by
              rw [List.take_add_one, hn', List.filter_append]
              rfl
            refine ⟨wipe1, _, rfl, n, lettersD, rfl, rfl, _, rfl, ?_⟩
            refine and_by (fun e => ?_) (fun e => ?_)
            · refine ⟨_, rfl, _, h.2, ?_, fun b o eo => ?_, ?_⟩
              · rw [List.length_map]
                have := List.length_filter_le (fun n => !decide (n ∈ lettersD.cps.toList)) (z.cps.toList.take i)
                rw [List.length_take] at this
                omega
              · rw [upd_ne (ne_of_none eo hL)]
                exact h.1 _ _ eo
              · rw [upd_same, et, List.filter_cons, if_pos e, List.map_append]
                rfl
            · refine ⟨h.1, ?_⟩
              rw [et, List.filter_cons, if_neg (by rw [e]; exact Bool.noConfusion), List.filter_nil, List.append_nil]
              exact h.2
          · have e3 : z.cps.toList.take z.cps.size = z.cps.toList := by
              rw [← Array.length_toList]
              exact List.take_length
            have h2 : H' L = some (.lst ((oddS z).map fun n => V.str (one n))) := by
              have := h.2
              rw [e3] at this
              exact this
            refine ⟨Nat.zero_le _, fun E hE => ?_⟩
            have sE := same_new (o := .lst []) hE
            have lay := small_strOk hs
            refine eq_empty (l := (oddS z).map fun n => PyData.str (one n)) (.lst (sqL (sE _ _ h2)) (dp_strs _)) (shaped_one fun n hn => ?_) upd_same ?_
            · have hm : n ∈ z.cps.toList := (List.mem_filter.mp hn).1
              have := Array.all_eq_true'.mp lay n (Array.mem_toList_iff.mp hm)
              exact of_decide_eq_true this
            · have e5 : ((oddS z).map fun n => PyData.str (one n)).isEmpty = nameS z := by
                rw [odd_none l1 l2]
                cases oddS z <;> rfl
              rw [e5]
              exact q _ (h.1.trans sE)
        · rw [decide_eq_false (by omega : ¬ ((z.length : Nat) : Int) ≤ 8)]
          refine iteT ?_
          refine q0 _ (Same.refl _) ?_
          unfold nameS
          rw [decide_eq_false l2, Bool.and_false, Bool.false_and]
      · refine ⟨false, rfl, iteT (q0 _ (Same.refl _) ?_)⟩
        unfold nameS
        have l1 : ¬ 1 ≤ z.length := by
          have := of_decide_eq_false e1
          omega
        rw [decide_eq_false l1, Bool.false_and, Bool.false_and]
    | _ => exact iteT (q H (Same.refl _))
end
end P51
namespace P51
open PySem PySem.Spec PyProof.Rows L2 AskG Ask
def lt64 (d : PyData) : Bool := match d with
  | .tuple ds => decide (ds.length < 64)
  | _ => true
def prKindS (f : PyData → Bool) : Pr := fun vs H Q => ∃ (v : V) (d : PyData) (D : Addr), vs = [v] ∧ DH D H v d ∧ smallD d = true ∧ lt64 d = true ∧ ∀ H', Same H H' → Q (.bl (f d)) H'
theorem not_all {ds : List PyData} {d : PyData} {f : PyData → Bool} (h : d ∈ ds) (e : f d = false) : ds.all f = false := by
  cases z : ds.all f with
  | false => rfl
  | true =>
    have := List.all_eq_true.mp z d h
    rw [e] at this
    cases this
theorem wt_of' {s : Str} {i j : Int} (h1 : nameS s = true) (h2 : 0 ≤ i) (h3 : j ≠ 0) : isWtD (.tuple [.tuple [.str s, .int i], .int j]) = true := by
  show (true && ((true && (nameS s && (true && decide (0 ≤ i)))) && (true && decide (j ≠ 0)))) = true
  rw [h1, decide_eq_true h2, decide_eq_true h3]
  rfl
theorem strOk_small {s : Str} (h : smallD (.str s) = true) : PyData.strOk s = true := by
  have h : (decide (s.length ≤ 1000) && PyData.strOk s) = true := h
  rw [Bool.and_eq_true] at h
  exact h.2
section
variable {P : Program} {w : World} {K : PySem.W.Frag} {mg : Str → Option Value} {base : Heap}
variable {fI fN fR : Addr} {fdI fdN fdR : FuncData}
theorem ok_lRow {f : Addr} {fd : FuncData} {k : Nat} (F : Fun K "_law_is_row" "_law_is_row" lRow f fd)
    (FI : Fun K "_law_is_integer" "_law_is_integer" lInt fI fdI) (bI : Binds K fdI ["_law_value"] []) (gI : mg "_law_is_integer" = some (.ref fI)) (GI : FnG P w K mg base (k + 1) fI fdI ["_law_value"] (prKind isIntD))
    (FN : Fun K "_law_is_name" "_law_is_name" lName fN fdN) (bN : Binds K fdN ["_law_value"] []) (gN : mg "_law_is_name" = some (.ref fN)) (GN : FnG P w K mg base (k + 1) fN fdN ["_law_value"] (prKind isNameD))
    (mi : mg "isinstance" = none) (mt : mg "tuple" = none) (ml : mg "len" = none) (ms : mg "sorted" = none) (mst : mg "set" = none) : FnG P w K mg base (k + 2) f fd ["_law_value"] (prKindS isRowD) := by
  refine okG F scLRow (fun vs H Q h => ?_) (fun cdv A outer s H vs Q hr h => ?_)
  · obtain ⟨_, _, _, rfl, _⟩ := h
    rfl
  · obtain ⟨v, d, D, rfl, hd, hs, h64, q⟩ := h
    have big := sizeBig
    have hun := hr.room.units
    have hu12 := Nat.lt_of_le_of_lt (Nat.add_le_add_left (by decide : 12 ≤ 64) _) hun
    refine ⟨_, pss_cons (ps_if (pt_not (pt_val (pe_callB call_isi (by rfl) mi (by decide +kernel) (pa_cons (pv 0) (pa_cons (pe_bltn (v := .ty "tuple") (by rfl) mt (by decide +kernel) rfl) pa_nil))))) (pss_one (ps_ret pe_bl)) pss_nil)
      (pss_cons (ps_set (i := 1) scLRow.nd rfl (.inl rfl) (pe_lst pa_nil))
      (pss_cons (ps_for PassesOwn.never rfl (pi_tup (pv 0)) (pg_name (i := 2) scLRow.nd rfl (.inl rfl))
        (pss_cons (ps_if (PW.pt (pw_or (pt_not (pt_val (pe_callB call_isi (by rfl) mi (by decide +kernel) (pa_cons (pv 2) (pa_cons (pe_bltn (v := .ty "tuple") (by rfl) mt (by decide +kernel) rfl) pa_nil))))) (pw_or (pt_cmpR op_ne (pe_callB call_len_seq (by rfl) ml PySem.boot_len (pa_cons (pv 2) pa_nil)) pe_int (nomark _)) (pw_or (pt_not (pt_val (pe_g GI hr (by rfl) gI FI.kp bI .nil (pa_cons (pe_ix (ix_tup : IxR _ (rIxT K)) (pv 2) pe_int (fun _ _ => rfl)) pa_nil)))) (pw_or1 (pt_cmpR op_eq (pe_ix (ix_tup : IxR _ (rIxT K)) (pv 2) pe_int (fun _ _ => rfl)) pe_int (nomark _))))))) (pss_one (ps_ret pe_bl)) pss_nil)
        (pss_cons (ps_set (i := 3) scLRow.nd rfl (.inl rfl) (pe_ix (ix_tup : IxR _ (rIxT K)) (pv 2) pe_int (fun _ _ => rfl)))
        (pss_cons (ps_if (PW.pt (pw_or (pt_not (pt_val (pe_callB call_isi (by rfl) mi (by decide +kernel) (pa_cons (pv 3) (pa_cons (pe_bltn (v := .ty "tuple") (by rfl) mt (by decide +kernel) rfl) pa_nil))))) (pw_or (pt_cmpR op_ne (pe_callB call_len_seq (by rfl) ml PySem.boot_len (pa_cons (pv 3) pa_nil)) pe_int (nomark _)) (pw_or1 (pt_not (pt_val (pe_g GN hr (by rfl) gN FN.kp bN .nil (pa_cons (pe_ix (ix_tup : IxR _ (rIxT K)) (pv 3) pe_int (fun _ _ => rfl)) pa_nil)))))))) (pss_one (ps_ret pe_bl)) pss_nil)
        (pss_cons (ps_if (PW.pt (pw_or (pt_not (pt_val (pe_g GI hr (by rfl) gI FI.kp bI .nil (pa_cons (pe_ix (ix_tup : IxR _ (rIxT K)) (pv 3) pe_int (fun _ _ => rfl)) pa_nil)))) (pw_or1 (pt_cmpR op_lt (pe_ix (ix_tup : IxR _ (rIxT K)) (pv 3) pe_int (fun _ _ => rfl)) pe_int (nomark _))))) (pss_one (ps_ret pe_bl)) pss_nil)
        (pss_one (ps_expr (pe_bm PySem.F.plainAttrs_list PySem.F.slot_list_append PySem.F.type_list_append mt_append (pv 1) (pa_cons (pv 3) pa_nil)))))))))
      (pss_one (ps_ret (pe_cmpR (op_eqD hun) (pv 1) (pe_callB (cr_sortSC rfl) (by rfl) ms (by decide +kernel) (pa_cons (pe_callTy (cr_setLK rfl hu12) (by rfl) mst (by decide +kernel) (pa_cons (pv 1) pa_nil)) pa_nil)) (nomark _)))))), ?_⟩
    refine iSeq (iIfS (iNot (iB (isi_call (K := K) (i := 0) (a := tyN d) (b := "tuple") (r := tupB d) (x := v) rfl hd.ty (kit_tup d) ⟨_, rfl, ?_⟩))))
    cases d with
    | tuple ds =>
      obtain ⟨a, xs, rfl, ha, hds⟩ := hd.tup_inv
      obtain ⟨sl, sds⟩ := small_tup hs
      have few : ds.length < 64 := of_decide_eq_true h64
      have qd : ∀ H', Same H H' → Q (.bl (ds.all isWtD && ascD (keys (rowOfD ds)))) H' := q
      have qF : ∀ {i : Nat} {e : PyData} {H'}, ds[i]? = some e → isWtD e = false → Same H H' → Q (.bl false) H' := fun {i e H'} he hw sm => by
        have z := qd H' sm
        rw [not_all (List.mem_of_getElem? he) hw, Bool.false_and] at z
        exact z
      refine iteF (iNext ?_)
      dsimp only
      refine iSeq (iAsg ⟨Nat.zero_le _, fun Lc hLc => ?_⟩)
      have s1 := same_new (o := .lst []) hLc
      refine iName ?_
      dsimp only
      refine iSeq ?_
      refine ⟨.ref a, rfl, a, rfl, ⟨_, sqT (s1 _ _ ha)⟩, ?_⟩
      refine for_tup (xs := xs) (fun i σ' H' => (∃ x2 x3, σ' = [some (.ref a), some (.ref Lc), x2, x3]) ∧ Same H H' ∧ (ds.take i).all isWtD = true ∧ ∃ bs, H' Lc = some (.lst (bs.map V.ref)) ∧ Paired (CellAt H') bs ((ds.take i).map cellOfD))
        ⟨⟨none, none, rfl⟩, s1, rfl, [], upd_same, .nil⟩ (fun i σ' H' _ h => sqT (h.2.1 _ _ ha)) (fun i x σ' H' hx h => ?_) (fun σ' H' h => ?_)
      · obtain ⟨⟨x2, x3, rfl⟩, sm, allw, bs, hbs, hbb⟩ := h
        obtain ⟨e, he, hde⟩ := hds.at hx
        have il : i < ds.length := (List.getElem?_eq_some_iff.mp he).1
        have se := smallDs_at sds he
        have hde' := hde.keep (KeepD.of sm)
        refine iName ?_
        dsimp only
        refine iSeq (iIfS (iOr (iNot (iB (isi_call (K := K) (i := 2) (a := tyN e) (b := "tuple") (r := tupB e) (x := x) rfl hde'.ty (kit_tup e) ⟨_, rfl, ?_⟩)))))
        cases e with
        | tuple es =>
          obtain ⟨p, ys, rfl, hp, hes⟩ := hde'.tup_inv
          obtain ⟨_, ses⟩ := small_tup se
          refine iteF (iOr ⟨.ref p, rfl, p, ys, rfl, .inr (sqT hp), rfl, _, rfl, ?_⟩)
          have yl := hes.len
          by_cases l2 : es.length = 2
          · have eb : (!decide (V.int (ys.length : Int) = V.int 2)) = false := by
              rw [yl, l2]
              rfl
            rw [eb]
            refine iteF ?_
            obtain ⟨x0, x1, rfl⟩ : ∃ x0 x1, es = [x0, x1] := match es, l2 with
              | [x0, x1], _ => ⟨x0, x1, rfl⟩
            obtain ⟨p', v0, v1, ep, hp', h0, h1⟩ := DH.pair_inv hde'
            cases ep
            have sx0 : smallD x0 = true := smallDs_at (i := 0) ses rfl
            have sx1 : smallD x1 = true := smallDs_at (i := 1) ses rfl
            refine iOr (iNot (iB ⟨.ref p, rfl, p, _, _, _, rfl, rfl, sqT hp', atI_nat (j := 1) rfl, v1, x1, D, rfl, h1, sx1, fun H2 s2 => ⟨_, rfl, ?_⟩⟩))
            cases ei : isIntD x1 with
            | false => exact iteT (qF he (by show (true && (isCellD x0 && (isIntD x1 && nzD x1))) = false; rw [ei, Bool.false_and, Bool.and_false]; rfl) (sm.trans s2))
            | true =>
              obtain ⟨j, rfl⟩ := int_of ei
              obtain rfl := h1.int_inv
              have hp2 := s2 _ _ hp'
              refine iteF ⟨.ref p, rfl, p, _, _, _, rfl, rfl, sqT hp2, atI_nat (j := 1) rfl, rfl, _, rfl, ?_⟩
              by_cases j0 : j = 0
              · subst j0
                exact iteT (qF he (by show (true && (isCellD x0 && (true && decide ((0 : Int) ≠ 0)))) = false; rw [decide_eq_false (fun z => z rfl), Bool.and_false, Bool.and_false]; rfl) (sm.trans s2))
              · have ej : decide (V.int j = V.int 0) = false := decide_eq_false fun z => j0 (V.int.inj z)
                rw [ej]
                refine iteF (iNext ?_)
                dsimp only
                have h0' := h0.keep (KeepD.of s2)
                refine iSeq (iAsg ⟨.ref p, rfl, p, _, _, _, rfl, rfl, sqT hp2, atI_nat (j := 0) rfl, ?_⟩)
                refine iName ?_
                dsimp only
                have sm2 := sm.trans s2
                have hbs2 := s2 _ _ hbs
                have hbb2 := Paired.mapP hbb fun _ _ z => z.keep (KeepT.of s2)
                refine iSeq (iIfS (iOr (iNot (iB (isi_call (K := K) (i := 3) (a := tyN x0) (b := "tuple") (r := tupB x0) (x := v0) rfl h0'.ty (kit_tup x0) ⟨_, rfl, ?_⟩)))))
                have wf : isCellD x0 = false → isWtD (.tuple [x0, .int j]) = false := fun z => by
                  show (true && (isCellD x0 && (true && decide (j ≠ 0)))) = false
                  rw [z, Bool.false_and]
                  rfl
                cases x0 with
                | tuple gs =>
                  obtain ⟨c, zs, rfl, hc, hgs⟩ := h0'.tup_inv
                  obtain ⟨_, sgs⟩ := small_tup sx0
                  refine iteF (iOr ⟨.ref c, rfl, c, zs, rfl, .inr (sqT hc), rfl, _, rfl, ?_⟩)
                  have zl := hgs.len
                  by_cases l3 : gs.length = 2
                  · have eb3 : (!decide (V.int (zs.length : Int) = V.int 2)) = false := by
                      rw [zl, l3]
                      rfl
                    rw [eb3]
                    refine iteF ?_
                    obtain ⟨y0, y1, rfl⟩ : ∃ y0 y1, gs = [y0, y1] := match gs, l3 with
                      | [y0, y1], _ => ⟨y0, y1, rfl⟩
                    obtain ⟨c', u0, u1, ec, hc', g0, g1⟩ := DH.pair_inv h0'
                    cases ec
                    have sy0 : smallD y0 = true := smallDs_at (i := 0) sgs rfl
                    have sy1 : smallD y1 = true := smallDs_at (i := 1) sgs rfl
                    have cf : (isNameD y0 && isNumD y1) = false → isCellD (.tuple [y0, y1]) = false := fun z => by
                      show (true && (isNameD y0 && isNumD y1)) = false
                      rw [z]
                      rfl
                    refine iNot (iB ⟨.ref c, rfl, c, _, _, _, rfl, rfl, sqT hc', atI_nat (j := 0) rfl, u0, y0, D, rfl, g0, sy0, fun H3 s3 => ⟨_, rfl, ?_⟩⟩)
                    have hc3 := s3 _ _ hc'
                    have sm3 := sm2.trans s3
                    cases en : isNameD y0 with
                    | false => exact iteT (qF he (wf (cf (by rw [en, Bool.false_and]))) sm3)
                    | true =>
                      obtain ⟨nm, rfl⟩ := name_of en
                      obtain rfl := g0.str_inv
                      refine iteF (iNext ?_)
                      dsimp only
                      refine iSeq (iIfS (iOr (iNot (iB ⟨.ref c, rfl, c, _, _, _, rfl, rfl, sqT hc3, atI_nat (j := 1) rfl, u1, y1, D, rfl, g1.keep (KeepD.of s3), sy1, fun H4 s4 => ⟨_, rfl, ?_⟩⟩))))
                      have sm4 := sm3.trans s4
                      have hc4 := s4 _ _ hc3
                      cases ey : isIntD y1 with
                      | false => exact iteT (qF he (wf (cf (by rw [en, Bool.true_and]; show (isIntD y1 && geD y1) = false; rw [ey, Bool.false_and]))) sm4)
                      | true =>
                        obtain ⟨dy, rfl⟩ := int_of ey
                        obtain rfl := g1.int_inv
                        refine iteF ⟨.ref c, rfl, c, _, _, _, rfl, rfl, sqT hc4, atI_nat (j := 1) rfl, dy, 0, rfl, rfl, _, rfl, ?_⟩
                        by_cases d0 : dy < 0
                        · rw [decide_eq_true d0]
                          exact iteT (qF he (wf (cf (by rw [en, Bool.true_and]; show (true && decide (0 ≤ dy)) = false; rw [decide_eq_false (by omega)]; rfl))) sm4)
                        · rw [decide_eq_false d0]
                          refine iteF (iNext ?_)
                          dsimp only
                          have hbs4 := s4 _ _ (s3 _ _ hbs2)
                          have bl := Paired.length hbb
                          rw [List.length_map, List.length_take] at bl
                          refine iDrop' ⟨.ref Lc, rfl, .inl ⟨rfl, _, sqL hbs4⟩, .ref c, rfl, Lc, bs.map V.ref, .ref c, rfl, rfl, hbs4, by rw [List.length_map]; omega, ?_⟩
                          have kp : KeepT H4 (upd H4 Lc (.lst (bs.map V.ref ++ [.ref c]))) := KeepT.put hbs4 fun _ z => nomatch z
                          have wt : isWtD (.tuple [.tuple [.str nm, .int dy], .int j]) = true := wt_of' en (by omega) j0
                          refine ⟨⟨_, _, rfl⟩, fun b o eo => ?_, ?_, bs ++ [c], by rw [upd_same, List.map_append]; rfl, ?_⟩
                          · rw [upd_ne (ne_of_none eo hLc)]
                            exact sm4 _ _ eo
                          · rw [List.take_add_one, he, List.all_append, allw]
                            show (true && (isWtD _ && true)) = true
                            rw [wt]
                            rfl
                          · rw [List.take_add_one, he, List.map_append]
                            exact Paired.snoc (Paired.mapP hbb2 fun _ _ z => (z.keep (KeepT.of (s3.trans s4))).keep kp) (kp _ _ hc4)
                  · have eb3 : (!decide (V.int (zs.length : Int) = V.int 2)) = true := by
                      rw [zl, decide_eq_false (fun z => l3 (by have := V.int.inj z; omega))]
                      rfl
                    rw [eb3]
                    refine iteT (qF he (wf ?_) sm2)
                    show (decide (gs.length = 2) && _) = false
                    rw [decide_eq_false l3, Bool.false_and]
                | _ => exact iteT (qF he (wf rfl) sm2)
          · have eb : (!decide (V.int (ys.length : Int) = V.int 2)) = true := by
              rw [yl, decide_eq_false (fun z => l2 (by have := V.int.inj z; omega))]
              rfl
            rw [eb]
            refine iteT (qF he ?_ sm)
            show (decide (es.length = 2) && _) = false
            rw [decide_eq_false l2, Bool.false_and]
        | _ => exact iteT (qF he rfl sm)
      · obtain ⟨⟨x2, x3, rfl⟩, sm, allw, bs, hbs, hbb⟩ := h
        dsimp only
        rw [hds.len, List.take_length] at allw hbb
        have bl := Paired.length hbb
        rw [List.length_map] at bl
        have strs' : ∀ c ∈ ds.map cellOfD, PyData.strOk c.1 = true := fun c hc => by
          obtain ⟨e, he, rfl⟩ := List.mem_map.mp hc
          obtain ⟨s0, i0, j0, rfl⟩ := wt_of (List.all_eq_true.mp allw e he)
          obtain ⟨i, hi⟩ := List.getElem?_of_mem he
          have z := smallDs_at sds hi
          obtain ⟨_, z1⟩ := small_tup z
          have z2 := smallDs_at (i := 0) z1 rfl
          obtain ⟨_, z3⟩ := small_tup z2
          exact strOk_small (smallDs_at (i := 0) z3 rfl)
        have q1 : ∀ H', Same H H' → Q (.bl (ascD (ds.map cellOfD))) H' := fun H' s => by
          have z := qd H' s
          have ek : keys (rowOfD ds) = ds.map cellOfD := by
            unfold keys rowOfD
            rw [List.map_map]
            rfl
          rw [allw, Bool.true_and, ek] at z
          exact z
        generalize ds.map cellOfD = cs at hbb strs' q1 bl
        have hb2 : Paired (CellAt H') bs cs := hbb
        obtain ⟨ks, hks, kc, km⟩ : ∃ ks : List (Addr × NestedKey), ks.map (fun p => V.ref p.1) = bs.map V.ref ∧ CellsAt H' ks ∧ ks.map Prod.snd = cs.map cellK := by
          clear q1 strs' hbs bl
          induction hb2 with
          | nil => exact ⟨[], rfl, fun p hp => absurd hp (by simp), rfl⟩
          | @cons b c _ _ h t ih =>
            obtain ⟨ks, e1, e2, e3⟩ := ih t
            refine ⟨(b, cellK c) :: ks, by rw [List.map_cons, List.map_cons, e1], fun p hp => ?_, by rw [List.map_cons, List.map_cons, e3]⟩
            cases List.mem_cons.mp hp with
            | inl e =>
              rw [e]
              exact ⟨c, rfl, h⟩
            | inr m => exact e2 p m
        have kl : ks.length = bs.length := by
          have := congrArg List.length hks
          rw [List.length_map, List.length_map] at this
          exact this
        refine iRet (iOp ⟨.ref Lc, rfl, .ref Lc, rfl, Lc, ks, rfl, by rw [hks]; exact sqL hbs, kc.keys, by omega, fun Sa Lm hSa mm sub => ?_⟩)
        have s5 := same_new (o := SetKO w Sa Lm) hSa
        have cat : CellsAt (upd H' Sa (SetKO w Sa Lm)) Lm := fun p hp => by
          obtain ⟨c, e1, e2⟩ := kc p (sub p hp)
          exact ⟨c, e1, s5 _ _ e2⟩
        refine ⟨Sa, Lm, rfl, upd_same, cat, fun ys es p my ly sy py hp => ?_⟩
        have s6 := same_new (o := .lst (es.map V.ref)) hp
        have mem : ∀ c, c ∈ ys ↔ c ∈ cs := fun c => by
          rw [my, mm, km]
          exact ⟨fun m => by
            obtain ⟨c', hc', e⟩ := List.mem_map.mp m
            rw [← cellK_inj e]
            exact hc', fun m => List.mem_map_of_mem m⟩
        have s56 := s5.trans s6
        have strY : ∀ c ∈ ys, PyData.strOk c.1 = true := fun c hc => strs' c ((mem c).mp hc)
        refine ⟨.list (cs.map AskG.cellD), .list (ys.map AskG.cellD), .lst (sqL (s56 _ _ hbs)) (dp_all (f := AskG.cellD) (R := AskG.CellAt _) (fun _ _ z => dp_cell (z.keep (KeepT.of s56))) hbb), .lst (sqL upd_same) (dp_all (f := AskG.cellD) (R := AskG.CellAt _) (fun _ _ z => dp_cell (z.keep (KeepT.of s6))) py), shaped_cells strs', shaped_cells strY, ?_⟩
        have ev : PyData.eqv (.list (cs.map AskG.cellD)) (.list (ys.map AskG.cellD)) = ascD cs := by
          show PyData.eqvAll (cs.map AskG.cellD) (ys.map AskG.cellD) = _
          rw [eqv_cells]
          exact sorted_same (lt := ltC) (fun _ _ _ => ltC_trans) ltC_irr c0 sy mem
        rw [ev]
        exact q1 _ (sm.trans s56)
    | _ => exact iteT (q H (Same.refl _))
end
end P51
namespace P51
open PySem PySem.Spec PyProof.Rows L2 AskG Ask
abbrev lGuard : Stmt := topS 26
abbrev NLG : List Str := ["_law_value", "_law_name"]
theorem scLGuard : FnScope NLG ["_law_value"] (defScope lGuard) := ⟨rfl, rfl, rfl, by decide +kernel, rfl, by decide +kernel, by decide +kernel⟩
/-- tuples of fewer than 64 items, one below the other -/
def tiny3 (d : PyData) : Bool := lt64 (itemD d 0) && lt64 (itemD d 1)
def prGuard : Pr := fun vs H Q => ∃ (v : V) (d : PyData) (D : Addr), vs = [v] ∧ DH D H v d ∧ smallD d = true ∧ tiny3 d = true ∧ d.depth ≤ 30 ∧ ∀ H', Same H H' → Q (.bl (guardD d)) H'
theorem shaped_any {es : List PyData} (h : ∀ e ∈ es, smallD e = true ∧ e.depth ≤ 30) : SeqAt.shaped (.list es) = true := by
  have h1 : PyData.canLayAll0 es = true := by
    have := can_all (f := id) (l := es) fun e he => small_lay (h e he).1
    rw [List.map_id] at this
    exact this
  have h2 : PyData.depthAll es ≤ 30 := by
    have := depth_all (f := id) (l := es) (k := 30) fun e he => (h e he).2
    rw [List.map_id] at this
    exact this
  show (PyData.canLayAll0 es && decide (PyData.depthAll es + 1 ≤ 64)) = true
  rw [h1, decide_eq_true (by omega)]
  rfl
theorem iOrV {ta tb : TE} {σ : L2.St} {H : Hp} {Q : VK} (h : ta σ H fun x H1 => ∃ c, x = .bl c ∧ if c = true then Q (.bl true) H1 else tb σ H1 Q) : tOrV ta tb σ H Q := h
theorem eqv_strs : ∀ xs ys : List Str, PyData.eqvAll (xs.map PyData.str) (ys.map PyData.str) = decide (xs = ys)
  | [], [] => rfl
  | [], _ :: _ => rfl
  | _ :: _, [] => rfl
  | x :: xs, y :: ys => by
    show ((x == y) && PyData.eqvAll (xs.map PyData.str) (ys.map PyData.str)) = _
    rw [eqv_strs xs ys, Bool.eq_iff_iff, Bool.and_eq_true, beq_iff_eq, decide_eq_true_iff, decide_eq_true_iff, List.cons_eq_cons]
def ltStr (a b : Str) : Bool := decide (a.cps.toList < b.cps.toList)
theorem ltStr_trans (a b c : Str) (h1 : ltStr a b = true) (h2 : ltStr b c = true) : ltStr a c = true := decide_eq_true (List.lt_trans (of_decide_eq_true h1) (of_decide_eq_true h2))
theorem ltStr_irr (a : Str) : ltStr a a = false := decide_eq_false (List.lt_irrefl _)
theorem depth_item {x y z : PyData} {n : Nat} (h : (PyData.tuple [x, y, z]).depth ≤ n + 1) : x.depth ≤ n ∧ y.depth ≤ n ∧ z.depth ≤ n := by
  have h : max x.depth (max y.depth (max z.depth 0)) + 1 ≤ n + 1 := h
  omega
theorem depth_in : ∀ {ds : List PyData} {e : PyData}, e ∈ ds → e.depth ≤ PyData.depthAll ds
  | d :: ds, e, h => by
    show e.depth ≤ max d.depth (PyData.depthAll ds)
    cases List.mem_cons.mp h with
    | inl z => rw [z]; omega
    | inr m => have := depth_in m; omega
section
variable {P : Program} {w : World} {K : PySem.W.Frag} {mg : Str → Option Value} {base : Heap}
variable {fI fN fR : Addr} {fdI fdN fdR : FuncData}
theorem isi_ix {i n : Nat} {σ : L2.St} {H : Hp} {p : Addr} {xs : List V} {x : V} {a b : String} {r : Bool} {Q : VK} (hi : σ[i]? = some (some (.ref p))) (hp : SqT K H p xs) (hx : xs[n]? = some x) (h : TyX K H x (.type a)) (k : kitB a b = some r) (q : Q (.bl r) H) :
    tCB (rIsi K) (tCons (tOp (rIxT K) (tVar i) (tC (.int (n : Int)))) (tCons (tC (.ty b)) tNil)) σ H Q :=
  ⟨.ref p, hi, p, xs, _, x, rfl, rfl, hp, atI_nat hx, isi_yes h k q⟩
theorem ok_lGuard {f : Addr} {fd : FuncData} {k : Nat} (F : Fun K "_law_is_guard" "_law_is_guard" lGuard f fd)
    (FI : Fun K "_law_is_integer" "_law_is_integer" lInt fI fdI) (bI : Binds K fdI ["_law_value"] []) (gI : mg "_law_is_integer" = some (.ref fI)) (GI : FnG P w K mg base (k + 2) fI fdI ["_law_value"] (prKind isIntD))
    (FN : Fun K "_law_is_name" "_law_is_name" lName fN fdN) (bN : Binds K fdN ["_law_value"] []) (gN : mg "_law_is_name" = some (.ref fN)) (GN : FnG P w K mg base (k + 2) fN fdN ["_law_value"] (prKind isNameD))
    (FR : Fun K "_law_is_row" "_law_is_row" lRow fR fdR) (bR : Binds K fdR ["_law_value"] []) (gR : mg "_law_is_row" = some (.ref fR)) (GR : FnG P w K mg base (k + 2) fR fdR ["_law_value"] (prKindS isRowD))
    (mi : mg "isinstance" = none) (mt : mg "tuple" = none) (ml : mg "len" = none) (ms : mg "sorted" = none) (mst : mg "set" = none) (mls : mg "list" = none) : FnG P w K mg base (k + 3) f fd ["_law_value"] prGuard := by
  refine okG F scLGuard (fun vs H Q h => ?_) (fun cdv A outer s H vs Q hr h => ?_)
  · obtain ⟨_, _, _, rfl, _⟩ := h
    rfl
  · obtain ⟨v, d, D, rfl, hd, hs, ht, dp, q⟩ := h
    have big := sizeBig
    have hun := hr.room.units
    refine ⟨_, pss_cons (ps_if (PW.pt (pw_or (pt_not (pt_val (pe_callB call_isi (by rfl) mi (by decide +kernel) (pa_cons (pv 0) (pa_cons (pe_bltn (v := .ty "tuple") (by rfl) mt (by decide +kernel) rfl) pa_nil))))) (pw_or (pt_cmpR op_ne (pe_callB call_len_seq (by rfl) ml PySem.boot_len (pa_cons (pv 0) pa_nil)) pe_int (nomark _)) (pw_or (pt_not (pt_val (pe_callB call_isi (by rfl) mi (by decide +kernel) (pa_cons (pe_ix (ix_tup : IxR _ (rIxT K)) (pv 0) pe_int (fun _ _ => rfl)) (pa_cons (pe_bltn (v := .ty "tuple") (by rfl) mt (by decide +kernel) rfl) pa_nil))))) (pw_or1 (pt_cmpR (op_eqD hun) (pe_ix (ix_tup : IxR _ (rIxT K)) (pv 0) pe_int (fun _ _ => rfl)) (pe_tup pa_nil) (nomark _))))))) (pss_one (ps_ret pe_bl)) pss_nil)
      (pss_cons (ps_if (PW.pt (pw_or (pt_cmpR (op_neD hun) (pe_lc (own := [("_law_name", 1)]) (g := gName 1) rfl scLGuard.nd (pi_tup (pe_ix (ix_tup : IxR _ (rIxT K)) (pv 0) pe_int (fun _ _ => rfl))) (blkOk_by (N := NLG) (sc := defScope lGuard) (by decide +kernel)) (fun _ _ _ _ _ => pg_name (i := 1) scLGuard.nd rfl (.inl rfl)) (fun _ _ _ _ _ => pts_one (pt_not (pt_val (pe_g GN hr (by rfl) gN FN.kp bN .nil (pa_cons (pv 1) pa_nil))))) (fun _ _ _ _ _ => pv 1)) (pe_lst pa_nil) (nomark _))
        (pw_or1 (pt_cmpR (op_neD hun) (pe_callTy call_list_of (by rfl) mls (by decide +kernel) (pa_cons (pe_ix (ix_tup : IxR _ (rIxT K)) (pv 0) pe_int (fun _ _ => rfl)) pa_nil)) (pe_callB (cr_sortSS rfl) (by rfl) ms (by decide +kernel) (pa_cons (pe_callTy (cr_setTS rfl) (by rfl) mst (by decide +kernel) (pa_cons (pe_ix (ix_tup : IxR _ (rIxT K)) (pv 0) pe_int (fun _ _ => rfl)) pa_nil)) pa_nil)) (nomark _))))) (pss_one (ps_ret pe_bl)) pss_nil)
      (pss_one (ps_ret (pe_and (pe_g GR hr (by rfl) gR FR.kp bR .nil (pa_cons (pe_ix (ix_tup : IxR _ (rIxT K)) (pv 0) pe_int (fun _ _ => rfl)) pa_nil)) (pe_and (pe_g GI hr (by rfl) gI FI.kp bI .nil (pa_cons (pe_ix (ix_tup : IxR _ (rIxT K)) (pv 0) pe_int (fun _ _ => rfl)) pa_nil))
        (pe_one (pe_or (pe_cmpR op_eq (pe_ix (ix_tup : IxR _ (rIxT K)) (pv 0) pe_int (fun _ _ => rfl)) pe_int (nomark _)) (pe_one (pe_cmpR op_gt (pe_ix (ix_tup : IxR _ (rIxT K)) (pv 0) pe_int (fun _ _ => rfl)) pe_int (nomark _)))))))))), ?_⟩
    refine iSeq (iIfS (iOr (iNot (iB (isi_call (K := K) (i := 0) (a := tyN d) (b := "tuple") (r := tupB d) (x := v) rfl hd.ty (kit_tup d) ⟨_, rfl, ?_⟩)))))
    cases d with
    | tuple es =>
      obtain ⟨a, xs, rfl, ha, hes⟩ := hd.tup_inv
      obtain ⟨_, ses⟩ := small_tup hs
      refine iteF (iOr ⟨.ref a, rfl, a, xs, rfl, .inr (sqT ha), rfl, _, rfl, ?_⟩)
      have xl := hes.len
      by_cases l3 : es.length = 3
      · have eb : (!decide (V.int (xs.length : Int) = V.int 3)) = false := by
          rw [xl, l3]
          rfl
        rw [eb]
        obtain ⟨x, y, z, rfl⟩ : ∃ x y z, es = [x, y, z] := match es, l3 with
          | [x, y, z], _ => ⟨x, y, z, rfl⟩
        obtain ⟨a', p1, p2, p3, ep, ha', h1, h2, h3⟩ := DH.trip_inv hd
        cases ep
        have sx : smallD x = true := smallDs_at (i := 0) ses rfl
        have sy' : smallD y = true := smallDs_at (i := 1) ses rfl
        have sz : smallD z = true := smallDs_at (i := 2) ses rfl
        obtain ⟨dx, dy, dz⟩ := depth_item (n := 29) dp
        have ht : (lt64 x && lt64 y) = true := ht
        rw [Bool.and_eq_true] at ht
        have q1 : ∀ H', Same H H' → Q (.bl (accD x && (isRowD y && (isNumD z && ne1D z)))) H' := fun H' s => q H' s
        have qF : ∀ {H'}, accD x = false → Same H H' → Q (.bl false) H' := fun {H'} e s => by
          have := q1 H' s
          rw [e, Bool.false_and] at this
          exact this
        refine iteF (iOr (iNot (iB (isi_ix (K := K) (i := 0) (n := 0) (a := tyN x) (b := "tuple") (r := tupB x) (x := p1) rfl (sqT ha') rfl h1.ty (kit_tup x) ⟨_, rfl, ?_⟩))))
        cases x with
        | tuple gs =>
          obtain ⟨g, vs, rfl, hg, hgs⟩ := h1.tup_inv
          obtain ⟨sl, sgs⟩ := small_tup sx
          have few : gs.length < 64 := of_decide_eq_true ht.1
          have vl := hgs.len
          have dg : ∀ e ∈ gs, smallD e = true ∧ e.depth ≤ 30 := fun e he => by
            obtain ⟨i, hi⟩ := List.getElem?_of_mem he
            have := depth_in he
            have dx : PyData.depthAll gs + 1 ≤ 29 := dx
            exact ⟨smallDs_at sgs hi, by omega⟩
          refine iteF ⟨.ref a, rfl, a, _, _, _, rfl, rfl, sqT ha', atI_nat (j := 0) rfl, Nat.zero_le _, fun e1 he1 => ?_⟩
          have s1 := same_new (o := .tup []) he1
          have hg1 := s1 _ _ hg
          refine ⟨.tuple gs, .tuple [], (h1.keep (KeepD.of s1)).dp, .tup (sqT upd_same) .nil, ?_, shaped_t0, _, rfl, ?_⟩
          · have := shaped_any dg
            exact this
          rw [eqv_t0]
          cases ee : gs.isEmpty with
          | true => exact iteT (qF (by show (gs.all isNameD && (!gs.isEmpty && _)) = false; rw [ee]; show (gs.all isNameD && (false && _)) = false; rw [Bool.false_and, Bool.and_false]) s1)
          | false =>
            refine iteF (iNext ?_)
            dsimp only
            refine iSeq (iIfS (iOr ?_))
            refine ⟨.ref a, rfl, a, _, _, _, rfl, rfl, sqT (s1 _ _ ha'), atI_nat (j := 0) rfl, g, rfl, ⟨_, sqT hg1⟩, fun L hL => ?_⟩
            have hgL : DHs L (upd H e1 (.tup [])) vs gs := (hgs.keep (KeepD.of s1)).shun hL
            refine loop_tup (K := K) (a := g) (xs := vs) (fun i H' => Same (upd H e1 (.tup [])) H' ∧ ∃ ws, H' L = some (.lst ws) ∧ DHs L H' ws ((gs.take i).filter fun e => !isNameD e)) ⟨same_new hL, [], upd_same, by rw [List.take_zero]; exact .nil⟩ (fun i H' h => sqT (h.1 _ _ hg1)) (fun i x H' hx h => ?_) (fun H' h => ?_)
            · obtain ⟨sm, ws, hws, hwd⟩ := h
              obtain ⟨e, he, hde⟩ := hgL.at hx
              have se := smallDs_at sgs he
              have hde' := hde.keep (KeepD.of sm)
              have wl := hwd.len
              have fl := List.length_filter_le (fun e => !isNameD e) (gs.take i)
              rw [List.length_take] at fl
              have tk : (gs.take (i + 1)).filter (fun e => !isNameD e) = (gs.take i).filter (fun e => !isNameD e) ++ [e].filter (fun e => !isNameD e) := by
                rw [List.take_add_one, he, List.filter_append]
                rfl
              refine ⟨wipe1, iNot (iB ⟨x, rfl, x, e, L, rfl, hde', se, fun H2 s2 => ⟨_, rfl, ?_⟩⟩)⟩
              cases en : isNameD e with
              | true =>
                refine iteF ⟨sm.trans s2, ws, s2 _ _ hws, ?_⟩
                rw [tk, List.filter_cons, en]
                show DHs L H2 ws (_ ++ [])
                rw [List.append_nil]
                exact hwd.keep (KeepD.of s2)
              | false =>
                refine iteT ⟨x, rfl, ws, s2 _ _ hws, by omega, fun b o eo => ?_, ws ++ [x], upd_same, ?_⟩
                · rw [upd_ne (ne_of_none eo hL)]
                  exact s2 _ _ (sm _ _ eo)
                · rw [tk, List.filter_cons, en]
                  have kd : KeepD L H2 (upd H2 L (.lst (ws ++ [x]))) := keepD_put (s2 _ _ hws)
                  exact ((hwd.keep (KeepD.of s2)).keep kd).app (.cons ((hde'.keep (KeepD.of s2)).keep kd) .nil)
            · obtain ⟨sm, ws, hws, hwd⟩ := h
              rw [vl, List.take_length] at hwd
              have okf : ∀ e ∈ gs.filter (fun e => !isNameD e), smallD e = true ∧ e.depth ≤ 30 := fun e he => dg e (List.mem_filter.mp he).1
              refine ⟨Nat.zero_le _, fun e2 he2 => ?_⟩
              have s3 := same_new (o := .lst []) he2
              refine ⟨.list (gs.filter fun e => !isNameD e), .list [], .lst (sqL (s3 _ _ hws)) (hwd.keep (KeepD.of s3)).dp, .lst (sqL upd_same) .nil, shaped_any okf, shaped_nil, _, rfl, ?_⟩
              rw [eqv_nil]
              have sm3 := (s1.trans sm).trans s3
              cases ef : (gs.filter fun e => !isNameD e).isEmpty with
              | false =>
                refine iteT (qF ?_ sm3)
                have an : gs.all isNameD = false := by
                  cases z : gs.all isNameD with
                  | false => rfl
                  | true =>
                    have : gs.filter (fun e => !isNameD e) = [] := List.filter_eq_nil_iff.mpr fun e he => by
                      rw [List.all_eq_true.mp z e he]
                      exact Bool.noConfusion
                    rw [this] at ef
                    cases ef
                show (gs.all isNameD && _) = false
                rw [an, Bool.false_and]
              | true =>
                have an : gs.all isNameD = true := List.all_eq_true.mpr fun e he => by
                  have := List.filter_eq_nil_iff.mp (List.isEmpty_iff.mp ef) e he
                  cases z : isNameD e with
                  | true => rfl
                  | false =>
                    rw [z] at this
                    exact absurd rfl this
                obtain ⟨ex, ed⟩ := names_of hgs an
                have accE : accD (.tuple gs) = ascS (gs.map strOf) := by
                  show (gs.all isNameD && (!gs.isEmpty && ascS (gs.map strOf))) = _
                  rw [an, ee]
                  rfl
                have so : ∀ z ∈ gs.map strOf, PyData.strOk z = true := by
                  rw [ed] at sgs
                  exact strOk_of sgs
                have zl : (gs.map strOf).length = gs.length := List.length_map _
                rw [ex] at hg
                generalize gs.map strOf = zs at accE so hg zl ex ed
                refine iteF ?_
                refine ⟨.ref a, rfl, a, _, _, _, rfl, rfl, sqT (sm3 _ _ ha'), atI_nat (j := 0) rfl, g, zs.map V.str, rfl, .inr (sqT (sm3 _ _ hg)), fun l1 hl1 => ?_⟩
                have s4 := same_new (o := .lst (zs.map V.str)) hl1
                have sm4 := sm3.trans s4
                refine ⟨.ref a, rfl, a, _, _, _, rfl, rfl, sqT (sm4 _ _ ha'), atI_nat (j := 0) rfl, g, zs, rfl, sqT (sm4 _ _ hg), by omega, fun Sa ns hSa mn nd => ?_⟩
                have s5 := same_new (o := SetSO P w Sa ns) hSa
                refine ⟨Sa, ns, rfl, upd_same, fun ys p my sy hp => ?_⟩
                have s6 := same_new (o := .lst (ys.map V.str)) hp
                have s56 := s5.trans s6
                have mem : ∀ c, c ∈ ys ↔ c ∈ zs := fun c => (my c).trans (mn c)
                have soY : ∀ z ∈ ys, PyData.strOk z = true := fun z hz => so z ((mem z).mp hz)
                refine ⟨.list (zs.map PyData.str), .list (ys.map PyData.str), .lst (sqL (s56 _ _ upd_same)) (dp_tstr zs), .lst (sqL upd_same) (dp_tstr ys), shaped_lstr so, shaped_lstr soY, _, rfl, ?_⟩
                have ev : PyData.eqv (.list (zs.map PyData.str)) (.list (ys.map PyData.str)) = ascS zs := by
                  show PyData.eqvAll (zs.map PyData.str) (ys.map PyData.str) = _
                  rw [eqv_strs]
                  refine (sorted_same (lt := ltStr) ltStr_trans ltStr_irr "" (sy.imp fun h => decide_eq_true h) mem).trans ?_
                  rfl
                rw [ev]
                have sm6 := sm4.trans s56
                cases ea : ascS zs with
                | false => exact iteT (qF (by rw [accE, ea]) sm6)
                | true =>
                  refine iteF (iNext ?_)
                  dsimp only
                  have q2 : ∀ H', Same H H' → Q (.bl (isRowD y && (isNumD z && ne1D z))) H' := fun H' s => by
                    have := q1 H' s
                    rw [accE, ea, Bool.true_and] at this
                    exact this
                  refine iRet (iAndV ⟨.ref a, rfl, a, _, _, _, rfl, rfl, sqT (sm6 _ _ ha'), atI_nat (j := 1) rfl, p2, y, D, rfl, h2.keep (KeepD.of sm6), sy', ht.2, fun H7 s7 => ⟨_, rfl, ?_⟩⟩)
                  have sm7 := sm6.trans s7
                  refine and_by (fun er => ?_) (fun er => ?_)
                  · refine iAndV ⟨.ref a, rfl, a, _, _, _, rfl, rfl, sqT (sm7 _ _ ha'), atI_nat (j := 2) rfl, p3, z, D, rfl, h3.keep (KeepD.of sm7), sz, fun H8 s8 => ⟨_, rfl, ?_⟩⟩
                    have sm8 := sm7.trans s8
                    have q3 : Q (.bl (isNumD z && ne1D z)) H8 := by
                      have := q2 H8 sm8
                      rw [er, Bool.true_and] at this
                      exact this
                    refine and_by (fun ei => ?_) (fun ei => ?_)
                    · obtain ⟨m, rfl⟩ := int_of ei
                      obtain rfl := h3.int_inv
                      have q4 : Q (.bl (decide (0 ≤ m) && decide (m ≠ 1))) H8 := by
                        have : Q (.bl ((true && decide (0 ≤ m)) && decide (m ≠ 1))) H8 := q3
                        rw [Bool.true_and] at this
                        exact this
                      refine iOrV ⟨.ref a, rfl, a, _, _, _, rfl, rfl, sqT (sm8 _ _ ha'), atI_nat (j := 2) rfl, rfl, ⟨_, rfl, ?_⟩⟩
                      by_cases m0 : m = 0
                      · subst m0
                        exact iteT q4
                      · have e0 : decide (V.int m = V.int 0) = false := decide_eq_false fun z => m0 (V.int.inj z)
                        rw [e0]
                        refine iteF ⟨.ref a, rfl, a, _, _, _, rfl, rfl, sqT (sm8 _ _ ha'), atI_nat (j := 2) rfl, m, 1, rfl, rfl, ?_⟩
                        have e1' : decide (1 < m) = (decide (0 ≤ m) && decide (m ≠ 1)) := by
                          rw [Bool.eq_iff_iff, Bool.and_eq_true, decide_eq_true_iff, decide_eq_true_iff, decide_eq_true_iff]
                          omega
                        show Q (.bl (decide (1 < m))) H8
                        rw [e1']
                        exact q4
                    · have : (isNumD z && ne1D z) = false := by
                        show ((isIntD z && geD z) && ne1D z) = false
                        rw [ei, Bool.false_and, Bool.false_and]
                      rw [this] at q3
                      exact q3
                  · have := q2 H7 sm7
                    rw [er, Bool.false_and] at this
                    exact this
        | _ => exact iteT (qF rfl (Same.refl _))
      · have eb : (!decide (V.int (xs.length : Int) = V.int 3)) = true := by
          rw [xl, decide_eq_false (fun z => l3 (by have := V.int.inj z; omega))]
          rfl
        rw [eb]
        refine iteT ?_
        have z := q H (Same.refl _)
        unfold guardD at z
        have e0 : lenB 3 (.tuple es) = false := decide_eq_false l3
        rw [e0, Bool.false_and] at z
        exact z
    | _ => exact iteT (q H (Same.refl _))
end
end P51
namespace P51
open PySem PySem.Spec PyProof.Rows L2 AskG Ask
abbrev sBent : Stmt := topS 25
theorem scBent : FnScope ["_law_source_here", "_law_value", "_law_k", "_law_some"] ["_law_source_here", "_law_value"] (defScope sBent) := ⟨rfl, rfl, rfl, by decide +kernel, rfl, by decide +kernel, by decide +kernel⟩
theorem KeepF.kd {F L D : Addr} {H H' : Hp} {b : Int} (k : KeepF F H H') (f : FeedAt H F L b) : KeepD D H H' := by
  obtain ⟨_, _, _, _, h, _⟩ := f
  exact ⟨fun b xs e => k b _ (ne_of e h fun z => nomatch z) e, fun b xs _ e => k b _ (ne_of e h fun z => nomatch z) e⟩
theorem KeepF.lst {F L p : Addr} {H H' : Hp} {b : Int} {ys : List V} (k : KeepF F H H') (f : FeedAt H F L b) (e : H p = some (.lst ys)) : H' p = some (.lst ys) := by
  obtain ⟨_, _, _, _, h, _⟩ := f
  exact k p _ (ne_of e h fun z => nomatch z) e
theorem KeepF.taken {F L D : Addr} {H H' : Hp} {b : Int} (k : KeepF F H H') (f : FeedAt H' F L b) (h : Taken H D) : Taken H' D := by
  by_cases e : D = F
  · obtain ⟨_, _, _, _, h, _⟩ := f
    rw [e]
    exact ⟨_, h⟩
  · obtain ⟨o, ho⟩ := h
    exact ⟨o, k _ _ e ho⟩
theorem iAnd {t u : TT} {σ : L2.St} {H : Hp} {Q : Bool → Hp → Prop} (h : t σ H fun c H1 => if c = true then u σ H1 Q else Q false H1) : tAnd t u σ H Q := h
def prBent : Nat → Pr
  | 0 => fun _ _ _ => False
  | n + 1 => fun vs H Q => ∃ (F L : Addr) (v : V) (d : PyData) (D : Addr) (c : Int) (k m : Nat), vs = [.ref F, v] ∧ FeedAt H F L c ∧ c + 3 * ((n : Int) + 1) ≤ 90000 ∧ Taken H D ∧ DH D H v d ∧ Of 6 (10 ^ 50) k m d ∧ k ≤ n ∧
    ∀ H' r d', KeepF F H H' → FeedAt H' F L (c + 3 * ((n : Int) + 1)) → DH D H' r d' → Of 60 (10 ^ 50 + 1) (k + 4) (3 * m + 1000) d' → Q r H'
section
variable {P : Program} {w : World} {K : PySem.W.Frag} {mg : Str → Option Value} {base : Heap}
variable {fD : Addr} {fdD : FuncData}
theorem bent_else {f : Addr} {fd : FuncData} {n : Nat} {cdv : Value} {A : Around} {outer : List Env} {s0 : Shared} {H : Hp} {Q : VK}
    (hr : RG (n + 2) (A.deeper (envOfC "_law_bent" (defScope sBent) s0.heap.objs.size f cdv)))
    (F : Fun K "_law_bent" "_law_bent" sBent f fd) (bB : Binds K fd ["_law_source_here", "_law_value"] []) (gB : mg "_law_bent" = some (.ref f))
    (GB : FnG P w K mg base (n + 2) f fd ["_law_source_here", "_law_value"] (prBent n))
    (FD : Fun K "_law_next" "_law_next" sDraw fD fdD) (bD : Binds K fdD ["_law_source_here", "_law_limit"] []) (gD : mg "_law_next" = some (.ref fD))
    (mi : mg "isinstance" = none) (mt : mg "tuple" = none) (mst : mg "str" = none) (mn : mg "int" = none) (mb : mg "bool" = none) (ml : mg "len" = none) (mls : mg "list" = none) (n40 : n ≤ 20)
    {d : PyData} (nt : tupB d = false) (ni : intB d = true → boolB d = true) {Fa L D : Addr} {v : V} {c : Int} {k m : Nat} (hF : FeedAt H Fa L c) (hc : c + 3 * ((n : Int) + 1) ≤ 90000) (hT : Taken H D) (hd : DH D H v d) (ho : Of 6 (10 ^ 50) k m d) (hk : k ≤ n)
    (q : ∀ H' r d', KeepF Fa H H' → FeedAt H' Fa L (c + 3 * ((n : Int) + 1)) → DH D H' r d' → Of 60 (10 ^ 50 + 1) (k + 4) (3 * m + 1000) d' → Q r H') :
    ∃ ts, PSs (cxOf CX0 P w K mg base ["_law_source_here", "_law_value", "_law_k", "_law_some"] "_law_bent" (defScope sBent) f cdv A outer s0 H E0).nox (defBody sBent) ts ∧
      ts { nx := fun _ H' => Q .non H', rt := Q } (start ["_law_source_here", "_law_value", "_law_k", "_law_some"] [.ref Fa, v]) H := by
  have GD : FnG P w K mg base (0 + 1) fD fdD ["_law_source_here", "_law_limit"] prDraw := ok_draw FD ml
  have hr1 : RG (0 + 1) (A.deeper (envOfC "_law_bent" (defScope sBent) s0.heap.objs.size f cdv)) := hr.mono (by omega)
  have hun := hr.room.units
  have big := sizeBig
  refine ⟨_, pss_cons (ps_if (PW.pt (pw_and (pt_val (pe_callB call_isi (by rfl) mi (by decide +kernel) (pa_cons (pv 1) (pa_cons (pe_bltn (v := .ty "tuple") (by rfl) mt (by decide +kernel) rfl) pa_nil)))) (pw_and (pt_cmpR (op_neD hun) (pv 1) (pe_tup pa_nil) (nomark _)) (pw_and1 (pt_cmpR op_gt (pe_g GD hr1 (by rfl) gD FD.kp bD .nil (pa_cons (pv 0) (pa_cons pe_int pa_nil))) pe_int (nomark _)))))) pss_never pss_nil)
    (pss_cons (ps_if (pt_val (pe_callB call_isi (by rfl) mi (by decide +kernel) (pa_cons (pv 1) (pa_cons (pe_bltn (v := .ty "tuple") (by rfl) mt (by decide +kernel) rfl) pa_nil)))) pss_never pss_nil)
    (pss_cons (ps_if (PW.pt (pw_and (pt_val (pe_callB call_isi (by rfl) mi (by decide +kernel) (pa_cons (pv 1) (pa_cons (pe_bltn (v := .ty "int") (by rfl) mn (by decide +kernel) rfl) pa_nil)))) (pw_and1 (pt_not (pt_val (pe_callB call_isi (by rfl) mi (by decide +kernel) (pa_cons (pv 1) (pa_cons (pe_bltn (v := .ty "bool") (by rfl) mb (by decide +kernel) rfl) pa_nil)))))))) pss_never pss_nil)
    (pss_one (ps_ret (pe_ix (ix_list : IxR _ (rIxL K)) (from_lst (i := 1) (D := D) (d0 := d) (from_cons (from_new (new_str pe_str)) (from_cons (from_new (new_str pe_str)) (from_cons (from_new (new_str pe_str)) (from_cons (from_new (new_str pe_str)) (from_cons (from_new (new_str pe_str)) (from_cons (from_new (new_str pe_str)) (from_cons (from_new (new_non pe_non)) (from_cons (from_new (new_int pe_int)) from_nil)))))))) (by show 8 ≤ 1000; decide)) (pe_g GD hr1 (by rfl) gD FD.kp bD .nil (pa_cons (pv 0) (pa_cons pe_int pa_nil))) (fun _ _ => rfl)))))), ?_⟩
  refine iSeq (iIfS (iAnd (iB (isi_call (K := K) (i := 1) (a := tyN d) (b := "tuple") (x := v) rfl hd.ty (kit_tup _) ⟨_, rfl, ?_⟩))))
  rw [nt]
  refine iteF (iteF (iNext ?_))
  dsimp only
  refine iSeq (iIfS (iB (isi_call (K := K) (i := 1) (a := tyN d) (b := "tuple") (x := v) rfl hd.ty (kit_tup _) ⟨_, rfl, ?_⟩)))
  rw [nt]
  refine iteF (iNext ?_)
  dsimp only
  refine iSeq (iIfS (iAnd (iB (isi_call (K := K) (i := 1) (a := tyN d) (b := "int") (x := v) rfl hd.ty (kit_int _) ⟨_, rfl, ?_⟩))))
  refine ite2 (fun e => ?_) (fun _ => ?_)
  · refine iNot (iB (isi_call (K := K) (i := 1) (a := tyN d) (b := "bool") (x := v) rfl hd.ty (kit_bool _) ⟨_, rfl, ?_⟩))
    rw [ni e]
    refine iteF (iNext ?_)
    dsimp only
    refine iRet (iOp ⟨⟨⟨v, rfl, hd⟩, hT⟩, fun H2 v2 s2 h2 => ?_⟩)
    obtain ⟨p, ys, rfl, _, hp, hys⟩ := h2.lst_inv
    refine ⟨.ref Fa, rfl, Fa, L, 8, c, rfl, hF.same s2, by decide, by decide, by omega, fun w H3 w0 w1 k3 hF3 => ?_⟩
    have hp3 := k3.lst (hF.same s2) hp
    obtain ⟨r, d', hat, hmem, hr'⟩ := pickD (hys.keep (k3.kd (hF.same s2))) w0 w1
    refine ⟨p, ys, w, r, rfl, rfl, sqL hp3, hat, q H3 r d' ((KeepF.of s2).trans k3) (hF3.up (by omega)) hr' ?_⟩
    simp only [List.mem_cons, List.not_mem_nil, or_false] at hmem
    rcases hmem with rfl | rfl | rfl | rfl | rfl | rfl | rfl | rfl
    · exact Of.str (by decide) (by decide) (by show 62 ≤ _; omega)
    · exact Of.str (by decide) (by decide) (by show 52 ≤ _; omega)
    · exact Of.str (by decide) (by decide) (by show 12 ≤ _; omega)
    · exact Of.str (by decide) (by decide) (by show 32 ≤ _; omega)
    · exact Of.str (by decide) (by decide) (by show 2 ≤ _; omega)
    · exact Of.str (by decide) (by decide) (by show 12 ≤ _; omega)
    · exact Of.non (by omega)
    · exact Of.int (by decide) (by omega)
  · refine iteF (iNext ?_)
    dsimp only
    refine iRet (iOp ⟨⟨⟨v, rfl, hd⟩, hT⟩, fun H2 v2 s2 h2 => ?_⟩)
    obtain ⟨p, ys, rfl, _, hp, hys⟩ := h2.lst_inv
    refine ⟨.ref Fa, rfl, Fa, L, 8, c, rfl, hF.same s2, by decide, by decide, by omega, fun w H3 w0 w1 k3 hF3 => ?_⟩
    have hp3 := k3.lst (hF.same s2) hp
    obtain ⟨r, d', hat, hmem, hr'⟩ := pickD (hys.keep (k3.kd (hF.same s2))) w0 w1
    refine ⟨p, ys, w, r, rfl, rfl, sqL hp3, hat, q H3 r d' ((KeepF.of s2).trans k3) (hF3.up (by omega)) hr' ?_⟩
    simp only [List.mem_cons, List.not_mem_nil, or_false] at hmem
    rcases hmem with rfl | rfl | rfl | rfl | rfl | rfl | rfl | rfl
    · exact Of.str (by decide) (by decide) (by show 62 ≤ _; omega)
    · exact Of.str (by decide) (by decide) (by show 52 ≤ _; omega)
    · exact Of.str (by decide) (by decide) (by show 12 ≤ _; omega)
    · exact Of.str (by decide) (by decide) (by show 32 ≤ _; omega)
    · exact Of.str (by decide) (by decide) (by show 2 ≤ _; omega)
    · exact Of.str (by decide) (by decide) (by show 12 ≤ _; omega)
    · exact Of.non (by omega)
    · exact Of.int (by decide) (by omega)
theorem bent_int {f : Addr} {fd : FuncData} {n : Nat} {cdv : Value} {A : Around} {outer : List Env} {s0 : Shared} {H : Hp} {Q : VK}
    (hr : RG (n + 2) (A.deeper (envOfC "_law_bent" (defScope sBent) s0.heap.objs.size f cdv)))
    (F : Fun K "_law_bent" "_law_bent" sBent f fd) (bB : Binds K fd ["_law_source_here", "_law_value"] []) (gB : mg "_law_bent" = some (.ref f))
    (GB : FnG P w K mg base (n + 2) f fd ["_law_source_here", "_law_value"] (prBent n))
    (FD : Fun K "_law_next" "_law_next" sDraw fD fdD) (bD : Binds K fdD ["_law_source_here", "_law_limit"] []) (gD : mg "_law_next" = some (.ref fD))
    (mi : mg "isinstance" = none) (mt : mg "tuple" = none) (mst : mg "str" = none) (mn : mg "int" = none) (mb : mg "bool" = none) (ml : mg "len" = none) (mls : mg "list" = none) (n40 : n ≤ 20)
    {j : Int} {Fa L D : Addr} {v : V} {c : Int} {k m : Nat} (hF : FeedAt H Fa L c) (hc : c + 3 * ((n : Int) + 1) ≤ 90000) (hT : Taken H D) (hd : DH D H v (.int j)) (ho : Of 6 (10 ^ 50) k m (.int j)) (hk : k ≤ n)
    (q : ∀ H' r d', KeepF Fa H H' → FeedAt H' Fa L (c + 3 * ((n : Int) + 1)) → DH D H' r d' → Of 60 (10 ^ 50 + 1) (k + 4) (3 * m + 1000) d' → Q r H') :
    ∃ ts, PSs (cxOf CX0 P w K mg base ["_law_source_here", "_law_value", "_law_k", "_law_some"] "_law_bent" (defScope sBent) f cdv A outer s0 H E0).nox (defBody sBent) ts ∧
      ts { nx := fun _ H' => Q .non H', rt := Q } (start ["_law_source_here", "_law_value", "_law_k", "_law_some"] [.ref Fa, v]) H := by
  have GD : FnG P w K mg base (0 + 1) fD fdD ["_law_source_here", "_law_limit"] prDraw := ok_draw FD ml
  have hr1 : RG (0 + 1) (A.deeper (envOfC "_law_bent" (defScope sBent) s0.heap.objs.size f cdv)) := hr.mono (by omega)
  have hun := hr.room.units
  have big := sizeBig
  have hlog : j.natAbs.log2 < 1920 := by
    have h2 : j.natAbs < 2 ^ 1900 := Nat.lt_of_le_of_lt ho.top (by decide)
    by_cases z : j.natAbs = 0
    · rw [z]
      decide
    · have := (Nat.log2_lt z).mpr h2
      omega
  refine ⟨_, pss_cons (ps_if (PW.pt (pw_and (pt_val (pe_callB call_isi (by rfl) mi (by decide +kernel) (pa_cons (pv 1) (pa_cons (pe_bltn (v := .ty "tuple") (by rfl) mt (by decide +kernel) rfl) pa_nil)))) (pw_and (pt_cmpR (op_neD hun) (pv 1) (pe_tup pa_nil) (nomark _)) (pw_and1 (pt_cmpR op_gt (pe_g GD hr1 (by rfl) gD FD.kp bD .nil (pa_cons (pv 0) (pa_cons pe_int pa_nil))) pe_int (nomark _)))))) pss_never pss_nil)
    (pss_cons (ps_if (pt_val (pe_callB call_isi (by rfl) mi (by decide +kernel) (pa_cons (pv 1) (pa_cons (pe_bltn (v := .ty "tuple") (by rfl) mt (by decide +kernel) rfl) pa_nil)))) pss_never pss_nil)
    (pss_cons (ps_if (PW.pt (pw_and (pt_val (pe_callB call_isi (by rfl) mi (by decide +kernel) (pa_cons (pv 1) (pa_cons (pe_bltn (v := .ty "int") (by rfl) mn (by decide +kernel) rfl) pa_nil)))) (pw_and1 (pt_not (pt_val (pe_callB call_isi (by rfl) mi (by decide +kernel) (pa_cons (pv 1) (pa_cons (pe_bltn (v := .ty "bool") (by rfl) mb (by decide +kernel) rfl) pa_nil)))))))) (pss_one (ps_ret (pe_ix (ix_list : IxR _ (rIxL K)) (from_lst (i := 1) (D := D) (d0 := .int j) (from_cons (PE.less (t' := tFrom 1 D _ (.int (j + 1))) (pe_op op_add (pv 1) pe_int) (fun σ H Q q => ⟨_, src_int q.1, j, 1, rfl, rfl, q.2 H _ (Same.refl _) (.int _)⟩)) (from_cons (PE.less (t' := tFrom 1 D _ (.int (j - 1))) (pe_op op_sub (pv 1) pe_int) (fun σ H Q q => ⟨_, src_int q.1, j, 1, rfl, rfl, q.2 H _ (Same.refl _) (.int _)⟩)) (from_cons (PE.less (t' := tFrom 1 D _ (.int (0 - j))) (pe_op op_sub pe_int (pv 1)) (fun σ H Q q => ⟨_, src_int q.1, 0, j, rfl, rfl, q.2 H _ (Same.refl _) (.int _)⟩)) (from_cons (PE.less (t' := tFrom 1 D _ (.bool (decide (V.int j = V.int 1)))) (pe_cmpR op_eq (pv 1) pe_int (nomark _)) (fun σ H Q q => ⟨_, src_int q.1, rfl, q.2 H _ (Same.refl _) (.bl _)⟩)) (from_cons (PE.less (t' := tFrom 1 D _ (.str (toString j))) (pe_callTy call_str_int (by rfl) mst (by decide +kernel) (pa_cons (pv 1) pa_nil)) (fun σ H Q q => ⟨_, src_int q.1, j, rfl, hlog, q.2 H _ (Same.refl _) (.str _)⟩)) (from_cons (from_new (new_non pe_non)) (from_cons (from_new (PE.less (t' := tNew (.int (10 ^ 40))) (pe_op op_pow pe_int pe_int) fun _ H _ q => ⟨10, 40, rfl, rfl, ⟨by decide, by decide, by decide⟩, q H _ (Same.refl _) fun _ _ => .int _⟩)) from_nil))))))) (by show 7 ≤ 1000; decide)) (pe_g GD hr1 (by rfl) gD FD.kp bD .nil (pa_cons (pv 0) (pa_cons pe_int pa_nil))) (fun _ _ => rfl)))) pss_nil)
    pss_never)), ?_⟩
  refine iSeq (iIfS (iAnd (iB (isi_call (K := K) (i := 1) (a := tyN _) (b := "tuple") (x := v) rfl hd.ty (kit_tup _) ⟨_, rfl, ?_⟩))))
  refine iteF (iteF (iNext ?_))
  dsimp only
  refine iSeq (iIfS (iB (isi_call (K := K) (i := 1) (a := tyN _) (b := "tuple") (x := v) rfl hd.ty (kit_tup _) ⟨_, rfl, ?_⟩)))
  refine iteF (iNext ?_)
  dsimp only
  refine iSeq (iIfS (iAnd (iB (isi_call (K := K) (i := 1) (a := tyN _) (b := "int") (x := v) rfl hd.ty (kit_int _) ⟨_, rfl, ?_⟩))))
  refine iteT (iNot (iB (isi_call (K := K) (i := 1) (a := tyN _) (b := "bool") (x := v) rfl hd.ty (kit_bool _) ⟨_, rfl, iteT ?_⟩)))
  · refine iRet (iOp ⟨⟨⟨v, rfl, hd⟩, hT⟩, fun H2 v2 s2 h2 => ?_⟩)
    obtain ⟨p, ys, rfl, _, hp, hys⟩ := h2.lst_inv
    refine ⟨.ref Fa, rfl, Fa, L, 7, c, rfl, hF.same s2, by decide, by decide, by omega, fun w H3 w0 w1 k3 hF3 => ?_⟩
    have hp3 := k3.lst (hF.same s2) hp
    obtain ⟨r, d', hat, hmem, hr'⟩ := pickD (hys.keep (k3.kd (hF.same s2))) w0 w1
    refine ⟨p, ys, w, r, rfl, rfl, sqL hp3, hat, q H3 r d' ((KeepF.of s2).trans k3) (hF3.up (by omega)) hr' ?_⟩
    have ti : j.natAbs ≤ 10 ^ 50 := ho.top
    have tl : (toString j : Str).length ≤ 52 := by
      rw [PySem.ofString_length]
      exact PySem.int_text_length_le10 (k := 51) (by decide) (by omega)
    have wi : 81 ≤ m := ho.wt
    simp only [List.mem_cons, List.not_mem_nil, or_false] at hmem
    rcases hmem with rfl | rfl | rfl | rfl | rfl | rfl | rfl
    · exact Of.int (by omega) (by omega)
    · exact Of.int (by omega) (by omega)
    · exact Of.int (by omega) (by omega)
    · exact Of.bl (by omega)
    · exact Of.str (asc_int j) (by omega) (by omega)
    · exact Of.non (by omega)
    · exact Of.int (by decide) (by omega)
end
end P51
namespace P51
open PySem PySem.Spec PyProof.Rows L2 AskG Ask
def lK (ds : List PyData) : Int → List (Nat × PyData) := fun k => [(1, .tuple ds), (2, .int k)]
section
variable {P : Program} {w : World} {K : PySem.W.Frag} {mg : Str → Option Value} {base : Heap}
variable {fD : Addr} {fdD : FuncData}
theorem bent_tup {f : Addr} {fd : FuncData} {n : Nat} {cdv : Value} {A : Around} {outer : List Env} {s0 : Shared} {H : Hp} {Q : VK}
    (hr : RG (n + 2) (A.deeper (envOfC "_law_bent" (defScope sBent) s0.heap.objs.size f cdv)))
    (F : Fun K "_law_bent" "_law_bent" sBent f fd) (bB : Binds K fd ["_law_source_here", "_law_value"] []) (gB : mg "_law_bent" = some (.ref f))
    (GB : FnG P w K mg base (n + 2) f fd ["_law_source_here", "_law_value"] (prBent n))
    (FD : Fun K "_law_next" "_law_next" sDraw fD fdD) (bD : Binds K fdD ["_law_source_here", "_law_limit"] []) (gD : mg "_law_next" = some (.ref fD))
    (mi : mg "isinstance" = none) (mt : mg "tuple" = none) (mst : mg "str" = none) (mn : mg "int" = none) (mb : mg "bool" = none) (ml : mg "len" = none) (mls : mg "list" = none) (n40 : n ≤ 20)
    {ds : List PyData} {Fa L D : Addr} {v : V} {c : Int} {k m : Nat} (hF : FeedAt H Fa L c) (hc : c + 3 * ((n : Int) + 1) ≤ 90000) (hT : Taken H D) (hd : DH D H v (.tuple ds)) (ho : Of 6 (10 ^ 50) k m (.tuple ds)) (hk : k ≤ n)
    (q : ∀ H' r d', KeepF Fa H H' → FeedAt H' Fa L (c + 3 * ((n : Int) + 1)) → DH D H' r d' → Of 60 (10 ^ 50 + 1) (k + 4) (3 * m + 1000) d' → Q r H') :
    ∃ ts, PSs (cxOf CX0 P w K mg base ["_law_source_here", "_law_value", "_law_k", "_law_some"] "_law_bent" (defScope sBent) f cdv A outer s0 H E0).nox (defBody sBent) ts ∧
      ts { nx := fun _ H' => Q .non H', rt := Q } (start ["_law_source_here", "_law_value", "_law_k", "_law_some"] [.ref Fa, v]) H := by
  have GD : FnG P w K mg base (0 + 1) fD fdD ["_law_source_here", "_law_limit"] prDraw := ok_draw FD ml
  have hr1 : RG (0 + 1) (A.deeper (envOfC "_law_bent" (defScope sBent) s0.heap.objs.size f cdv)) := hr.mono (by omega)
  have hun := hr.room.units
  have big := sizeBig
  obtain ⟨k', rfl⟩ : ∃ k', k = k' + 1 := ⟨k - 1, by
    have : PyData.depthAll ds + 1 ≤ k := ho.dep
    omega⟩
  obtain ⟨n', rfl⟩ : ∃ n', n = n' + 1 := ⟨n - 1, by omega⟩
  obtain ⟨hall, hlen, hwt⟩ := ho.items
  have lds : ds.length ≤ 6 := hlen
  have hsh : SeqAt.shaped (.tuple ds) = true := by
    have h1 : smallDs ds = true := smalls_by hall.ok (Nat.le_trans hall.big (by omega))
    show (PyData.canLayAll0 ds && decide (PyData.depthAll ds + 1 ≤ 64)) = true
    rw [small_lays h1, decide_eq_true (by have := hall.dep; omega)]
    rfl
  have ee : PyData.eqv (.tuple ds) (.tuple []) = ds.isEmpty := by cases ds <;> rfl
  obtain ⟨a, xs, rfl, ha, hdx⟩ := hd.tup_inv
  have xl := hdx.len
  have cN : (((n' + 1 : Nat) : Int)) = (n' : Int) + 1 := by omega
  rw [cN] at hc q
  refine ⟨_, pss_cons (ps_if (PW.pt (pw_and (pt_val (pe_callB call_isi (by rfl) mi (by decide +kernel) (pa_cons (pv 1) (pa_cons (pe_bltn (v := .ty "tuple") (by rfl) mt (by decide +kernel) rfl) pa_nil)))) (pw_and (pt_cmpR (op_neD hun) (pv 1) (pe_tup pa_nil) (nomark _)) (pw_and1 (pt_cmpR op_gt (pe_g GD hr1 (by rfl) gD FD.kp bD .nil (pa_cons (pv 0) (pa_cons pe_int pa_nil))) pe_int (nomark _))))))
        (pss_cons (ps_set (i := 2) scBent.nd rfl (.inl rfl) (pe_g GD hr1 (by rfl) gD FD.kp bD .nil (pa_cons (pv 0) (pa_cons (pe_callB call_len_seq (by rfl) ml PySem.boot_len (pa_cons (pv 1) pa_nil)) pa_nil))))
        (pss_one (ps_ret (pe_op op_catA (pe_op op_catA (pe_slice sl_tupA (pv 1) po_none (po_some (pv 2))) (pe_tup (pa_cons (pe_g GB hr (by rfl) gB F.kp bB .nil (pa_cons (pv 0) (pa_cons (pe_ix (ix_tup : IxR _ (rIxT K)) (pv 1) (pv 2) (fun _ _ => rfl)) pa_nil))) pa_nil)))
          (pe_slice sl_tupA (pv 1) (po_some (pe_op op_add (pv 2) pe_int)) po_none))))) pss_nil)
    (pss_cons (ps_if (pt_val (pe_callB call_isi (by rfl) mi (by decide +kernel) (pa_cons (pv 1) (pa_cons (pe_bltn (v := .ty "tuple") (by rfl) mt (by decide +kernel) rfl) pa_nil))))
        (pss_cons (ps_set (i := 2) scBent.nd rfl (.inl rfl) (pe_g GD hr1 (by rfl) gD FD.kp bD .nil (pa_cons (pv 0) (pa_cons (pe_op op_add (pe_callB call_len_seq (by rfl) ml PySem.boot_len (pa_cons (pv 1) pa_nil)) pe_int) pa_nil))))
        (pss_cons (ps_set (i := 3) scBent.nd rfl (.inl rfl) (fm_lst (fm_cons (PE.less (t' := tFm (lK ds) fun k => .tuple (cutD ds none (some k) ++ cutD ds (some (k + 1)) none)) (pe_op op_catA (pe_slice sl_tupA (pv 1) po_none (po_some (pv 2))) (pe_slice sl_tupA (pv 1) (po_some (pe_op op_add (pv 2) pe_int)) po_none)) (fun σ H Q ⟨k, D, q⟩ => by
          obtain ⟨a, xs, hv, ha, hd⟩ := q.1.tup (.head _)
          have hk := q.1.int (.tail _ (.head _))
          refine ⟨_, hv, _, hk, k, rfl, sl_from ha hd fun H1 v1 s1 h1 => ⟨_, hv, _, hk, k, 1, rfl, rfl, k + 1, rfl, sl_fromN (s1 _ _ ha) (hd.keep (KeepD.of s1)) fun H2 v2 s2 h2 => ?_⟩⟩
          obtain ⟨a1, ys1, rfl, ha1, hd1⟩ := h1.tup_inv
          obtain ⟨a2, ys2, rfl, ha2, hd2⟩ := h2.tup_inv
          have l1 := cutD_len ds none (some k)
          have l2 := cutD_len ds (some (k + 1)) none
          exact cat_from (s2 _ _ ha1) (hd1.keep (KeepD.of s2)) ha2 hd2 (by omega) (by omega) (fun H3 v3 s3 h3 => q.2 _ _ ((s1.trans s2).trans s3) h3))) (fm_cons (PE.less (t' := tFm (lK ds) fun k => .tuple (cutD ds none (some k) ++ cutD ds (some k) (some (k + 1)) ++ cutD ds (some k) none)) (pe_op op_catA (pe_op op_catA (pe_slice sl_tupA (pv 1) po_none (po_some (pv 2))) (pe_slice sl_tupA (pv 1) (po_some (pv 2)) (po_some (pe_op op_add (pv 2) pe_int)))) (pe_slice sl_tupA (pv 1) (po_some (pv 2)) po_none)) (fun σ H Q ⟨k, D, q⟩ => by
          obtain ⟨a, xs, hv, ha, hd⟩ := q.1.tup (.head _)
          have hk := q.1.int (.tail _ (.head _))
          refine ⟨_, hv, _, hk, k, rfl, sl_from ha hd fun H1 v1 s1 h1 => ⟨_, hv, _, hk, k, rfl, _, hk, k, 1, rfl, rfl, k + 1, rfl, sl_from (s1 _ _ ha) (hd.keep (KeepD.of s1)) fun H2 v2 s2 h2 => ?_⟩⟩
          obtain ⟨a1, ys1, rfl, ha1, hd1⟩ := h1.tup_inv
          obtain ⟨a2, ys2, rfl, ha2, hd2⟩ := h2.tup_inv
          have l1 := cutD_len ds none (some k)
          have l2 := cutD_len ds (some k) (some (k + 1))
          have l3 := cutD_len ds (some k) none
          refine cat_from (s2 _ _ ha1) (hd1.keep (KeepD.of s2)) ha2 hd2 (by omega) (by omega) (fun H3 v3 s3 h3 => ?_)
          have s13 := (s1.trans s2).trans s3
          obtain ⟨a3, ys3, rfl, ha3, hd3⟩ := h3.tup_inv
          refine ⟨_, hv, _, hk, k, rfl, sl_fromN (s13 _ _ ha) (hd.keep (KeepD.of s13)) fun H4 v4 s4 h4 => ?_⟩
          obtain ⟨a4, ys4, rfl, ha4, hd4⟩ := h4.tup_inv
          exact cat_from (s4 _ _ ha3) (hd3.keep (KeepD.of s4)) ha4 hd4 (by rw [List.length_append]; omega) (by omega) (fun H5 v5 s5 h5 => q.2 _ _ ((s13.trans s4).trans s5) h5))) (fm_cons (PE.less (t' := tFm (lK ds) fun _ => .list ds) (pe_callTy call_list_of (by rfl) mls (by decide +kernel) (pa_cons (pv 1) pa_nil)) (fun σ H Q ⟨k, D, q⟩ => by
          obtain ⟨a, xs, hv, ha, hd⟩ := q.1.tup (.head _)
          exact ⟨_, hv, a, xs, rfl, .inr (sqT ha), fun l hl => q.2 _ _ (same_new hl) (.lst (q.1.2.ne hl) upd_same (hd.keep (KeepD.of (same_new hl))))⟩)) (fm_cons (PE.less (t' := tFm (lK ds) fun _ => .tuple ds.reverse) (pe_revT (pv 1)) (fun σ H Q ⟨k, D, q⟩ => by
          obtain ⟨a, xs, hv, ha, hd⟩ := q.1.tup (.head _)
          exact ⟨_, hv, a, xs, rfl, sqT ha, fun p hp => q.2 _ _ (same_new hp) (.tup upd_same (hd.rev.keep (KeepD.of (same_new hp))))⟩)) fm_nil)))) (fun _ => by show 4 ≤ 1000; decide)))
        (pss_one (ps_ret (pe_ix (ix_list : IxR _ (rIxL K)) (pe_op op_cat (pv 3) (fm_lst (fm_cons (fm_tup fm_nil (fun _ => by show 0 ≤ 1000; decide)) (fm_cons (PE.less (t' := tFm (lK ds) fun _ => .tuple (ds ++ [.int 0])) (pe_op op_catA (pv 1) (pe_tup (pa_cons pe_int pa_nil))) (fun σ H Q ⟨k, D, q⟩ => by
          obtain ⟨a, xs, hv, ha, hd⟩ := q.1.tup (.head _)
          exact ⟨_, hv, by show 1 ≤ sizeLine; omega, fun p hp => cat_from (same_new hp _ _ ha) (hd.keep (KeepD.of (same_new hp))) upd_same (.cons (.int _) .nil) (by omega) (by decide) (fun H2 v2 s2 h2 => q.2 _ _ ((same_new hp).trans s2) h2)⟩)) (fm_cons (fm_new (new_non pe_non)) fm_nil))) (fun _ => by show 3 ≤ 1000; decide))) (pe_g GD hr1 (by rfl) gD FD.kp bD .nil (pa_cons (pv 0) (pa_cons pe_int pa_nil))) (fun _ _ => rfl)))))) pss_nil)
    pss_never), ?_⟩
  refine iSeq ?_
  refine split_s (fun σ' H' => σ' = [some (.ref Fa), some (.ref a), none, none] ∧ KeepF Fa H H' ∧ FeedAt H' Fa L (c + 1)) (fun nx hnx => ?_) (fun σ' H' hx => ?_)
  · refine iIfS (iAnd (iB (isi_call (K := K) (i := 1) (a := tyN _) (b := "tuple") (x := .ref a) rfl hd.ty (kit_tup _) ⟨_, rfl, ?_⟩)))
    refine iteT ?_
    refine iAnd ⟨.ref a, rfl, Nat.zero_le _, fun p hp => ⟨.tuple ds, .tuple [], (hd.keep (KeepD.of (same_new hp))).dp, .tup (sqT upd_same) .nil, hsh, by decide, _, rfl, ?_⟩⟩
    have s1 := same_new (o := .tup []) hp
    have hF1 := hF.same s1
    rw [ee]
    cases hE : ds.isEmpty with
    | true => exact iteF (iteF (hnx _ _ ⟨rfl, KeepF.of s1, hF1.up (by omega)⟩))
    | false =>
      have l0 : 0 < ds.length := by
        cases ds with
        | nil => cases hE
        | cons _ _ => exact Nat.succ_pos _
      refine iteT ⟨.ref Fa, rfl, Fa, L, 6, c, rfl, hF1, by decide, by decide, by omega, fun w5 H2 _ _ k2 hF2 => ⟨w5, 0, rfl, rfl, _, rfl, ite2 (fun e => ?_) (fun e => hnx _ _ ⟨rfl, (KeepF.of s1).trans k2, hF2⟩)⟩⟩
      clear ee hE e
      have k12 := (KeepF.of (F := Fa) s1).trans k2
      have kd2 := (k12.kd (D := D) hF)
      refine iSeq (iAsg ⟨.ref Fa, rfl, .ref a, rfl, a, xs, rfl, .inr (sqT (kd2.tup _ _ ha)), Fa, L, (xs.length : Int), c + 1, rfl, hF2, by omega, by omega, by omega, fun at' H3 at0 at1 k3 hF3 => ?_⟩)
      refine iName ?_
      dsimp only
      have k13 := k12.trans k3
      have kd3 := (k13.kd (D := D) hF)
      have ha3 := kd3.tup _ _ ha
      have hd3 := hdx.keep kd3
      have hT3 := k13.taken hF3 hT
      obtain ⟨n0, rfl⟩ : ∃ n0 : Nat, at' = (n0 : Int) := ⟨at'.toNat, by omega⟩
      have n0l : n0 < xs.length := by omega
      have hx : xs[n0]? = some xs[n0] := List.getElem?_eq_getElem n0l
      obtain ⟨dx, hdi, hdh⟩ := hd3.at hx
      generalize xs[n0] = x at hx hdh
      refine iRet (iOp (iOp ⟨.ref a, rfl, .int n0, rfl, n0, rfl, sl_from ha3 hd3 (fun H4 v4 s4 h4 => ?_)⟩))
      have hF4 := hF3.same s4
      refine ⟨.ref Fa, rfl, .ref a, rfl, .int n0, rfl, a, xs, n0, x, rfl, rfl, sqT (s4 _ _ ha3), atI_nat hx, Fa, L, x, dx, D, c + 1 + 1, k', wtD dx, rfl, hF4, by omega, hT3.keep s4, hdh.keep (KeepD.of s4), (hall.at hdi).exact, by omega, fun H5 r d' k5 hF5 hr5 ho5 => ?_⟩
      refine ⟨by show 1 ≤ sizeLine; omega, fun p5 hp5 => ?_⟩
      have s5 := same_new (o := .tup [r]) hp5
      have kd45 := k5.kd (D := D) hF4
      obtain ⟨a4, ys4, rfl, ha4, hd4⟩ := h4.tup_inv
      have cl1 := cutD_len ds none (some (n0 : Int))
      have cl2 := cutD_len ds (some ((n0 : Int) + 1)) none
      refine cat_from (s5 _ _ (kd45.tup _ _ ha4)) ((hd4.keep kd45).keep (KeepD.of s5)) upd_same (.cons (hr5.keep (KeepD.of s5)) .nil) (by omega) (by show 1 ≤ 1000; decide) (fun H6 v6 s6 h6 => ?_)
      have s56 := s5.trans s6
      have ha6 := s56 _ _ (kd45.tup _ _ (s4 _ _ ha3))
      have hd6 := ((hd3.keep (KeepD.of s4)).keep kd45).keep (KeepD.of s56)
      refine ⟨.ref a, rfl, .int n0, rfl, n0, 1, rfl, rfl, (n0 : Int) + 1, rfl, sl_fromN ha6 hd6 (fun H7 v7 s7 h7 => ?_)⟩
      obtain ⟨a6, ys6, rfl, ha6', hd6'⟩ := h6.tup_inv
      obtain ⟨a7, ys7, rfl, ha7, hd7⟩ := h7.tup_inv
      have s57 := s56.trans s7
      refine cat_from (s7 _ _ ha6') (hd6'.keep (KeepD.of s7)) ha7 hd7 (by rw [List.length_append]; show _ + 1 ≤ 1000; omega) (by omega) (fun H8 v8 s8 h8 => ?_)
      have s58 := s57.trans s8
      refine q H8 v8 _ (k13.trans ((KeepF.of s4).trans (k5.trans (KeepF.of s58)))) ((hF5.same s58).up (by omega)) h8 ?_
      have n0d : n0 < ds.length := by omega
      have e1 : cutD ds none (some (n0 : Int)) = ds.take n0 := cutD_pre ds n0 (by omega)
      have e2 : cutD ds (some ((n0 : Int) + 1)) none = ds.drop (n0 + 1) := by
        have : (n0 : Int) + 1 = ((n0 + 1 : Nat) : Int) := by omega
        rw [this]
        exact cutD_post ds (n0 + 1) (by omega)
      rw [e1, e2]
      have ws := wt_split hdi
      have A1 : All 60 (10 ^ 50 + 1) (k' + 4) (wtDs (ds.take n0)) (ds.take n0) := (hall.take n0).exact.mono (by omega) (by omega) (by omega) (Nat.le_refl _)
      have A2 : All 60 (10 ^ 50 + 1) (k' + 4) (wtDs (ds.drop (n0 + 1))) (ds.drop (n0 + 1)) := (hall.drop (n0 + 1)).exact.mono (by omega) (by omega) (by omega) (Nat.le_refl _)
      have A3 := All.app (All.app A1 (All.cons ho5 (All.nil (n := 0)))) A2
      have ll : (ds.take n0 ++ [d'] ++ ds.drop (n0 + 1)).length = ds.length := by
        rw [List.length_append, List.length_append, List.length_take, List.length_drop]
        show min n0 ds.length + 1 + _ = _
        omega
      refine (Of.tup A3 (by rw [ll]; omega)).mono (Nat.le_refl _) (Nat.le_refl _) (by omega) ?_
      rw [ll]
      omega
  · obtain ⟨rfl, k0, hF0⟩ := hx
    dsimp only
    have hd0 := hd.keep (k0.kd (D := D) hF)
    have ha0 := (k0.kd (D := D) hF).tup _ _ ha
    refine iSeq (iIfS (iB (isi_call (K := K) (i := 1) (a := tyN _) (b := "tuple") (x := .ref a) rfl hd0.ty (kit_tup _) ⟨_, rfl, ?_⟩)))
    refine iteT ?_
    refine iSeq (iAsg ⟨.ref Fa, rfl, .ref a, rfl, a, xs, rfl, .inr (sqT ha0), (xs.length : Int), 1, rfl, rfl, Fa, L, (xs.length : Int) + 1, c + 1, rfl, hF0, by omega, by omega, by omega, fun kk H1 kk0 kk1 k1 hF1 => ?_⟩)
    refine iName ?_
    dsimp only
    have k01 := k0.trans k1
    have hd1 := hd.keep (k01.kd (D := D) hF)
    have hT1 := k01.taken hF1 hT
    refine iSeq (iAsg ⟨kk, D, ⟨fun x hx => ?_, hT1⟩, fun H2 v2 s2 h2 => ?_⟩)
    · rcases List.mem_cons.mp hx with rfl | hx
      · exact ⟨_, rfl, hd1⟩
      · rw [List.mem_singleton.mp hx]
        exact ⟨_, rfl, .int _⟩
    refine iName ?_
    dsimp only
    obtain ⟨p2, ys2, rfl, np2, hp2, hys2⟩ := h2.lst_inv
    refine iRet (iOp (iOp ⟨.ref p2, rfl, kk, D, ⟨fun x hx => ?_, hT1.keep s2⟩, fun H3 v3 s3 h3 => ?_⟩))
    · rcases List.mem_cons.mp hx with rfl | hx
      · exact ⟨_, rfl, hd1.keep (KeepD.of s2)⟩
      · rw [List.mem_singleton.mp hx]
        exact ⟨_, rfl, .int _⟩
    obtain ⟨p3, ys3, rfl, np3, hp3, hys3⟩ := h3.lst_inv
    have l2 : ys2.length = 4 := hys2.len
    have l3 : ys3.length = 3 := hys3.len
    refine ⟨p2, p3, _, _, rfl, rfl, s3 _ _ hp2, hp3, by omega, fun c0 hc0 => ?_⟩
    have s4 := same_new (o := .lst (ys2 ++ ys3)) hc0
    have s24 := (s2.trans s3).trans s4
    have hF4 := hF1.same s24
    refine ⟨.ref Fa, rfl, Fa, L, 7, c + 1 + 1, rfl, hF4, by decide, by decide, by omega, fun w H5 w0 w7 k5 hF5 => ?_⟩
    have hc5 := k5.lst hF4 upd_same
    obtain ⟨r, d', hat, hmem, hr'⟩ := pickD ((((hys2.keep (KeepD.of s3)).app hys3).keep (KeepD.of s4)).keep (k5.kd hF4)) w0 w7
    refine ⟨c0, _, w, r, rfl, rfl, sqL hc5, hat, q _ r d' ((k01.trans (KeepF.of s24)).trans k5) (hF5.up (by omega)) hr' ?_⟩
    clear hat hr'
    have M : ∀ {es : List PyData} {N : Nat}, All 6 (10 ^ 50) k' N es → es.length ≤ 60 → N + 2 * es.length + 3 ≤ 3 * m + 1000 → Of 60 (10 ^ 50 + 1) (k' + 1 + 4) (3 * m + 1000) (.tuple es) := fun h l z =>
      (Of.tup (h.mono (by omega) (by omega) (Nat.le_refl _) (Nat.le_refl _)) l).mono (Nat.le_refl _) (Nat.le_refl _) (by omega) z
    have CL := fun lo hi => cutD_len ds lo hi
    have CW : ∀ lo hi, wtDs (cutD ds lo hi) ≤ wtDs ds := fun lo hi => (hall.exact.cut lo hi).wt
    have CA : ∀ lo hi, All 6 (10 ^ 50) k' (wtDs ds) (cutD ds lo hi) := fun lo hi => (hall.exact.cut lo hi)
    simp only [List.mem_cons, List.not_mem_nil, or_false, List.mem_append] at hmem
    rcases hmem with (rfl | rfl | rfl | rfl) | rfl | rfl | rfl
    · have z1 := CL none (some kk)
      have z2 := CL (some (kk + 1)) none
      exact M (All.app (CA _ _) (CA _ _)) (by rw [List.length_append]; omega) (by rw [List.length_append]; omega)
    · have z1 := CL none (some kk)
      have z2 := CL (some kk) (some (kk + 1))
      have z3 := CL (some kk) none
      exact M (All.app (All.app (CA _ _) (CA _ _)) (CA _ _)) (by rw [List.length_append, List.length_append]; omega) (by rw [List.length_append, List.length_append]; omega)
    · exact (⟨ho.ok, ho.big, ho.top, ho.dep, ho.wt⟩ : Of 6 (10 ^ 50) (k' + 1) m (.list ds)).mono (by omega) (by omega) (by omega) (by omega)
    · exact M hall.rev (by rw [List.length_reverse]; omega) (by rw [List.length_reverse]; omega)
    · exact M (All.nil (n := 0)) (by decide) (by show 0 + 2 * 0 + 3 ≤ _; omega)
    · exact M (All.app hall.exact (All.cons (Of.int (n := 81) (by decide) (by decide)) (All.nil (n := 0)))) (by rw [List.length_append]; show _ + 1 ≤ _; omega) (by rw [List.length_append]; show _ + (81 + 0) + 2 * (_ + 1) + 3 ≤ _; omega)
    · exact Of.non (by omega)
theorem ok_bent {f : Addr} {fd : FuncData}
    (F : Fun K "_law_bent" "_law_bent" sBent f fd) (bB : Binds K fd ["_law_source_here", "_law_value"] []) (gB : mg "_law_bent" = some (.ref f))
    (FD : Fun K "_law_next" "_law_next" sDraw fD fdD) (bD : Binds K fdD ["_law_source_here", "_law_limit"] []) (gD : mg "_law_next" = some (.ref fD))
    (mi : mg "isinstance" = none) (mt : mg "tuple" = none) (mst : mg "str" = none) (mn : mg "int" = none) (mb : mg "bool" = none) (ml : mg "len" = none) (mls : mg "list" = none) :
    ∀ n : Nat, n ≤ 21 → FnG P w K mg base (n + 2) f fd ["_law_source_here", "_law_value"] (prBent n)
  | 0, _ => ⟨fun _ _ _ h => h.elim, fun _ _ _ _ _ _ _ _ _ _ _ _ h => h.elim⟩
  | n + 1, hn => by
    have GB := ok_bent F bB gB FD bD gD mi mt mst mn mb ml mls n (by omega)
    have G : FnG P w K mg base (n + 2 + 1) f fd ["_law_source_here", "_law_value"] (prBent (n + 1)) := by
      refine okG F scBent (fun vs H Q h => ?_) (fun cdv A outer s H vs Q hr h => ?_)
      · obtain ⟨_, _, _, _, _, _, _, _, rfl, _⟩ := h
        rfl
      · obtain ⟨Fa, L, v, d, D, c, k, m, rfl, hF, hc, hT, hd, ho, hk, q⟩ := h
        cases d with
        | none => exact bent_else hr F bB gB GB FD bD gD mi mt mst mn mb ml mls (by omega) rfl (fun z => by cases z) hF hc hT hd ho hk q
        | bool b => exact bent_else hr F bB gB GB FD bD gD mi mt mst mn mb ml mls (by omega) rfl (fun _ => rfl) hF hc hT hd ho hk q
        | int j => exact bent_int hr F bB gB GB FD bD gD mi mt mst mn mb ml mls (by omega) hF hc hT hd ho hk q
        | str s => exact bent_else hr F bB gB GB FD bD gD mi mt mst mn mb ml mls (by omega) rfl (fun z => by cases z) hF hc hT hd ho hk q
        | list es => exact bent_else hr F bB gB GB FD bD gD mi mt mst mn mb ml mls (by omega) rfl (fun z => by cases z) hF hc hT hd ho hk q
        | tuple ds => exact bent_tup hr F bB gB GB FD bD gD mi mt mst mn mb ml mls (by omega) hF hc hT hd ho hk q
        | dict _ => cases hd
    exact G
end
end P51
namespace P51
open PySem PySem.Spec PyProof.Rows L2 AskG Ask
/-! repr of any data -/
def rReprD (K : PySem.W.Frag) : List V → Hp → VK → Prop := fun xs H Q => ∃ (D : Addr) (v : V) (d : PyData), xs = [v] ∧ DH D H v d ∧ smallD d = true ∧ litD d = true ∧ d.depth ≤ 60 ∧ wtD d ≤ 16777216 ∧ Q (.str d.shown) H
theorem call_reprD {X : Cx} {k : Nat} (hr : RG k X.A) : CallR X (.builtin "repr") (rReprD X.K) := by
  intro pins s σ H xs us Q I r q
  obtain ⟨D, v, d, rfl, hd, hs, hl, hdep, hw, q⟩ := q
  have t := told hs hl
  have tl := t.len
  have ts := t.shw
  cases hd with
  | lst n e t' => exact call_repr hr pins s σ H _ us Q I r (repr_told (.lst n e t') hs hl hdep hw q)
  | tup e t' => exact call_repr hr pins s σ H _ us Q I r (repr_told (.tup (D := D) e t') hs hl hdep hw q)
  | non =>
    obtain ⟨u, rfl, rx⟩ := vals1 r
    cases rx
    exact PySem.P.repr_of_none ⟨.str PyData.none.shown, H, I.tok _, ⟨_, rfl⟩, q⟩
  | bl b =>
    obtain ⟨u, rfl, rx⟩ := vals1 r
    cases rx
    exact PySem.P.repr_of_bool ⟨.str (PyData.bool b).shown, H, I.tok _, ⟨_, by cases b <;> rfl⟩, q⟩
  | int i =>
    obtain ⟨u, rfl, rx⟩ := vals1 r
    obtain ⟨tk, rfl⟩ := rx
    exact PySem.P.repr_of_int (of_decide_eq_true ts) ⟨.str (PyData.int i).shown, H, I.tok _, ⟨_, rfl⟩, q⟩
  | str x =>
    obtain ⟨u, rfl, rx⟩ := vals1 r
    obtain ⟨tk, rfl⟩ := rx
    refine PySem.P.repr_of_str ⟨.str (PyData.str x).shown, H, I.tok _, ⟨_, rfl⟩, q⟩ ?_
    rw [sizeLine_eq]
    exact Nat.le_trans tl hw
theorem reprD_of {K : PySem.W.Frag} {D : Addr} {H : Hp} {v : V} {d : PyData} {b t k n : Nat} {Q : VK} (h : DH D H v d) (o : Of b t k n d) (hb : b ≤ 1000) (ht : t < 10 ^ 80) (hk : k ≤ 60) (hn : n ≤ 16777216) (q : Q (.str d.shown) H) : rReprD K [v] H Q :=
  ⟨D, v, d, rfl, h, o.small hb, o.lit ht, Nat.le_trans o.dep hk, Nat.le_trans o.wt hn, q⟩
theorem reprD_bl {K : PySem.W.Frag} {H : Hp} {b : Bool} {Q : VK} (q : Q (.str (PyData.bool b).shown) H) : rReprD K [.bl b] H Q :=
  ⟨0, .bl b, .bool b, rfl, .bl b, rfl, rfl, Nat.zero_le _, by show 5 ≤ _; decide, q⟩
/-! the data of the law -/
abbrev Good (d : PyData) : Prop := Of 60 (10 ^ 50 + 1) 12 20000 d
abbrev Part (d : PyData) : Prop := Of 60 (10 ^ 50 + 1) 10 2000 d
abbrev AllG (ds : List PyData) : Prop := ∀ d ∈ ds, Good d
theorem allG_nil : AllG [] := fun _ h => by cases h
theorem allG_cons {d : PyData} {ds : List PyData} (h : Good d) (t : AllG ds) : AllG (d :: ds) := fun x hx => by
  rcases List.mem_cons.mp hx with rfl | hx
  · exact h
  · exact t x hx
theorem allG_app {xs ys : List PyData} (h : AllG xs) (t : AllG ys) : AllG (xs ++ ys) := fun x hx => by
  rcases List.mem_append.mp hx with hx | hx
  · exact h x hx
  · exact t x hx
theorem good_part {d : PyData} (h : Part d) : Good d := h.mono (Nat.le_refl _) (Nat.le_refl _) (by decide) (by decide)
theorem good2 {x y : PyData} (hx : Part x) (hy : Part y) : Good (.tuple [x, y]) :=
  (Of.tup (All.cons hx (All.cons hy (All.nil (n := 0)))) (by show 2 ≤ 60; decide)).mono (Nat.le_refl _) (Nat.le_refl _) (by decide) (by show 2000 + (2000 + 0) + 2 * 2 + 3 ≤ _; decide)
theorem good3 {x y z : PyData} (hx : Part x) (hy : Part y) (hz : Part z) : Good (.tuple [x, y, z]) :=
  (Of.tup (All.cons hx (All.cons hy (All.cons hz (All.nil (n := 0))))) (by show 3 ≤ 60; decide)).mono (Nat.le_refl _) (Nat.le_refl _) (by decide) (by show 2000 + (2000 + (2000 + 0)) + 2 * 3 + 3 ≤ _; decide)
theorem goodL {x y z : PyData} (hx : Part x) (hy : Part y) (hz : Part z) : Good (.list [x, y, z]) :=
  (Of.lst (All.cons hx (All.cons hy (All.cons hz (All.nil (n := 0))))) (by show 3 ≤ 60; decide)).mono (Nat.le_refl _) (Nat.le_refl _) (by decide) (by show 2000 + (2000 + (2000 + 0)) + 2 * 3 + 3 ≤ _; decide)
theorem good4 {x y z u : PyData} (hx : Part x) (hy : Part y) (hz : Part z) (hu : Part u) : Good (.tuple [x, y, z, u]) :=
  (Of.tup (All.cons hx (All.cons hy (All.cons hz (All.cons hu (All.nil (n := 0)))))) (by show 4 ≤ 60; decide)).mono (Nat.le_refl _) (Nat.le_refl _) (by decide) (by show 2000 + (2000 + (2000 + (2000 + 0))) + 2 * 4 + 3 ≤ _; decide)
theorem big_at : ∀ {ds : List PyData} {i : Nat} {d : PyData}, ds[i]? = some d → bigD d ≤ bigDs ds
  | x :: ds, 0, _, e => by
    cases e
    exact Nat.le_max_left _ _
  | x :: ds, i + 1, _, e => Nat.le_trans (big_at (ds := ds) (i := i) e) (Nat.le_max_right _ _)
theorem lt64_big {d : PyData} (h : bigD d ≤ 60) : lt64 d = true := by
  cases d with
  | tuple ds =>
    have h : max ds.length (bigDs ds) ≤ 60 := h
    exact decide_eq_true (by omega)
  | _ => rfl
theorem item_big {d : PyData} (h : bigD d ≤ 60) (i : Nat) : bigD (itemD d i) ≤ 60 := by
  cases d with
  | tuple ds =>
    have h : max ds.length (bigDs ds) ≤ 60 := h
    show bigD (ds.getD i .none) ≤ 60
    rw [List.getD_eq_getElem?_getD]
    cases e : ds[i]? with
    | none => exact Nat.zero_le _
    | some x =>
      have := big_at e
      show bigD x ≤ 60
      omega
  | _ => exact Nat.zero_le _
theorem tiny_big {d : PyData} (h : bigD d ≤ 60) : tiny3 d = true := by
  unfold tiny3
  rw [lt64_big (item_big h 0), lt64_big (item_big h 1)]
  rfl
/-- what a lap draws -/
structure Gd where
  g : List Str
  r : RowD
  m : Int
  lg : g.length ≤ 3
  lr : r.length ≤ 6
def grL (a : Gd) : List PyData := a.g.map .str
def grD (a : Gd) : PyData := .tuple (grL a)
def quL (a : Gd) : List PyData := a.r.map AskG.pairD
def quD (a : Gd) : PyData := .tuple (quL a)
def gdL (a : Gd) : List PyData := [grD a, quD a, .int a.m]
def gdD (a : Gd) : PyData := .tuple (gdL a)
def lG : Gd → List (Nat × PyData) := fun a => [(3, gdD a), (4, grD a), (5, quD a), (6, .int a.m)]
theorem grL_len (a : Gd) : (grL a).length ≤ 3 := by
  unfold grL
  rw [List.length_map]
  exact a.lg
theorem quL_len (a : Gd) : (quL a).length ≤ 6 := by
  unfold quL
  rw [List.length_map]
  exact a.lr
theorem all_by {b t k n : Nat} {α : Type} {f : α → PyData} : ∀ {l : List α}, (∀ x ∈ l, Of b t k n (f x)) → All b t k (n * l.length) (l.map f)
  | [], _ => All.nil
  | x :: l, h => by
    refine (All.cons (h x (.head _)) (all_by (l := l) fun y hy => h y (.tail _ hy))).mono (Nat.le_refl _) (Nat.le_refl _) (Nat.le_refl _) ?_
    rw [List.length_cons, Nat.mul_succ]
    omega
structure GdOk (a : Gd) : Prop where
  g : All 6 (10 ^ 50) 0 96 (grL a)
  q : All 6 (10 ^ 50) 2 1128 (quL a)
  m : a.m.natAbs ≤ 10 ^ 50
theorem GdOk.gr {a : Gd} (h : GdOk a) : Of 6 (10 ^ 50) 1 105 (grD a) :=
  (Of.tup h.g (Nat.le_trans (grL_len a) (by decide))).mono (Nat.le_refl _) (Nat.le_refl _) (Nat.le_refl _) (by have := grL_len a; omega)
theorem GdOk.qu {a : Gd} (h : GdOk a) : Of 6 (10 ^ 50) 3 1143 (quD a) :=
  (Of.tup h.q (quL_len a)).mono (Nat.le_refl _) (Nat.le_refl _) (Nat.le_refl _) (by have := quL_len a; omega)
theorem GdOk.num {a : Gd} (h : GdOk a) : Of 6 (10 ^ 50) 0 81 (.int a.m) := Of.int h.m (Nat.le_refl _)
theorem GdOk.gd {a : Gd} (h : GdOk a) : Of 6 (10 ^ 50) 4 1338 (gdD a) :=
  Of.tup (k := 3) (n := 1329) (All.cons (h.gr.mono (Nat.le_refl _) (Nat.le_refl _) (by decide) (Nat.le_refl _)) (All.cons h.qu (All.cons (h.num.mono (Nat.le_refl _) (Nat.le_refl _) (by decide) (Nat.le_refl _)) (All.nil (n := 0))))) (by show 3 ≤ 6; decide)
theorem GdOk.pg {a : Gd} (h : GdOk a) : Part (grD a) := h.gr.mono (by decide) (by decide) (by decide) (by decide)
theorem GdOk.pq {a : Gd} (h : GdOk a) : Part (quD a) := h.qu.mono (by decide) (by decide) (by decide) (by decide)
theorem GdOk.pm {a : Gd} (h : GdOk a) : Part (.int a.m) := h.num.mono (by decide) (by decide) (by decide) (by decide)
theorem GdOk.pgl {a : Gd} (h : GdOk a) : Part (.list (grL a)) := (⟨h.gr.ok, h.gr.big, h.gr.top, h.gr.dep, h.gr.wt⟩ : Of 6 (10 ^ 50) 1 105 (.list (grL a))).mono (by decide) (by decide) (by decide) (by decide)
theorem GdOk.pql {a : Gd} (h : GdOk a) : Part (.list (quL a)) := (⟨h.qu.ok, h.qu.big, h.qu.top, h.qu.dep, h.qu.wt⟩ : Of 6 (10 ^ 50) 3 1143 (.list (quL a))).mono (by decide) (by decide) (by decide) (by decide)
theorem GdOk.prev {a : Gd} (h : GdOk a) : Part (.tuple ((grL a).reverse ++ [.str "ann"])) := by
  have A1 : All 6 (10 ^ 50) 0 (96 + 32) ((grL a).reverse ++ [.str "ann"]) := All.app h.g.rev (All.cons (Of.str (n := 32) (by decide) (by decide) (by decide)) (All.nil (n := 0)))
  have l : ((grL a).reverse ++ [PyData.str "ann"]).length ≤ 4 := by
    rw [List.length_append, List.length_reverse]
    have := grL_len a
    show _ + 1 ≤ 4
    omega
  exact (Of.tup A1 (by omega)).mono (by decide) (by decide) (by decide) (by omega)
theorem gdOk_of {ns : List Str} {ρ : RowD} {m : Int} (h1 : ns.Sublist three) (h2 : RowDr ρ) (h3 : m.natAbs ≤ 10 ^ 50) : ∃ a : Gd, a.g = ns ∧ a.r = ρ ∧ a.m = m ∧ GdOk a := by
  have l1 : ns.length ≤ 3 := h1.length_le
  have l2 : ρ.length ≤ 6 := by
    have := h2.sub.length_le
    rw [List.length_map] at this
    exact this
  refine ⟨⟨ns, ρ, m, l1, l2⟩, rfl, rfl, rfl, ?_, ?_, h3⟩
  · refine (all_by (n := 32) (f := PyData.str) (l := ns) fun x hx => ?_).mono (Nat.le_refl _) (Nat.le_refl _) (Nat.le_refl _) (by omega)
    have hx := h1.subset hx
    simp only [three, List.mem_cons, List.not_mem_nil, or_false] at hx
    rcases hx with rfl | rfl | rfl <;> exact Of.str (by decide) (by decide) (by decide)
  · refine (all_by (n := 188) (f := AskG.pairD) (l := ρ) fun x hx => ?_).mono (Nat.le_refl _) (Nat.le_refl _) (Nat.le_refl _) (by omega)
    have hc := h2.sub.subset (List.mem_map.mpr ⟨x, hx, rfl⟩)
    obtain ⟨z1, z2, _⟩ := h2.lit x hx
    have oc : Of 6 (10 ^ 50) 1 100 (cellD x.1) := by
      generalize x.1 = c at hc
      simp only [sixC, List.mem_cons, List.not_mem_nil, or_false] at hc
      rcases hc with rfl | rfl | rfl | rfl | rfl | rfl <;> exact ⟨by decide, by decide, by decide, by decide, by decide⟩
    exact Of.tup (k := 1) (n := 181) (All.cons oc (All.cons (Of.int (n := 81) (by omega) (Nat.le_refl _)) (All.nil (n := 0)))) (by show 2 ≤ 6; decide)
theorem dh_pair {D : Addr} {H : Hp} {p : Addr} {x : Cell × Int} (h : PairRow H p x) : DH D H (.ref p) (AskG.pairD x) := by
  obtain ⟨b, h1, h2⟩ := h
  exact .tup h1 (.cons (.tup h2 (.cons (.str _) (.cons (.int _) .nil))) (.cons (.int _) .nil))
theorem dh_all {α : Type} {D : Addr} {H : Hp} {R : Addr → α → Prop} {f : α → PyData} (h : ∀ p x, R p x → DH D H (.ref p) (f x)) : ∀ {ps : List Addr} {l : List α}, Paired R ps l → DHs D H (ps.map V.ref) (l.map f)
  | _, _, .nil => .nil
  | _, _, .cons h1 t => .cons (h _ _ h1) (dh_all h t)
theorem dh_row {D : Addr} {H : Hp} {r : Addr} {ρ : RowD} (h : RowAt H r ρ) : DH D H (.ref r) (.tuple (ρ.map AskG.pairD)) := by
  obtain ⟨ps, h1, h2⟩ := h
  exact .tup h1 (dh_all (f := AskG.pairD) (R := PairRow H) (fun _ _ z => dh_pair z) h2)
theorem dh_strs {D : Addr} {H : Hp} : ∀ ns : List Str, DHs D H (ns.map V.str) (ns.map PyData.str)
  | [] => .nil
  | n :: ns => .cons (.str n) (dh_strs ns)
/-! displays that fill a list -/
/-- values = [..] -/
theorem new_read {H : Hp} {α : Type} {l : α → List (Nat × PyData)} {es : α → List PyData} {σ : L2.St} {D : Addr} {Q : VK} (a : α) (h : SrcM (l a) D σ H) (len : (es a).length ≤ 1000)
    (q : ∀ p H', (∀ σ' : L2.St, (∀ x ∈ l a, σ'[x.1]? = σ[x.1]?) → FoundAt H (l a) σ' p (es a) H') → Q (.ref p) H') : tLst (tFms l es) σ H Q := by
  refine ⟨a, D, h, fun H1 vs s1 h1 => ⟨by have := sizeBig; have := h1.len; omega, fun p hp => q p _ fun σ' e => ?_⟩⟩
  have s2 := same_new (o := .lst vs) hp
  have hp0 : H p = none := by
    cases e : H p with
    | none => rfl
    | some o =>
      have := s1 _ _ e
      rw [hp] at this
      cases this
  have hs := h.keep s1
  refine ⟨hp0, s1.trans s2, ⟨vs, upd_same, (h1.shun hp).keep (KeepD.of s2)⟩, fun x hx => ?_, ⟨_, upd_same⟩⟩
  obtain ⟨v, hv, hd⟩ := hs.1 x hx
  exact ⟨v, by rw [e x hx]; exact hv, (hd.shun hp).keep (KeepD.of s2)⟩
/-- values = values + [..] -/
theorem more_read {H0 H : Hp} {α : Type} {l : α → List (Nat × PyData)} {es : α → List PyData} {σ : L2.St} {s : Nat} {Lf : Addr} {ds : List PyData} {Q : VK} (a : α) (h : FoundAt H0 (l a) σ Lf ds H) (hs : σ[s]? = some (some (.ref Lf))) (len : ds.length + (es a).length ≤ 1000)
    (q : ∀ p H', (∀ σ' : L2.St, (∀ x ∈ l a, σ'[x.1]? = σ[x.1]?) → FoundAt H0 (l a) σ' p (ds ++ es a) H') → Q (.ref p) H') : tOp rCat (tVar s) (tFm l fun a => .list (es a)) σ H Q := by
  obtain ⟨vs, hv, hd⟩ := h.list
  refine ⟨.ref Lf, hs, a, Lf, h.src, fun H1 v s1 h1 => ?_⟩
  obtain ⟨p, ys, rfl, np, hp, hys⟩ := h1.lst_inv
  have big := sizeBig
  have l1 := hd.len
  have l2 := hys.len
  refine ⟨Lf, p, vs, ys, rfl, rfl, s1 _ _ hv, hp, by omega, fun c hc => q c _ fun σ' e => ?_⟩
  have s2 := same_new (o := .lst (vs ++ ys)) hc
  have s12 := s1.trans s2
  have hc0 : H0 c = none := by
    cases e : H0 c with
    | none => rfl
    | some o =>
      have := s1 _ _ (h.keep _ _ e)
      rw [hc] at this
      cases this
  have hsrc := h.src.keep s1
  refine ⟨hc0, h.keep.trans s12, ⟨vs ++ ys, upd_same, (((hd.keep (KeepD.of s1)).app hys).shun hc).keep (KeepD.of s2)⟩, fun x hx => ?_, ⟨_, upd_same⟩⟩
  obtain ⟨v, hv, hd⟩ := hsrc.1 x hx
  exact ⟨v, by rw [e x hx]; exact hv, (hd.shun hc).keep (KeepD.of s2)⟩
end P51
namespace P51
open PySem PySem.Spec PyProof.Rows L2 AskG Ask
abbrev sLaw : Stmt := topS 27
abbrev NL : List Str := ["_law_script", "_law_source_here", "_law_lap", "_law_guard", "_law_group_here", "_law_question", "_law_m", "_law_values", "_law_turn", "_law_value", "_law_before", "_law_expected", "_law_told"]
theorem scLaw : FnScope NL ["_law_script"] (defScope sLaw) := ⟨rfl, rfl, rfl, by decide +kernel, rfl, by decide +kernel, by decide +kernel⟩
def V1 (a : Gd) : List PyData := [gdD a, .tuple [grD a, quD a, .int 1], .tuple [grD a, quD a, .int (-2)], .tuple [grD a, quD a, .bool true], .tuple [.tuple [], quD a, .int a.m]]
theorem V1_ok {a : Gd} (h : GdOk a) : AllG (V1 a) := (allG_cons (good3 h.pg h.pq h.pm) (allG_cons (good3 h.pg h.pq ⟨by decide, by decide, by decide, by decide, by decide⟩) (allG_cons (good3 h.pg h.pq ⟨by decide, by decide, by decide, by decide, by decide⟩) (allG_cons (good3 h.pg h.pq ⟨by decide, by decide, by decide, by decide, by decide⟩) (allG_cons (good3 ⟨by decide, by decide, by decide, by decide, by decide⟩ h.pq h.pm) allG_nil)))))
def A1 (a : Gd) : PyData := .tuple [.tuple ((grL a).reverse ++ [.str "ann"]), quD a, .int a.m]
theorem A1_ok {a : Gd} (h : GdOk a) : AllG [A1 a] := (allG_cons (good3 h.prev h.pq h.pm) allG_nil)
def V2 (a : Gd) : List PyData := [.tuple [.list (grL a), quD a, .int a.m], .tuple [grD a, .list (quL a), .int a.m]]
theorem V2_ok {a : Gd} (h : GdOk a) : AllG (V2 a) := (allG_cons (good3 h.pgl h.pq h.pm) (allG_cons (good3 h.pg h.pql h.pm) allG_nil))
def V3 (a : Gd) : List PyData := [.tuple [grD a, quD a], .tuple (gdL a ++ [.int 0]), .list [grD a, quD a, .int a.m], .none, .tuple [], .str "wall"]
theorem V3_ok {a : Gd} (h : GdOk a) : AllG (V3 a) := (allG_cons (good2 h.pg h.pq) (allG_cons (good4 h.pg h.pq h.pm ⟨by decide, by decide, by decide, by decide, by decide⟩) (allG_cons (goodL h.pg h.pq h.pm) (allG_cons (good_part ⟨by decide, by decide, by decide, by decide, by decide⟩) (allG_cons (good_part ⟨by decide, by decide, by decide, by decide, by decide⟩) (allG_cons (good_part ⟨by decide, by decide, by decide, by decide, by decide⟩) allG_nil))))))
def A2 (a : Gd) : PyData := .tuple [.str "ann", quD a, .int a.m]
theorem A2_ok {a : Gd} (h : GdOk a) : AllG [A2 a] := (allG_cons (good3 ⟨by decide, by decide, by decide, by decide, by decide⟩ h.pq h.pm) allG_nil)
def V4 (a : Gd) : List PyData := [.tuple [grD a, .tuple [.tuple [.tuple [.str "a", .int (10 ^ 40)], .int (-7)]], .int 0], .tuple [grD a, .tuple [], .int 2], .tuple [.tuple [.str "abcdefgh", .str "b"], quD a, .int a.m]]
theorem V4_ok {a : Gd} (h : GdOk a) : AllG (V4 a) := (allG_cons (good3 h.pg ⟨by decide, by decide, by decide, by decide, by decide⟩ ⟨by decide, by decide, by decide, by decide, by decide⟩) (allG_cons (good3 h.pg ⟨by decide, by decide, by decide, by decide, by decide⟩ ⟨by decide, by decide, by decide, by decide, by decide⟩) (allG_cons (good3 ⟨by decide, by decide, by decide, by decide, by decide⟩ h.pq h.pm) allG_nil)))
def V5 (a : Gd) : List PyData := [.tuple [.tuple [.str "abcdefghi"], quD a, .int a.m], .tuple [grD a, .tuple [.tuple [.tuple [.str "a", .int 1], .int 1], .tuple [.tuple [.str "a", .int 0], .int 1]], .int a.m]]
theorem V5_ok {a : Gd} (h : GdOk a) : AllG (V5 a) := (allG_cons (good3 ⟨by decide, by decide, by decide, by decide, by decide⟩ h.pq h.pm) (allG_cons (good3 h.pg ⟨by decide, by decide, by decide, by decide, by decide⟩ h.pm) allG_nil))
def V6 (a : Gd) : List PyData := [.tuple [grD a, .tuple [.tuple [.tuple [.str "a", .int 0], .int 1], .tuple [.tuple [.str "a", .int 0], .int 2]], .int a.m], .tuple [grD a, .tuple [.tuple [.tuple [.str "a", .int 0], .int 0]], .int a.m]]
theorem V6_ok {a : Gd} (h : GdOk a) : AllG (V6 a) := (allG_cons (good3 h.pg ⟨by decide, by decide, by decide, by decide, by decide⟩ h.pm) (allG_cons (good3 h.pg ⟨by decide, by decide, by decide, by decide, by decide⟩ h.pm) allG_nil))
def A3 (a : Gd) : PyData := .tuple [.tuple [.str "ann", .str "bob", .str "cy", .str "dan"], quD a, .int a.m]
theorem A3_ok {a : Gd} (h : GdOk a) : AllG [A3 a] := (allG_cons (good3 ⟨by decide, by decide, by decide, by decide, by decide⟩ h.pq h.pm) allG_nil)
def A4 (a : Gd) : PyData := .tuple [.tuple [.str "a", .str "b", .str "c", .str "d", .str "e", .str "f", .str "g", .str "h"], quD a, .int a.m]
theorem A4_ok {a : Gd} (h : GdOk a) : AllG [A4 a] := (allG_cons (good3 ⟨by decide, by decide, by decide, by decide, by decide⟩ h.pq h.pm) allG_nil)
theorem kb_one {K : PySem.W.Frag} {x qual : Str} {st : Stmt} {f : Addr} {fd : FuncData} {p : Str} (F : Fun K x qual st f fd)
    (h : ∀ (kV doc pm : Value) (an : Option Addr) (cdv ct a : Value), bindArgs (PySem.W.fnOf x qual (defArgs st) (defBody st) (defScope st) .none kV doc pm an cdv ct) ⟨[], [(p, a)]⟩ = pure [(p, a)]) :
    KBn K fd [p] 0 [p] (fun _ ws => ws) (fun _ zs => zs) := by
  obtain ⟨oc, od, kV, doc, pm, an, cdv, ct, osl, rfl, lk, hcd⟩ := F.ex
  refine ⟨fun s us ws _ hu hw => ?_, fun r rz => rz⟩
  match us, ws, hu, hw with
  | [], [a], _, _ => exact .of_eq (h kV doc pm an cdv ct a)
def prB5 : Pr := fun vs H Q => ∃ (F L : Addr) (v : V) (d : PyData) (D : Addr) (c : Int) (k m : Nat), vs = [.ref F, v] ∧ FeedAt H F L c ∧ c + 15 ≤ 90000 ∧ Taken H D ∧ DH D H v d ∧ Of 6 (10 ^ 50) k m d ∧ k ≤ 4 ∧
    ∀ H' r d', KeepF F H H' → FeedAt H' F L (c + 15) → DH D H' r d' → Of 60 (10 ^ 50 + 1) (k + 4) (3 * m + 1000) d' → Q r H'
theorem b5_of {vs : List V} {H : Hp} {Q : VK} (h : prB5 vs H Q) : prBent (4 + 1) vs H Q := by
  obtain ⟨F, L, v, d, D, c, k, m, e, hF, hc, hT, hd, ho, hk, q⟩ := h
  have e15 : c + 3 * (((4 : Nat) : Int) + 1) = c + 15 := by omega
  refine ⟨F, L, v, d, D, c, k, m, e, hF, by rw [e15]; exact hc, hT, hd, ho, hk, fun H' r d' kf hf => q H' r d' kf (by rw [e15] at hf; exact hf)⟩
section
variable {P : Program} {w : World} {K : PySem.W.Frag} {mg : Str → Option Value} {base : Heap}
theorem bent5 {n : Nat} {f : Addr} {fd : FuncData} {ps : List Str} (G : FnG P w K mg base n f fd ps (prBent (4 + 1))) : FnG P w K mg base n f fd ps prB5 :=
  ⟨fun vs H Q h => G.many vs H Q (b5_of h), fun A outer s H args us vs Q hr E B V h => G.goes A outer s H args us vs Q hr E B V (b5_of h)⟩
def prLaw (K : PySem.W.Frag) : Pr := fun vs H Q => ∃ (a : Addr) (ns : List Int), vs = [.ref a] ∧ SqL K H a (ns.map V.int) ∧ ∀ H', Q (.bl true) H'
variable {fF fG fR fC fD fB fJ fW : Addr} {fdF fdG fdR fdC fdD fdB fdJ fdW : FuncData}
theorem ok_law {f : Addr} {fd : FuncData} {k : Nat} (F : Fun K "law" "law" sLaw f fd)
    (FF : Fun K "_law_source" "_law_source" sFeed fF fdF) (bF : Binds K fdF ["_law_script"] []) (gF : mg "_law_source" = some (.ref fF)) (GF : FnG P w K mg base (k + 7) fF fdF ["_law_script"] (prFeed K))
    (FG : Fun K "_law_group" "_law_group" sGroup fG fdG) (bG : Binds K fdG ["_law_source_here"] []) (gG : mg "_law_group" = some (.ref fG)) (GG : FnG P w K mg base (k + 7) fG fdG ["_law_source_here"] prGroup)
    (FR : Fun K "_law_row" "_law_row" sRow fR fdR) (bR : Binds K fdR ["_law_source_here", "_law_cells_here", "_law_share"] []) (gR : mg "_law_row" = some (.ref fR)) (GR : FnG P w K mg base (k + 7) fR fdR ["_law_source_here", "_law_cells_here", "_law_share"] prRow)
    (FC : Fun K "_law_cells" "_law_cells" sCells fC fdC) (bC : Binds K fdC [] []) (gC : mg "_law_cells" = some (.ref fC)) (GC : FnG P w K mg base (k + 7) fC fdC [] prCells)
    (FD : Fun K "_law_next" "_law_next" sDraw fD fdD) (bD : Binds K fdD ["_law_source_here", "_law_limit"] []) (gD : mg "_law_next" = some (.ref fD)) (GD : FnG P w K mg base (k + 7) fD fdD ["_law_source_here", "_law_limit"] prDraw)
    (FB : Fun K "_law_bent" "_law_bent" sBent fB fdB) (bB : Binds K fdB ["_law_source_here", "_law_value"] []) (gB : mg "_law_bent" = some (.ref fB)) (GB : FnG P w K mg base (k + 7) fB fdB ["_law_source_here", "_law_value"] prB5)
    (FJ : Fun K "_law_is_guard" "_law_is_guard" lGuard fJ fdJ) (bJ : Binds K fdJ ["_law_value"] []) (gJ : mg "_law_is_guard" = some (.ref fJ)) (GJ : FnG P w K mg base (k + 7) fJ fdJ ["_law_value"] prGuard)
    (FW : Fun K "wall_has_form" "wall_has_form" sWall fW fdW) (bW : Binds K fdW ["thing"] []) (gW : mg "wall_has_form" = some (.ref fW)) (GW : FnG P w K mg base (k + 7) fW fdW ["thing"] (prKind guardD))
    (mls : mg "list" = none) (mr : mg "range" = none) (mp : mg "repr" = none) : FnG P w K mg base (k + 8) f fd ["_law_script"] (prLaw K) := by
  refine okG F scLaw (fun vs H Q h => ?_) (fun cdv A outer s H vs Q hr h => ?_)
  · obtain ⟨_, _, rfl, _⟩ := h
    rfl
  · obtain ⟨a, ns, rfl, hS, q⟩ := h
    have big := sizeBig
    have hun := hr.room.units
    have kW : KBn K fdW ["thing"] 0 ["thing"] (fun _ ws => ws) (fun _ zs => zs) := kb_one FW fun _ _ _ _ _ _ _ => rfl
    refine ⟨_, pss_cons (ps_set (i := 1) scLaw.nd rfl (.inl rfl) (pe_g GF hr (by rfl) gF FF.kp bF .nil (pa_cons (pv 0) pa_nil)))
      (pss_cons (ps_for PassesOwn.never rfl (pi_range1 rfl mr (pa_cons pe_int pa_nil)) (pg_name (i := 2) scLaw.nd rfl (.inl rfl)) (pss_cons (ps_set (i := 3) scLaw.nd rfl (.inl rfl) (pe_tup (pa_cons (pe_g GG hr (by rfl) gG FG.kp bG .nil (pa_cons (pv 1) pa_nil)) (pa_cons (pe_g GR hr (by rfl) gR FR.kp bR .nil (pa_cons (pv 1) (pa_cons (pe_g0 GC hr (by rfl) gC FC.kp bC .nil) (pa_cons pe_int pa_nil)))) (pa_cons (pe_ix (ix_list : IxR _ (rIxL K)) (pe_lst (pa_cons pe_int (pa_cons pe_int (pa_cons pe_int (pa_cons (pe_op op_pow pe_int pe_int) pa_nil))))) (pe_g GD hr (by rfl) gD FD.kp bD .nil (pa_cons (pv 1) (pa_cons pe_int pa_nil))) (fun _ _ => rfl)) pa_nil)))))
        (pss_cons (ps_asg (pv 3) (pg_tup (by rfl) (pgs_cons (pg_name (i := 4) scLaw.nd rfl (.inl rfl)) (pgs_cons (pg_name (i := 5) scLaw.nd rfl (.inl rfl)) (pgs_cons (pg_name (i := 6) scLaw.nd rfl (.inl rfl)) pgs_nil)))))
        (pss_cons (ps_set (i := 7) scLaw.nd rfl (.inl rfl) (pe_lst (show PA _ _ (tFms lG V1) from (fm_cons (fm_var (pv 3) (fun _ => (.head _))) (fm_cons (fm_tup (fm_cons (fm_var (pv 4) (fun _ => (.tail _ (.head _)))) (fm_cons (fm_var (pv 5) (fun _ => (.tail _ (.tail _ (.head _))))) (fm_cons (fm_new (new_int pe_int)) fm_nil))) (fun _ => by show 3 ≤ 1000; decide)) (fm_cons (fm_tup (fm_cons (fm_var (pv 4) (fun _ => (.tail _ (.head _)))) (fm_cons (fm_var (pv 5) (fun _ => (.tail _ (.tail _ (.head _))))) (fm_cons (fm_new (new_neg (pe_un un_neg pe_int))) fm_nil))) (fun _ => by show 3 ≤ 1000; decide)) (fm_cons (fm_tup (fm_cons (fm_var (pv 4) (fun _ => (.tail _ (.head _)))) (fm_cons (fm_var (pv 5) (fun _ => (.tail _ (.tail _ (.head _))))) (fm_cons (fm_new (new_bl pe_bl)) fm_nil))) (fun _ => by show 3 ≤ 1000; decide)) (fm_cons (fm_tup (fm_cons (fm_tup fm_nil (fun _ => by show 0 ≤ 1000; decide)) (fm_cons (fm_var (pv 5) (fun _ => (.tail _ (.tail _ (.head _))))) (fm_cons (fm_var (pv 6) (fun _ => (.tail _ (.tail _ (.tail _ (.head _)))))) fm_nil))) (fun _ => by show 3 ≤ 1000; decide)) fm_nil))))))))
        (pss_cons (ps_expr (pe_bm PySem.F.plainAttrs_list PySem.F.slot_list_append PySem.F.type_list_append mt_append (pv 7) (pa_cons (show PE _ _ (tFm lG A1) from (fm_tup (fm_cons (PE.less (t' := tFm lG fun a => .tuple ((grL a).reverse ++ [.str "ann"])) (pe_op op_catA (pe_revT (pv 4)) (pe_tup (pa_cons pe_str pa_nil))) (fun σ H Q ⟨a, D, q⟩ => by
            obtain ⟨b, ys, hv, hb, hd⟩ := q.1.tup (ds := grL a) (.tail _ (.head _))
            have ll := grL_len a
            refine ⟨_, hv, b, ys, rfl, sqT hb, fun p1 hp1 => ⟨by show 1 ≤ sizeLine; omega, fun p hp => ?_⟩⟩
            have s1 := same_new (o := .tup ys.reverse) hp1
            have s2 := same_new (o := .tup [.str "ann"]) hp
            exact cat_from (s2 _ _ upd_same) ((hd.rev.keep (KeepD.of s1)).keep (KeepD.of s2)) upd_same (.cons (.str _) .nil) (by rw [List.length_reverse]; omega) (by decide) (fun H2 v2 s3 h2 => q.2 _ _ ((s1.trans s2).trans s3) h2))) (fm_cons (fm_var (pv 5) (fun _ => (.tail _ (.tail _ (.head _))))) (fm_cons (fm_var (pv 6) (fun _ => (.tail _ (.tail _ (.tail _ (.head _)))))) fm_nil))) (fun _ => by show 3 ≤ 1000; decide))) pa_nil)))
        (pss_cons (ps_set (i := 7) scLaw.nd rfl (.inl rfl) (pe_op op_cat (pv 7) (show PE _ _ (tFm lG fun a => .list (V2 a)) from (fm_lst (fm_cons (fm_tup (fm_cons (PE.less (t' := tFm lG fun a => .list (grL a)) (pe_callTy call_list_of (by rfl) mls (by decide +kernel) (pa_cons (pv 4) pa_nil)) (fun σ H Q ⟨a, D, q⟩ => by
            obtain ⟨b, ys, hv, hb, hd⟩ := q.1.tup (ds := grL a) (.tail _ (.head _))
            exact ⟨_, hv, b, ys, rfl, .inr (sqT hb), fun l hl => q.2 _ _ (same_new hl) (.lst (q.1.2.ne hl) upd_same (hd.keep (KeepD.of (same_new hl))))⟩)) (fm_cons (fm_var (pv 5) (fun _ => (.tail _ (.tail _ (.head _))))) (fm_cons (fm_var (pv 6) (fun _ => (.tail _ (.tail _ (.tail _ (.head _)))))) fm_nil))) (fun _ => by show 3 ≤ 1000; decide)) (fm_cons (fm_tup (fm_cons (fm_var (pv 4) (fun _ => (.tail _ (.head _)))) (fm_cons (PE.less (t' := tFm lG fun a => .list (quL a)) (pe_callTy call_list_of (by rfl) mls (by decide +kernel) (pa_cons (pv 5) pa_nil)) (fun σ H Q ⟨a, D, q⟩ => by
            obtain ⟨b, ys, hv, hb, hd⟩ := q.1.tup (ds := quL a) (.tail _ (.tail _ (.head _)))
            exact ⟨_, hv, b, ys, rfl, .inr (sqT hb), fun l hl => q.2 _ _ (same_new hl) (.lst (q.1.2.ne hl) upd_same (hd.keep (KeepD.of (same_new hl))))⟩)) (fm_cons (fm_var (pv 6) (fun _ => (.tail _ (.tail _ (.tail _ (.head _)))))) fm_nil))) (fun _ => by show 3 ≤ 1000; decide)) fm_nil)) (fun _ => by show 2 ≤ 1000; decide)))))
        (pss_cons (ps_set (i := 7) scLaw.nd rfl (.inl rfl) (pe_op op_cat (pv 7) (show PE _ _ (tFm lG fun a => .list (V3 a)) from (fm_lst (fm_cons (fm_tup (fm_cons (fm_var (pv 4) (fun _ => (.tail _ (.head _)))) (fm_cons (fm_var (pv 5) (fun _ => (.tail _ (.tail _ (.head _))))) fm_nil)) (fun _ => by show 2 ≤ 1000; decide)) (fm_cons (PE.less (t' := tFm lG fun a => .tuple (gdL a ++ [.int 0])) (pe_op op_catA (pv 3) (pe_tup (pa_cons pe_int pa_nil))) (fun σ H Q ⟨a, D, q⟩ => by
            obtain ⟨b, ys, hv, hb, hd⟩ := q.1.tup (ds := gdL a) (.head _)
            exact ⟨_, hv, by show 1 ≤ sizeLine; omega, fun p hp => cat_from (same_new hp _ _ hb) (hd.keep (KeepD.of (same_new hp))) upd_same (.cons (.int _) .nil) (by show 3 ≤ 1000; decide) (by decide) (fun H2 v2 s2 h2 => q.2 _ _ ((same_new hp).trans s2) h2)⟩)) (fm_cons (fm_lst (fm_cons (fm_var (pv 4) (fun _ => (.tail _ (.head _)))) (fm_cons (fm_var (pv 5) (fun _ => (.tail _ (.tail _ (.head _))))) (fm_cons (fm_var (pv 6) (fun _ => (.tail _ (.tail _ (.tail _ (.head _)))))) fm_nil))) (fun _ => by show 3 ≤ 1000; decide)) (fm_cons (fm_new (new_non pe_non)) (fm_cons (fm_tup fm_nil (fun _ => by show 0 ≤ 1000; decide)) (fm_cons (fm_new (new_str pe_str)) fm_nil)))))) (fun _ => by show 6 ≤ 1000; decide)))))
        (pss_cons (ps_expr (pe_bm PySem.F.plainAttrs_list PySem.F.slot_list_append PySem.F.type_list_append mt_append (pv 7) (pa_cons (show PE _ _ (tFm lG A2) from (fm_tup (fm_cons (fm_new (new_str pe_str)) (fm_cons (fm_var (pv 5) (fun _ => (.tail _ (.tail _ (.head _))))) (fm_cons (fm_var (pv 6) (fun _ => (.tail _ (.tail _ (.tail _ (.head _)))))) fm_nil))) (fun _ => by show 3 ≤ 1000; decide))) pa_nil)))
        (pss_cons (ps_set (i := 7) scLaw.nd rfl (.inl rfl) (pe_op op_cat (pv 7) (show PE _ _ (tFm lG fun a => .list (V4 a)) from (fm_lst (fm_cons (fm_tup (fm_cons (fm_var (pv 4) (fun _ => (.tail _ (.head _)))) (fm_cons (fm_tup (fm_cons (fm_tup (fm_cons (fm_tup (fm_cons (fm_new (new_str pe_str)) (fm_cons (fm_new (PE.less (t' := tNew (.int (10 ^ 40))) (pe_op op_pow pe_int pe_int) fun _ H _ q => ⟨10, 40, rfl, rfl, ⟨by decide, by decide, by decide⟩, q H _ (Same.refl _) fun _ _ => .int _⟩)) fm_nil)) (fun _ => by show 2 ≤ 1000; decide)) (fm_cons (fm_new (new_neg (pe_un un_neg pe_int))) fm_nil)) (fun _ => by show 2 ≤ 1000; decide)) fm_nil) (fun _ => by show 1 ≤ 1000; decide)) (fm_cons (fm_new (new_int pe_int)) fm_nil))) (fun _ => by show 3 ≤ 1000; decide)) (fm_cons (fm_tup (fm_cons (fm_var (pv 4) (fun _ => (.tail _ (.head _)))) (fm_cons (fm_tup fm_nil (fun _ => by show 0 ≤ 1000; decide)) (fm_cons (fm_new (new_int pe_int)) fm_nil))) (fun _ => by show 3 ≤ 1000; decide)) (fm_cons (fm_tup (fm_cons (fm_tup (fm_cons (fm_new (new_str pe_str)) (fm_cons (fm_new (new_str pe_str)) fm_nil)) (fun _ => by show 2 ≤ 1000; decide)) (fm_cons (fm_var (pv 5) (fun _ => (.tail _ (.tail _ (.head _))))) (fm_cons (fm_var (pv 6) (fun _ => (.tail _ (.tail _ (.tail _ (.head _)))))) fm_nil))) (fun _ => by show 3 ≤ 1000; decide)) fm_nil))) (fun _ => by show 3 ≤ 1000; decide)))))
        (pss_cons (ps_set (i := 7) scLaw.nd rfl (.inl rfl) (pe_op op_cat (pv 7) (show PE _ _ (tFm lG fun a => .list (V5 a)) from (fm_lst (fm_cons (fm_tup (fm_cons (fm_tup (fm_cons (fm_new (new_str pe_str)) fm_nil) (fun _ => by show 1 ≤ 1000; decide)) (fm_cons (fm_var (pv 5) (fun _ => (.tail _ (.tail _ (.head _))))) (fm_cons (fm_var (pv 6) (fun _ => (.tail _ (.tail _ (.tail _ (.head _)))))) fm_nil))) (fun _ => by show 3 ≤ 1000; decide)) (fm_cons (fm_tup (fm_cons (fm_var (pv 4) (fun _ => (.tail _ (.head _)))) (fm_cons (fm_tup (fm_cons (fm_tup (fm_cons (fm_tup (fm_cons (fm_new (new_str pe_str)) (fm_cons (fm_new (new_int pe_int)) fm_nil)) (fun _ => by show 2 ≤ 1000; decide)) (fm_cons (fm_new (new_int pe_int)) fm_nil)) (fun _ => by show 2 ≤ 1000; decide)) (fm_cons (fm_tup (fm_cons (fm_tup (fm_cons (fm_new (new_str pe_str)) (fm_cons (fm_new (new_int pe_int)) fm_nil)) (fun _ => by show 2 ≤ 1000; decide)) (fm_cons (fm_new (new_int pe_int)) fm_nil)) (fun _ => by show 2 ≤ 1000; decide)) fm_nil)) (fun _ => by show 2 ≤ 1000; decide)) (fm_cons (fm_var (pv 6) (fun _ => (.tail _ (.tail _ (.tail _ (.head _)))))) fm_nil))) (fun _ => by show 3 ≤ 1000; decide)) fm_nil)) (fun _ => by show 2 ≤ 1000; decide)))))
        (pss_cons (ps_set (i := 7) scLaw.nd rfl (.inl rfl) (pe_op op_cat (pv 7) (show PE _ _ (tFm lG fun a => .list (V6 a)) from (fm_lst (fm_cons (fm_tup (fm_cons (fm_var (pv 4) (fun _ => (.tail _ (.head _)))) (fm_cons (fm_tup (fm_cons (fm_tup (fm_cons (fm_tup (fm_cons (fm_new (new_str pe_str)) (fm_cons (fm_new (new_int pe_int)) fm_nil)) (fun _ => by show 2 ≤ 1000; decide)) (fm_cons (fm_new (new_int pe_int)) fm_nil)) (fun _ => by show 2 ≤ 1000; decide)) (fm_cons (fm_tup (fm_cons (fm_tup (fm_cons (fm_new (new_str pe_str)) (fm_cons (fm_new (new_int pe_int)) fm_nil)) (fun _ => by show 2 ≤ 1000; decide)) (fm_cons (fm_new (new_int pe_int)) fm_nil)) (fun _ => by show 2 ≤ 1000; decide)) fm_nil)) (fun _ => by show 2 ≤ 1000; decide)) (fm_cons (fm_var (pv 6) (fun _ => (.tail _ (.tail _ (.tail _ (.head _)))))) fm_nil))) (fun _ => by show 3 ≤ 1000; decide)) (fm_cons (fm_tup (fm_cons (fm_var (pv 4) (fun _ => (.tail _ (.head _)))) (fm_cons (fm_tup (fm_cons (fm_tup (fm_cons (fm_tup (fm_cons (fm_new (new_str pe_str)) (fm_cons (fm_new (new_int pe_int)) fm_nil)) (fun _ => by show 2 ≤ 1000; decide)) (fm_cons (fm_new (new_int pe_int)) fm_nil)) (fun _ => by show 2 ≤ 1000; decide)) fm_nil) (fun _ => by show 1 ≤ 1000; decide)) (fm_cons (fm_var (pv 6) (fun _ => (.tail _ (.tail _ (.tail _ (.head _)))))) fm_nil))) (fun _ => by show 3 ≤ 1000; decide)) fm_nil)) (fun _ => by show 2 ≤ 1000; decide)))))
        (pss_cons (ps_expr (pe_bm PySem.F.plainAttrs_list PySem.F.slot_list_append PySem.F.type_list_append mt_append (pv 7) (pa_cons (show PE _ _ (tFm lG A3) from (fm_tup (fm_cons (fm_tup (fm_cons (fm_new (new_str pe_str)) (fm_cons (fm_new (new_str pe_str)) (fm_cons (fm_new (new_str pe_str)) (fm_cons (fm_new (new_str pe_str)) fm_nil)))) (fun _ => by show 4 ≤ 1000; decide)) (fm_cons (fm_var (pv 5) (fun _ => (.tail _ (.tail _ (.head _))))) (fm_cons (fm_var (pv 6) (fun _ => (.tail _ (.tail _ (.tail _ (.head _)))))) fm_nil))) (fun _ => by show 3 ≤ 1000; decide))) pa_nil)))
        (pss_cons (ps_expr (pe_bm PySem.F.plainAttrs_list PySem.F.slot_list_append PySem.F.type_list_append mt_append (pv 7) (pa_cons (show PE _ _ (tFm lG A4) from (fm_tup (fm_cons (fm_tup (fm_cons (fm_new (new_str pe_str)) (fm_cons (fm_new (new_str pe_str)) (fm_cons (fm_new (new_str pe_str)) (fm_cons (fm_new (new_str pe_str)) (fm_cons (fm_new (new_str pe_str)) (fm_cons (fm_new (new_str pe_str)) (fm_cons (fm_new (new_str pe_str)) (fm_cons (fm_new (new_str pe_str)) fm_nil)))))))) (fun _ => by show 8 ≤ 1000; decide)) (fm_cons (fm_var (pv 5) (fun _ => (.tail _ (.tail _ (.head _))))) (fm_cons (fm_var (pv 6) (fun _ => (.tail _ (.tail _ (.tail _ (.head _)))))) fm_nil))) (fun _ => by show 3 ≤ 1000; decide))) pa_nil)))
        (pss_cons (ps_for PassesOwn.never rfl (pi_range1 rfl mr (pa_cons pe_int pa_nil)) (pg_name (i := 8) scLaw.nd rfl (.inl rfl)) (pss_one (ps_expr (pe_bm PySem.F.plainAttrs_list PySem.F.slot_list_append PySem.F.type_list_append mt_append (pv 7) (pa_cons (pe_g GB hr (by rfl) gB FB.kp bB .nil (pa_cons (pv 1) (pa_cons (pv 3) pa_nil))) pa_nil)))))
        (pss_one (ps_for PassesOwn.never rfl (pi_list (pv 7)) (pg_name (i := 9) scLaw.nd rfl (.inl rfl)) (pss_cons (ps_par (by rfl) scLaw.nd (i := 10) (j := 11) rfl rfl (by decide) rfl rfl (pa_cons (pe_callB (call_reprD hr) (by rfl) mp (by decide +kernel) (pa_cons (pv 9) pa_nil)) (pa_cons (pe_callB (call_reprD hr) (by rfl) mp (by decide +kernel) (pa_cons (pe_g GJ hr (by rfl) gJ FJ.kp bJ .nil (pa_cons (pv 9) pa_nil)) pa_nil)) pa_nil)) (by rfl))
        (pss_cons (ps_set (i := 12) scLaw.nd rfl (.inl rfl) (pe_lst (pa_cons (pe_callB (call_reprD hr) (by rfl) mp (by decide +kernel) (pa_cons (pe_g GW hr (by rfl) gW FW.kp bW .nil (pa_cons (pv 9) pa_nil)) pa_nil)) (pa_cons (pe_callB (call_reprD hr) (by rfl) mp (by decide +kernel) (pa_cons (pe_gn0 GW hr (by rfl) gW FW.kp kW (pk_cons (pv 9) pk_nil)) pa_nil)) pa_nil))))
        (pss_one (ps_if (PW.pt (pw_or (pt_cmpR (op_neS hun) (pv 12) (pe_op op_rep (pe_lst (pa_cons (pv 11) pa_nil)) pe_int) (nomark _)) (pw_or1 (pt_cmpR op_ne (pe_callB (call_reprD hr) (by rfl) mp (by decide +kernel) (pa_cons (pv 9) pa_nil)) (pv 10) (nomark _))))) (pss_one (ps_ret pe_bl)) pss_nil))))))))))))))))))))
      (pss_one (ps_ret pe_bl))), ?_⟩
    refine iSeq (iAsg ⟨.ref a, rfl, a, ns, rfl, hS, fun H1 Fd L s1 hF => ?_⟩)
    refine iName ?_
    dsimp only
    refine iSeq ⟨6, rfl, by decide, by decide, ?_⟩
    refine for_range (lo := 0) (n := 6) (fun i σ' H' => (∃ x2 x3 x4 x5 x6 x7 x8 x9 x10 x11 x12, σ' = [some (.ref a), some (.ref Fd), x2, x3, x4, x5, x6, x7, x8, x9, x10, x11, x12]) ∧ FeedAt H' Fd L (200 * (i : Int))) ⟨⟨_, _, _, _, _, _, _, _, _, _, _, rfl⟩, hF.up (by omega)⟩ (fun i σ' H' hi h => ?_) (fun σ' H' h => ?_)
    · obtain ⟨⟨x2, x3, x4, x5, x6, x7, x8, x9, x10, x11, x12, rfl⟩, hF1⟩ := h
      clear hF
      refine iName ?_
      dsimp only
      obtain ⟨c, ec⟩ : ∃ c : Int, c = 200 * (i : Int) := ⟨_, rfl⟩
      rw [← ec] at hF1
      have hi6 : c ≤ 1000 := by omega
      -- the guard
      refine iSeq (iAsg ⟨.ref Fd, rfl, Fd, L, c, rfl, hF1, by omega, fun H2 p2 nm k2 hF2 hp2 hsub hne => ?_⟩)
      refine ⟨.ref Fd, rfl, rfl, ⟨Fd, hF2.taken⟩, fun H3 lc bs s3 hlc0 hlc hbs => ?_⟩
      have hF3 := hF2.same s3
      refine ⟨Fd, L, lc, bs, c + 3, rfl, hF3, by omega, hlc, hbs, fun H4 p4 ρ k4 hF4 hrow hdr => ?_⟩
      refine ⟨10, 50, rfl, rfl, ⟨by decide, by decide, by decide⟩, by show 4 ≤ sizeLine; omega, fun l5 hl5 => ?_⟩
      have s5 := same_new (o := .lst [.int 0, .int 2, .int 9, .int (10 ^ 50)]) hl5
      have hF5 := hF4.same s5
      refine ⟨.ref Fd, rfl, Fd, L, 4, c + 3 + 12, rfl, hF5, by decide, by decide, by omega, fun w6 H6 w60 w61 k6 hF6 => ?_⟩
      have hl6 := k6.lst hF5 upd_same
      obtain ⟨m, hat, hm⟩ : ∃ m : Int, atI [V.int 0, .int 2, .int 9, .int (10 ^ 50)] w6 = some (.int m) ∧ m.natAbs ≤ 10 ^ 50 := by
        obtain ⟨z, rfl⟩ : ∃ z : Nat, w6 = (z : Int) := ⟨w6.toNat, by omega⟩
        have z4 : z < 4 := by omega
        match z, z4 with
        | 0, _ => exact ⟨0, rfl, by decide⟩
        | 1, _ => exact ⟨2, rfl, by decide⟩
        | 2, _ => exact ⟨9, rfl, by decide⟩
        | 3, _ => exact ⟨10 ^ 50, rfl, by decide⟩
      refine ⟨l5, _, w6, .int m, rfl, rfl, sqL hl6, hat, ?_⟩
      refine ⟨by show 3 ≤ sizeLine; omega, fun pg hpg => ?_⟩
      have s7 := same_new (o := .tup [.ref p2, .ref p4, .int m]) hpg
      refine iName ?_
      dsimp only
      obtain ⟨gd, e1, e2, e3, ok⟩ := gdOk_of hsub hdr hm
      have kt : KeepT H4 H6 := fun b xs e => (k6.kd (D := Fd) hF5).tup _ _ (s5 _ _ e)
      have d2 : DH Fd (upd H6 pg (.tup [.ref p2, .ref p4, .int m])) (.ref p2) (grD gd) := by
        refine .tup (s7 _ _ (kt _ _ ((k4.kd (D := Fd) hF3).tup _ _ (s3 _ _ hp2)))) ?_
        unfold grL
        rw [e1]
        exact dh_strs nm
      have d4 : DH Fd (upd H6 pg (.tup [.ref p2, .ref p4, .int m])) (.ref p4) (quD gd) := by
        have := dh_row (D := Fd) ((hrow.keep kt).keep (KeepT.of s7))
        unfold quD quL
        rw [e2]
        exact this
      have dm : DH Fd (upd H6 pg (.tup [.ref p2, .ref p4, .int m])) (.int m) (.int gd.m) := by
        rw [e3]
        exact .int m
      have dg : DH Fd (upd H6 pg (.tup [.ref p2, .ref p4, .int m])) (.ref pg) (gdD gd) := .tup upd_same (.cons d2 (.cons d4 (.cons dm .nil)))
      have hpg7 : (upd H6 pg (.tup [.ref p2, .ref p4, .int m])) pg = some (.tup [.ref p2, .ref p4, .int m]) := upd_same
      have hF7 := hF6.same s7
      generalize upd H6 pg (.tup [.ref p2, .ref p4, .int m]) = H7 at d2 d4 dm dg hpg7 hF7 s7 ⊢
      refine iSeq (iAsg ⟨.ref pg, rfl, pg, _, rfl, sqT hpg7, rfl, .ref p2, _, rfl, .ref p4, _, rfl, .int m, _, rfl, rfl, ?_⟩)
      dsimp only
      have src0 : SrcM (lG gd) Fd [some (.ref a), some (.ref Fd), some (.int (0 + (i : Int))), some (.ref pg), some (.ref p2), some (.ref p4), some (.int m), x7, x8, x9, x10, x11, x12] H7 := ⟨fun x hx => by
        simp only [lG, List.mem_cons, List.not_mem_nil, or_false] at hx
        rcases hx with rfl | rfl | rfl | rfl
        · exact ⟨_, rfl, dg⟩
        · exact ⟨_, rfl, d2⟩
        · exact ⟨_, rfl, d4⟩
        · exact ⟨_, rfl, dm⟩, hF7.taken⟩
      refine iSeq (iAsg (new_read (l := lG) (es := V1) gd src0 (by show 5 ≤ 1000; decide) fun q1 G1 r1 => ?_))
      refine iName ?_
      dsimp only
      have h1 := r1 [some (.ref a), some (.ref Fd), some (.int (0 + (i : Int))), some (.ref pg), some (.ref p2), some (.ref p4), some (.int m), some (.ref q1), x8, x9, x10, x11, x12] (fun x hx => by simp only [lG, List.mem_cons, List.not_mem_nil, or_false] at hx; rcases hx with rfl | rfl | rfl | rfl <;> rfl)
      clear r1
      refine iSeq (iDrop (app_read (l := lG) (d := A1) gd h1 rfl (by show 5 < 1000; decide) fun _ G2 h2 _ => ?_))
      dsimp only
      clear h1
      refine iSeq (iAsg (more_read (l := lG) (es := V2) gd h2 rfl (by show 6 + 2 ≤ 1000; decide) fun q3 G3 r3 => ?_))
      refine iName ?_
      dsimp only
      have h3 := r3 [some (.ref a), some (.ref Fd), some (.int (0 + (i : Int))), some (.ref pg), some (.ref p2), some (.ref p4), some (.int m), some (.ref q3), x8, x9, x10, x11, x12] (fun x hx => by simp only [lG, List.mem_cons, List.not_mem_nil, or_false] at hx; rcases hx with rfl | rfl | rfl | rfl <;> rfl)
      clear r3 h2
      refine iSeq (iAsg (more_read (l := lG) (es := V3) gd h3 rfl (by show 8 + 6 ≤ 1000; decide) fun q4 G4 r4 => ?_))
      refine iName ?_
      dsimp only
      have h4 := r4 [some (.ref a), some (.ref Fd), some (.int (0 + (i : Int))), some (.ref pg), some (.ref p2), some (.ref p4), some (.int m), some (.ref q4), x8, x9, x10, x11, x12] (fun x hx => by simp only [lG, List.mem_cons, List.not_mem_nil, or_false] at hx; rcases hx with rfl | rfl | rfl | rfl <;> rfl)
      clear r4 h3
      refine iSeq (iDrop (app_read (l := lG) (d := A2) gd h4 rfl (by show 14 < 1000; decide) fun _ G5 h5 _ => ?_))
      dsimp only
      clear h4
      refine iSeq (iAsg (more_read (l := lG) (es := V4) gd h5 rfl (by show 15 + 3 ≤ 1000; decide) fun q6 G6 r6 => ?_))
      refine iName ?_
      dsimp only
      have h6 := r6 [some (.ref a), some (.ref Fd), some (.int (0 + (i : Int))), some (.ref pg), some (.ref p2), some (.ref p4), some (.int m), some (.ref q6), x8, x9, x10, x11, x12] (fun x hx => by simp only [lG, List.mem_cons, List.not_mem_nil, or_false] at hx; rcases hx with rfl | rfl | rfl | rfl <;> rfl)
      clear r6 h5
      refine iSeq (iAsg (more_read (l := lG) (es := V5) gd h6 rfl (by show 18 + 2 ≤ 1000; decide) fun q7 G7 r7 => ?_))
      refine iName ?_
      dsimp only
      have h7 := r7 [some (.ref a), some (.ref Fd), some (.int (0 + (i : Int))), some (.ref pg), some (.ref p2), some (.ref p4), some (.int m), some (.ref q7), x8, x9, x10, x11, x12] (fun x hx => by simp only [lG, List.mem_cons, List.not_mem_nil, or_false] at hx; rcases hx with rfl | rfl | rfl | rfl <;> rfl)
      clear r7 h6
      refine iSeq (iAsg (more_read (l := lG) (es := V6) gd h7 rfl (by show 20 + 2 ≤ 1000; decide) fun q8 G8 r8 => ?_))
      refine iName ?_
      dsimp only
      have h8 := r8 [some (.ref a), some (.ref Fd), some (.int (0 + (i : Int))), some (.ref pg), some (.ref p2), some (.ref p4), some (.int m), some (.ref q8), x8, x9, x10, x11, x12] (fun x hx => by simp only [lG, List.mem_cons, List.not_mem_nil, or_false] at hx; rcases hx with rfl | rfl | rfl | rfl <;> rfl)
      clear r8 h7
      refine iSeq (iDrop (app_read (l := lG) (d := A3) gd h8 rfl (by show 22 < 1000; decide) fun _ G9 h9 _ => ?_))
      dsimp only
      clear h8
      refine iSeq (iDrop (app_read (l := lG) (d := A4) gd h9 rfl (by show 23 < 1000; decide) fun _ G10 h10 _ => ?_))
      dsimp only
      clear h9
      have hlast : FoundAt H7 (lG gd) [some (.ref a), some (.ref Fd), some (.int (0 + (i : Int))), some (.ref pg), some (.ref p2), some (.ref p4), some (.int m), some (.ref q8), x8, x9, x10, x11, x12] q8 (V1 gd ++ [A1 gd] ++ V2 gd ++ V3 gd ++ [A2 gd] ++ V4 gd ++ V5 gd ++ V6 gd ++ [A3 gd] ++ [A4 gd]) G10 := h10
      clear h10
      have gall : AllG (V1 gd ++ [A1 gd] ++ V2 gd ++ V3 gd ++ [A2 gd] ++ V4 gd ++ V5 gd ++ V6 gd ++ [A3 gd] ++ [A4 gd]) := allG_app (allG_app (allG_app (allG_app (allG_app (allG_app (allG_app (allG_app (allG_app (V1_ok ok) (A1_ok ok)) (V2_ok ok)) (V3_ok ok)) (A2_ok ok)) (V4_ok ok)) (V5_ok ok)) (V6_ok ok)) (A3_ok ok)) (A4_ok ok)
      have glen : (V1 gd ++ [A1 gd] ++ V2 gd ++ V3 gd ++ [A2 gd] ++ V4 gd ++ V5 gd ++ V6 gd ++ [A3 gd] ++ [A4 gd]).length ≤ 24 := by show 24 ≤ 24; decide
      generalize V1 gd ++ [A1 gd] ++ V2 gd ++ V3 gd ++ [A2 gd] ++ V4 gd ++ V5 gd ++ V6 gd ++ [A3 gd] ++ [A4 gd] = dsA at hlast gall glen
      generalize q8 = Lf at hlast ⊢
      generalize G10 = H8 at hlast ⊢
      have hF8 := hF7.same hlast.keep
      have nLL : Lf ≠ L := by
        obtain ⟨_, _, _, _, _, e, _⟩ := hF7
        exact (ne_of_none e hlast.new).symm
      obtain ⟨vsA, hvA, hdA⟩ := hlast.list
      have dg8 : DH Lf H8 (.ref pg) (gdD gd) := by
        obtain ⟨v, hv, hd⟩ := hlast.src.1 (3, gdD gd) (.head _)
        cases hv
        exact hd
      clear hlast d2 d4 dm dg
      refine iSeq ?_
      refine split_s (fun σ' H' => (∃ y8, σ' = [some (.ref a), some (.ref Fd), some (.int (0 + (i : Int))), some (.ref pg), some (.ref p2), some (.ref p4), some (.int m), some (.ref Lf), y8, x9, x10, x11, x12]) ∧ FeedAt H' Fd L (c + 200) ∧ ∃ vs ds, H' Lf = some (.lst vs) ∧ DHs Lf H' vs ds ∧ AllG ds) (fun nx hnx => ?_) (fun σ' H' hx => ?_)
      · refine ⟨12, rfl, by decide, by decide, ?_⟩
        refine for_range (lo := 0) (n := 12) (fun j σ' H' => (∃ y8, σ' = [some (.ref a), some (.ref Fd), some (.int (0 + (i : Int))), some (.ref pg), some (.ref p2), some (.ref p4), some (.int m), some (.ref Lf), y8, x9, x10, x11, x12]) ∧ FeedAt H' Fd L (c + 16 + 15 * (j : Int)) ∧ DH Lf H' (.ref pg) (gdD gd) ∧ ∃ vs ds, H' Lf = some (.lst vs) ∧ DHs Lf H' vs ds ∧ AllG ds ∧ ds.length ≤ 24 + j) ⟨⟨_, rfl⟩, hF8.up (by omega), dg8, vsA, dsA, hvA, hdA, gall, glen⟩ (fun j σ' H' hj h => ?_) (fun σ' H' h => ?_)
        · obtain ⟨⟨y8, rfl⟩, hF9, dg9, vs, ds, hv, hds, hok, hl⟩ := h
          refine iName ?_
          dsimp only
          refine iDrop ⟨.ref Lf, rfl, .inl ⟨rfl, _, sqL hv⟩, .ref Fd, rfl, .ref pg, rfl, Fd, L, .ref pg, gdD gd, Lf, c + 16 + 15 * (j : Int), 4, 1338, rfl, hF9, by omega, ⟨_, hv⟩, dg9, ok.gd, by decide, fun Ha r d' ka hFa hra hoa => ?_⟩
          have hva := ka.lst hF9 hv
          have kda := ka.kd (D := Lf) hF9
          have vl := hds.len
          refine ⟨Lf, vs, r, rfl, rfl, hva, by omega, ?_⟩
          have kd := keepD_put (ws := vs ++ [r]) hva
          have nLF : Lf ≠ Fd := by
            obtain ⟨_, _, _, _, e, _⟩ := hFa
            exact ne_of hva e fun z => nomatch z
          refine ⟨⟨_, rfl⟩, ?_, (dg9.keep kda).keep kd, vs ++ [r], ds ++ [d'], upd_same, ((hds.keep kda).app (.cons hra .nil)).keep kd, allG_app hok (allG_cons (hoa.mono (Nat.le_refl _) (Nat.le_refl _) (by decide) (by decide)) allG_nil), ?_⟩
          · obtain ⟨ms, u1, u2, u3, e1, e2, e3, e4⟩ := hFa
            refine ⟨ms, u1, u2, u3, ?_, ?_, e3, by omega⟩
            · rw [upd_ne nLF.symm]
              exact e1
            · rw [upd_ne nLL.symm]
              exact e2
          · rw [List.length_append]
            show _ + 1 ≤ _
            omega
        · obtain ⟨hσ, hF9, _, vs, ds, hv, hds, hok, _⟩ := h
          exact hnx _ _ ⟨hσ, hF9.up (by omega), vs, ds, hv, hds, hok⟩
      · obtain ⟨⟨y8, rfl⟩, hF9, vs, ds, hv, hds, hok⟩ := hx
        dsimp only
        refine ⟨.ref Lf, rfl, Lf, rfl, ⟨_, sqL hv⟩, ?_⟩
        refine for_list (xs := vs) (fun j σ' Hb => (∃ z9 z10 z11 z12, σ' = [some (.ref a), some (.ref Fd), some (.int (0 + (i : Int))), some (.ref pg), some (.ref p2), some (.ref p4), some (.int m), some (.ref Lf), y8, z9, z10, z11, z12]) ∧ Same H' Hb) ⟨⟨_, _, _, _, rfl⟩, Same.refl _⟩ (fun j σ' Hb _ h => sqL (h.2 _ _ hv)) (fun j x σ' Hb hx h => ?_) (fun σ' Hb h => ?_)
        · obtain ⟨⟨z9, z10, z11, z12, rfl⟩, sm⟩ := h
          refine iName ?_
          dsimp only
          obtain ⟨d, hdi, hdx⟩ := hds.at hx
          have hd0 := hdx.keep (KeepD.of sm)
          have ho := hok d (List.mem_of_getElem? hdi)
          have sml := ho.small (by decide)
          have tny := tiny_big ho.big
          have dep : d.depth ≤ 30 := Nat.le_trans ho.dep (by decide)
          refine iSeq ⟨x, rfl, ?_⟩
          try dsimp only
          refine iNil ?_
          try dsimp only
          refine reprD_of hd0 ho (by decide) (by decide) (by decide) (by decide) ?_
          refine ⟨x, rfl, x, d, Lf, rfl, hd0, sml, tny, dep, fun Hc sc => ?_⟩
          try dsimp only
          refine iNil ?_
          try dsimp only
          refine reprD_bl ?_
          refine ⟨_, _, rfl, ?_⟩
          try dsimp only
          have hd1 := hd0.keep (KeepD.of sc)
          refine iSeq (iAsg ⟨x, rfl, x, d, Lf, rfl, hd1, sml, fun Hd sd => ?_⟩)
          try dsimp only
          refine iNil ?_
          try dsimp only
          refine reprD_bl ?_
          have hd2 := hd1.keep (KeepD.of sd)
          refine ⟨x, rfl, rfl, rfl, x, d, Lf, rfl, hd2, sml, fun He se => ?_⟩
          try dsimp only
          refine iNil ?_
          try dsimp only
          refine reprD_bl ?_
          refine ⟨by show 2 ≤ sizeLine; omega, fun lt hlt => ?_⟩
          have sf := same_new (o := .lst [.str (PyData.bool (guardD d)).shown, .str (PyData.bool (guardD d)).shown]) hlt
          have hd3 := (hd2.keep (KeepD.of se)).keep (KeepD.of sf)
          have hlf : (upd He lt (.lst [.str (PyData.bool (guardD d)).shown, .str (PyData.bool (guardD d)).shown])) lt = some (.lst [.str (PyData.bool (guardD d)).shown, .str (PyData.bool (guardD d)).shown]) := upd_same
          refine iName ?_
          try dsimp only
          have sbf := (((sm.trans sc).trans sd).trans se).trans sf
          generalize upd He lt (.lst [.str (PyData.bool (guardD d)).shown, .str (PyData.bool (guardD d)).shown]) = Hf at hd3 hlf sbf ⊢
          refine iIfS (iOr ⟨.ref lt, rfl, .str (PyData.bool (guardD d)).shown, rfl, by show 1 ≤ sizeLine; omega, fun l1 hl1 => ⟨l1, 2, _, rfl, rfl, upd_same, by decide, by decide, by show 1 * 2 ≤ sizeLine; omega, fun l2 hl2 => ?_⟩⟩)
          have sg := (same_new (o := .lst [.str (PyData.bool (guardD d)).shown]) hl1).trans (same_new (o := .lst [.str (PyData.bool (guardD d)).shown, .str (PyData.bool (guardD d)).shown]) hl2)
          refine ⟨lt, l2, [(PyData.bool (guardD d)).shown, (PyData.bool (guardD d)).shown], rfl, rfl, sqL (sg _ _ hlf), sqL upd_same, _, rfl, ?_⟩
          refine iteF ⟨x, rfl, ?_⟩
          try dsimp only
          refine iNil ?_
          try dsimp only
          refine reprD_of (hd3.keep (KeepD.of sg)) ho (by decide) (by decide) (by decide) (by decide) ?_
          refine ⟨.str d.shown, rfl, rfl, _, rfl, ?_⟩
          rw [decide_eq_true rfl]
          exact iteF ⟨⟨_, _, _, _, rfl⟩, sbf.trans sg⟩
        · obtain ⟨⟨z9, z10, z11, z12, rfl⟩, sm⟩ := h
          exact ⟨⟨_, _, _, _, _, _, _, _, _, _, _, rfl⟩, (hF9.same sm).up (by omega)⟩
    · obtain ⟨⟨x2, x3, x4, x5, x6, x7, x8, x9, x10, x11, x12, rfl⟩, _⟩ := h
      dsimp only
      exact iRet (q _)
end
end P51
/-! The end of a law's row, by a promise of its def that holds where nothing is being shown. -/
namespace AskG
open PySem PySem.Spec PyProof.Rows L2
/-- from an abstract heap that tracks at most the script -/
theorem lawG_core {P : Program} {w : World} {K : PySem.W.Frag} {mg mb : Str → Option Value} {k : Nat} {fa a : Addr} {fd : FuncData} {x : Str} {pr : Pr}
    {s₁ : Shared} {vs : List Value} {H : Hp}
    (inK : K.In s₁.heap) (ns1 : s₁.heap.Ns mainGlobals mg) (ns2 : s₁.heap.Ns builtinsNs mb)
    (bb : ∀ x : Str, x ≠ "__name__" → mb x = bootBuiltins x) (lim : s₁.heap.NoLimit) (gn : s₁.gens = #[])
    (ha : s₁.heap.get? a = some { cls := .type "list", data := .seq vs.toArray }) (hr : RG k callerA)
    (F : ∀ base : Heap, K.In base → base.Ns mainGlobals mg → FnG P w K mg base k fa fd [x] pr)
    (bind : ∀ (s : Shared) (u : Value), BindsTo s fd ⟨[u], []⟩ [(x, u)])
    (only : Only H) (hok : HOk P w H s₁.heap) (at_a : ∀ b, H b ≠ none → b = a) (noK : H a ≠ none → K.lookup a = none)
    (hp : pr [.ref a] H fun v _ => v = .bl true) :
    codeAny (model P w) callerA (.call (.ref fa) ⟨[.ref a], []⟩)
      (fun r s' => r = .ok (.ret (.bool true)) ∧ OldK s₁.heap s'.heap ∧ s'.os = s₁.os ∧ AllBare s'.gens) s₁ := by
  have hid : ∀ {b : Addr} {o : Obj}, s₁.heap.get? b = some o → H b = none → (hidT s₁.heap H).get? b = some o :=
    fun e n => hidT_get e n
  have notA : ∀ {b : Addr} {o : Obj} {es : Array DictEntry} {ep : Nat}, s₁.heap.get? b = some o → o.data = .dict es ep → H b = none := by
    intro b o es ep e d
    cases q : H b with
    | none => rfl
    | some u =>
      have eb : b = a := at_a b (by rw [q]; simp)
      rw [eb, ha] at e
      cases e
      cases (show Data.seq vs.toArray _ = Data.dict es ep from d)
  have nsH : ∀ {b : Addr} {m : Str → Option Value}, s₁.heap.Ns b m → (hidT s₁.heap H).Ns b m := by
    rintro b m ⟨o, es, ep, e, d, r⟩
    exact ⟨o, es, ep, hid e (notA e d), d, r⟩
  have inH : K.In (hidT s₁.heap H) := by
    intro b o e
    refine hid (inK b o e) ?_
    cases q : H b with
    | none => rfl
    | some u =>
      have eb : b = a := at_a b (by rw [q]; simp)
      rw [eb, noK (by rw [← eb, q]; simp)] at e
      cases e
  have M : Mod K mg (hidT s₁.heap H) :=
    ⟨inH, nsH ns1, ⟨mb, nsH ns2, bb⟩, lim.elim fun mc h => ⟨mc, nsH h.1, h.2⟩⟩
  have e0 : Env0 P w K mg (hidT s₁.heap H) callerA [] s₁ H :=
    ⟨rfl, M, fun b o e => of_hidT e, Nat.le_of_eq (hidT_size _ _), trivial,
      fun b hb => absurd (show b ∈ ([] : List Addr) from hb) (by simp), hok, .of_eq gn⟩
  refine codeAny_mono ((F _ inH (nsH ns1)).goes callerA [] s₁ H ⟨[.ref a], []⟩ [.ref a] [.ref a] _ hr e0
    (bind s₁ (.ref a)) (.cons rfl .nil) hp) fun r s' h => ?_
  match r, h with
  | .error e, h => exact h.elim
  | .ok .next, h => exact h.elim
  | .ok .brk, h => exact h.elim
  | .ok .cont, h => exact h.elim
  | .ok (.ret u), h =>
    obtain ⟨v, H', os, bare, un, hok', r', q⟩ := h
    have q : v = .bl true := q
    subst q
    obtain rfl : u = Value.bool true := r'
    refine ⟨rfl, OldK.of_keep fun b o e => ?_, os, bare⟩
    cases hb : H b with
    | none =>
      exact un.keep b o e hb (fun z => absurd (show b ∈ ([] : List Addr) from z) (by simp)) (by simp)
    | some u =>
      rcases only b with z | ⟨ob, xs, z⟩
      · rw [hb] at z
        cases z
      · obtain ⟨e1, _⟩ := hok b _ z
        obtain ⟨e2, _⟩ := hok' b _ (un.frzs b ob _ z)
        rw [e] at e1
        cases e1
        exact e2
theorem lawG {P : Program} {w : World} {K : PySem.W.Frag} {mg mb : Str → Option Value} {k : Nat} {fa a : Addr} {fd : FuncData} {x : Str} {pr : Pr}
    {s₁ : Shared} {vs : List Value} {ns : List Int}
    (inK : K.In s₁.heap) (ns1 : s₁.heap.Ns mainGlobals mg) (ns2 : s₁.heap.Ns builtinsNs mb)
    (bb : ∀ x : Str, x ≠ "__name__" → mb x = bootBuiltins x) (lim : s₁.heap.NoLimit) (gn : s₁.gens = #[])
    (ha : s₁.heap.get? a = some { cls := .type "list", data := .seq vs.toArray }) (hi : IntsAre vs ns) (hl : ns.length ≤ sizeLine) (hr : RG k callerA)
    (F : ∀ base : Heap, K.In base → base.Ns mainGlobals mg → FnG P w K mg base k fa fd [x] pr)
    (bind : ∀ (s : Shared) (u : Value), BindsTo s fd ⟨[u], []⟩ [(x, u)])
    (hp : ∀ H : Hp, Only H → SqL K H a (ns.map V.int) → pr [.ref a] H fun v _ => v = .bl true) :
    codeAny (model P w) callerA (.call (.ref fa) ⟨[.ref a], []⟩)
      (fun r s' => r = .ok (.ret (.bool true)) ∧ OldK s₁.heap s'.heap ∧ s'.os = s₁.os ∧ AllBare s'.gens) s₁ := by
  have rv := vals_ints hi
  cases hk : K.lookup a with
  | some o =>
    have e := inK a o hk
    rw [ha] at e
    cases e
    refine lawG_core (H := fun _ => none) inK ns1 ns2 bb lim gn ha hr F bind (fun _ => .inl rfl)
      (fun b u z => nomatch (show (none : Option HO) = some u from z)) (fun b z => absurd rfl z) (fun z => absurd rfl z) ?_
    refine hp _ (fun _ => .inl rfl) (.inr ⟨_, vs.toArray, _, hk, rfl, rfl, rfl, ?_, by simpa using rv⟩)
    rw [List.size_toArray, hi.length]
    exact hl
  | none =>
    have at1 : (fun b => if b = a then some (HO.frz { cls := .type "list", data := .seq vs.toArray } (.lst (ns.map V.int))) else none : Hp) a =
        some (.frz { cls := .type "list", data := .seq vs.toArray } (.lst (ns.map V.int))) := if_pos rfl
    have else1 : ∀ b, b ≠ a → (fun b => if b = a then some (HO.frz { cls := .type "list", data := .seq vs.toArray } (.lst (ns.map V.int))) else none : Hp) b = none :=
      fun b h => if_neg h
    generalize (fun b => if b = a then some (HO.frz { cls := .type "list", data := .seq vs.toArray } (.lst (ns.map V.int))) else none : Hp) = H at at1 else1
    have only : Only H := fun b => by
      by_cases h : b = a
      · rw [h]
        exact .inr ⟨_, _, at1⟩
      · exact .inl (else1 b h)
    refine lawG_core (H := H) inK ns1 ns2 bb lim gn ha hr F bind only (fun b u z => ?_) (fun b z => ?_) (fun _ => hk) (hp H only (.inl (.inr ⟨_, at1⟩)))
    · by_cases h : b = a
      · subst h
        rw [at1] at z
        cases z
        exact ⟨ha, by rw [List.length_map]; exact hl, vs, _, rv, ha⟩
      · rw [else1 b h] at z
        cases z
    · by_cases h : b = a
      · exact h
      · exact absurd (else1 b h) z
/-- the goal behind the head -/
theorem walkG {l : PySem.W.OpenLaw} {n k : Nat} {q : Program} {loose : List Str} {XP : (Str → Option Value) → Heap → Prop} {YP : World → Heap → Prop} {d : DefRec}
    {K : Params → PySem.W.Frag} {pr : PySem.W.Frag → Pr} {x : Str}
    (hn : l.most = some n) (hn2 : n ≤ sizeLine) (hdf : d.params.defaults = []) (hr : RG k callerA)
    (hY : ∀ (w : World) (h : Heap), YP w h → (K w.params).In h)
    (F : ∀ (w : World) (mg : Str → Option Value) (fa : Addr) (h : Heap), (K w.params).In h → h.Ns mainGlobals mg → mg d.name = some (.ref fa) →
      ∃ fd : FuncData, (∀ (s : Shared) (u : Value), BindsTo s fd ⟨[u], []⟩ [(x, u)]) ∧
        ∀ base : Heap, (K w.params).In base → base.Ns mainGlobals mg → FnG l.prog w (K w.params) mg base k fa fd [x] (pr (K w.params)))
    (hp : ∀ (K : PySem.W.Frag) (H : Hp) (a : Addr) (ns : List Int), ns.length ≤ n → SqL K H a (ns.map V.int) → pr K [.ref a] H fun v _ => v = .bl true) :
    PySem.W.WalkO q loose XP YP l.row.toRowW d [] (fun f vs => PySem.call f vs) := by
  refine Att.attach_call hn hdf ?_
  intro w s₀ s₁ mg mb fa o pm cd doc a vs ns G Y ho hd hcd hmg hobj hints hlen hg
  have inK := hY w _ Y
  obtain ⟨fd, hb, hF⟩ := F w mg fa _ inK G.T.g hmg
  exact lawG inK G.T.g G.T.b G.T.builtins G.T.nolimit hg hobj hints (Nat.le_trans hlen hn2) hr hF hb fun H _ hS => hp _ H a ns hlen hS
end AskG
namespace P51
open PySem PySem.Spec PyProof.Rows L2 AskG
/-- what the top has written -/
theorem all_mk {l : PySem.W.OpenLaw} {w : World} {K : PySem.W.Frag} {h : Heap} {mg : Str → Option Value} {fa : Addr} (X : K.In h) (G : h.Ns mainGlobals mg) (hfa : mg "law" = some (.ref fa))
    {f1 f2 f3 f4 f5 f6 f7 f8 f9 f10 f11 f12 f13 f14 f15 f16 f17 f18 f19 f20 f21 f22 f23 : Addr} {od1 an1 od2 an2 od3 an3 od4 an4 od5 an5 od6 an6 od7 an7 od8 an8 od9 an9 od10 an10 od11 an11 od12 an12 od13 an13 od14 an14 od15 an15 od16 an16 od17 an17 od18 an18 od19 an19 od20 an20 od21 an21 od22 an22 od23 an23 : Option Addr} {sl1 sl2 sl3 sl4 sl5 sl6 sl7 sl8 sl9 sl10 sl11 sl12 sl13 sl14 sl15 sl16 sl17 sl18 sl19 sl20 sl21 sl22 sl23 : Array (Option Value)} {oc1 kV1 dc1 pm1 cd1 ct1 oc2 kV2 dc2 pm2 cd2 ct2 oc3 kV3 dc3 pm3 cd3 ct3 oc4 kV4 dc4 pm4 cd4 ct4 oc5 kV5 dc5 pm5 cd5 ct5 oc6 kV6 dc6 pm6 cd6 ct6 oc7 kV7 dc7 pm7 cd7 ct7 oc8 kV8 dc8 pm8 cd8 ct8 oc9 kV9 dc9 pm9 cd9 ct9 oc10 kV10 dc10 pm10 cd10 ct10 oc11 kV11 dc11 pm11 cd11 ct11 oc12 kV12 dc12 pm12 cd12 ct12 oc13 kV13 dc13 pm13 cd13 ct13 oc14 kV14 dc14 pm14 cd14 ct14 oc15 kV15 dc15 pm15 cd15 ct15 oc16 kV16 dc16 pm16 cd16 ct16 oc17 kV17 dc17 pm17 cd17 ct17 oc18 kV18 dc18 pm18 cd18 ct18 oc19 kV19 dc19 pm19 cd19 ct19 oc20 kV20 dc20 pm20 cd20 ct20 oc21 kV21 dc21 pm21 cd21 ct21 oc22 kV22 dc22 pm22 cd22 ct22 oc23 kV23 dc23 pm23 cd23 ct23 : Value} {tk0 : Tok}
    (a1 : PySem.W.nsIn K mainGlobals "is_integer" = some (some (.ref f1))) (l1 : K.lookup f1 = some ⟨oc1, od1, .func (PySem.W.fnOf "is_integer" "is_integer" (defArgs sIsInt) (defBody sIsInt) (defScope sIsInt) .none kV1 dc1 pm1 an1 cd1 ct1), sl1⟩) (c1 : PySem.W.codeIn K cd1 "is_integer" = true) (k1 : PySem.W.keepIn K (.ref f1) = true)
    (a2 : PySem.W.nsIn K mainGlobals "is_number" = some (some (.ref f2))) (l2 : K.lookup f2 = some ⟨oc2, od2, .func (PySem.W.fnOf "is_number" "is_number" (defArgs sIsNum) (defBody sIsNum) (defScope sIsNum) .none kV2 dc2 pm2 an2 cd2 ct2), sl2⟩) (c2 : PySem.W.codeIn K cd2 "is_number" = true) (k2 : PySem.W.keepIn K (.ref f2) = true)
    (a3 : PySem.W.nsIn K mainGlobals "is_name" = some (some (.ref f3))) (l3 : K.lookup f3 = some ⟨oc3, od3, .func (PySem.W.fnOf "is_name" "is_name" (defArgs sIsName) (defBody sIsName) (defScope sIsName) .none kV3 dc3 pm3 an3 cd3 ct3), sl3⟩) (c3 : PySem.W.codeIn K cd3 "is_name" = true) (k3 : PySem.W.keepIn K (.ref f3) = true)
    (a4 : PySem.W.nsIn K mainGlobals "is_pair" = some (some (.ref f4))) (l4 : K.lookup f4 = some ⟨oc4, od4, .func (PySem.W.fnOf "is_pair" "is_pair" (defArgs sIsPair) (defBody sIsPair) (defScope sIsPair) .none kV4 dc4 pm4 an4 cd4 ct4), sl4⟩) (c4 : PySem.W.codeIn K cd4 "is_pair" = true) (k4 : PySem.W.keepIn K (.ref f4) = true)
    (a5 : PySem.W.nsIn K mainGlobals "is_cell" = some (some (.ref f5))) (l5 : K.lookup f5 = some ⟨oc5, od5, .func (PySem.W.fnOf "is_cell" "is_cell" (defArgs sIsCell) (defBody sIsCell) (defScope sIsCell) .none kV5 dc5 pm5 an5 cd5 ct5), sl5⟩) (c5 : PySem.W.codeIn K cd5 "is_cell" = true) (k5 : PySem.W.keepIn K (.ref f5) = true)
    (a6 : PySem.W.nsIn K mainGlobals "is_weighted_cell" = some (some (.ref f6))) (l6 : K.lookup f6 = some ⟨oc6, od6, .func (PySem.W.fnOf "is_weighted_cell" "is_weighted_cell" (defArgs sIsWt) (defBody sIsWt) (defScope sIsWt) .none kV6 dc6 pm6 an6 cd6 ct6), sl6⟩) (c6 : PySem.W.codeIn K cd6 "is_weighted_cell" = true) (k6 : PySem.W.keepIn K (.ref f6) = true)
    (a7 : PySem.W.nsIn K mainGlobals "is_row" = some (some (.ref f7))) (l7 : K.lookup f7 = some ⟨oc7, od7, .func (PySem.W.fnOf "is_row" "is_row" (defArgs sIsRow) (defBody sIsRow) (defScope sIsRow) .none kV7 dc7 pm7 an7 cd7 ct7), sl7⟩) (c7 : PySem.W.codeIn K cd7 "is_row" = true) (k7 : PySem.W.keepIn K (.ref f7) = true)
    (a8 : PySem.W.nsIn K mainGlobals "is_tuple_of" = some (some (.ref f8))) (l8 : K.lookup f8 = some ⟨oc8, od8, .func (PySem.W.fnOf "is_tuple_of" "is_tuple_of" (defArgs sTupOf) (defBody sTupOf) (defScope sTupOf) .none kV8 dc8 pm8 an8 cd8 ct8), sl8⟩) (c8 : PySem.W.codeIn K cd8 "is_tuple_of" = true) (k8 : PySem.W.keepIn K (.ref f8) = true)
    (a9 : PySem.W.nsIn K mainGlobals "are_ascending" = some (some (.ref f9))) (l9 : K.lookup f9 = some ⟨oc9, od9, .func (PySem.W.fnOf "are_ascending" "are_ascending" (defArgs sAsc) (defBody sAsc) (defScope sAsc) .none kV9 dc9 pm9 an9 cd9 ct9), sl9⟩) (c9 : PySem.W.codeIn K cd9 "are_ascending" = true) (k9 : PySem.W.keepIn K (.ref f9) = true)
    (a10 : PySem.W.nsIn K mainGlobals "are_names" = some (some (.ref f10))) (l10 : K.lookup f10 = some ⟨oc10, od10, .func (PySem.W.fnOf "are_names" "are_names" (defArgs sNames) (defBody sNames) (defScope sNames) .none kV10 dc10 pm10 an10 cd10 ct10), sl10⟩) (c10 : PySem.W.codeIn K cd10 "are_names" = true) (k10 : PySem.W.keepIn K (.ref f10) = true)
    (a11 : PySem.W.nsIn K mainGlobals "are_accounts" = some (some (.ref f11))) (l11 : K.lookup f11 = some ⟨oc11, od11, .func (PySem.W.fnOf "are_accounts" "are_accounts" (defArgs sAccs) (defBody sAccs) (defScope sAccs) .none kV11 dc11 pm11 an11 cd11 ct11), sl11⟩) (c11 : PySem.W.codeIn K cd11 "are_accounts" = true) (k11 : PySem.W.keepIn K (.ref f11) = true)
    (a12 : PySem.W.nsIn K mainGlobals "wall_has_form" = some (some (.ref f12))) (l12 : K.lookup f12 = some ⟨oc12, od12, .func (PySem.W.fnOf "wall_has_form" "wall_has_form" (defArgs sWall) (defBody sWall) (defScope sWall) .none kV12 dc12 pm12 an12 cd12 ct12), sl12⟩) (c12 : PySem.W.codeIn K cd12 "wall_has_form" = true) (k12 : PySem.W.keepIn K (.ref f12) = true)
    (a13 : PySem.W.nsIn K mainGlobals "_law_source" = some (some (.ref f13))) (l13 : K.lookup f13 = some ⟨oc13, od13, .func (PySem.W.fnOf "_law_source" "_law_source" (defArgs sFeed) (defBody sFeed) (defScope sFeed) .none kV13 dc13 pm13 an13 cd13 ct13), sl13⟩) (c13 : PySem.W.codeIn K cd13 "_law_source" = true) (k13 : PySem.W.keepIn K (.ref f13) = true)
    (a14 : PySem.W.nsIn K mainGlobals "_law_next" = some (some (.ref f14))) (l14 : K.lookup f14 = some ⟨oc14, od14, .func (PySem.W.fnOf "_law_next" "_law_next" (defArgs sDraw) (defBody sDraw) (defScope sDraw) .none kV14 dc14 pm14 an14 cd14 ct14), sl14⟩) (c14 : PySem.W.codeIn K cd14 "_law_next" = true) (k14 : PySem.W.keepIn K (.ref f14) = true)
    (a15 : PySem.W.nsIn K mainGlobals "_law_row" = some (some (.ref f15))) (l15 : K.lookup f15 = some ⟨oc15, od15, .func (PySem.W.fnOf "_law_row" "_law_row" (defArgs sRow) (defBody sRow) (defScope sRow) .none kV15 dc15 pm15 an15 cd15 ct15), sl15⟩) (c15 : PySem.W.codeIn K cd15 "_law_row" = true) (k15 : PySem.W.keepIn K (.ref f15) = true)
    (a16 : PySem.W.nsIn K mainGlobals "_law_cells" = some (some (.ref f16))) (l16 : K.lookup f16 = some ⟨oc16, od16, .func (PySem.W.fnOf "_law_cells" "_law_cells" (defArgs sCells) (defBody sCells) (defScope sCells) .none kV16 dc16 pm16 an16 cd16 ct16), sl16⟩) (c16 : PySem.W.codeIn K cd16 "_law_cells" = true) (k16 : PySem.W.keepIn K (.ref f16) = true)
    (a17 : PySem.W.nsIn K mainGlobals "_law_group" = some (some (.ref f17))) (l17 : K.lookup f17 = some ⟨oc17, od17, .func (PySem.W.fnOf "_law_group" "_law_group" (defArgs sGroup) (defBody sGroup) (defScope sGroup) .none kV17 dc17 pm17 an17 cd17 ct17), sl17⟩) (c17 : PySem.W.codeIn K cd17 "_law_group" = true) (k17 : PySem.W.keepIn K (.ref f17) = true)
    (a18 : PySem.W.nsIn K mainGlobals "_law_is_integer" = some (some (.ref f18))) (l18 : K.lookup f18 = some ⟨oc18, od18, .func (PySem.W.fnOf "_law_is_integer" "_law_is_integer" (defArgs lInt) (defBody lInt) (defScope lInt) .none kV18 dc18 pm18 an18 cd18 ct18), sl18⟩) (c18 : PySem.W.codeIn K cd18 "_law_is_integer" = true) (k18 : PySem.W.keepIn K (.ref f18) = true)
    (a19 : PySem.W.nsIn K mainGlobals "_law_is_name" = some (some (.ref f19))) (l19 : K.lookup f19 = some ⟨oc19, od19, .func (PySem.W.fnOf "_law_is_name" "_law_is_name" (defArgs lName) (defBody lName) (defScope lName) .none kV19 dc19 pm19 an19 cd19 ct19), sl19⟩) (c19 : PySem.W.codeIn K cd19 "_law_is_name" = true) (k19 : PySem.W.keepIn K (.ref f19) = true)
    (a20 : PySem.W.nsIn K mainGlobals "_law_is_row" = some (some (.ref f20))) (l20 : K.lookup f20 = some ⟨oc20, od20, .func (PySem.W.fnOf "_law_is_row" "_law_is_row" (defArgs lRow) (defBody lRow) (defScope lRow) .none kV20 dc20 pm20 an20 cd20 ct20), sl20⟩) (c20 : PySem.W.codeIn K cd20 "_law_is_row" = true) (k20 : PySem.W.keepIn K (.ref f20) = true)
    (a21 : PySem.W.nsIn K mainGlobals "_law_bent" = some (some (.ref f21))) (l21 : K.lookup f21 = some ⟨oc21, od21, .func (PySem.W.fnOf "_law_bent" "_law_bent" (defArgs sBent) (defBody sBent) (defScope sBent) .none kV21 dc21 pm21 an21 cd21 ct21), sl21⟩) (c21 : PySem.W.codeIn K cd21 "_law_bent" = true) (k21 : PySem.W.keepIn K (.ref f21) = true)
    (a22 : PySem.W.nsIn K mainGlobals "_law_is_guard" = some (some (.ref f22))) (l22 : K.lookup f22 = some ⟨oc22, od22, .func (PySem.W.fnOf "_law_is_guard" "_law_is_guard" (defArgs lGuard) (defBody lGuard) (defScope lGuard) .none kV22 dc22 pm22 an22 cd22 ct22), sl22⟩) (c22 : PySem.W.codeIn K cd22 "_law_is_guard" = true) (k22 : PySem.W.keepIn K (.ref f22) = true)
    (a23 : PySem.W.nsIn K mainGlobals "law" = some (some (.ref f23))) (l23 : K.lookup f23 = some ⟨oc23, od23, .func (PySem.W.fnOf "law" "law" (defArgs sLaw) (defBody sLaw) (defScope sLaw) .none kV23 dc23 pm23 an23 cd23 ct23), sl23⟩) (c23 : PySem.W.codeIn K cd23 "law" = true) (k23 : PySem.W.keepIn K (.ref f23) = true)
    (z1 : PySem.W.nsIn K mainGlobals "sorted" = some none)
    (z2 : PySem.W.nsIn K mainGlobals "tuple" = some none)
    (z3 : PySem.W.nsIn K mainGlobals "list" = some none)
    (z4 : PySem.W.nsIn K mainGlobals "len" = some none)
    (z5 : PySem.W.nsIn K mainGlobals "range" = some none)
    (z6 : PySem.W.nsIn K mainGlobals "isinstance" = some none)
    (z7 : PySem.W.nsIn K mainGlobals "int" = some none)
    (z8 : PySem.W.nsIn K mainGlobals "bool" = some none)
    (z9 : PySem.W.nsIn K mainGlobals "str" = some none)
    (z10 : PySem.W.nsIn K mainGlobals "all" = some none)
    (z11 : PySem.W.nsIn K mainGlobals "zip" = some none)
    (z12 : PySem.W.nsIn K mainGlobals "repr" = some none)
    (z13 : PySem.W.nsIn K mainGlobals "set" = some none)
    (zc0 : PySem.W.nsIn K mainGlobals "LETTERS" = some (some (.str lettersD tk0))) :
    ∃ fd : FuncData, (∀ (s : Shared) (v : Value), BindsTo s fd ⟨[v], []⟩ [("_law_script", v)]) ∧ ∀ base : Heap, K.In base → base.Ns mainGlobals mg → FnG l.prog w K mg base 8 fa fd ["_law_script"] (prLaw K) := by
  have e := hfa.symm.trans (PySem.W.mg_of X G a23)
  cases e
  have F1 := fun_mk (st := sIsInt) l1 c1 k1
  have b1 := F1.binds (ps := ["thing"]) fun _ _ _ _ _ _ us hl => match us, hl with | [_], _ => rfl
  have g1 := PySem.W.mg_of X G a1
  have F2 := fun_mk (st := sIsNum) l2 c2 k2
  have b2 := F2.binds (ps := ["thing"]) fun _ _ _ _ _ _ us hl => match us, hl with | [_], _ => rfl
  have g2 := PySem.W.mg_of X G a2
  have F3 := fun_mk (st := sIsName) l3 c3 k3
  have b3 := F3.binds (ps := ["thing"]) fun _ _ _ _ _ _ us hl => match us, hl with | [_], _ => rfl
  have g3 := PySem.W.mg_of X G a3
  have F4 := fun_mk (st := sIsPair) l4 c4 k4
  have b4 := F4.binds (ps := ["thing"]) fun _ _ _ _ _ _ us hl => match us, hl with | [_], _ => rfl
  have g4 := PySem.W.mg_of X G a4
  have F5 := fun_mk (st := sIsCell) l5 c5 k5
  have b5 := F5.binds (ps := ["thing"]) fun _ _ _ _ _ _ us hl => match us, hl with | [_], _ => rfl
  have g5 := PySem.W.mg_of X G a5
  have F6 := fun_mk (st := sIsWt) l6 c6 k6
  have b6 := F6.binds (ps := ["thing"]) fun _ _ _ _ _ _ us hl => match us, hl with | [_], _ => rfl
  have g6 := PySem.W.mg_of X G a6
  have F7 := fun_mk (st := sIsRow) l7 c7 k7
  have b7 := F7.binds (ps := ["thing"]) fun _ _ _ _ _ _ us hl => match us, hl with | [_], _ => rfl
  have g7 := PySem.W.mg_of X G a7
  have F8 := fun_mk (st := sTupOf) l8 c8 k8
  have b8 := F8.binds (ps := ["many", "thing"]) fun _ _ _ _ _ _ us hl => match us, hl with | [_, _], _ => rfl
  have g8 := PySem.W.mg_of X G a8
  have F9 := fun_mk (st := sAsc) l9 c9 k9
  have b9 := F9.binds (ps := ["items"]) fun _ _ _ _ _ _ us hl => match us, hl with | [_], _ => rfl
  have g9 := PySem.W.mg_of X G a9
  have F10 := fun_mk (st := sNames) l10 c10 k10
  have b10 := F10.binds (ps := ["thing"]) fun _ _ _ _ _ _ us hl => match us, hl with | [_], _ => rfl
  have g10 := PySem.W.mg_of X G a10
  have F11 := fun_mk (st := sAccs) l11 c11 k11
  have b11 := F11.binds (ps := ["thing"]) fun _ _ _ _ _ _ us hl => match us, hl with | [_], _ => rfl
  have g11 := PySem.W.mg_of X G a11
  have F12 := fun_mk (st := sWall) l12 c12 k12
  have b12 := F12.binds (ps := ["thing"]) fun _ _ _ _ _ _ us hl => match us, hl with | [_], _ => rfl
  have g12 := PySem.W.mg_of X G a12
  have F13 := fun_mk (st := sFeed) l13 c13 k13
  have b13 := F13.binds (ps := ["_law_script"]) fun _ _ _ _ _ _ us hl => match us, hl with | [_], _ => rfl
  have g13 := PySem.W.mg_of X G a13
  have F14 := fun_mk (st := sDraw) l14 c14 k14
  have b14 := F14.binds (ps := ["_law_source_here", "_law_limit"]) fun _ _ _ _ _ _ us hl => match us, hl with | [_, _], _ => rfl
  have g14 := PySem.W.mg_of X G a14
  have F15 := fun_mk (st := sRow) l15 c15 k15
  have b15 := F15.binds (ps := ["_law_source_here", "_law_cells_here", "_law_share"]) fun _ _ _ _ _ _ us hl => match us, hl with | [_, _, _], _ => rfl
  have g15 := PySem.W.mg_of X G a15
  have F16 := fun_mk (st := sCells) l16 c16 k16
  have b16 := F16.binds (ps := []) fun _ _ _ _ _ _ us hl => match us, hl with | [], _ => rfl
  have g16 := PySem.W.mg_of X G a16
  have F17 := fun_mk (st := sGroup) l17 c17 k17
  have b17 := F17.binds (ps := ["_law_source_here"]) fun _ _ _ _ _ _ us hl => match us, hl with | [_], _ => rfl
  have g17 := PySem.W.mg_of X G a17
  have F18 := fun_mk (st := lInt) l18 c18 k18
  have b18 := F18.binds (ps := ["_law_value"]) fun _ _ _ _ _ _ us hl => match us, hl with | [_], _ => rfl
  have g18 := PySem.W.mg_of X G a18
  have F19 := fun_mk (st := lName) l19 c19 k19
  have b19 := F19.binds (ps := ["_law_value"]) fun _ _ _ _ _ _ us hl => match us, hl with | [_], _ => rfl
  have g19 := PySem.W.mg_of X G a19
  have F20 := fun_mk (st := lRow) l20 c20 k20
  have b20 := F20.binds (ps := ["_law_value"]) fun _ _ _ _ _ _ us hl => match us, hl with | [_], _ => rfl
  have g20 := PySem.W.mg_of X G a20
  have F21 := fun_mk (st := sBent) l21 c21 k21
  have b21 := F21.binds (ps := ["_law_source_here", "_law_value"]) fun _ _ _ _ _ _ us hl => match us, hl with | [_, _], _ => rfl
  have g21 := PySem.W.mg_of X G a21
  have F22 := fun_mk (st := lGuard) l22 c22 k22
  have b22 := F22.binds (ps := ["_law_value"]) fun _ _ _ _ _ _ us hl => match us, hl with | [_], _ => rfl
  have g22 := PySem.W.mg_of X G a22
  have F23 := fun_mk (st := sLaw) l23 c23 k23
  have m1 := PySem.W.mg_none_of X G z1
  have m2 := PySem.W.mg_none_of X G z2
  have m3 := PySem.W.mg_none_of X G z3
  have m4 := PySem.W.mg_none_of X G z4
  have m5 := PySem.W.mg_none_of X G z5
  have m6 := PySem.W.mg_none_of X G z6
  have m7 := PySem.W.mg_none_of X G z7
  have m8 := PySem.W.mg_none_of X G z8
  have m9 := PySem.W.mg_none_of X G z9
  have m10 := PySem.W.mg_none_of X G z10
  have m11 := PySem.W.mg_none_of X G z11
  have m12 := PySem.W.mg_none_of X G z12
  have m13 := PySem.W.mg_none_of X G z13
  have mc0 := PySem.W.mg_of X G zc0
  refine ⟨PySem.W.fnOf "law" "law" (defArgs sLaw) (defBody sLaw) (defScope sLaw) .none kV23 dc23 pm23 an23 cd23 ct23, fun s v => .of_eq rfl, fun base _ _ => ?_⟩
  have GI : FnG l.prog w K mg base 1 f1 _ ["thing"] (prKind isIntD) := ok_isInt (k := 0) F1 m6 m7 m8
  have GN : FnG l.prog w K mg base 2 f2 _ ["thing"] (prKind isNumD) := ok_isNum (k := 0) F2 F1 b1 g1 GI
  have GM : FnG l.prog w K mg base 1 f3 _ ["thing"] (prKind isNameD) := ok_isName (k := 0) F3 m6 m9 m4 m10 mc0
  have GP : FnG l.prog w K mg base 1 f4 _ ["thing"] (prKind isPairD) := ok_isPair (k := 0) F4 m6 m2 m4
  have GC : FnG l.prog w K mg base 3 f5 _ ["thing"] (prKind isCellD) := ok_isCell (k := 0) F5 F4 b4 g4 GP F3 b3 g3 GM F2 b2 g2 GN
  have GW : FnG l.prog w K mg base 4 f6 _ ["thing"] (prKind isWtD) := ok_isWt (k := 0) F6 F4 b4 g4 GP F5 b5 g5 GC F1 b1 g1 GI
  have GR : FnG l.prog w K mg base 5 f7 _ ["thing"] (prKind isRowD) := ok_isRow (k := 0) F7 F6 b6 g6 GW m6 m2 m10 m11
  have GT : FnG l.prog w K mg base 1 f8 _ ["many", "thing"] prTupOf := ok_tupOf (k := 0) F8 m6 m2 m4
  have GA : FnG l.prog w K mg base 1 f9 _ ["items"] prAscS := ok_asc (k := 0) F9 m10 m11
  have GNs : FnG l.prog w K mg base 2 f10 _ ["thing"] (prKind areNamesD) := ok_names (k := 0) F10 F3 b3 g3 GM m6 m2 m10
  have GAc : FnG l.prog w K mg base 3 f11 _ ["thing"] (prKind accD) := ok_accs (k := 0) F11 F10 b10 g10 GNs F9 b9 g9 (GA.mono (by decide))
  have GWl : FnG l.prog w K mg base 6 f12 _ ["thing"] (prKind guardD) := ok_wall (k := 0) F12 F8 b8 g8 (GT.mono (by decide)) F11 b11 g11 (GAc.mono (by decide)) F7 b7 g7 GR F2 b2 g2 (GN.mono (by decide))
  have GF : FnG l.prog w K mg base 1 f13 _ ["_law_script"] (prFeed K) := ok_feed (k := 0) F13
  have GD : FnG l.prog w K mg base 1 f14 _ ["_law_source_here", "_law_limit"] prDraw := ok_draw (k := 0) F14 m4
  have GRw : FnG l.prog w K mg base 2 f15 _ ["_law_source_here", "_law_cells_here", "_law_share"] prRow := ok_row (k := 0) F15 F14 b14 g14 m4 m2
  have GCs : FnG l.prog w K mg base 1 f16 _ [] prCells := ok_cells (k := 0) F16
  have GG : FnG l.prog w K mg base 2 f17 _ ["_law_source_here"] prGroup := ok_group (k := 0) F17 F14 b14 g14 m4 m2
  have GLI : FnG l.prog w K mg base 1 f18 _ ["_law_value"] (prKind isIntD) := ok_lInt (k := 0) F18 m6 m7 m8
  have GLN : FnG l.prog w K mg base 1 f19 _ ["_law_value"] (prKind isNameD) := ok_lName (k := 0) F19 m6 m9 m4
  have GLR : FnG l.prog w K mg base 2 f20 _ ["_law_value"] (prKindS isRowD) := ok_lRow (k := 0) F20 F18 b18 g18 GLI F19 b19 g19 GLN m6 m2 m4 m1 m13
  have GLG : FnG l.prog w K mg base 3 f22 _ ["_law_value"] prGuard := ok_lGuard (k := 0) F22 F18 b18 g18 (GLI.mono (by decide)) F19 b19 g19 (GLN.mono (by decide)) F20 b20 g20 GLR m6 m2 m4 m1 m13 m3
  have GB : FnG l.prog w K mg base 7 f21 _ ["_law_source_here", "_law_value"] prB5 := bent5 (ok_bent F21 b21 g21 F14 b14 g14 m6 m2 m9 m7 m8 m4 m3 5 (by decide))
  exact ok_law (k := 0) F23 F13 b13 g13 (GF.mono (by decide)) F17 b17 g17 (GG.mono (by decide)) F15 b15 g15 (GRw.mono (by decide)) F16 b16 g16 (GCs.mono (by decide)) F14 b14 g14 (GD.mono (by decide)) F21 b21 g21 GB F22 b22 g22 (GLG.mono (by decide)) F12 b12 g12 (GWl.mono (by decide)) m3 m5 m12
end P51
open PySem PySem.W PyProof.Rows
set_option maxHeartbeats 0 in
theorem PySem.Challenge.cw_askrights_k51_walls_by_kind_holds : PySem.Challenge.rw_askrights_k51_walls_by_kind.Holds := by
  w_on; o_law; k_head; (case hw => w_witness2)
  k_fill
  refine AskG.walkG (l := PySem.Challenge.rw_askrights_k51_walls_by_kind) (n := 63) (k := 8) (x := "_law_script") (pr := P51.prLaw) rfl (by decide) rfl ⟨⟨rfl, by decide, by decide⟩, rfl⟩ (fun w h Y => PySem.W.kIn_of Y) ?F (fun _ _ a ns _ hS => ⟨a, ns, rfl, hS, fun _ => rfl⟩)
  case F =>
    intro w mg fa h KX G hmg
    refine' P51.all_mk KX G hmg ?a1 ?l1 ?c1 ?k1 ?a2 ?l2 ?c2 ?k2 ?a3 ?l3 ?c3 ?k3 ?a4 ?l4 ?c4 ?k4 ?a5 ?l5 ?c5 ?k5 ?a6 ?l6 ?c6 ?k6 ?a7 ?l7 ?c7 ?k7 ?a8 ?l8 ?c8 ?k8 ?a9 ?l9 ?c9 ?k9 ?a10 ?l10 ?c10 ?k10 ?a11 ?l11 ?c11 ?k11 ?a12 ?l12 ?c12 ?k12 ?a13 ?l13 ?c13 ?k13 ?a14 ?l14 ?c14 ?k14 ?a15 ?l15 ?c15 ?k15 ?a16 ?l16 ?c16 ?k16 ?a17 ?l17 ?c17 ?k17 ?a18 ?l18 ?c18 ?k18 ?a19 ?l19 ?c19 ?k19 ?a20 ?l20 ?c20 ?k20 ?a21 ?l21 ?c21 ?k21 ?a22 ?l22 ?c22 ?k22 ?a23 ?l23 ?c23 ?k23 ?z1 ?z2 ?z3 ?z4 ?z5 ?z6 ?z7 ?z8 ?z9 ?z10 ?z11 ?z12 ?z13 ?zc0
    (case a1 => k_is)
    (case l1 => k_is)
    (case c1 => k_is)
    (case k1 => k_is)
    (case a2 => k_is)
    (case l2 => k_is)
    (case c2 => k_is)
    (case k2 => k_is)
    (case a3 => k_is)
    (case l3 => k_is)
    (case c3 => k_is)
    (case k3 => k_is)
    (case a4 => k_is)
    (case l4 => k_is)
    (case c4 => k_is)
    (case k4 => k_is)
    (case a5 => k_is)
    (case l5 => k_is)
    (case c5 => k_is)
    (case k5 => k_is)
    (case a6 => k_is)
    (case l6 => k_is)
    (case c6 => k_is)
    (case k6 => k_is)
    (case a7 => k_is)
    (case l7 => k_is)
    (case c7 => k_is)
    (case k7 => k_is)
    (case a8 => k_is)
    (case l8 => k_is)
    (case c8 => k_is)
    (case k8 => k_is)
    (case a9 => k_is)
    (case l9 => k_is)
    (case c9 => k_is)
    (case k9 => k_is)
    (case a10 => k_is)
    (case l10 => k_is)
    (case c10 => k_is)
    (case k10 => k_is)
    (case a11 => k_is)
    (case l11 => k_is)
    (case c11 => k_is)
    (case k11 => k_is)
    (case a12 => k_is)
    (case l12 => k_is)
    (case c12 => k_is)
    (case k12 => k_is)
    (case a13 => k_is)
    (case l13 => k_is)
    (case c13 => k_is)
    (case k13 => k_is)
    (case a14 => k_is)
    (case l14 => k_is)
    (case c14 => k_is)
    (case k14 => k_is)
    (case a15 => k_is)
    (case l15 => k_is)
    (case c15 => k_is)
    (case k15 => k_is)
    (case a16 => k_is)
    (case l16 => k_is)
    (case c16 => k_is)
    (case k16 => k_is)
    (case a17 => k_is)
    (case l17 => k_is)
    (case c17 => k_is)
    (case k17 => k_is)
    (case a18 => k_is)
    (case l18 => k_is)
    (case c18 => k_is)
    (case k18 => k_is)
    (case a19 => k_is)
    (case l19 => k_is)
    (case c19 => k_is)
    (case k19 => k_is)
    (case a20 => k_is)
    (case l20 => k_is)
    (case c20 => k_is)
    (case k20 => k_is)
    (case a21 => k_is)
    (case l21 => k_is)
    (case c21 => k_is)
    (case k21 => k_is)
    (case a22 => k_is)
    (case l22 => k_is)
    (case c22 => k_is)
    (case k22 => k_is)
    (case a23 => k_is)
    (case l23 => k_is)
    (case c23 => k_is)
    (case k23 => k_is)
    (case z1 => k_is)
    (case z2 => k_is)
    (case z3 => k_is)
    (case z4 => k_is)
    (case z5 => k_is)
    (case z6 => k_is)
    (case z7 => k_is)
    (case z8 => k_is)
    (case z9 => k_is)
    (case z10 => k_is)
    (case z11 => k_is)
    (case z12 => k_is)
    (case z13 => k_is)
    (case zc0 => k_is)
