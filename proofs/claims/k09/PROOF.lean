import PyProof.Rows.All
import Wide.All
import OpenK.AllK
import Wide.FinOn
import HandS.Words
import HandS.List
import PyProof.Rows.ReprR
import HandS.SortRule
import HandS.Conv
import KE.KDictPairs
import HandS.More
import HandS.DictComp
import HandS.Defaults
import PyProof.ReprLen
import PyProof.FitsInt
import HandS.Ends
import HandS.TupLe
import HandS.ForMost
import HandS.IsInst
import HandS.Walk
import HandS.MakeKwOnly
import HandS.TupAny
import HandS.Style
import PySem.Challenge.RW_askrights_k09_whole_sums_are_linear
set_option Elab.async false
set_option linter.all false
set_option maxRecDepth 100000
set_option maxHeartbeats 8000000
/-! Defs that are only called while nothing is being shown: calls whose surroundings hold no guard, so that repr gives the plain text. -/
namespace AskG
open PySem PySem.Spec PyProof.Rows L2

/-- what a def promises, nothing being raised -/
abbrev Pr := List V → Hp → VK → Prop

/-- room for k calls, and no guard around -/
structure RG (k : Nat) (A : Around) : Prop where
  room : Room k A
  still : A.guards = some []
theorem RG.mono {j k : Nat} {A : Around} (r : RG k A) (h : j ≤ k) : RG j A :=
  ⟨r.room.mono h, r.still⟩
theorem RG.deeper {k : Nat} {A : Around} (r : RG (k + 1) A) (env : Env) : RG k (A.deeper env) :=
  ⟨r.room.deeper env, r.still⟩

section
variable (P : Program) (w : World) (K : PySem.W.Frag) (mg : Str → Option Value) (base : Heap)
structure FnG (k : Nat) (f : Addr) (fd : FuncData) (ps : List Str) (pr : Pr) : Prop where
  many : ∀ vs H Q, pr vs H Q → vs.length = ps.length
  goes : ∀ (A : Around) (outer : List Env) (s : Shared) (H : Hp) (args : Args)
    (us : List Value) (vs : List V) (Q : VK), RG k A → Env0 P w K mg base A outer s H →
    BindsTo s fd args (ps.zip us) → Vals vs us → pr vs H Q →
    codeAny (model P w) A (.call (.ref f) args) (CR CX0 outer P w H s Q E0) s
end

section
variable {P : Program} {w : World} {K : PySem.W.Frag} {mg : Str → Option Value} {base : Heap}
theorem FnG.mono {j k : Nat} {f : Addr} {fd : FuncData} {ps : List Str} {pr : Pr}
    (F : FnG P w K mg base j f fd ps pr) (h : j ≤ k) : FnG P w K mg base k f fd ps pr :=
  ⟨F.many, fun A outer s H args us vs Q hr => F.goes A outer s H args us vs Q (hr.mono h)⟩

/-- a def of the text, by its body -/
theorem fnG_of {k : Nat} {f : Addr} {name qual : Str} {params : Arguments} {body : List Stmt}
    {scope : Scope} {dV kV doc pm cdv ct oc : Value} {an od : Option Addr}
    {osl : Array (Option Value)} {N ps : List Str} {pr : Pr}
    (at_f : K.lookup f = some ⟨oc, od, .func (PySem.W.fnOf name qual params body scope dV kV doc pm an cdv ct), osl⟩)
    (code : PySem.W.codeIn K cdv qual = true) (S : FnScope N ps scope)
    (many : ∀ vs H Q, pr vs H Q → vs.length = ps.length)
    (body_ok : ∀ (A : Around) (outer : List Env) (s : Shared) (H : Hp) (vs : List V) (Q : VK),
      RG k (A.deeper (envOfC qual scope s.heap.objs.size f cdv)) → pr vs H Q →
      ∃ t, PSs (cxOf CX0 P w K mg base N qual scope f cdv A outer s H E0).nox body t ∧
        t { nx := fun _ H' => Q .non H', rt := Q } (start N vs) H) :
    FnG P w K mg base (k + 1) f
      (PySem.W.fnOf name qual params body scope dV kV doc pm an cdv ct) ps pr := by
  constructor
  · exact many
  intro A outer s H args us vs Q hr e0 hb hv hp
  have hl := many _ _ _ hp
  have inK : K.In s.heap := e0.mod.kin.keeps fun b o q => (e0.bs b o q).1
  have nl : s.heap.NoLimit := e0.mod.nolimit.keeps fun b o q => (e0.bs b o q).1
  have kinds : ∀ y ∈ ps.zip us, scope.names.lookup y.1 = some .local ∨
      (scope.names.lookup y.1 = some .cell ∧
        ((cellsFrom (s.heap.objs.size + 1) scope.names []).lookup y.1).isSome = true) := by
    rintro ⟨n, v⟩ hy
    cases S.par n (List.of_mem_zip hy).1 with
    | inl q => exact Or.inl q
    | inr q => exact Or.inr ⟨q, PySem.W.cellsFrom_some _ _ _ (Or.inl q)⟩
  refine codeAny_call_function hr.room.depth (inK _ _ at_f) rfl S.co S.gen rfl
    (PySem.W.codeRec_of inK code) (hb _ _ _ _ ?_)
  refine wpAny_newFunctionEnv_cells S.kind kinds fun env he s1 x => ?_
  subst he
  refine ⟨nl.keeps x.toInCall.keep, codeAny_func ?_⟩
  obtain ⟨t, ht, hq⟩ := body_ok A outer s H vs Q (hr.deeper _) hp
  have I : Inv (cxOf CX0 P w K mg base N qual scope f cdv A outer s H E0) [] (start N vs) H s1 :=
    inv_start S hr.room.hd e0 hl hv x
  refine wpAny_mono (ht.nox.run [] s1 (start N vs) H _ I hq) (fun fl s' hs => ?_)
    fun e s' hs => hs
  cases fl with
  | ret u =>
    obtain ⟨v, σ', H', J, rv, q⟩ := hs
    exact ⟨v, H', J.os, J.bare, J.base, J.hok, rv, q⟩
  | next =>
    obtain ⟨σ', H', J, q⟩ := hs
    exact ⟨V.non, H', J.os, J.bare, J.base, J.hok, rfl, q⟩
  | brk => exact hs.elim fun _ z => z.elim fun _ z => False.elim z.2
  | cont => exact hs.elim fun _ z => z.elim fun _ z => False.elim z.2

theorem okG {x qual : Str} {st : Stmt} {f : Addr} {fd : FuncData} {N ps : List Str} {k : Nat} {pr : Pr}
    (F : Fun K x qual st f fd) (S : FnScope N ps (defScope st))
    (many : ∀ vs H Q, pr vs H Q → vs.length = ps.length)
    (body_ok : ∀ (cdv : Value) (A : Around) (outer : List Env) (s : Shared) (H : Hp) (vs : List V) (Q : VK),
      RG k (A.deeper (envOfC qual (defScope st) s.heap.objs.size f cdv)) → pr vs H Q →
      ∃ t, PSs (cxOf CX0 P w K mg base N qual (defScope st) f cdv A outer s H E0).nox (defBody st) t ∧
        t { nx := fun _ H' => Q .non H', rt := Q } (start N vs) H) :
    FnG P w K mg base (k + 1) f fd ps pr := by
  obtain ⟨oc, od, kV, doc, pm, an, cdv, ct, osl, rfl, lk, hcd⟩ := F.ex
  exact fnG_of lk hcd S many fun A outer s H vs Q hr hp => body_ok cdv A outer s H vs Q hr hp
end

/-! ### calls -/
/-- f(..): the written arguments, then the defaults -/
def tCallG (pr : Pr) (dvs : List V) (t : TA) : TE := fun σ H Q => t σ H fun vs H1 => pr (vs ++ dvs) H1 Q
/-- f(.., k = ..) -/
def tCallKG (pr : Pr) (gV : List V → List V → List V) (t tk : TA) : TE := fun σ H Q =>
  t σ H fun vs H1 => tk σ H1 fun zs H2 => pr (gV vs zs) H2 Q

section
variable {X : Cx} {k : Nat} {f : Addr} {fd : FuncData} {ps : List Str} {pr : Pr}
theorem goG {pins : List (Addr × Obj)} {σ : L2.St} {H : Hp} {s : Shared} {Q : VK} {args : Args}
    {us : List Value} {vs : List V} (F : FnG X.prog X.w X.K X.mg X.base k f fd ps pr)
    (hr : RG k X.A) (I : Inv X pins σ H s) (hb : BindsTo s fd args (ps.zip us)) (r : Vals vs us)
    (h : pr vs H Q) : wpAny (model X.prog X.w) X.A (call (.ref f) args.pos args.kw) (EP X pins σ Q) X.xe s := by
  refine wpAny_call (codeAny_mono (F.goes X.A X.stack s H args us vs Q hr I.env0 hb r h)
    fun r s' hq => ?_)
  match r, hq with
  | .error e, hq => exact hq.elim
  | .ok (.ret u), hq => exact I.after hq
  | .ok .next, hq => exact hq.elim
  | .ok .brk, hq => exact hq.elim
  | .ok .cont, hq => exact hq.elim
end
section
variable {X : Cx} {k : Nat} {f : Addr} {fd : FuncData} {ps : List Str} {pr : Pr} {dvs : List V} {ds : List Value}
  {x : Str} {p pos : Pos} {e : Expr} {es : List Expr} {t : TA}
theorem goP {pins : List (Addr × Obj)} {σ : L2.St} {H : Hp} {s : Shared} {Q : VK} {us : List Value} {vs : List V}
    (F : FnG X.prog X.w X.K X.mg X.base k f fd ps pr) (hr : RG k X.A) (hb : Binds X.K fd ps ds) (hd : Vals dvs ds)
    (I : Inv X pins σ H s) (r : Vals vs us) (h : pr (vs ++ dvs) H Q) :
    wpAny (model X.prog X.w) X.A (call (.ref f) us) (EP X pins σ Q) X.xe s := by
  have r2 : Vals (vs ++ dvs) (us ++ ds) := r.append hd
  have hl : (us ++ ds).length = ps.length := r2.length.symm.trans (F.many _ _ _ h)
  exact goG (args := ⟨us, []⟩) F hr I (hb s us I.kIn hl) r2 h

/-- f(e, ..) -/
theorem pe_g (F : FnG X.prog X.w X.K X.mg X.base k f fd ps pr) (hr : RG k X.A) (hg : Gl X x)
    (hm : X.mg x = some (.ref f)) (hk : PySem.W.keepIn X.K (.ref f) = true) (hb : Binds X.K fd ps ds) (hd : Vals dvs ds)
    (ha : PA X (e :: es) t) (hdb : (x == ("__debug__" : Str)) = false := by decide)
    (he : starEach (e :: es) X.env = (false, eval e X.env) :: starEach es X.env := by rfl)
    (hpl : (backTo pos (starEach es X.env)).any (·.1) = false := by rfl) :
    PE X (.Call (.Name x p) (e :: es) [] pos) (tCallG pr dvs t) := by
  constructor
  intro pins s σ H Q I h
  refine wpAny_Call_Name_kw (ld_glob I hg hm ?_ hdb)
  refine PySem.W.callWith_K (h₀ := X.base) I.ok.mod.kin hk (thn (ha.run pos pins s σ H _ I h) ?_) he hpl
  rintro us s1 ⟨vs, H1, I1, r, q⟩
  exact ⟨I1.kIn, goP F hr hb hd I1 r q⟩
/-- f() -/
theorem pe_g0 (F : FnG X.prog X.w X.K X.mg X.base k f fd ps pr) (hr : RG k X.A) (hg : Gl X x)
    (hm : X.mg x = some (.ref f)) (hk : PySem.W.keepIn X.K (.ref f) = true) (hb : Binds X.K fd ps ds) (hd : Vals dvs ds)
    (hdb : (x == ("__debug__" : Str)) = false := by decide) : PE X (.Call (.Name x p) [] [] pos) (tCallG pr dvs tNil) := by
  constructor
  intro pins s σ H Q I h
  refine wpAny_Call_Name_kw (ld_glob I hg hm ?_ hdb)
  exact PySem.W.callWith_K0 I.kIn hk (goP (us := []) F hr hb hd I .nil h)
variable {ks : List Str} {g : List Value → List Value → List Value} {gV : List V → List V → List V} {kws : List Keyword} {tk : TA}
theorem goK {pins : List (Addr × Obj)} {σ : L2.St} {H : Hp} {s : Shared} {Q : VK} {us ws : List Value} {vs zs : List V}
    (F : FnG X.prog X.w X.K X.mg X.base k f fd ps pr) (hr : RG k X.A) (hb : KBinds X.K fd ps ks g gV)
    (I : Inv X pins σ H s) (r : Vals vs us) (rz : Vals zs ws) (h : pr (gV vs zs) H Q) :
    wpAny (model X.prog X.w) X.A (call (.ref f) us (ks.zip ws)) (EP X pins σ Q) X.xe s := by
  have r2 := hb.rel r rz
  have hl : (g us ws).length = ps.length := r2.length.symm.trans (F.many _ _ _ h)
  exact goG (args := ⟨us, ks.zip ws⟩) F hr I (hb.to s us ws I.kIn hl) r2 h
/-- f(e, .., k = v, ..) -/
theorem pe_gk (F : FnG X.prog X.w X.K X.mg X.base k f fd ps pr) (hr : RG k X.A) (hg : Gl X x)
    (hm : X.mg x = some (.ref f)) (hk : PySem.W.keepIn X.K (.ref f) = true) (hb : KBinds X.K fd ps ks g gV)
    (ha : PA X (e :: es) t) (hkw : PK X kws tk)
    (hall : (backToKw pos (keywordEach kws X.env)).all (·.1.isSome) = true := by rfl)
    (hks : (backToKw pos (keywordEach kws X.env)).filterMap (·.1) = ks := by rfl)
    (hdb : (x == ("__debug__" : Str)) = false := by decide)
    (he : starEach (e :: es) X.env = (false, eval e X.env) :: starEach es X.env := by rfl)
    (hpl : ((backTo pos (starEach (e :: es) X.env)).any (·.1) || (backToKw pos (keywordEach kws X.env)).any (·.1.isNone)) = false := by rfl) :
    PE X (.Call (.Name x p) (e :: es) kws pos) (tCallKG pr gV t tk) := by
  constructor
  intro pins s σ H Q I h
  refine wpAny_Call_Name_kw (ld_glob I hg hm ?_ hdb)
  refine PySem.W.callWith_KW (h₀ := X.base) I.ok.mod.kin hk hall (thn (ha.run pos pins s σ H _ I h) ?_) hpl he
  rintro us s1 ⟨vs, H1, I1, r, q⟩
  refine thn (hkw.run pos pins s1 σ H1 _ I1 q) ?_
  rintro ws s2 ⟨zs, H2, I2, rz, q2⟩
  refine ⟨I2.kIn, ?_⟩
  rw [hks]
  exact goK F hr hb I2 r rz q2
end

/-! ### repr of data -/
section
variable {X : Cx}
def rRepr (K : PySem.W.Frag) : List V → Hp → VK → Prop := fun xs H Q => ∃ (a : Addr) (d : PyData), xs = [.ref a] ∧
  Dp K H (.ref a) d ∧ d.showable = true ∧ d.hasDict = false ∧ d.depth ≤ 60 ∧ d.shown.length ≤ sizeLine ∧ Q (.str d.shown) H
theorem call_repr {k : Nat} (hr : RG k X.A) : CallR X (.builtin "repr") (rRepr X.K) := by
  intro pins s σ H xs us Q I r q
  obtain ⟨a, d, ex, hD, hs, hnd, hdp, hsz, q⟩ := q
  subst ex
  obtain ⟨u, eu, rx⟩ := vals1 r
  subst eu
  cases rx
  obtain ⟨as, rd⟩ := Dp.reads I d (.ref a) (.ref a) hD rfl
  have hu := hr.room.units
  exact repr_of_reads' rd hs (PyData.noDict_hsm hnd) hr.still (by omega) (fun _ _ z => z)
    (fun h' u tk hk => ⟨.str d.shown, H, I.kept hk, ⟨u, rfl⟩, q⟩) hsz
end
end AskG
/-! Cells (a text, an int) as keys of dicts: their order, sorted(d). -/
namespace AskG
open PySem PySem.Spec PyProof.Rows L2

abbrev Cell := Str × Int
/-- a cell as a key -/
abbrev ck (c : Cell) : List Key := [Sum.inr c.1, Sum.inl c.2]
/-- the order of cells -/
def ltC (p q : Cell) : Bool := if p.1 = q.1 then decide (p.2 < q.2) else decide (p.1.cps.toList < q.1.cps.toList)

theorem str_ext {x y : Str} (h : x.cps.toList = y.cps.toList) : x = y := by
  obtain ⟨⟨a⟩⟩ := x
  obtain ⟨⟨b⟩⟩ := y
  have h : a = b := h
  rw [h]
theorem ltC_iff {p q : Cell} : ltC p q = true ↔ (p.1.cps.toList < q.1.cps.toList) ∨ (p.1 = q.1 ∧ p.2 < q.2) := by
  unfold ltC
  by_cases e : p.1 = q.1
  · rw [if_pos e, decide_eq_true_eq]
    constructor
    · intro h
      exact Or.inr ⟨e, h⟩
    · rintro (h | h)
      · rw [e] at h
        exact absurd h (List.lt_irrefl _)
      · exact h.2
  · rw [if_neg e, decide_eq_true_eq]
    constructor
    · intro h
      exact Or.inl h
    · rintro (h | h)
      · exact h
      · exact absurd h.1 e
theorem codes_tri (x y : List Nat) : x < y ∨ x = y ∨ y < x := by
  by_cases h1 : x < y
  · exact Or.inl h1
  · by_cases h2 : y < x
    · exact Or.inr (Or.inr h2)
    · exact Or.inr (Or.inl (List.le_antisymm (List.not_lt.mp h2) (List.not_lt.mp h1)))
theorem ltC_tri (p q : Cell) : ltC p q = true ∨ p = q ∨ ltC q p = true := by
  rcases codes_tri p.1.cps.toList q.1.cps.toList with h | h | h
  · exact Or.inl (ltC_iff.mpr (Or.inl h))
  · have e := str_ext h
    rcases Int.lt_trichotomy p.2 q.2 with g | g | g
    · exact Or.inl (ltC_iff.mpr (Or.inr ⟨e, g⟩))
    · exact Or.inr (Or.inl (Prod.ext e g))
    · exact Or.inr (Or.inr (ltC_iff.mpr (Or.inr ⟨e.symm, g⟩)))
  · exact Or.inr (Or.inr (ltC_iff.mpr (Or.inl h)))
theorem ltC_trans {p q r : Cell} (h1 : ltC p q = true) (h2 : ltC q r = true) : ltC p r = true := by
  refine ltC_iff.mpr ?_
  rcases ltC_iff.mp h1 with a | ⟨a, a'⟩ <;> rcases ltC_iff.mp h2 with b | ⟨b, b'⟩
  · exact Or.inl (List.lt_trans a b)
  · exact Or.inl (b ▸ a)
  · exact Or.inl (a ▸ b)
  · exact Or.inr ⟨a.trans b, Int.lt_trans a' b'⟩
theorem ltC_irr (p : Cell) : ltC p p = false := by
  cases h : ltC p p with
  | false => rfl
  | true =>
    rcases ltC_iff.mp h with a | ⟨_, a⟩
    · exact absurd a (List.lt_irrefl _)
    · exact absurd a (Int.lt_irrefl _)
theorem ltC_asym {p q : Cell} (h : ltC p q = true) : ltC q p = false := by
  cases g : ltC q p with
  | false => rfl
  | true =>
    have := ltC_trans h g
    rw [ltC_irr] at this
    cases this
theorem swo_cells {α : Type} (k : α → Cell) : SrtO.Swo fun v u => ltC (k v) (k u) := by
  refine ⟨fun x y h => ltC_asym h, fun x y z h1 h2 => ?_⟩
  cases g : ltC (k z) (k x) with
  | false => rfl
  | true =>
    rcases ltC_tri (k x) (k y) with a | a | a
    · have := ltC_trans g a
      rw [h2] at this
      cases this
    · rw [← a, g] at h2
      cases h2
    · rw [h1] at a
      cases a

/-- the value is a tuple of a text and an int -/
def IsCl (h : Heap) (v : Value) (c : Cell) : Prop := ∃ (a : Addr) (t u : Tok), v = .ref a ∧ IsTup h a #[.str c.1 t, .int c.2 u]
section
variable {prog : Program} {w : World} {A : Around} {E : Value → Shared → Prop} {s : Shared}
theorem cell_cmp {vs : List Value} {k : Value → Cell} (hp : ∀ v ∈ vs, IsCl s.heap v (k v)) :
    SrtO.Cmp prog w A s (tuples' true) (fun p => p.1 ∈ vs) (SrtO.lt2 fun v u => ltC (k v) (k u)) := by
  intro p q hm hm'
  have h1 := hp _ hm
  have h2 := hp _ hm'
  show wpAny (model prog w) A (keyLt' (tuples' true) p.1 q.1) (fun r s' => s' = s ∧ r = ltC (k p.1) (k q.1)) (fun _ _ => False) s
  generalize k p.1 = c at h1 ⊢
  generalize k q.1 = d at h2 ⊢
  obtain ⟨a, t, u, e, o, ho, hc, n, hd⟩ := h1
  obtain ⟨a', t', u', e', o', ho', hc', n', hd'⟩ := h2
  rw [e, e']
  refine PySem.W.kat_lt ho hd ho' hd' ?_
  show PySem.W.KatLex prog w A true (decide (2 < 2)) _ [(.str c.1 t, .str d.1 t'), (.int c.2 u, .int d.2 u')] 0 s
  refine PySem.W.kat_cons (SeqAt.EqAt.str_str c.1 t d.1 t' prog w _ _ ?_)
  refine PySem.W.kat_go (fun e1 => ?_) (fun e1 => ?_)
  · have ex : c.1 = d.1 := by simpa using e1
    refine PySem.W.kat_yes (PySem.W.kat_cons (SeqAt.EqAt.int_int c.2 u d.2 u' prog w _ _ ?_))
    refine PySem.W.kat_go (fun e2 => ?_) (fun e2 => ?_)
    · have ey : c.2 = d.2 := by simpa using e2
      have e3 : ltC c d = false := by
        rw [show c = d from Prod.ext ex ey]
        exact ltC_irr d
      exact PySem.W.kat_yes (PySem.W.kat_nil ⟨rfl, e3.symm⟩)
    · have e3 : ltC c d = decide (c.2 < d.2) := if_pos ex
      refine PySem.W.kat_no (PySem.W.kat_one _ _ (PyProof.Rows.lt_int ?_))
      exact (show s = s ∧ decide (c.2 < d.2) = ltC c d from ⟨rfl, e3.symm⟩)
  · have ex : ¬ c.1 = d.1 := by simpa using e1
    have e3 : ltC c d = decide (c.1.cps.toList < d.1.cps.toList) := if_neg ex
    exact PySem.W.kat_no (oneLt_str ⟨rfl, e3.symm⟩)
theorem cell_firsts {h : Heap} : ∀ {vs : List Value}, (∀ v ∈ vs, ∃ c, IsCl h v c) →
    ∃ fs : List Value, PySem.W.KatTups h vs fs ∧ fs.length = vs.length ∧ ∀ f ∈ fs, ∃ x t, f = Value.str x t
  | [], _ => ⟨[], .nil, rfl, fun f hf => absurd hf (by simp)⟩
  | v :: vs, x => by
    obtain ⟨fs, k, hl, hi⟩ := cell_firsts (vs := vs) fun u hu => x u (List.mem_cons_of_mem _ hu)
    obtain ⟨c, a, t, u, rfl, o, ho, hc, n, hd⟩ := x v List.mem_cons_self
    refine ⟨.str c.1 t :: fs, .cons ho hc hd rfl k, congrArg (· + 1) hl, fun f hf => ?_⟩
    rcases List.mem_cons.mp hf with rfl | hf
    · exact ⟨_, _, rfl⟩
    · exact hi f hf
theorem IsCl.keeps {h h' : Heap} {v : Value} {c : Cell} (x : IsCl h v c) (k : ∀ b o, h.get? b = some o → o.cls = .type "tuple" → h'.get? b = some o) : IsCl h' v c := by
  obtain ⟨a, t, u, e, o, ho, hc, r⟩ := x
  exact ⟨a, t, u, e, o, k _ _ ho hc, hc, r⟩
theorem cells_sortable {a : Addr} {vs : List Value} {k : Value → Cell} (h0 : 0 < vs.length) (hp : ∀ v ∈ vs, IsCl s.heap v (k v))
    (ha : ∀ o, s.heap.get? a = some o → o.cls ≠ .type "tuple") : SrtO.SortableO prog w A s a vs fun v u => ltC (k v) (k u) := by
  intro h' keep
  have hp' : ∀ v ∈ vs, IsCl h' v (k v) := fun v hm => (hp v hm).keeps fun b o e c => keep b o (fun z => by subst z; exact ha o e c) e
  obtain ⟨fs, h1, h2, h3⟩ := cell_firsts fun v hm => ⟨_, hp' v hm⟩
  refine ⟨tuples' true, fun Q E hq => ?_, cell_cmp hp'⟩
  refine PySem.W.kat_kind (T := .type "str") h1 (by omega) (fun f hm => ?_) (by rfl) ?_
  · obtain ⟨x, t, rfl⟩ := h3 f hm
    exact PySem.W.Looks.now
  · have e : (Value.type "str" != Value.type "tuple") = true := by first | decide +kernel | rfl | decide
    rw [e]
    exact hq
end
end AskG
/-! sorted(d), dict(pairs) of dicts whose keys are cells. -/
namespace AskG
open PySem PySem.Spec PyProof.Rows L2

/-- a tracked tuple of a text and an int -/
def CellAt (H : Hp) (b : Addr) (c : Cell) : Prop := H b = some (.tup [.str c.1, .int c.2])
/-- the cell that stands behind a value -/
def cellOf (H : Hp) : Value → Cell
  | .ref a => match H a with
    | some (.tup [.str x, .int y]) => (x, y)
    | _ => (⟨#[]⟩, 0)
  | _ => (⟨#[]⟩, 0)
theorem cellOf_at {H : Hp} {b : Addr} {c : Cell} (h : CellAt H b c) : cellOf H (.ref b) = c := by
  unfold CellAt at h
  show (match H b with
    | some (.tup [.str x, .int y]) => (x, y)
    | _ => ((⟨#[]⟩, 0) : Cell)) = c
  rw [h]
theorem isCl_of {P : Program} {w : World} {H : Hp} {h : Heap} {b : Addr} {c : Cell} (ok : HOk P w H h) (e : CellAt H b c) : IsCl h (.ref b) c := by
  obtain ⟨_, its, r, ht⟩ := (show ObjOk P w H h b (.tup [.str c.1, .int c.2]) from ok b _ e)
  obtain ⟨x, y, ei, rx, ry⟩ := vals2 r
  obtain ⟨t, rfl⟩ := rx
  obtain ⟨u, rfl⟩ := ry
  subst ei
  exact ⟨b, t, u, rfl, ht⟩
theorem ck_inj {c d : Cell} (h : ck c = ck d) : c = d := by
  injection h with h1 h2
  injection h1 with h1
  injection h2 with h2 _
  injection h2 with h2
  exact Prod.ext h1 h2

/-- sorted(d), d a dict whose keys are the cells cs -/
def rSortT : List V → Hp → VK → Prop := fun xs H Q => ∃ (d : Addr) (kvs : List (List Key × V)) (cs : List Cell),
  xs = [.ref d] ∧ Rd H d (.dT kvs) ∧ kvs.map (·.1) = cs.map ck ∧
  ∀ (ys : List Cell) (bs : List Addr) (p : Addr), ys.Perm cs → ys.Pairwise (fun a b => ltC a b = true) →
    Paired (CellAt H) bs ys → H p = none → Q (.ref p) (upd H p (.lst (bs.map V.ref)))
theorem paired_of {α β : Type} {R : α → β → Prop} (f : α → β) : ∀ {l : List α}, (∀ x ∈ l, R x (f x)) → Paired R l (l.map f)
  | [], _ => .nil
  | x :: l, h => .cons (h x List.mem_cons_self) (paired_of f fun y hy => h y (List.mem_cons_of_mem _ hy))
theorem strict_of : ∀ {ys : List Cell}, ys.Pairwise (fun a b => ltC b a = false) → ys.Nodup → ys.Pairwise (fun a b => ltC a b = true) := by
  intro ys h n
  refine (h.and n).imp ?_
  rintro a b ⟨h1, h2⟩
  rcases ltC_tri a b with g | g | g
  · exact g
  · exact absurd g h2
  · rw [h1] at g
    cases g
section
variable {X : Cx}
theorem cr_sortT (hc : X.calm = true) : CallR X (.builtin "sorted") rSortT := by
  intro pins s σ H xs us Q I r q
  obtain ⟨d, kvs, cs, ex, hd, hks, q⟩ := q
  subst ex
  obtain ⟨u, eu, rx⟩ := vals1 r
  subst eu
  cases rx
  obtain ⟨z, hs, ks, pr, o, es, ep, ho, hx, hdt, he, hn⟩ :=
    (show ObjOk X.prog X.w H s.heap d (.dT kvs) from hd.ok I.hok)
  have l1 : es.size = ks.length := size_of_entries he
  have l2 : kvs.length = ks.length := Paired.length pr
  have hkk : ks.map (·.1) = cs.map ck := by
    rw [← hks]
    clear q he hn hd l1 l2 hks z
    induction pr with
    | nil => rfl
    | cons h t ih => rw [List.map_cons, List.map_cons, ih, h.1]
  have atK : ∀ x ∈ ks, H x.2.1 = some (.tup (x.1.map kV)) := by
    clear q he hn hd l1 l2 hks z hkk
    induction pr with
    | nil => exact fun x hx => absurd hx (by simp)
    | cons h t ih =>
      intro x hx
      rcases List.mem_cons.mp hx with e | hx
      · subst e
        rw [← h.1]
        exact h.2.1
      · exact ih x hx
  have atC : ∀ x ∈ ks, ∃ c, x.1 = ck c ∧ CellAt H x.2.1 c := by
    intro x hx
    have : x.1 ∈ cs.map ck := by
      rw [← hkk]
      exact List.mem_map_of_mem hx
    obtain ⟨c, _, ec⟩ := List.mem_map.mp this
    refine ⟨c, ec.symm, ?_⟩
    have := atK x hx
    rw [← ec] at this
    exact this
  refine Calls.call_function_entry PyProof.Rows.kind_sorted PyProof.Rows.plain_sorted
    PyProof.Rows.entry_sorted (PyProof.Rows.args_sorted1 _) ?_
  unfold Builtin.«sorted»
  refine wpAny_bind (m := checkCount "sorted" 1 1 _) (wpAny_pure ?_)
  refine wpAny_bind (PySem.W.kdu_collect (A := X.A.in1) (kdl_raw hs hx hdt) (I.ok.hd hc) ho (by omega) ?_)
  intro h' tk acc hk it
  have ea : acc.toList = ks.map fun x => Value.ref x.2.1 := by
    have hl : acc.toList.length = ks.length := by
      rw [Array.length_toList, it.1]
      exact l1
    apply List.ext_getElem?
    intro j
    rw [List.getElem?_map]
    cases hj : acc.toList[j]? with
    | none =>
      have h1 := List.getElem?_eq_none_iff.mp hj
      rw [List.getElem?_eq_none (by omega)]
      all_goals rfl
    | some v =>
      obtain ⟨en, hen, hv⟩ := it.2 j v (by rw [← Array.getElem?_toList]; exact hj)
      have qe := entry_at he j
      rw [hen] at qe
      cases hb : ks[j]? with
      | none =>
        rw [hb] at qe
        exact nomatch (show some en = none from qe)
      | some b =>
        rw [hb] at qe
        have e2 : en = entryOfKey (tupleKind (mixKind X.prog X.w)) b := Option.some.inj qe
        rw [hv, e2]
        all_goals rfl
  generalize acc.toList = vs at ea ⊢
  subst ea
  have hz : (ks.map fun x => Value.ref x.2.1).length ≤ sizeLine := by
    rw [List.length_map]
    omega
  have I1 : Inv X pins σ H { s with heap := h', toks := tk } := I.kept hk
  refine wpAny_bind (wpAny_newList ?_ hz)
  generalize hvs : (ks.map fun x => Value.ref x.2.1) = vs at hz ⊢
  have hoL : (h'.push (seqObj "list" vs.toArray 0)).get? h'.objs.size = some (seqObj "list" vs.toArray 0) :=
    Heap.get?_push_size _ rfl
  have hcl : ∀ v ∈ vs, ∃ b c, v = .ref b ∧ CellAt H b c := by
    intro v hv
    rw [← hvs] at hv
    obtain ⟨x, hx, rfl⟩ := List.mem_map.mp hv
    obtain ⟨c, _, hc⟩ := atC x hx
    exact ⟨_, c, rfl, hc⟩
  show wpAny _ _ _ _ _ { s with heap := h'.push (seqObj "list" vs.toArray 0), toks := tk }
  refine wpAny_bind (wpAny_holding (wpAny_call_entry PyProof.Rows.slot_list_sort ⟨_, hoL, rfl⟩ PyProof.Rows.entry_list_sort
    (SrtO.list_sort_ord (ltv := fun v u => ltC (cellOf H v) (cellOf H u)) (swo_cells _) hoL hz (fun h2 => ?_) (fun out hs hb => ⟨_, rfl, ?_⟩))
    (PyProof.Rows.args_list_sort _)))
  · refine cells_sortable (by omega) (fun v hv => ?_) fun o' eo => ?_
    · obtain ⟨b, c, rfl, hc⟩ := hcl v hv
      rw [cellOf_at hc]
      exact (isCl_of I1.hok hc).keeps fun b o e _ => Heap.get?_push_of_some _ e
    · have e' : some o' = some (seqObj "list" vs.toArray 0) := eo.symm.trans hoL
      cases e'
      intro c
      exact absurd (Value.type.inj c) (by decide)
  · obtain ⟨e', he'⟩ := PyProof.Rows.sortedHeap_at (vs := vs) (out := out.toArray) hoL
    have hout : ∀ v ∈ out, ∃ b c, v = .ref b ∧ CellAt H b c := fun v hv => hcl v (hb.perm.mem_iff.mp hv)
    have hbs : ∃ bs : List Addr, out = bs.map Value.ref := by
      clear hb hs he'
      induction out with
      | nil => exact ⟨[], rfl⟩
      | cons v l ih =>
        obtain ⟨bs, rfl⟩ := ih fun u hu => hout u (List.mem_cons_of_mem _ hu)
        obtain ⟨b, c, rfl, _⟩ := hout v List.mem_cons_self
        exact ⟨b :: bs, rfl⟩
    obtain ⟨bs, rfl⟩ := hbs
    have hcs : (vs.map (cellOf H)) = cs := by
      rw [← hvs, List.map_map]
      have inj : ∀ {a b : List Cell}, a.map ck = b.map ck → a = b := by
        intro a
        induction a with
        | nil =>
          intro b h
          cases b with
          | nil => rfl
          | cons _ _ => cases h
        | cons x a ih =>
          intro b h
          cases b with
          | nil => cases h
          | cons y b =>
            rw [List.map_cons, List.map_cons] at h
            injection h with h1 h2
            rw [ck_inj h1, ih h2]
      refine inj ?_
      rw [List.map_map, ← hkk]
      refine List.map_congr_left fun x hx => ?_
      obtain ⟨c, ec, hc⟩ := atC x hx
      show ck (cellOf H (.ref x.2.1)) = x.1
      rw [cellOf_at hc, ec]
    have perm : ((bs.map Value.ref).map (cellOf H)).Perm cs := by
      rw [← hcs]
      exact hb.perm.map _
    have hcn : cs.Nodup := by
      have := hn
      rw [hkk] at this
      exact (List.pairwise_map.mp this).imp fun h e => h (congrArg ck e)
    have hst := strict_of (List.pairwise_map.mpr hs) (perm.nodup_iff.mpr hcn)
    have hlen : (bs.map V.ref).length ≤ sizeLine := by
      have := hb.perm.length_eq
      rw [List.length_map] at this ⊢
      omega
    refine wpAny_pure ⟨_, rfl, .ref h'.objs.size, upd H h'.objs.size (.lst (bs.map V.ref)), I1.laid (t' := tk) (fun b u e => ?_) (Nat.le_refl _)
      (show ObjOk X.prog X.w _ _ _ (.lst (bs.map V.ref)) from ⟨hlen, bs.map Value.ref, e', vals_refs _, he'⟩), rfl,
      q _ bs _ perm hst ?_ (I1.hok.fresh (Nat.le_refl _))⟩
    · have hb : b < h'.objs.size := Heap.lt_size e
      rw [PyProof.Rows.sortedHeap_old (Nat.ne_of_lt hb) (by rw [size_push']; exact Nat.lt_succ_of_lt hb)]
      exact Heap.get?_push_of_some _ e
    · rw [List.map_map]
      refine paired_of _ fun b hb' => ?_
      obtain ⟨b2, c, e2, hc⟩ := hout (.ref b) (List.mem_map_of_mem hb')
      cases e2
      show CellAt H b (cellOf H (.ref b))
      rw [cellOf_at hc]
      exact hc

/-! ### dict(pairs) -/
/-- one after another, later ones win -/
def putAll (kvs more : List (List Key × V)) : List (List Key × V) := more.foldl (fun acc kv => putK acc kv.1 kv.2) kvs
theorem length_putAll : ∀ (more kvs : List (List Key × V)), (putAll kvs more).length ≤ kvs.length + more.length
  | [], kvs => Nat.le_refl _
  | m :: more, kvs => by
    have h1 := length_putAll more (putK kvs m.1 m.2)
    have h2 := length_putK kvs m.1 m.2
    rw [List.length_cons]
    show (putAll (putK kvs m.1 m.2) more).length ≤ _
    omega
theorem ktAll {H : Hp} {more : List (List Key × V)} {ms : List (List Key × Addr × Value)} (r : KT H more ms) :
    ∀ {kvs : List (List Key × V)} {xs : List (List Key × Addr × Value)}, KT H kvs xs → KT H (putAll kvs more) (storedAllH xs ms) := by
  induction r with
  | nil => exact fun h => h
  | @cons p q _ _ h t ih =>
    intro kvs xs g
    show KT H (putAll (putK kvs p.1 p.2) _) (storedAllH (storedH xs q.1 q.2.1 q.2.2) _)
    refine ih ?_
    have := KT.put g p.1 (b := q.2.1) h.2.1 h.2.2
    rw [h.1] at this ⊢
    exact this
/-- a tracked pair: a key tuple and a value -/
def PairAt' (K : PySem.W.Frag) (H : Hp) (p : Addr) (kv : List Key × V) : Prop := ∃ b, SqT K H p [.ref b, kv.2] ∧ H b = some (.tup (kv.1.map kV))
theorem pairsT_of {pins : List (Addr × Obj)} {σ : L2.St} {H : Hp} {s : Shared} (I : Inv X pins σ H s) : ∀ {ps : List Addr} {kvs : List (List Key × V)}, Paired (PairAt' X.K H) ps kvs →
    ∃ ms : List (List Key × Addr × Value), KT H kvs ms ∧ ms.length = ps.length ∧ ∀ (j : Nat) (q : List Key × Addr × Value), ms[j]? = some q → ∃ b : Addr, ps[j]? = some b ∧ IsTup s.heap b #[.ref q.2.1, q.2.2]
  | _, _, .nil => ⟨[], .nil, rfl, fun j q e => by simp at e⟩
  | _, _, .cons (a := p) (b := kv) h t => by
    obtain ⟨ms, r, hl, hp⟩ := pairsT_of I t
    obtain ⟨b, hb, hk⟩ := h
    obtain ⟨its, rv, ht, _⟩ := I.tuple hb
    obtain ⟨u, y, ei, ru, ry⟩ := vals2 rv
    subst ei
    cases ru
    refine ⟨(kv.1, b, y) :: ms, .cons ⟨rfl, hk, ry⟩ r, congrArg (· + 1) hl, fun j q e => ?_⟩
    cases j with
    | zero =>
      have e' : (kv.1, b, y) = q := Option.some.inj e
      subst e'
      exact ⟨p, rfl, ht⟩
    | succ j =>
      obtain ⟨b', e1, e2⟩ := hp j q (by simpa using e)
      exact ⟨b', by simpa using e1, e2⟩
/-- dict(xs), xs a list of pairs whose keys are tuples -/
theorem call_dictT {k : Nat} (hc : X.calm = true) (hr : Room k X.A) : CallR X (.type "dict") (fun xs H Q => ∃ (a : Addr) (ps : List Addr) (kvs : List (List Key × V)), xs = [.ref a] ∧ SqL X.K H a (ps.map V.ref) ∧ Paired (PairAt' X.K H) ps kvs ∧
    ∀ p, H p = none → Q (.ref p) (upd H p (.dT (putAll [] kvs)))) := by
  intro pins s σ H xs us Q I r q
  obtain ⟨a, ps, kvs, ex, hq, hp, q⟩ := q
  subst ex
  obtain ⟨u, eu, rx⟩ := vals1 r
  subst eu
  cases rx
  obtain ⟨its, rv, pl, hz⟩ := I.list hq
  have ei := refs_at rv
  subst ei
  rw [List.length_map] at hz
  obtain ⟨ms, rel, hl, hpr⟩ := pairsT_of I hp
  obtain ⟨o, n, ho, hcl, hd, hdat⟩ := pl
  have hu := hr.units
  have isK : ∀ (h' : Heap), (∀ b o, s.heap.get? b = some o → h'.get? b = some o) → ∀ x ∈ ms, (tupleKind (mixKind X.prog X.w)).is h' x.1 x.2.1 := by
    intro h' kp x hx
    have ok' : HOk X.prog X.w H h' := (I.kept (t' := s.toks) kp).hok
    have all : ∀ {l : List (List Key × V)} {m : List (List Key × Addr × Value)}, KT H l m → ∀ x ∈ m, H x.2.1 = some (.tup (x.1.map kV)) := by
      intro l m q
      induction q with
      | nil => exact fun x hx => absurd hx (by simp)
      | cons h t ih =>
        intro x hx
        rcases List.mem_cons.mp hx with e | hx
        · subst e
          rw [← h.1]
          exact h.2.1
        · exact ih x hx
    exact key_of ok' (all rel x hx)
  have pit : PairItems s.heap (ps.map Value.ref).toArray (fun j => ps.getD j 0) (ms.map fun q => (Value.ref q.2.1, q.2.2)) := by
    refine ⟨by simp [hl], fun j k' v e => ?_⟩
    rw [List.getElem?_map] at e
    cases em : ms[j]? with
    | none =>
      rw [em] at e
      cases e
    | some q' =>
      rw [em] at e
      obtain ⟨b, e1, e2⟩ := hpr j q' em
      have e3 : (Value.ref q'.2.1, q'.2.2) = (k', v) := Option.some.inj e
      injection e3 with e4 e5
      have eg : ps.getD j 0 = b := by rw [List.getD_eq_getElem?_getD, e1]; rfl
      refine ⟨?_, ?_⟩
      · show _ = some (Value.ref (ps.getD j 0))
        rw [eg]
        simp [e1]
      · show PairAt s.heap (ps.getD j 0) k' v
        rw [eg, ← e4, ← e5]
        exact .inl e2
  have hsz : ms.length ≤ sizeLine := by rw [hl]; exact hz
  have P := PairArg.list (prog := X.prog) (w := X.w) a (ps.map Value.ref).toArray (fun j => ps.getD j 0) (ms.map fun q => (Value.ref q.2.1, q.2.2))
  refine call_dict_pairsH (knd := tupleKind (mixKind X.prog X.w)) (ps := ms) P (I.ok.hd hc) (tupleKind_room_in1 (A := X.A.in1) (by show X.A.units + 1 + 1 < _; omega)) ⟨⟨o, n, ho, hcl, hd, hdat⟩, pit⟩ ⟨by rw [List.length_map], fun i key v e => ?_⟩ (fun h' hk' x hx => ?_) (by rw [List.length_map]; exact hsz) fun h' tk hd' kp => ?_
  · have e : (ms.map fun q => (Value.ref q.2.1, q.2.2))[i]? = some (key, v) := e
    rw [List.getElem?_map] at e
    cases em : ms[i]? with
    | none =>
      rw [em] at e
      cases e
    | some q' =>
      rw [em] at e
      have e3 : (Value.ref q'.2.1, q'.2.2) = (key, v) := Option.some.inj e
      injection e3 with e4 e5
      exact ⟨q'.1, q'.2.1, by rw [← e5], e4.symm⟩
  · exact isK h' (fun b o e => hk' b o (Nat.ne_of_lt (Heap.lt_size e)) (by simp) e) x hx
  · have kp' : ∀ b o, s.heap.get? b = some o → h'.get? b = some o := fun b o e => kp b o (by simp) e
    have hm : (s.heap.objs.size == sysModules) = false := beq_eq_false_iff_ne.mpr (Nat.ne_of_gt I.big)
    have hfr : H s.heap.objs.size = none := I.hok.fresh (Nat.le_refl _)
    have hlen : (putAll [] kvs).length ≤ sizeLine := by
      refine Nat.le_trans (length_putAll kvs []) ?_
      rw [List.length_nil, Nat.zero_add, Paired.length rel]
      exact hsz
    obtain ⟨q1, es, ep, h1, h2, h3, h4, _, h5⟩ := hd'
    refine ⟨.ref s.heap.objs.size, upd H s.heap.objs.size (.dT (putAll [] kvs)), I.laid (t' := tk) kp' (Nat.le_refl _)
      (show ObjOk X.prog X.w _ _ _ (.dT (putAll [] kvs)) from ⟨hlen, hm, storedAllH [] ms, (ktAll rel .nil).keeps fun c ys ec => ?_, q1, es, ep, h1, h2, h3, h4, h5⟩), rfl, q _ hfr⟩
    rw [upd_ne (ne_of_none ec hfr)]
    exact ec
end
end AskG
/-! {k: v for .. in ..}, the keys tuples. -/
namespace AskG
open PySem PySem.Spec PyProof.Rows L2

theorem setT {X : Cx} {pins : List (Addr × Obj)} {σ : L2.St} {H : Hp} {s : Shared} {E : Value → Shared → Prop} {D b : Addr}
    {kvs : List (List Key × V)} {k : List Key} {v : V} {r : Value} {Q : Unit → Shared → Prop} (hu : X.A.units + 1 < cLine)
    (I : Inv X pins σ H s) (hD : H D = some (.dT kvs)) (hb : H b = some (.tup (k.map kV))) (hz : kvs.length < sizeLine)
    (rv : RelV v r) (h : ∀ s', Inv X pins σ (upd H D (.dT (putK kvs k v))) s' → Q () s') :
    wpAny (model X.prog X.w) X.A (dictSet D (.ref b) r) Q E s := by
  obtain ⟨z, hd, xs, rel, dd⟩ := dt_of I.hok hD
  have hx : xs.length ≤ sizeLine := by
    rw [← Paired.length rel]
    exact z
  have hl : (putK kvs k v).length ≤ sizeLine := by
    have := length_putK kvs k v
    omega
  refine wpAny_dictSet_heap (hsz := hx) (knd := tupleKind (mixKind X.prog X.w)) (show X.A.units < cLine by omega)
    (key_of I.hok hb) dd fun h' dd' hs => h _ ?_
  obtain ⟨q, es, ep, hq, h2, h3, h4, _, h5⟩ := dd'
  refine d_write I (by rw [hD]; exact True.intro) hs ⟨q, hq⟩
    ⟨hl, hd, _, (rel.put k hb rv).keeps fun c ys ec => ?_, q, es, ep, hq, h2, h3, h4, h5⟩
  rw [upd_ne (ne_of ec hD (fun z => nomatch z))]
  exact ec

/-- the reading: D the new dict -/
def tDcT (wi : TI) (g : TG) (tk tv : TE) (vs : List Nat) : TE := fun σ H Q => wi σ H fun J H1 => ∀ D, H1 D = none →
  ∃ W : Nat → Nat → Hp → Prop, (∃ m, W 0 m (upd H1 D (.dT []))) ∧ ∀ i m H, W i m H →
    (J.stop i H ∧ Q (.ref D) H) ∨ (J.go i H ∧ ∃ Nx : Hp → Prop, (∀ H', Nx H' → ∃ m', m' < m ∧ W (i + 1) m' H') ∧
      ∀ x H', J.yld i H x H' → g x (wipe σ vs) H' fun σ2 H2 => wipe σ2 vs = wipe σ vs ∧
        tk σ2 H2 fun y H4 => tv σ2 H4 fun z H5 => ∃ b kvs k, y = .ref b ∧ H5 b = some (.tup (k.map kV)) ∧
          H5 D = some (.dT kvs) ∧ kvs.length < sizeLine ∧ Nx (upd H5 D (.dT (putK kvs k z))))

section
variable {X : Cx}
theorem pe_dcT {kx vx tg iter : Expr} {scope : Scope} {own : List (Str × Nat)} {pos : Pos} {wi : TI} {g : TG} {tk tv : TE}
    (hu : X.A.units + 1 < cLine) (hc : X.calm = true) (hN : X.N.Nodup) (hi : PI X tg iter wi) (ok : BlkOk X.N X.env.scope scope own)
    (hg : ∀ (s : Shared) (H : Hp) (C : Addr) (cl : List (Str × Addr)) (fp : List Addr),
      PG (X.blk s H scope (compEnvC scope cl C X.env) fp) tg g)
    (hk : ∀ (s : Shared) (H : Hp) (C : Addr) (cl : List (Str × Addr)) (fp : List Addr),
      PE (X.blk s H scope (compEnvC scope cl C X.env) fp) kx tk)
    (he : ∀ (s : Shared) (H : Hp) (C : Addr) (cl : List (Str × Addr)) (fp : List Addr),
      PE (X.blk s H scope (compEnvC scope cl C X.env) fp) vx tv)
    (hs : ∀ x, foldedSetIterable iter X.env x = pure x := by intro _; rfl) :
    PE X (.DictComp kx vx [⟨tg, iter, [], 0⟩] scope pos) (tDcT wi g tk tv (own.map (·.2))) := by
  constructor
  intro pins s σ H Q I h
  rw [arm_eval_DictComp]
  have hfree : ∀ y ∈ scope.names, y.2 = .free → ∃ c, X.env.cells.lookup y.1 = some c := by
    intro y hy e
    exact (ok.free y hy e).elim (fun k => I.ok.has _ (.inl k)) fun k => I.ok.has _ (.inr k)
  refine wpAny_comprehension_free rfl hs (closure_ok hfree) ok.kind (fun y hy e => by rw [ok.uniq y hy, e])
    (thn (hi.run pins s σ H _ I h) fun xv s1 hx => thn hx ?_)
  rintro itv s2 ⟨it, fp, tn, J, H2, e, I2, T, st2, f2, q⟩
  subst e
  refine wpAny_newObj_type (newEnv_comp ?_)
  generalize hD : s2.heap.objs.size = D
  have hDn : H2 D = none := I2.hok.fresh (Nat.le_of_eq hD)
  obtain ⟨W, ⟨m0, w0⟩, turn⟩ := q D hDn
  generalize hs3 : ({ s2 with heap := s2.heap.push { cls := .type "dict", data := .dict #[] } } : Shared) = s3
  have I3 : Inv X pins σ (upd H2 D (.dT [])) s3 := by
    rw [← hs3]
    refine I2.laid (t' := s2.toks) (fun b o e => Heap.get?_push_of_some _ e) (Nat.le_of_eq hD) ?_
    rw [← hD]
    exact dt_empty s2.heap I2.big
  have h3 : s3.heap = s2.heap.push { cls := .type "dict", data := .dict #[] } := by rw [← hs3]
  have sz : ∀ b ∈ fp, b < s2.heap.objs.size := fun b hb => (T.obj _ _ st2 b hb).elim fun o e => Heap.lt_size e.1
  have f3 : ∀ b ∈ fp, FpOk X pins (upd H2 D (.dT [])) b ∧ b < s3.heap.objs.size := by
    intro b hb
    have hlt := sz b hb
    refine ⟨⟨?_, (f2 b hb).2⟩, by rw [h3, Heap.size_push]; exact Nat.lt_succ_of_lt hlt⟩
    rw [upd_ne (by rw [← hD]; exact Nat.ne_of_lt hlt)]
    exact (f2 b hb).1
  have st3 : tn 0 s3.heap := T.keep _ _ _ st2 fun b _ o e => by
    rw [h3]
    exact Heap.get?_push_of_some _ e
  have I4 := block_start I3 ok hN f3
  have pg := hg s3 (upd H2 D (.dT [])) s3.heap.objs.size
    (cellsFrom (s3.heap.objs.size + 1) scope.names (cloFrom X.env.cells scope.names [])) fp
  have pk := hk s3 (upd H2 D (.dT [])) s3.heap.objs.size
    (cellsFrom (s3.heap.objs.size + 1) scope.names (cloFrom X.env.cells scope.names [])) fp
  have pe := he s3 (upd H2 D (.dT [])) s3.heap.objs.size
    (cellsFrom (s3.heap.objs.size + 1) scope.names (cloFrom X.env.cells scope.names [])) fp
  have nfp : ∀ b ∈ fp, (upd H2 D (.dT [])) b = none := fun b hb => (f3 b hb).1.1
  show codeAny _ _ (.compStart (.DictComp kx vx [⟨tg, iter, [], 0⟩] scope pos) 0 (.ref it) (.ref D)
    (compEnvC scope (cellsFrom (s3.heap.objs.size + 1) scope.names (cloFrom X.env.cells scope.names [])) s3.heap.objs.size X.env)) _
    { s3 with heap := pushCells (s3.heap.push { cls := .type "dict", data := .dict #[] }) scope.names }
  generalize hce : compEnvC scope (cellsFrom (s3.heap.objs.size + 1) scope.names (cloFrom X.env.cells scope.names [])) s3.heap.objs.size X.env = ce at I4 pg pk pe ⊢
  have cL : ce.locals = s3.heap.objs.size := by
    subst hce
    rfl
  generalize hH3 : upd H2 D (.dT []) = H3 at I3 I4 pg pk pe w0 nfp f3
  generalize hs4 : ({ s3 with heap := pushCells (s3.heap.push { cls := .type "dict", data := .dict #[] }) scope.names } : Shared) = s4 at I4 ⊢
  have st4 : tn 0 s4.heap := T.keep _ _ _ st3 fun b _ o e => by
    rw [← hs4]
    exact pushCells_keeps _ _ _ _ (Heap.get?_push_of_some _ e)
  have stat : ∀ {σ' : L2.St} {H' : Hp} {s' : Shared}, Inv (X.blk s3 H3 scope ce fp) [] σ' H' s' → (∀ b ∈ fp, H' b = none) →
      ∀ b ∈ fp, FpOk (X.blk s3 H3 scope ce fp) [] H' b := by
    intro σ' H' s' I' hn b hb
    exact ⟨hn b hb, (I'.ok.exf b hb).1, I'.ok.exfs b hb, .inl hb, fun x c e => (I'.ok.exf b hb).2 x c e,
      fun p hp => absurd (show p ∈ ([] : List (Addr × Obj)) ++ [] from hp) (by simp)⟩
  refine codeAny_compStart_dict ?loop (T.self X.A 0 _ _ _ st4 ?loop)
  refine compLoop_anyD (fun n s' => ∃ i H', Inv (X.blk s3 H3 scope ce fp) [] (wipe σ (own.map (·.2))) H' s' ∧ tn i s'.heap ∧
    (∀ b ∈ fp, H' b = none) ∧ W i n H') ?_ m0 ⟨0, H3, I4, st4, nfp, w0⟩
  rintro n s5 ⟨i, H5, I5, st5, n5, w5⟩
  rcases turn i n H5 w5 with ⟨stop, qq⟩ | ⟨go, Nx, hNx, step⟩
  · have td := T.done (X.blk s3 H3 scope ce fp) rfl rfl rfl hc i [] s5 _ H5 (fun _ _ => False) I5 (stat I5 n5) st5 stop
    refine thnF td ?_
    rintro r s6 ⟨hr, I6⟩
    subst hr
    have I7 : Inv X pins σ H5 s6 := I3.call' (ch := fp) I6.os I6.base I6.hok I6.bare fun b hb =>
      ⟨(f3 b hb).1.2.2.2.1, (f3 b hb).1.2.1, (f3 b hb).1.2.2.2.2.1, (f3 b hb).1.2.2.2.2.2⟩
    have nC : H5 s3.heap.objs.size = none := by
      have z : H5 ce.locals = none := I6.free
      rw [cL] at z
      exact z
    obtain ⟨m, hn, _⟩ := I6.loc
    have hn : s6.heap.Ns ce.locals m := hn
    rw [cL] at hn
    obtain ⟨f0, f1, f2, f3, f4, f5⟩ := I3.fpOk (Nat.le_refl _) nC
    refine ⟨m, hn, fun h'' sb => ?_⟩
    exact ⟨.ref D, H5, I7.turned (t' := s6.toks) (fun b o hb e => (sb.2 b hb).trans e) f0 f1 f3 f4 f5, rfl, qq⟩
  · have ti := T.item (X.blk s3 H3 scope ce fp) rfl rfl rfl hc i [] s5 _ H5 (fun _ _ => False) I5 (stat I5 n5) st5 go
    refine thnF ti ?_
    rintro r s6 ⟨u, hr, h6⟩
    subst hr
    refine thnF h6 ?_
    rintro _ s7 ⟨x, H7, I7, r7, y7, st7, n7⟩
    have I7' := I7.pinned (stat I7 n7) (T.obj _ _ st7)
    refine thnF (pg.run _ s7 _ H7 x u _ I7' r7 (step x H7 y7)) ?_
    rintro _ s8 ⟨σ8, H8, I8, hw8, q8⟩
    refine wpAny_pure ?_
    have fin : ∀ {s' : Shared} {H' : Hp}, Inv (X.blk s3 H3 scope ce fp) ([] ++ pinsAt fp s7.heap) σ8 H' s' → Nx H' →
        ∃ m, m < n ∧ ∃ i H', Inv (X.blk s3 H3 scope ce fp) [] (wipe σ (own.map (·.2))) H' s' ∧ tn i s'.heap ∧ (∀ b ∈ fp, H' b = none) ∧ W i m H' := by
      intro s' H' I' nx
      obtain ⟨m', hm, w'⟩ := hNx H' nx
      have pin' : ∀ b ∈ fp, ∀ o, s7.heap.get? b = some o → s'.heap.get? b = some o ∧ H' b = none := by
        intro b hb o e
        have z := I'.pin (b, o) (List.mem_append_right _ (List.mem_append_right _ (mem_pinsAt hb e)))
        exact ⟨z.1, z.2.1⟩
      have hl : (wipe σ (own.map (·.2))).length = σ8.length := by rw [← hw8, wipe_length]
      refine ⟨m', hm, i + 1, H', (I'.unpinned (pins := [])).weak hl (fun j v e => ?_),
        T.keep _ _ _ st7 fun b hb o e => (pin' b hb o e).1, fun b hb => ?_, w'⟩
      · rw [← hw8] at e
        exact (wipe_some e).1
      · obtain ⟨o, e, _⟩ := T.obj _ _ st7 b hb
        exact (pin' b hb o e).2
    show wpAny _ _ (eval kx ce) _ _ _
    refine thnF (pk.run _ s8 σ8 H8 _ I8 q8) ?_
    rintro z s10 ⟨yk, H10, I10, r10, q10⟩
    refine thnF (pe.run _ s10 σ8 H10 _ I10 q10) ?_
    rintro z2 s11 ⟨yv, H11, I11, r11, b, kvs, k, ek, hb, hD11, hz11, nx⟩
    subst ek
    cases r10
    exact setT (X := X.blk s3 H3 scope ce fp) hu I11 hD11 hb hz11 r11 fun s12 I12 => fin I12 nx
end
end AskG
/-! The mathematics of rows: sums, multiples, parts, effects. -/
namespace AskG
open PySem PySem.Spec PyProof.Rows L2

abbrev RowD := List (Cell × Int)
def getO (m : RowD) (c : Cell) : Option Int := (m.find? fun x => decide (x.1 = c)).map (·.2)
def get0 (m : RowD) (c : Cell) : Int := (getO m c).getD 0
def putC (m : RowD) (c : Cell) (w : Int) : RowD :=
  if m.any (fun x => decide (x.1 = c)) then m.map (fun x => if x.1 = c then (x.1, w) else x) else m ++ [(c, w)]
def keys (m : RowD) : List Cell := m.map (·.1)
/-- as the dict holds it -/
def dk (m : RowD) : List (List Key × V) := m.map fun x => (ck x.1, .int x.2)

theorem dk_keys (m : RowD) : (dk m).map (·.1) = (keys m).map ck := by
  unfold dk keys
  rw [List.map_map, List.map_map]
  rfl
theorem dk_length (m : RowD) : (dk m).length = m.length := List.length_map _
theorem getO_cons (x : Cell × Int) (m : RowD) (c : Cell) : getO (x :: m) c = if x.1 = c then some x.2 else getO m c := by
  unfold getO
  rw [List.find?_cons]
  by_cases h : x.1 = c <;> simp [h]
theorem get0_cons (x : Cell × Int) (m : RowD) (c : Cell) : get0 (x :: m) c = if x.1 = c then x.2 else get0 m c := by
  unfold get0
  rw [getO_cons]
  by_cases h : x.1 = c <;> simp [h]
theorem get0_nil (c : Cell) : get0 [] c = 0 := rfl
theorem dk_val : ∀ (m : RowD) (c : Cell), valV (dk m) (ck c) = (getO m c).map V.int
  | [], _ => rfl
  | x :: m, c => by
    rw [getO_cons]
    by_cases h : x.1 = c
    · rw [if_pos h]
      exact valV_pos (p := (ck x.1, V.int x.2)) (congrArg ck h)
    · rw [if_neg h]
      exact (valV_neg (p := (ck x.1, V.int x.2)) (fun e => h (ck_inj e))).trans (dk_val m c)
theorem dk_any (m : RowD) (c : Cell) : ((dk m).any fun kv => decide (kv.1 = ck c)) = m.any fun x => decide (x.1 = c) := by
  unfold dk
  rw [List.any_map]
  congr 1
  funext x
  show decide (ck x.1 = ck c) = decide (x.1 = c)
  by_cases h : x.1 = c
  · rw [h, decide_eq_true rfl, decide_eq_true rfl]
  · rw [decide_eq_false h, decide_eq_false fun e => h (ck_inj e)]
theorem dk_put (m : RowD) (c : Cell) (w : Int) : putK (dk m) (ck c) (.int w) = dk (putC m c w) := by
  unfold putK putC
  rw [dk_any]
  by_cases h : (m.any fun x => decide (x.1 = c)) = true
  · rw [if_pos h, if_pos h]
    unfold dk
    rw [List.map_map, List.map_map]
    refine List.map_congr_left fun x _ => ?_
    show (if ck x.1 = ck c then (ck x.1, V.int w) else (ck x.1, V.int x.2)) = _
    by_cases g : x.1 = c
    · rw [if_pos (congrArg ck g)]
      show _ = (fun x : Cell × Int => (ck x.1, V.int x.2)) (if x.1 = c then (x.1, w) else x)
      rw [if_pos g]
    · rw [if_neg fun e => g (ck_inj e)]
      show _ = (fun x : Cell × Int => (ck x.1, V.int x.2)) (if x.1 = c then (x.1, w) else x)
      rw [if_neg g]
  · rw [if_neg h, if_neg h]
    unfold dk
    rw [List.map_append]
    rfl
theorem mem_any {m : RowD} {c : Cell} : (m.any fun x => decide (x.1 = c)) = true ↔ c ∈ keys m := by
  rw [List.any_eq_true]
  unfold keys
  constructor
  · rintro ⟨x, hx, e⟩
    exact List.mem_map.mpr ⟨x, hx, of_decide_eq_true e⟩
  · intro h
    obtain ⟨x, hx, e⟩ := List.mem_map.mp h
    exact ⟨x, hx, decide_eq_true e⟩
theorem keys_put (m : RowD) (c : Cell) (w : Int) : keys (putC m c w) = if c ∈ keys m then keys m else keys m ++ [c] := by
  unfold putC
  by_cases h : (m.any fun x => decide (x.1 = c)) = true
  · rw [if_pos h, if_pos (mem_any.mp h)]
    unfold keys
    rw [List.map_map]
    refine List.map_congr_left fun x _ => ?_
    show (if x.1 = c then (x.1, w) else x).1 = x.1
    by_cases g : x.1 = c
    · rw [if_pos g]
    · rw [if_neg g]
  · rw [if_neg h, if_neg fun z => h (mem_any.mpr z)]
    unfold keys
    rw [List.map_append]
    rfl
theorem nodup_put {m : RowD} (n : (keys m).Nodup) (c : Cell) (w : Int) : (keys (putC m c w)).Nodup := by
  rw [keys_put]
  by_cases h : c ∈ keys m
  · rw [if_pos h]
    exact n
  · rw [if_neg h]
    refine List.nodup_append.mpr ⟨n, List.nodup_cons.mpr ⟨by simp, List.nodup_nil⟩, fun a ha b hb e => ?_⟩
    rw [List.mem_singleton.mp hb] at e
    exact h (e ▸ ha)
theorem length_put (m : RowD) (c : Cell) (w : Int) : (putC m c w).length ≤ m.length + 1 := by
  unfold putC
  split
  · rw [List.length_map]
    omega
  · rw [List.length_append]
    exact Nat.le_refl _
theorem mem_put {m : RowD} {c : Cell} {w : Int} {x : Cell × Int} (h : x ∈ putC m c w) : x ∈ m ∨ x = (c, w) := by
  unfold putC at h
  split at h
  · obtain ⟨y, hy, e⟩ := List.mem_map.mp h
    by_cases g : y.1 = c
    · rw [if_pos g] at e
      rw [← e, g]
      exact Or.inr rfl
    · rw [if_neg g] at e
      rw [← e]
      exact Or.inl hy
  · rcases List.mem_append.mp h with h | h
    · exact Or.inl h
    · exact Or.inr (List.mem_singleton.mp h)
theorem put_new {m : RowD} {c : Cell} {w : Int} (h : c ∉ keys m) : putC m c w = m ++ [(c, w)] := by
  unfold putC
  rw [if_neg fun z => h (mem_any.mp z)]
theorem getO_none {m : RowD} {c : Cell} (h : c ∉ keys m) : getO m c = none := by
  induction m with
  | nil => rfl
  | cons x m ih =>
    rw [getO_cons, if_neg fun e => h (by rw [← e]; exact List.mem_cons_self)]
    exact ih fun z => h (List.mem_cons_of_mem _ z)
theorem get0_none {m : RowD} {c : Cell} (h : c ∉ keys m) : get0 m c = 0 := by
  unfold get0
  rw [getO_none h]
  rfl
theorem getO_some {m : RowD} {c : Cell} (h : c ∈ keys m) : ∃ w, getO m c = some w ∧ (c, w) ∈ m := by
  induction m with
  | nil => cases h
  | cons x m ih =>
    rw [getO_cons]
    by_cases e : x.1 = c
    · rw [if_pos e]
      exact ⟨x.2, rfl, by rw [← e]; exact List.mem_cons_self⟩
    · rw [if_neg e]
      rcases List.mem_cons.mp h with g | g
      · exact absurd g.symm e
      · obtain ⟨w, h1, h2⟩ := ih g
        exact ⟨w, h1, List.mem_cons_of_mem _ h2⟩
theorem getO_mem {m : RowD} (n : (keys m).Nodup) {x : Cell × Int} (h : x ∈ m) : getO m x.1 = some x.2 := by
  induction m with
  | nil => cases h
  | cons y m ih =>
    rw [getO_cons]
    have n' := List.nodup_cons.mp n
    rcases List.mem_cons.mp h with e | h
    · rw [e, if_pos rfl]
    · rw [if_neg, ih n'.2 h]
      intro e
      refine n'.1 ?_
      show y.1 ∈ keys m
      rw [e]
      exact List.mem_map_of_mem h
theorem get0_mem {m : RowD} (n : (keys m).Nodup) {x : Cell × Int} (h : x ∈ m) : get0 m x.1 = x.2 := by
  unfold get0
  rw [getO_mem n h]
  rfl

/-! ### the dicts that are made -/
def ofRow (r : RowD) : RowD := r.foldl (fun m x => putC m x.1 x.2) []
def addF (m : RowD) (r : RowD) (t : Int) : RowD := r.foldl (fun m x => putC m x.1 (get0 m x.1 + t * x.2)) m
theorem nodup_fold (f : RowD → Cell × Int → Int) : ∀ (r m : RowD), (keys m).Nodup → (keys (r.foldl (fun m x => putC m x.1 (f m x)) m)).Nodup
  | [], _, h => h
  | x :: r, m, h => nodup_fold f r _ (nodup_put h _ _)
theorem length_fold (f : RowD → Cell × Int → Int) : ∀ (r m : RowD), (r.foldl (fun m x => putC m x.1 (f m x)) m).length ≤ m.length + r.length
  | [], m => Nat.le_refl _
  | x :: r, m => by
    have h1 := length_fold f r (putC m x.1 (f m x))
    have h2 := length_put m x.1 (f m x)
    rw [List.length_cons]
    show (r.foldl (fun m x => putC m x.1 (f m x)) (putC m x.1 (f m x))).length ≤ _
    omega
theorem ofRow_nodup (r : RowD) : (keys (ofRow r)).Nodup := nodup_fold (fun _ x => x.2) r [] List.nodup_nil
theorem addF_nodup {m : RowD} (h : (keys m).Nodup) (r : RowD) (t : Int) : (keys (addF m r t)).Nodup := nodup_fold (fun m x => get0 m x.1 + t * x.2) r m h
theorem ofRow_length (r : RowD) : (ofRow r).length ≤ r.length := by
  have := length_fold (fun _ x => x.2) r []
  rw [List.length_nil, Nat.zero_add] at this
  exact this
theorem addF_length (m r : RowD) (t : Int) : (addF m r t).length ≤ m.length + r.length := length_fold (fun m x => get0 m x.1 + t * x.2) r m
theorem fold_app : ∀ (r m : RowD), (keys (m ++ r)).Nodup → r.foldl (fun m x => putC m x.1 x.2) m = m ++ r
  | [], m, _ => (List.append_nil m).symm
  | x :: r, m, h => by
    have e : m ++ x :: r = (m ++ [x]) ++ r := by simp
    have hx : x.1 ∉ keys m := by
      unfold keys at h ⊢
      rw [List.map_append, List.map_cons] at h
      intro hm
      exact (List.nodup_append.mp h).2.2 _ hm _ List.mem_cons_self rfl
    show r.foldl _ (putC m x.1 x.2) = _
    rw [put_new hx, e]
    rw [e] at h
    exact fold_app r _ h
theorem ofRow_self {r : RowD} (h : (keys r).Nodup) : ofRow r = r := fold_app r [] h
theorem addF_app (t : Int) : ∀ (r m : RowD), (keys (m ++ r)).Nodup → addF m r t = m ++ r.map fun x => (x.1, t * x.2)
  | [], m, _ => (List.append_nil m).symm
  | x :: r, m, h => by
    have hx : x.1 ∉ keys m := by
      unfold keys at h ⊢
      rw [List.map_append, List.map_cons] at h
      intro hm
      exact (List.nodup_append.mp h).2.2 _ hm _ List.mem_cons_self rfl
    show addF (putC m x.1 (get0 m x.1 + t * x.2)) r t = _
    rw [put_new hx, get0_none hx, Int.zero_add]
    have e : (m ++ [(x.1, t * x.2)]) ++ r.map (fun x => (x.1, t * x.2)) = m ++ (x :: r).map fun x => (x.1, t * x.2) := by simp
    rw [← e]
    refine addF_app t r _ ?_
    unfold keys at h ⊢
    rw [show (m ++ [(x.1, t * x.2)] ++ r).map (·.1) = (m ++ x :: r).map (·.1) by simp]
    exact h

/-! ### sorted cells -/
def insC (c : Cell) : List Cell → List Cell
  | [] => [c]
  | d :: l => if ltC c d = true then c :: d :: l else d :: insC c l
def sortC (l : List Cell) : List Cell := l.foldr insC []
theorem insC_perm (c : Cell) : ∀ l, (insC c l).Perm (c :: l)
  | [] => List.Perm.refl _
  | d :: l => by
    unfold insC
    split
    · exact List.Perm.refl _
    · exact ((insC_perm c l).cons d).trans (List.Perm.swap c d l)
theorem sortC_perm : ∀ l, (sortC l).Perm l
  | [] => List.Perm.refl _
  | c :: l => (insC_perm c (sortC l)).trans ((sortC_perm l).cons c)
abbrev Rising (l : List Cell) : Prop := l.Pairwise fun a b => ltC a b = true
theorem insC_rising {c : Cell} : ∀ {l : List Cell}, Rising l → c ∉ l → Rising (insC c l)
  | [], _, _ => List.pairwise_singleton _ _
  | d :: l, h, n => by
    have hd := List.pairwise_cons.mp h
    unfold insC
    split
    · rename_i hc
      refine List.pairwise_cons.mpr ⟨fun a ha => ?_, h⟩
      rcases List.mem_cons.mp ha with e | ha
      · rw [e]
        exact hc
      · exact ltC_trans hc (hd.1 a ha)
    · rename_i hc
      have hdc : ltC d c = true := by
        rcases ltC_tri d c with g | g | g
        · exact g
        · exact absurd (g ▸ List.mem_cons_self) n
        · exact absurd g hc
      refine List.pairwise_cons.mpr ⟨fun a ha => ?_, insC_rising hd.2 fun z => n (List.mem_cons_of_mem _ z)⟩
      rcases List.mem_cons.mp ((insC_perm c l).mem_iff.mp ha) with e | ha
      · rw [e]
        exact hdc
      · exact hd.1 a ha
theorem sortC_rising : ∀ {l : List Cell}, l.Nodup → Rising (sortC l)
  | [], _ => List.Pairwise.nil
  | c :: l, n => insC_rising (sortC_rising (List.nodup_cons.mp n).2) fun z => (List.nodup_cons.mp n).1 ((sortC_perm l).mem_iff.mp z)
theorem rising_uniq : ∀ {a b : List Cell}, a.Perm b → Rising a → Rising b → a = b
  | [], b, p, _, _ => by
    cases b with
    | nil => rfl
    | cons y b => exact absurd (p.mem_iff.mpr List.mem_cons_self) (by simp)
  | x :: a, [], p, _, _ => absurd (p.mem_iff.mp List.mem_cons_self) (by simp)
  | x :: a, y :: b, p, ha, hb => by
    have hx := List.pairwise_cons.mp ha
    have hy := List.pairwise_cons.mp hb
    have e : x = y := by
      rcases List.mem_cons.mp (p.mem_iff.mp List.mem_cons_self) with e | h1
      · exact e
      · rcases List.mem_cons.mp (p.mem_iff.mpr List.mem_cons_self) with e | h2
        · exact e.symm
        · have := ltC_trans (hx.1 _ h2) (hy.1 _ h1)
          rw [ltC_irr] at this
          cases this
    subst e
    rw [rising_uniq (List.Perm.cons_inv p) hx.2 hy.2]
theorem rising_nodup {l : List Cell} (h : Rising l) : l.Nodup := h.imp fun h e => by
  rw [e, ltC_irr] at h
  cases h
theorem sortC_self {l : List Cell} (h : Rising l) : sortC l = l := rising_uniq (sortC_perm l) (sortC_rising (rising_nodup h)) h

/-! ### tidy rows -/
def pick (m : RowD) (ys : List Cell) : RowD := (ys.map fun c => (c, get0 m c)).filter fun x => decide (x.2 ≠ 0)
def tidy (m : RowD) : RowD := pick m (sortC (keys m))
structure OkRow (r : RowD) : Prop where
  up : Rising (keys r)
  nz : ∀ x ∈ r, x.2 ≠ 0
theorem keys_pick (m : RowD) (ys : List Cell) : (keys (pick m ys)).Sublist ys := by
  unfold pick keys
  have h := (List.filter_sublist (l := ys.map fun c => (c, get0 m c)) (p := fun x => decide (x.2 ≠ 0))).map (·.1)
  rw [List.map_map] at h
  have e : ys.map ((fun x : Cell × Int => x.1) ∘ fun c => (c, get0 m c)) = ys := by
    rw [show ((fun x : Cell × Int => x.1) ∘ fun c => (c, get0 m c)) = id from rfl]
    exact List.map_id _
  rw [e] at h
  exact h
theorem ok_tidy {m : RowD} (n : (keys m).Nodup) : OkRow (tidy m) :=
  ⟨(sortC_rising n).sublist (keys_pick m _), fun x hx => of_decide_eq_true (List.mem_filter.mp hx).2⟩
theorem tidy_length (m : RowD) : (tidy m).length ≤ m.length := by
  have h := (keys_pick m (sortC (keys m))).length_le
  rw [(sortC_perm (keys m)).length_eq] at h
  unfold keys at h
  rw [List.length_map, List.length_map] at h
  exact h
theorem tidy_mem {m : RowD} (n : (keys m).Nodup) {x : Cell × Int} (h : x ∈ tidy m) : x ∈ m := by
  have h := (List.mem_filter.mp h).1
  obtain ⟨c, hc, e⟩ := List.mem_map.mp h
  obtain ⟨w, h1, h2⟩ := getO_some ((sortC_perm (keys m)).mem_iff.mp hc)
  rw [← e]
  have : get0 m c = w := by
    unfold get0
    rw [h1]
    rfl
  rw [this]
  exact h2
def addR (a b : RowD) (t : Int) : RowD := tidy (addF (ofRow a) b t)
def scaleR (r : RowD) (t : Int) : RowD := if t = 0 then [] else r.map fun x => (x.1, x.2 * t)
theorem tidy_self {r : RowD} (h : Rising (keys r)) : tidy r = r.filter fun x => decide (x.2 ≠ 0) := by
  unfold tidy pick
  rw [sortC_self h]
  have n := rising_nodup h
  have e : (keys r).map (fun c => (c, get0 r c)) = r := by
    unfold keys
    rw [List.map_map]
    have : ∀ x ∈ r, ((fun c => (c, get0 r c)) ∘ fun x : Cell × Int => x.1) x = id x := by
      intro x hx
      show (x.1, get0 r x.1) = x
      rw [get0_mem n hx]
    rw [List.map_congr_left this]
    exact List.map_id _
  rw [e]
theorem addR_nil {r : RowD} (h : OkRow r) (t : Int) : addR [] r t = scaleR r t := by
  unfold addR
  have e0 : ofRow [] = [] := rfl
  rw [e0, addF_app t r [] (rising_nodup h.up), List.nil_append]
  have hk : keys (r.map fun x => (x.1, t * x.2)) = keys r := by
    unfold keys
    rw [List.map_map]
    rfl
  rw [tidy_self (by rw [hk]; exact h.up)]
  unfold scaleR
  by_cases ht : t = 0
  · rw [if_pos ht]
    refine List.filter_eq_nil_iff.mpr fun x hx => ?_
    obtain ⟨y, _, e⟩ := List.mem_map.mp hx
    rw [← e, ht]
    simp
  · rw [if_neg ht, List.filter_eq_self.mpr fun x hx => ?_]
    · refine List.map_congr_left fun x _ => ?_
      rw [Int.mul_comm]
    · obtain ⟨y, hy, e⟩ := List.mem_map.mp hx
      rw [← e]
      exact decide_eq_true (Int.mul_ne_zero ht (h.nz y hy))

/-! ### effects -/
def effR (a b : RowD) : Int := (a.map fun x => x.2 * get0 (ofRow b) x.1).sum
theorem sum_at (c : Cell) (v : Int) : ∀ {b : RowD}, (keys b).Nodup → (b.map fun y => y.2 * (if c = y.1 then v else 0)).sum = v * get0 b c
  | [], _ => by simp [get0_nil]
  | y :: b, n => by
    have n' := List.nodup_cons.mp n
    rw [List.map_cons, List.sum_cons, sum_at c v n'.2, get0_cons]
    by_cases e : c = y.1
    · rw [if_pos e, if_pos e.symm, get0_none (by rw [e]; exact n'.1)]
      rw [Int.mul_comm]
      omega
    · rw [if_neg e, if_neg fun z => e z.symm]
      omega
theorem sum_split (f g h : Cell × Int → Int) : ∀ b : RowD, (∀ y ∈ b, f y = g y + h y) → (b.map f).sum = (b.map g).sum + (b.map h).sum
  | [], _ => rfl
  | y :: b, e => by
    rw [List.map_cons, List.map_cons, List.map_cons, List.sum_cons, List.sum_cons, List.sum_cons,
      sum_split f g h b fun z hz => e z (List.mem_cons_of_mem _ hz), e y List.mem_cons_self]
    omega
theorem sum_sym : ∀ {a b : RowD}, (keys a).Nodup → (keys b).Nodup →
    (a.map fun x => x.2 * get0 b x.1).sum = (b.map fun y => y.2 * get0 a y.1).sum
  | [], b, _, _ => by
    have : ∀ b : RowD, (b.map fun y : Cell × Int => y.2 * get0 [] y.1).sum = 0 := by
      intro b
      induction b with
      | nil => rfl
      | cons y b ih =>
        rw [List.map_cons, List.sum_cons, ih, get0_nil]
        omega
    rw [this]
    rfl
  | x :: a, b, na, nb => by
    have n' := List.nodup_cons.mp na
    rw [List.map_cons, List.sum_cons, sum_sym n'.2 nb]
    rw [sum_split (fun y => y.2 * get0 (x :: a) y.1) (fun y => y.2 * (if x.1 = y.1 then x.2 else 0)) (fun y => y.2 * get0 a y.1) b]
    · rw [sum_at x.1 x.2 nb]
    · intro y _
      show y.2 * get0 (x :: a) y.1 = y.2 * (if x.1 = y.1 then x.2 else 0) + y.2 * get0 a y.1
      rw [get0_cons]
      by_cases e : x.1 = y.1
      · rw [if_pos e, if_pos e, get0_none (by rw [← e]; exact n'.1)]
        omega
      · rw [if_neg e, if_neg e]
        omega
theorem effR_sym {a b : RowD} (ha : OkRow a) (hb : OkRow b) : effR a b = effR b a := by
  unfold effR
  rw [ofRow_self (rising_nodup ha.up), ofRow_self (rising_nodup hb.up)]
  exact sum_sym (rising_nodup ha.up) (rising_nodup hb.up)

/-! ### what a sum holds -/
theorem getO_map {m : RowD} {c d : Cell} {w : Int} : getO (m.map fun x => if x.1 = c then (x.1, w) else x) d = if d = c then (getO m d).map (fun _ => w) else getO m d := by
  induction m with
  | nil => by_cases h : d = c <;> simp [getO, h]
  | cons x m ih =>
    rw [List.map_cons, getO_cons, getO_cons, ih]
    by_cases h1 : x.1 = c
    · rw [if_pos h1]
      by_cases h2 : d = c
      · simp [h1, h2]
      · have h3 : ¬ c = d := fun e => h2 e.symm
        simp [h1, h2, h3]
    · rw [if_neg h1]
      by_cases h2 : d = c
      · have h3 : ¬ x.1 = d := fun e => h1 (e.trans h2)
        simp [h1, h2]
      · simp [h2]
theorem getO_app {m : RowD} {x : Cell × Int} {d : Cell} : getO (m ++ [x]) d = (getO m d).or (if x.1 = d then some x.2 else none) := by
  induction m with
  | nil =>
    rw [List.nil_append, getO_cons]
    rfl
  | cons y m ih =>
    rw [List.cons_append, getO_cons, getO_cons, ih]
    by_cases h : y.1 = d <;> simp [h]
theorem get0_put (m : RowD) (c d : Cell) (w : Int) : get0 (putC m c w) d = if d = c then w else get0 m d := by
  unfold putC get0
  by_cases h : (m.any fun x => decide (x.1 = c)) = true
  · rw [if_pos h, getO_map]
    by_cases e : d = c
    · rw [if_pos e, if_pos e]
      obtain ⟨v, hv, _⟩ := getO_some (mem_any.mp h)
      rw [e, hv]
      rfl
    · rw [if_neg e, if_neg e]
  · rw [if_neg h, getO_app]
    by_cases e : d = c
    · rw [if_pos e, if_pos e.symm, e, getO_none fun z => h (mem_any.mpr z)]
      rfl
    · rw [if_neg e, if_neg fun z => e z.symm]
      cases getO m d <;> rfl
theorem addF_get (t : Int) (d : Cell) : ∀ (r m : RowD), (keys r).Nodup → get0 (addF m r t) d = get0 m d + t * get0 r d
  | [], m, _ => by
    rw [get0_nil, Int.mul_zero, Int.add_zero]
    rfl
  | x :: r, m, n => by
    have n' := List.nodup_cons.mp n
    show get0 (addF (putC m x.1 (get0 m x.1 + t * x.2)) r t) d = _
    rw [addF_get t d r _ n'.2, get0_put, get0_cons]
    by_cases e : d = x.1
    · rw [if_pos e, if_pos e.symm, e, get0_none n'.1, Int.mul_zero, Int.add_zero]
    · rw [if_neg e, if_neg fun z => e z.symm]
theorem addF_keys (t : Int) (d : Cell) : ∀ (r m : RowD), d ∈ keys (addF m r t) → d ∈ keys m ∨ d ∈ keys r
  | [], m, h => Or.inl h
  | x :: r, m, h => by
    rcases addF_keys t d r _ h with h | h
    · rw [keys_put] at h
      by_cases e : x.1 ∈ keys m
      · rw [if_pos e] at h
        exact Or.inl h
      · rw [if_neg e] at h
        rcases List.mem_append.mp h with h | h
        · exact Or.inl h
        · rw [List.mem_singleton.mp h]
          exact Or.inr List.mem_cons_self
    · exact Or.inr (List.mem_cons_of_mem _ h)
theorem sub_length : ∀ {l m : List Cell}, l.Nodup → (∀ x ∈ l, x ∈ m) → l.length ≤ m.length
  | [], _, _, _ => Nat.zero_le _
  | x :: l, m, n, h => by
    have n' := List.nodup_cons.mp n
    have hx := h x List.mem_cons_self
    have := sub_length (l := l) (m := m.erase x) n'.2 fun y hy => (List.mem_erase_of_ne (a := y) (b := x) fun e => n'.1 (by rw [← e]; exact hy)).mpr (h y (List.mem_cons_of_mem _ hy))
    rw [List.length_erase_of_mem hx] at this
    have : 0 < m.length := List.length_pos_of_mem hx
    rw [List.length_cons]
    omega
/-- rows on some cells, with bounded weights -/
structure DrawnR (cs : List Cell) (B : Int) (r : RowD) : Prop where
  ok : OkRow r
  on : ∀ c ∈ keys r, c ∈ cs
  lit : ∀ c, -B ≤ get0 r c ∧ get0 r c ≤ B
theorem DrawnR.mono {cs : List Cell} {B C : Int} {r : RowD} (h : DrawnR cs B r) (e : B ≤ C) : DrawnR cs C r := ⟨h.ok, h.on, fun c => by have := h.lit c; omega⟩
theorem DrawnR.many {cs : List Cell} {B : Int} {r : RowD} (h : DrawnR cs B r) : r.length ≤ cs.length := by
  have := sub_length (rising_nodup h.ok.up) h.on
  unfold keys at this
  rw [List.length_map] at this
  exact this
theorem DrawnR.at' {cs : List Cell} {B : Int} {r : RowD} (h : DrawnR cs B r) {x : Cell × Int} (hx : x ∈ r) : -B ≤ x.2 ∧ x.2 ≤ B := by
  have := h.lit x.1
  rw [get0_mem (rising_nodup h.ok.up) hx] at this
  exact this
theorem get0_tidy {m : RowD} (n : (keys m).Nodup) (c : Cell) : get0 (tidy m) c = get0 m c := by
  by_cases h : c ∈ keys (tidy m)
  · obtain ⟨w, h1, h2⟩ := getO_some h
    have e1 : get0 (tidy m) c = w := by
      unfold get0
      rw [h1]
      rfl
    have e2 := get0_mem n (tidy_mem n h2)
    rw [e1]
    exact e2.symm
  · rw [get0_none h]
    by_cases hm : c ∈ keys m
    · by_cases h0 : get0 m c = 0
      · exact h0.symm
      · exfalso
        refine h ?_
        have : (c, get0 m c) ∈ tidy m := List.mem_filter.mpr ⟨List.mem_map.mpr ⟨c, (sortC_perm (keys m)).mem_iff.mpr hm, rfl⟩, decide_eq_true h0⟩
        exact List.mem_map_of_mem (f := fun x : Cell × Int => x.1) this
    · exact (get0_none hm).symm
theorem get0_ofRow {a : RowD} (h : OkRow a) (c : Cell) : get0 (ofRow a) c = get0 a c := by rw [ofRow_self (rising_nodup h.up)]
theorem get0_addR {a b : RowD} (ha : OkRow a) (hb : OkRow b) (t : Int) (c : Cell) : get0 (addR a b t) c = get0 a c + t * get0 b c := by
  unfold addR
  rw [get0_tidy (addF_nodup (ofRow_nodup a) b t), addF_get t c b _ (rising_nodup hb.up), get0_ofRow ha]
theorem DrawnR.sum {cs : List Cell} {B C : Int} {a b : RowD} (ha : DrawnR cs B a) (hb : DrawnR cs C b) : DrawnR cs (B + C) (addR a b 1) := by
  have n := addF_nodup (ofRow_nodup a) b 1
  refine ⟨ok_tidy n, fun c hc => ?_, fun c => ?_⟩
  · have h1 : c ∈ keys (addF (ofRow a) b 1) := by
      obtain ⟨x, hx, e⟩ := List.mem_map.mp hc
      rw [← e]
      exact List.mem_map_of_mem (tidy_mem n hx)
    rcases addF_keys 1 c b _ h1 with h | h
    · rw [ofRow_self (rising_nodup ha.ok.up)] at h
      exact ha.on c h
    · exact hb.on c h
  · rw [get0_addR ha.ok hb.ok, Int.one_mul]
    have h1 := ha.lit c
    have h2 := hb.lit c
    omega
theorem ok_nil : OkRow [] := ⟨List.Pairwise.nil, fun x hx => absurd hx (by simp)⟩
theorem drawn_nil {cs : List Cell} {B : Int} (h : 0 ≤ B) : DrawnR cs B [] := ⟨ok_nil, fun c hc => absurd hc (by simp [keys]), fun c => by rw [get0_nil]; omega⟩
theorem drawn_tidy {m : RowD} {cs : List Cell} {B : Int} (hm : keys m = cs) (n : cs.Nodup) (h0 : 0 ≤ B) (hB : ∀ x ∈ m, -B ≤ x.2 ∧ x.2 ≤ B) : DrawnR cs B (tidy m) := by
  have nm : (keys m).Nodup := by
    rw [hm]
    exact n
  refine ⟨ok_tidy nm, fun c hc => ?_, fun c => ?_⟩
  · rw [← hm]
    obtain ⟨x, hx, e⟩ := List.mem_map.mp hc
    rw [← e]
    exact List.mem_map_of_mem (tidy_mem nm hx)
  · rw [get0_tidy nm]
    by_cases h : c ∈ keys m
    · obtain ⟨w, h1, h2⟩ := getO_some h
      have : get0 m c = w := by
        unfold get0
        rw [h1]
        rfl
      rw [this]
      exact hB _ h2
    · rw [get0_none h]
      omega
end AskG
/-! Rows in the heap. -/
namespace AskG
open PySem PySem.Spec PyProof.Rows L2

def PairRow (H : Hp) (p : Addr) (x : Cell × Int) : Prop := ∃ b, H p = some (.tup [.ref b, .int x.2]) ∧ CellAt H b x.1
def RowAt (H : Hp) (r : Addr) (ρ : RowD) : Prop := ∃ ps : List Addr, H r = some (.tup (ps.map V.ref)) ∧ Paired (PairRow H) ps ρ
/-- the tuples stay -/
def KeepT (H H' : Hp) : Prop := ∀ b xs, H b = some (.tup xs) → H' b = some (.tup xs)
theorem KeepT.of {H H' : Hp} (h : Same H H') : KeepT H H' := fun b xs e => h b _ e
theorem KeepT.trans {H H1 H2 : Hp} (h : KeepT H H1) (g : KeepT H1 H2) : KeepT H H2 := fun b xs e => g b xs (h b xs e)
theorem KeepT.refl (H : Hp) : KeepT H H := fun _ _ e => e
theorem KeepT.new {H : Hp} {p : Addr} {o : HO} (h : H p = none) : KeepT H (upd H p o) := fun b xs e => by
  rw [upd_ne (ne_of_none e h)]
  exact e
theorem KeepT.put {H : Hp} {p : Addr} {o u : HO} (h : H p = some u) (n : ∀ xs, u ≠ .tup xs) : KeepT H (upd H p o) := fun b xs e => by
  rw [upd_ne (ne_of e h fun z => n xs z.symm)]
  exact e
theorem CellAt.keep {H H' : Hp} {b : Addr} {c : Cell} (h : CellAt H b c) (k : KeepT H H') : CellAt H' b c := k _ _ h
theorem PairRow.keep {H H' : Hp} {p : Addr} {x : Cell × Int} (h : PairRow H p x) (k : KeepT H H') : PairRow H' p x := by
  obtain ⟨b, h1, h2⟩ := h
  exact ⟨b, k _ _ h1, h2.keep k⟩
theorem RowAt.keep {H H' : Hp} {r : Addr} {ρ : RowD} (h : RowAt H r ρ) (k : KeepT H H') : RowAt H' r ρ := by
  obtain ⟨ps, h1, h2⟩ := h
  exact ⟨ps, k _ _ h1, Paired.mapP h2 fun _ _ z => z.keep k⟩
theorem same_new {H : Hp} {p : Addr} {o : HO} (h : H p = none) : Same H (upd H p o) := fun b x e => by
  rw [upd_ne (ne_of_none e h)]
  exact e
theorem paired_at {α β : Type} {R : α → β → Prop} : ∀ {l : List α} {m : List β}, Paired R l m → ∀ {i : Nat} {y : β}, m[i]? = some y → ∃ x, l[i]? = some x ∧ R x y
  | _, _, .nil, i, y, e => by simp at e
  | _, _, .cons (a := a) h t, 0, y, e => ⟨a, rfl, by rw [← Option.some.inj e]; exact h⟩
  | _, _, .cons h t, i + 1, y, e => by
    obtain ⟨x, h1, h2⟩ := paired_at t (i := i) (by simpa using e)
    exact ⟨x, by simpa using h1, h2⟩
theorem paired_at' {α β : Type} {R : α → β → Prop} : ∀ {l : List α} {m : List β}, Paired R l m → ∀ {i : Nat} {x : α}, l[i]? = some x → ∃ y, m[i]? = some y ∧ R x y
  | _, _, .nil, i, y, e => by simp at e
  | _, _, .cons (b := b) h t, 0, y, e => ⟨b, rfl, by rw [← Option.some.inj e]; exact h⟩
  | _, _, .cons h t, i + 1, y, e => by
    obtain ⟨x, h1, h2⟩ := paired_at' t (i := i) (by simpa using e)
    exact ⟨x, by simpa using h1, h2⟩
theorem sqT {K : PySem.W.Frag} {H : Hp} {a : Addr} {xs : List V} (h : H a = some (.tup xs)) : SqT K H a xs := .inl (.inl h)
theorem sqL {K : PySem.W.Frag} {H : Hp} {a : Addr} {xs : List V} (h : H a = some (.lst xs)) : SqL K H a xs := .inl (.inl h)

/-! ### comprehensions of dicts over a tuple -/
theorem dcT_tup {K : PySem.W.Frag} {a : Addr} {xs : List V} {g : TG} {tk tv : TE} {vs : List Nat} {σ : L2.St} {H1 : Hp} {D : Addr} {Qd : Hp → Prop}
    (Pv : Nat → Hp → Prop) (h0 : Pv 0 (upd H1 D (.dT []))) (hl : ∀ i H, i ≤ xs.length → Pv i H → SqT K H a xs)
    (hs : ∀ i x H, xs[i]? = some x → Pv i H → g x (wipe σ vs) H fun σ2 H2 => wipe σ2 vs = wipe σ vs ∧ tk σ2 H2 fun y H4 => tv σ2 H4 fun z H5 =>
      ∃ b kvs k, y = .ref b ∧ H5 b = some (.tup (k.map kV)) ∧ H5 D = some (.dT kvs) ∧ kvs.length < sizeLine ∧ Pv (i + 1) (upd H5 D (.dT (putK kvs k z))))
    (hd : ∀ H, Pv xs.length H → Qd H) :
    ∃ W : Nat → Nat → Hp → Prop, (∃ m, W 0 m (upd H1 D (.dT []))) ∧ ∀ i m H, W i m H →
      ((Itt K a).stop i H ∧ Qd H) ∨ ((Itt K a).go i H ∧ ∃ Nx : Hp → Prop, (∀ H', Nx H' → ∃ m', m' < m ∧ W (i + 1) m' H') ∧
        ∀ x H', (Itt K a).yld i H x H' → g x (wipe σ vs) H' fun σ2 H2 => wipe σ2 vs = wipe σ vs ∧ tk σ2 H2 fun y H4 => tv σ2 H4 fun z H5 =>
          ∃ b kvs k, y = .ref b ∧ H5 b = some (.tup (k.map kV)) ∧ H5 D = some (.dT kvs) ∧ kvs.length < sizeLine ∧ Nx (upd H5 D (.dT (putK kvs k z)))) := by
  refine ⟨fun i m H => m = xs.length - i ∧ i ≤ xs.length ∧ Pv i H, ⟨xs.length, by simp, Nat.zero_le _, h0⟩, ?_⟩
  rintro i m H ⟨rfl, hi, p⟩
  have q := hl i H hi p
  by_cases hlt : i < xs.length
  · refine .inr ⟨⟨xs, xs[i], q, by simp [hlt]⟩, Pv (i + 1), fun H' p' => ⟨xs.length - (i + 1), by omega, rfl, hlt, p'⟩, ?_⟩
    rintro x H' ⟨e, y⟩
    subst e
    exact hs i x _ (y xs q) p
  · obtain rfl : i = xs.length := by omega
    exact .inl ⟨⟨xs, q, Nat.le_refl _⟩, hd H p⟩

theorem set2 {σ : L2.St} {a b : Nat} {v w : V} (ha : a < σ.length) (hb : b < σ.length) (hab : a ≠ b) :
    ((σ.set a (some v)).set b (some w))[a]? = some (some v) ∧ ((σ.set a (some v)).set b (some w))[b]? = some (some w) := by
  constructor
  · rw [List.getElem?_set_ne (fun e => hab e.symm), List.getElem?_set_self ha]
  · rw [List.getElem?_set_self (by rw [List.length_set]; exact hb)]
theorem set_over {σ : L2.St} (i : Nat) (x : Option V) : (σ.set i x).set i none = σ.set i none := List.set_set ..
theorem wipe2 {σ : L2.St} {a b : Nat} {v w : V} (hab : a ≠ b) : wipe (((wipe σ [a, b]).set a (some v)).set b (some w)) [a, b] = wipe σ [a, b] := by
  show ((((((σ.set b none).set a none)).set a (some v)).set b (some w)).set b none).set a none = (σ.set b none).set a none
  rw [List.set_set, List.set_set, List.set_comm _ _ hab, List.set_set, List.set_set]
theorem sizeBig : 100000 < sizeLine := by decide

/-- {cell: weight for cell, weight in row} -/
theorem dc_row {K : PySem.W.Frag} {i a b : Nat} {σ : L2.St} {H : Hp} {Q : VK} {r : Addr} {ρ : RowD} (hi : σ[i]? = some (some (.ref r))) (R : RowAt H r ρ)
    (ha : a < σ.length) (hb : b < σ.length) (hab : a ≠ b) (hz : ρ.length ≤ 1000)
    (q : ∀ D, H D = none → Q (.ref D) (upd H D (.dT (dk (ofRow ρ))))) :
    tDcT (iTup K (tVar i)) (gTup K 2 (gCons (gName a) (gCons (gName b) gNil))) (tVar a) (tVar b) [a, b] σ H Q := by
  obtain ⟨ps, hr, hp⟩ := R
  refine ⟨.ref r, hi, r, rfl, ⟨_, sqT hr⟩, fun D hD => ?_⟩
  refine dcT_tup (xs := ps.map V.ref) (fun i H' => H' = upd H D (.dT (dk (ofRow (ρ.take i))))) rfl (fun i H' _ e => ?_) (fun i x H' hx e => ?_) (fun H' e => ?_)
  · rw [e]
    refine sqT ?_
    rw [upd_ne (ne_of_none hr hD)]
    exact hr
  · subst e
    rw [List.getElem?_map] at hx
    cases hpi : ps[i]? with
    | none =>
      rw [hpi] at hx
      cases hx
    | some p =>
      rw [hpi] at hx
      have ex : V.ref p = x := Option.some.inj hx
      subst ex
      obtain ⟨y, hy, bb, h1, h2⟩ := paired_at' hp hpi
      have kp : KeepT H (upd H D (.dT (dk (ofRow (ρ.take i))))) := KeepT.new hD
      refine ⟨p, [.ref bb, .int y.2], rfl, sqT (kp _ _ h1), rfl, .ref bb, [.int y.2], rfl, .int y.2, [], rfl, rfl, ?_⟩
      refine ⟨wipe2 hab, .ref bb, (set2 (by rw [wipe_length]; exact ha) (by rw [wipe_length]; exact hb) hab).1, .int y.2, (set2 (by rw [wipe_length]; exact ha) (by rw [wipe_length]; exact hb) hab).2, bb, dk (ofRow (ρ.take i)), ck y.1, rfl, kp _ _ h2, upd_same, ?_, ?_⟩
      · rw [dk_length]
        have h1 := ofRow_length (ρ.take i)
        have h2 := List.length_take_le i ρ
        have := sizeBig
        have h3 : (ρ.take i).length ≤ ρ.length := by
          rw [List.length_take]
          omega
        omega
      · rw [upd_upd, dk_put, List.take_add_one, hy]
        show _ = upd H D (.dT (dk ((ρ.take i ++ [y]).foldl _ [])))
        rw [List.foldl_append]
        rfl
  · have : (ps.map V.ref).length = ρ.length := by rw [List.length_map, Paired.length hp]
    rw [e, this, List.take_length]
    exact q D hD

theorem ck_kV (c : Cell) : (ck c).map kV = [V.str c.1, V.int c.2] := rfl
theorem wipe1 {σ : L2.St} {a : Nat} {v : V} : wipe ((wipe σ [a]).set a (some v)) [a] = wipe σ [a] := by
  show (((σ.set a none).set a (some v)).set a none) = σ.set a none
  rw [List.set_set, List.set_set]
theorem wipe_at {σ : L2.St} {a i : Nat} (h : i ≠ a) : (wipe σ [a])[i]? = σ[i]? := by
  show (σ.set a none)[i]? = σ[i]?
  exact List.getElem?_set_ne (fun e => h e.symm)
theorem dget_of {H : Hp} {D b : Addr} {m : RowD} {c : Cell} (hD : H D = some (.dT (dk m))) (hb : CellAt H b c) : DGet H D (.ref b) ((getO m c).map V.int) := by
  have := DGet.t (k := ck c) hD (by rw [ck_kV]; exact hb)
  rw [dk_val] at this
  exact this
/-- [(cell, weights[cell]) for cell in sorted(weights) if weights[cell] != 0] -/
theorem lc_tidy {K : PySem.W.Frag} {iw ic : Nat} {σ : L2.St} {H : Hp} {Q : VK} {D : Addr} {m : RowD} (hw : σ[iw]? = some (some (.ref D))) (hne : iw ≠ ic) (hic : ic < σ.length)
    (hD : H D = some (.dT (dk m))) (n : (keys m).Nodup) (hz : m.length ≤ 1000)
    (q : ∀ H' L ps, Same H H' → H L = none → H' L = some (.lst (ps.map V.ref)) → Paired (PairRow H') ps (tidy m) → Q (.ref L) H') :
    tLc (iList K (tCB rSortT (tCons (tVar iw) tNil))) (gName ic) (tTest (tOp rNe (tDGet (tVar iw) (tVar ic)) (tC (V.int 0))))
      (tTup (tCons (tVar ic) (tCons (tDGet (tVar iw) (tVar ic)) tNil))) [ic] σ H Q := by
  refine ⟨.ref D, hw, D, dk m, keys m, rfl, .inl hD, dk_keys m, fun ys bs p hp hup hbs hpn => ?_⟩
  have ey : ys = sortC (keys m) := rising_uniq (hp.trans (sortC_perm (keys m)).symm) hup (sortC_rising n)
  have s1 : Same H (upd H p (.lst (bs.map V.ref))) := same_new hpn
  refine ⟨p, rfl, ⟨_, sqL upd_same⟩, fun L hL => ?_⟩
  have hLH : H L = none := s1.free hL
  refine lc_list (xs := bs.map V.ref) (fun i H' => Same (upd H p (.lst (bs.map V.ref))) H' ∧ ∃ ps, H' L = some (.lst (ps.map V.ref)) ∧ Paired (PairRow H') ps (pick m (ys.take i)) ∧ ps.length ≤ i)
    ⟨same_new hL, [], upd_same, .nil, Nat.le_refl _⟩ (fun i H' _ h => sqL (h.1 _ _ upd_same)) (fun i x H' hx h => ?_) (fun H' h => ?_)
  · obtain ⟨sm, ps, hps, hpp, hpl⟩ := h
    have smH : Same H H' := s1.trans sm
    rw [List.getElem?_map] at hx
    cases hbi : bs[i]? with
    | none =>
      rw [hbi] at hx
      cases hx
    | some b =>
      rw [hbi] at hx
      have ex : V.ref b = x := Option.some.inj hx
      subst ex
      obtain ⟨c, hc, hcb⟩ := paired_at' hbs hbi
      have hcm : c ∈ keys m := hp.mem_iff.mp (List.mem_of_getElem? hc)
      obtain ⟨w, hw1, hw2⟩ := getO_some hcm
      have hcb' : CellAt H' b c := hcb.keep (KeepT.of smH)
      have dg : DGet H' D (.ref b) (some (.int w)) := by
        have := dget_of (smH _ _ hD) hcb'
        rw [hw1] at this
        exact this
      have g0 : get0 m c = w := by
        unfold get0
        rw [hw1]
        rfl
      have bl : i < bs.length := (List.getElem?_eq_some_iff.mp hbi).1
      have ysl : bs.length = ys.length := Paired.length hbs
      have yml : ys.length = m.length := by
        rw [hp.length_eq]
        exact List.length_map _
      have big := sizeBig
      have aw : ((wipe σ [ic]).set ic (some (.ref b)))[iw]? = some (some (.ref D)) := by
        rw [List.getElem?_set_ne (fun e => hne e.symm), wipe_at hne]
        exact hw
      have ac : ((wipe σ [ic]).set ic (some (.ref b)))[ic]? = some (some (.ref b)) := List.getElem?_set_self (by rw [wipe_length]; exact hic)
      have pk : pick m (ys.take (i + 1)) = pick m (ys.take i) ++ (if w ≠ 0 then [(c, w)] else []) := by
        rw [List.take_add_one, hc]
        unfold pick
        rw [List.map_append, List.filter_append]
        congr 1
        show List.filter _ [(c, get0 m c)] = _
        rw [g0]
        by_cases h0 : w = 0
        · simp [h0]
        · simp [h0]
      refine ⟨wipe1, .ref D, aw, .ref b, ac, D, .int w, rfl, dg, rfl, _, rfl, ?_⟩
      by_cases h0 : w = 0
      · rw [h0]
        refine iteF ?_
        refine ⟨sm, ps, hps, ?_, by omega⟩
        rw [pk, if_neg (by simp [h0]), List.append_nil]
        exact hpp
      · have e0 : (!decide (V.int w = V.int 0)) = true := by
          rw [decide_eq_false fun z => h0 (V.int.inj z)]
          rfl
        rw [e0]
        refine iteT ?_
        refine ⟨.ref b, ac, .ref D, aw, .ref b, ac, D, .int w, rfl, dg, by show 2 ≤ sizeLine; decide, fun t ht => ?_⟩
        have nLt : L ≠ t := ne_of_none hps ht
        refine ⟨ps.map V.ref, by rw [upd_ne nLt]; exact hps, by rw [List.length_map]; omega, ?_, ps ++ [t], ?_, ?_, ?_⟩
        · intro b' o' e'
          have nb : b' ≠ L := ne_of_none e' hL
          rw [upd_ne nb, upd_ne (ne_of_none (sm _ _ e') ht)]
          exact sm _ _ e'
        · rw [upd_same, List.map_append]
          rfl
        · have kp : KeepT H' (upd (upd H' t (.tup [.ref b, .int w])) L (.lst (ps.map V.ref ++ [.ref t]))) :=
            (KeepT.new ht).trans (KeepT.put (u := .lst (ps.map V.ref)) (by rw [upd_ne nLt]; exact hps) (fun _ z => nomatch z))
          rw [pk, if_pos h0]
          refine Paired.snoc (Paired.mapP hpp fun _ _ z => z.keep kp) ⟨b, ?_, hcb'.keep kp⟩
          rw [upd_ne nLt.symm, upd_same]
        · rw [List.length_append]
          show ps.length + 1 ≤ i + 1
          omega
  · obtain ⟨sm, ps, hps, hpp, _⟩ := h
    have e : ys.take (bs.map V.ref).length = ys := List.take_of_length_le (by rw [List.length_map, Paired.length hbs]; exact Nat.le_refl _)
    rw [e, ey] at hpp
    exact q H' L ps (s1.trans sm) hLH hps hpp

/-- the row of a made list of pairs -/
theorem row_of_list {H : Hp} {L p : Addr} {ps : List Addr} {ρ : RowD} (hp : H p = none) (h : Paired (PairRow H) ps ρ) : RowAt (upd H p (.tup (ps.map V.ref))) p ρ :=
  ⟨ps, upd_same, Paired.mapP h fun _ _ z => z.keep (KeepT.new hp)⟩

/-- for cell, weight in row: weights[cell] = weights.get(cell, 0) + t * weight -/
theorem for_add {K : PySem.W.Frag} {io iw a b : Nat} {σ : L2.St} {H : Hp} {Dn : Ends} {Dd r : Addr} {π m : RowD} {t : Int} {tv : TE}
    (hio : σ[io]? = some (some (.ref r))) (hiw : σ[iw]? = some (some (.ref Dd))) (wa : iw ≠ a) (wb : iw ≠ b) (ha : a < σ.length) (hb : b < σ.length) (hab : a ≠ b)
    (R : RowAt H r π) (hD : H Dd = some (.dT (dk m))) (hz : m.length + π.length ≤ 1000)
    (htv : ∀ (σ' : L2.St) (H' : Hp) (c : Cell) (w : Int) (m' : RowD) (bb : Addr) (Q : VK), (c, w) ∈ π → (∀ j, j ≠ a → j ≠ b → σ'[j]? = σ[j]?) → σ'[a]? = some (some (.ref bb)) → σ'[b]? = some (some (.int w)) →
      H' Dd = some (.dT (dk m')) → CellAt H' bb c → Q (.int (get0 m' c + t * w)) H' → tv σ' H' Q)
    (q : ∀ σ', (∀ j, j ≠ a → j ≠ b → σ'[j]? = σ[j]?) → σ'.length = σ.length → Dn.nx σ' (upd H Dd (.dT (dk (addF m π t))))) :
    tFor (iTup K (tVar io)) (gTup K 2 (gCons (gName a) (gCons (gName b) gNil))) (sDPut (tVar iw) (tVar a) tv) Dn σ H := by
  obtain ⟨ps, hr, hp⟩ := R
  refine ⟨.ref r, hio, r, rfl, ⟨_, sqT hr⟩, ?_⟩
  refine for_tup (xs := ps.map V.ref) (fun i σ' H' => (∀ j, j ≠ a → j ≠ b → σ'[j]? = σ[j]?) ∧ σ'.length = σ.length ∧ H' = upd H Dd (.dT (dk (addF m (π.take i) t))))
    ⟨fun _ _ _ => rfl, rfl, ?_⟩ (fun i σ' H' _ h => ?_) (fun i x σ' H' hx h => ?_) (fun σ' H' h => ?_)
  · funext c
    show H c = upd H Dd (.dT (dk m)) c
    by_cases e : c = Dd
    · rw [e, upd_same, hD]
    · rw [upd_ne e]
  · rw [h.2.2]
    refine sqT ?_
    rw [upd_ne (ne_of hr hD fun z => nomatch z)]
    exact hr
  · obtain ⟨hj, hl, rfl⟩ := h
    rw [List.getElem?_map] at hx
    cases hpi : ps[i]? with
    | none =>
      rw [hpi] at hx
      cases hx
    | some p =>
      rw [hpi] at hx
      have ex : V.ref p = x := Option.some.inj hx
      subst ex
      obtain ⟨y, hy, bb, h1, h2⟩ := paired_at' hp hpi
      have kp : KeepT H (upd H Dd (.dT (dk (addF m (π.take i) t)))) := KeepT.put hD fun _ z => nomatch z
      have s2 := set2 (v := .ref bb) (w := .int y.2) (by rw [hl]; exact ha) (by rw [hl]; exact hb) hab
      have hj' : ∀ j, j ≠ a → j ≠ b → ((σ'.set a (some (.ref bb))).set b (some (.int y.2)))[j]? = σ[j]? := fun j h1 h2 => by
        rw [List.getElem?_set_ne (fun e => h2 e.symm), List.getElem?_set_ne (fun e => h1 e.symm)]
        exact hj j h1 h2
      refine ⟨p, [.ref bb, .int y.2], rfl, sqT (kp _ _ h1), rfl, .ref bb, [.int y.2], rfl, .int y.2, [], rfl, rfl, ?_⟩
      refine htv _ _ y.1 y.2 (addF m (π.take i) t) bb _ (List.mem_of_getElem? hy) hj' s2.1 s2.2 upd_same (kp _ _ h2) ?_
      have pl : (π.take i).length ≤ π.length := by
        rw [List.length_take]
        omega
      have al := addF_length m (π.take i) t
      have big := sizeBig
      refine ⟨.ref Dd, by rw [hj' iw wa wb]; exact hiw, .ref bb, s2.1, Dd, _, rfl, DPut.t (k := ck y.1) upd_same (by rw [ck_kV]; exact kp _ _ h2) (by rw [dk_length]; omega), ?_⟩
      refine ⟨hj', by rw [List.length_set, List.length_set]; exact hl, ?_⟩
      rw [upd_upd, dk_put, List.take_add_one, hy]
      show _ = upd H Dd (.dT (dk ((π.take i ++ [y]).foldl _ m)))
      rw [List.foldl_append]
      rfl
  · obtain ⟨hj, hl, rfl⟩ := h
    have e : π.take (ps.map V.ref).length = π := List.take_of_length_le (by rw [List.length_map, Paired.length hp]; exact Nat.le_refl _)
    rw [e]
    exact q σ' hj hl

/-! ### readings, opened one at a time -/
theorem iSeq {t u : TS} {D : Ends} {σ : L2.St} {H : Hp} (h : t { D with nx := u D } σ H) : tSeq t u D σ H := h
theorem iAsg {te : TE} {g : TG} {D : Ends} {σ : L2.St} {H : Hp} (h : te σ H fun x H1 => g x σ H1 D.nx) : tAsg te g D σ H := h
theorem iRet {te : TE} {D : Ends} {σ : L2.St} {H : Hp} (h : te σ H D.rt) : tRet te D σ H := h
theorem iCB {r : List V → Hp → VK → Prop} {t : TA} {σ : L2.St} {H : Hp} {Q : VK} (h : t σ H fun vs H1 => r vs H1 Q) : tCB r t σ H Q := h
theorem iCons {ta : TE} {tr : TA} {σ : L2.St} {H : Hp} {Q : List V → Hp → Prop} (h : ta σ H fun x H1 => tr σ H1 fun xs H2 => Q (x :: xs) H2) : tCons ta tr σ H Q := h
theorem iOp {r : R2} {ta tb : TE} {σ : L2.St} {H : Hp} {Q : VK} (h : ta σ H fun x H1 => tb σ H1 fun y H2 => r x y H2 Q) : tOp r ta tb σ H Q := h
theorem iTest {t : TE} {σ : L2.St} {H : Hp} {Q : Bool → Hp → Prop} (h : t σ H fun x H' => ∃ k, x = .bl k ∧ Q k H') : tTest t σ H Q := h
theorem iNext {D : Ends} {σ : L2.St} {H : Hp} (h : D.nx σ H) : tNext D σ H := h
theorem iName {i : Nat} {v : V} {σ : L2.St} {H : Hp} {Q : L2.St → Hp → Prop} (h : Q (σ.set i (some v)) H) : gName i v σ H Q := h
/-- a value by what holds of it -/
theorem split_k {t : TE} {σ : L2.St} {H : Hp} {Q : VK} (R : V → Hp → Prop) (h1 : ∀ Q' : VK, (∀ v H', R v H' → Q' v H') → t σ H Q') (h2 : ∀ v H', R v H' → Q v H') : t σ H Q := h1 Q h2
/-- a block by what holds behind it -/
theorem split_s {t : TS} {D : Ends} {σ : L2.St} {H : Hp} (R : L2.St → Hp → Prop) (h1 : ∀ nx : L2.St → Hp → Prop, (∀ σ' H', R σ' H' → nx σ' H') → t { D with nx := nx } σ H) (h2 : ∀ σ' H', R σ' H' → D.nx σ' H') : t D σ H := h1 D.nx h2
theorem iNil {σ : L2.St} {H : Hp} {Q : List V → Hp → Prop} (h : Q [] H) : tNil σ H Q := h
end AskG
/-! Comprehensions over rows. -/
namespace AskG
open PySem PySem.Spec PyProof.Rows L2
abbrev g2 (K : PySem.W.Frag) (a b : Nat) : TG := gTup K 2 (gCons (gName a) (gCons (gName b) gNil))
/-- the slots at a turn: the two targets, all else as it was -/
structure Turn2 (σ σ' : L2.St) (a b : Nat) (v w : V) : Prop where
  fst : σ'[a]? = some (some v)
  snd : σ'[b]? = some (some w)
  old : ∀ j, j ≠ a → j ≠ b → σ'[j]? = σ[j]?
theorem turn2 {σ : L2.St} {a b : Nat} {v w : V} (ha : a < σ.length) (hb : b < σ.length) (hab : a ≠ b) :
    Turn2 σ (((wipe σ [a, b]).set a (some v)).set b (some w)) a b v w := by
  have s2 := set2 (σ := wipe σ [a, b]) (v := v) (w := w) (by rw [wipe_length]; exact ha) (by rw [wipe_length]; exact hb) hab
  refine ⟨s2.1, s2.2, fun j h1 h2 => ?_⟩
  rw [List.getElem?_set_ne (fun e => h2 e.symm), List.getElem?_set_ne (fun e => h1 e.symm)]
  show ((σ.set b none).set a none)[j]? = _
  rw [List.getElem?_set_ne (fun e => h1 e.symm), List.getElem?_set_ne (fun e => h2 e.symm)]

/-- [(cell, g weight) for cell, weight in row if ..] -/
theorem lc_rows {K : PySem.W.Frag} {i a b : Nat} {σ : L2.St} {H : Hp} {Q : VK} {r : Addr} {ρ : RowD} {tt : TT} {tw : TE} (keep : Cell × Int → Bool) (g : Cell × Int → Int)
    (hi : σ[i]? = some (some (.ref r))) (R : RowAt H r ρ) (ha : a < σ.length) (hb : b < σ.length) (hab : a ≠ b) (hz : ρ.length ≤ 1000)
    (htt : ∀ σ' H' bb x (Q : Bool → Hp → Prop), x ∈ ρ → Same H H' → Turn2 σ σ' a b (.ref bb) (.int x.2) → CellAt H' bb x.1 → (∀ H'', Same H' H'' → Q (keep x) H'') → tt σ' H' Q)
    (htw : ∀ σ' H' bb x (Q : VK), x ∈ ρ → Same H H' → Turn2 σ σ' a b (.ref bb) (.int x.2) → CellAt H' bb x.1 → Q (.int (g x)) H' → tw σ' H' Q)
    (q : ∀ H' L ps, Same H H' → H L = none → H' L = some (.lst (ps.map V.ref)) → Paired (PairRow H') ps ((ρ.filter keep).map fun x => (x.1, g x)) → Q (.ref L) H') :
    tLc (iTup K (tVar i)) (g2 K a b) tt (tTup (tCons (tVar a) (tCons tw tNil))) [a, b] σ H Q := by
  obtain ⟨qs, hr, hp⟩ := R
  refine ⟨.ref r, hi, r, rfl, ⟨_, sqT hr⟩, fun L hL => ?_⟩
  refine lc_tup (xs := qs.map V.ref) (fun i H' => Same H H' ∧ ∃ ps, H' L = some (.lst (ps.map V.ref)) ∧ Paired (PairRow H') ps (((ρ.take i).filter keep).map fun x => (x.1, g x)) ∧ ps.length ≤ i)
    ⟨same_new hL, [], upd_same, .nil, Nat.le_refl _⟩ (fun i H' _ h => sqT (h.1 _ _ hr)) (fun i x H' hx h => ?_) (fun H' h => ?_)
  · obtain ⟨sm, ps, hps, hpp, hpl⟩ := h
    rw [List.getElem?_map] at hx
    cases hqi : qs[i]? with
    | none =>
      rw [hqi] at hx
      cases hx
    | some p =>
      rw [hqi] at hx
      have ex : V.ref p = x := Option.some.inj hx
      subst ex
      obtain ⟨y, hy, bb, h1, h2⟩ := paired_at' hp hqi
      have hym := List.mem_of_getElem? hy
      have kp := KeepT.of sm
      have il : i < qs.length := (List.getElem?_eq_some_iff.mp hqi).1
      have ql : qs.length = ρ.length := Paired.length hp
      have big := sizeBig
      have T := turn2 (v := .ref bb) (w := .int y.2) ha hb hab
      refine ⟨p, [.ref bb, .int y.2], rfl, sqT (kp _ _ h1), rfl, .ref bb, [.int y.2], rfl, .int y.2, [], rfl, rfl, ?_⟩
      refine ⟨wipe2 hab, htt _ _ bb y _ hym sm T (h2.keep kp) fun H2 sm2 => ?_⟩
      have kp2 := KeepT.of sm2
      have pk : ((ρ.take (i + 1)).filter keep).map (fun x => (x.1, g x)) = ((ρ.take i).filter keep).map (fun x => (x.1, g x)) ++ (if keep y = true then [(y.1, g y)] else []) := by
        rw [List.take_add_one, hy, List.filter_append, List.map_append]
        congr 1
        show List.map _ (List.filter keep [y]) = _
        cases hk : keep y with
        | true => simp [hk]
        | false => simp [hk]
      cases hk : keep y with
      | false =>
        refine iteF ⟨sm.trans sm2, ps, sm2 _ _ hps, ?_, by omega⟩
        rw [pk, hk, if_neg (by decide), List.append_nil]
        exact Paired.mapP hpp fun _ _ z => z.keep kp2
      | true =>
        refine iteT ⟨.ref bb, T.fst, htw _ _ bb y _ hym (sm.trans sm2) T ((h2.keep kp).keep kp2) ⟨by show 2 ≤ sizeLine; decide, fun t ht => ?_⟩⟩
        have hps2 := sm2 _ _ hps
        have nLt : L ≠ t := ne_of_none hps2 ht
        refine ⟨ps.map V.ref, by rw [upd_ne nLt]; exact hps2, by rw [List.length_map]; omega, ?_, ps ++ [t], ?_, ?_, ?_⟩
        · intro b' o' e'
          have e2 := sm2 _ _ (sm _ _ e')
          rw [upd_ne (ne_of_none e' hL), upd_ne (ne_of_none e2 ht)]
          exact e2
        · rw [upd_same, List.map_append]
          rfl
        · have kp3 : KeepT H2 (upd (upd H2 t (.tup [.ref bb, .int (g y)])) L (.lst (ps.map V.ref ++ [.ref t]))) :=
            (KeepT.new ht).trans (KeepT.put (u := .lst (ps.map V.ref)) (by rw [upd_ne nLt]; exact hps2) (fun _ z => nomatch z))
          rw [pk, hk, if_pos rfl]
          refine Paired.snoc (Paired.mapP hpp fun _ _ z => (z.keep kp2).keep kp3) ⟨bb, ?_, ((h2.keep kp).keep kp2).keep kp3⟩
          rw [upd_ne nLt.symm, upd_same]
        · rw [List.length_append]
          show ps.length + 1 ≤ i + 1
          omega
  · obtain ⟨sm, ps, hps, hpp, _⟩ := h
    have e : ρ.take (qs.map V.ref).length = ρ := List.take_of_length_le (by rw [List.length_map, Paired.length hp]; exact Nat.le_refl _)
    rw [e] at hpp
    exact q H' L ps sm hL hps hpp

theorem iYes {σ : L2.St} {H : Hp} {Q : Bool → Hp → Prop} (h : Q true H) : tYes σ H Q := h
/-- [g of cell, weight for cell, weight in row] -/
theorem lc_ints {K : PySem.W.Frag} {i a b : Nat} {σ : L2.St} {H : Hp} {Q : VK} {r : Addr} {ρ : RowD} {tw : TE} (g : Cell × Int → Int)
    (hi : σ[i]? = some (some (.ref r))) (R : RowAt H r ρ) (ha : a < σ.length) (hb : b < σ.length) (hab : a ≠ b) (hz : ρ.length ≤ 1000)
    (htw : ∀ σ' H' bb x (Q : VK), x ∈ ρ → Same H H' → Turn2 σ σ' a b (.ref bb) (.int x.2) → CellAt H' bb x.1 → Q (.int (g x)) H' → tw σ' H' Q)
    (q : ∀ H' L, Same H H' → H L = none → H' L = some (.lst ((ρ.map g).map V.int)) → Q (.ref L) H') :
    tLc (iTup K (tVar i)) (g2 K a b) tYes tw [a, b] σ H Q := by
  obtain ⟨qs, hr, hp⟩ := R
  refine ⟨.ref r, hi, r, rfl, ⟨_, sqT hr⟩, fun L hL => ?_⟩
  refine lc_tup (xs := qs.map V.ref) (fun i H' => Same H H' ∧ H' L = some (.lst (((ρ.take i).map g).map V.int)))
    ⟨same_new hL, upd_same⟩ (fun i H' _ h => sqT (h.1 _ _ hr)) (fun i x H' hx h => ?_) (fun H' h => ?_)
  · obtain ⟨sm, hps⟩ := h
    rw [List.getElem?_map] at hx
    cases hqi : qs[i]? with
    | none =>
      rw [hqi] at hx
      cases hx
    | some p =>
      rw [hqi] at hx
      have ex : V.ref p = x := Option.some.inj hx
      subst ex
      obtain ⟨y, hy, bb, h1, h2⟩ := paired_at' hp hqi
      have kp := KeepT.of sm
      have big := sizeBig
      have T := turn2 (v := .ref bb) (w := .int y.2) ha hb hab
      refine ⟨p, [.ref bb, .int y.2], rfl, sqT (kp _ _ h1), rfl, .ref bb, [.int y.2], rfl, .int y.2, [], rfl, rfl, ?_⟩
      refine ⟨wipe2 hab, iYes (iteT (htw _ _ bb y _ (List.mem_of_getElem? hy) sm T (h2.keep kp) ⟨_, hps, ?_, ?_, ?_⟩))⟩
      · rw [List.length_map, List.length_map, List.length_take]
        omega
      · intro b' o' e'
        rw [upd_ne (ne_of_none e' hL)]
        exact sm _ _ e'
      · rw [upd_same, List.take_add_one, hy]
        show _ = some (HO.lst (((ρ.take i ++ [y]).map g).map V.int))
        rw [List.map_append, List.map_append]
        rfl
  · obtain ⟨sm, hps⟩ := h
    have e : ρ.take (qs.map V.ref).length = ρ := List.take_of_length_le (by rw [List.length_map, Paired.length hp]; exact Nat.le_refl _)
    rw [e] at hps
    exact q H' L sm hL hps

theorem set1_at {σ : L2.St} {a : Nat} {v : V} (ha : a < σ.length) : ((wipe σ [a]).set a (some v))[a]? = some (some v) := List.getElem?_set_self (by rw [wipe_length]; exact ha)
theorem set1_old {σ : L2.St} {a j : Nat} {v : V} (h : j ≠ a) : ((wipe σ [a]).set a (some v))[j]? = σ[j]? := by
  rw [List.getElem?_set_ne (fun e => h e.symm), wipe_at h]
/-- one turn of [pair for pair in pairs if ..] -/
theorem pairs_turn {a : Nat} {σ : L2.St} {H H' : Hp} {L : Addr} {qs : List Addr} {ρ : RowD} {tt : TT} (keep : Cell × Int → Bool)
    (ha : a < σ.length) (hp : Paired (PairRow H) qs ρ) (hz : ρ.length ≤ 1000) (hL : H L = none)
    (htt : ∀ σ' H' p x (Q : Bool → Hp → Prop), x ∈ ρ → Same H H' → σ'[a]? = some (some (.ref p)) → (∀ j, j ≠ a → σ'[j]? = σ[j]?) → PairRow H' p x → (∀ H'', Same H' H'' → Q (keep x) H'') → tt σ' H' Q)
    {i : Nat} {x : V} (hx : (qs.map V.ref)[i]? = some x) (h : Same H H' ∧ ∃ ps, H' L = some (.lst (ps.map V.ref)) ∧ Paired (PairRow H') ps ((ρ.take i).filter keep) ∧ ps.length ≤ i) :
    gName a x (wipe σ [a]) H' fun σ2 H2 => wipe σ2 [a] = wipe σ [a] ∧ tt σ2 H2 fun b H3 => if b = true then tVar a σ2 H3 fun y H4 => ∃ acc, H4 L = some (.lst acc) ∧ acc.length < sizeLine ∧
      (Same H (upd H4 L (.lst (acc ++ [y]))) ∧ ∃ ps, (upd H4 L (.lst (acc ++ [y]))) L = some (.lst (ps.map V.ref)) ∧ Paired (PairRow (upd H4 L (.lst (acc ++ [y])))) ps ((ρ.take (i + 1)).filter keep) ∧ ps.length ≤ i + 1)
      else (Same H H3 ∧ ∃ ps, H3 L = some (.lst (ps.map V.ref)) ∧ Paired (PairRow H3) ps ((ρ.take (i + 1)).filter keep) ∧ ps.length ≤ i + 1) := by
  obtain ⟨sm, ps, hps, hpp, hpl⟩ := h
  rw [List.getElem?_map] at hx
  cases hqi : qs[i]? with
  | none =>
    rw [hqi] at hx
    cases hx
  | some p =>
    rw [hqi] at hx
    have ex : V.ref p = x := Option.some.inj hx
    subst ex
    obtain ⟨y, hy, hpy⟩ := paired_at' hp hqi
    have kp := KeepT.of sm
    have il : i < qs.length := (List.getElem?_eq_some_iff.mp hqi).1
    have ql : qs.length = ρ.length := Paired.length hp
    have big := sizeBig
    refine ⟨wipe1, htt _ _ p y _ (List.mem_of_getElem? hy) sm (set1_at ha) (fun j hj => set1_old hj) (hpy.keep kp) fun H2 sm2 => ?_⟩
    have kp2 := KeepT.of sm2
    have pk : (ρ.take (i + 1)).filter keep = (ρ.take i).filter keep ++ (if keep y = true then [y] else []) := by
      rw [List.take_add_one, hy, List.filter_append]
      congr 1
      show List.filter keep [y] = _
      cases hk : keep y with
      | true => simp [hk]
      | false => simp [hk]
    cases hk : keep y with
    | false =>
      refine iteF ⟨sm.trans sm2, ps, sm2 _ _ hps, ?_, by omega⟩
      rw [pk, hk, if_neg (by decide), List.append_nil]
      exact Paired.mapP hpp fun _ _ z => z.keep kp2
    | true =>
      have hps2 := sm2 _ _ hps
      refine iteT ⟨.ref p, set1_at ha, ps.map V.ref, hps2, by rw [List.length_map]; omega, ?_, ps ++ [p], ?_, ?_, ?_⟩
      · intro b' o' e'
        rw [upd_ne (ne_of_none e' hL)]
        exact sm2 _ _ (sm _ _ e')
      · rw [upd_same, List.map_append]
        rfl
      · have kp3 : KeepT H2 (upd H2 L (.lst (ps.map V.ref ++ [.ref p]))) := KeepT.put (u := .lst (ps.map V.ref)) hps2 (fun _ z => nomatch z)
        rw [pk, hk, if_pos rfl]
        exact Paired.snoc (Paired.mapP hpp fun _ _ z => (z.keep kp2).keep kp3) (((hpy.keep kp).keep kp2).keep kp3)
      · rw [List.length_append]
        show ps.length + 1 ≤ i + 1
        omega
/-- [pair for pair in row if ..] -/
theorem lc_pairsT {K : PySem.W.Frag} {i a : Nat} {σ : L2.St} {H : Hp} {Q : VK} {r : Addr} {qs : List Addr} {ρ : RowD} {tt : TT} (keep : Cell × Int → Bool)
    (hi : σ[i]? = some (some (.ref r))) (hr : H r = some (.tup (qs.map V.ref))) (hp : Paired (PairRow H) qs ρ) (ha : a < σ.length) (hz : ρ.length ≤ 1000)
    (htt : ∀ σ' H' p x (Q : Bool → Hp → Prop), x ∈ ρ → Same H H' → σ'[a]? = some (some (.ref p)) → (∀ j, j ≠ a → σ'[j]? = σ[j]?) → PairRow H' p x → (∀ H'', Same H' H'' → Q (keep x) H'') → tt σ' H' Q)
    (q : ∀ H' L ps, Same H H' → H L = none → H' L = some (.lst (ps.map V.ref)) → Paired (PairRow H') ps (ρ.filter keep) → Q (.ref L) H') :
    tLc (iTup K (tVar i)) (gName a) tt (tVar a) [a] σ H Q := by
  refine ⟨.ref r, hi, r, rfl, ⟨_, sqT hr⟩, fun L hL => ?_⟩
  refine lc_tup (xs := qs.map V.ref) (fun i H' => Same H H' ∧ ∃ ps, H' L = some (.lst (ps.map V.ref)) ∧ Paired (PairRow H') ps ((ρ.take i).filter keep) ∧ ps.length ≤ i)
    ⟨same_new hL, [], upd_same, .nil, Nat.le_refl _⟩ (fun i H' _ h => sqT (h.1 _ _ hr)) (fun i x H' hx h => pairs_turn keep ha hp hz hL htt hx h) (fun H' h => ?_)
  obtain ⟨sm, ps, hps, hpp, _⟩ := h
  have e : ρ.take (qs.map V.ref).length = ρ := List.take_of_length_le (by rw [List.length_map, Paired.length hp]; exact Nat.le_refl _)
  rw [e] at hpp
  exact q H' L ps sm hL hps hpp
theorem lc_pairsL {K : PySem.W.Frag} {i a : Nat} {σ : L2.St} {H : Hp} {Q : VK} {r : Addr} {qs : List Addr} {ρ : RowD} {tt : TT} (keep : Cell × Int → Bool)
    (hi : σ[i]? = some (some (.ref r))) (hr : H r = some (.lst (qs.map V.ref))) (hp : Paired (PairRow H) qs ρ) (ha : a < σ.length) (hz : ρ.length ≤ 1000)
    (htt : ∀ σ' H' p x (Q : Bool → Hp → Prop), x ∈ ρ → Same H H' → σ'[a]? = some (some (.ref p)) → (∀ j, j ≠ a → σ'[j]? = σ[j]?) → PairRow H' p x → (∀ H'', Same H' H'' → Q (keep x) H'') → tt σ' H' Q)
    (q : ∀ H' L ps, Same H H' → H L = none → H' L = some (.lst (ps.map V.ref)) → Paired (PairRow H') ps (ρ.filter keep) → Q (.ref L) H') :
    tLc (iList K (tVar i)) (gName a) tt (tVar a) [a] σ H Q := by
  refine ⟨.ref r, hi, r, rfl, ⟨_, sqL hr⟩, fun L hL => ?_⟩
  refine lc_list (xs := qs.map V.ref) (fun i H' => Same H H' ∧ ∃ ps, H' L = some (.lst (ps.map V.ref)) ∧ Paired (PairRow H') ps ((ρ.take i).filter keep) ∧ ps.length ≤ i)
    ⟨same_new hL, [], upd_same, .nil, Nat.le_refl _⟩ (fun i H' _ h => sqL (h.1 _ _ hr)) (fun i x H' hx h => pairs_turn keep ha hp hz hL htt hx h) (fun H' h => ?_)
  obtain ⟨sm, ps, hps, hpp, _⟩ := h
  have e : ρ.take (qs.map V.ref).length = ρ := List.take_of_length_le (by rw [List.length_map, Paired.length hp]; exact Nat.le_refl _)
  rw [e] at hpp
  exact q H' L ps sm hL hps hpp
end AskG
/-! Calls with keywords. -/
namespace AskG
open PySem PySem.Spec PyProof.Rows L2
section
variable {P : Program} {w : World} {K : PySem.W.Frag} {mg : Str → Option Value} {base : Heap}
theorem okGD {x qual : Str} {params : Arguments} {body : List Stmt} {scope : Scope} {dvs : List V} {kws : List (Str × V)} {f : Addr} {fd : FuncData} {N ps : List Str} {k : Nat} {pr : Pr}
    (F : FunD K x qual params body scope dvs kws f fd) (S : FnScope N ps scope) (many : ∀ vs H Q, pr vs H Q → vs.length = ps.length)
    (body_ok : ∀ (cdv : Value) (A : Around) (outer : List Env) (s : Shared) (H : Hp) (vs : List V) (Q : VK),
      RG k (A.deeper (envOfC qual scope s.heap.objs.size f cdv)) → pr vs H Q →
      ∃ t, PSs (cxOf CX0 P w K mg base N qual scope f cdv A outer s H E0).nox body t ∧
        t { nx := fun _ H' => Q .non H', rt := Q } (start N vs) H) : FnG P w K mg base (k + 1) f fd ps pr := by
  obtain ⟨oc, od, dV, kV, doc, pm, an, cdv, ct, osl, rfl, lk, hcd, _, _⟩ := F.ex
  exact fnG_of lk hcd S many fun A outer s H vs Q hr hp => body_ok cdv A outer s H vs Q hr hp
end
def tCallNG (n m : Nat) (pr : Pr) (gV : List V → List V → List V) (t tk : TA) : TE := fun σ H Q =>
  t σ H fun vs H1 => tk σ H1 fun zs H2 => vs.length = n ∧ zs.length = m ∧ pr (gV vs zs) H2 Q
section
variable {X : Cx} {k n : Nat} {f : Addr} {fd : FuncData} {ps ks : List Str} {pr : Pr} {x : Str} {p pos : Pos} {e : Expr} {es : List Expr} {kws : List Keyword}
  {t tk : TA} {g : List Value → List Value → List Value} {gV : List V → List V → List V}
theorem goN {pins : List (Addr × Obj)} {σ : L2.St} {H : Hp} {s : Shared} {Q : VK} {us ws : List Value} {vs zs : List V}
    (F : FnG X.prog X.w X.K X.mg X.base k f fd ps pr) (hr : RG k X.A) (hb : KBn X.K fd ps n ks g gV)
    (I : Inv X pins σ H s) (r : Vals vs us) (rz : Vals zs ws) (l1 : vs.length = n) (l2 : zs.length = ks.length) (h : pr (gV vs zs) H Q) :
    wpAny (model X.prog X.w) X.A (call (.ref f) us (ks.zip ws)) (EP X pins σ Q) X.xe s :=
  goG (args := ⟨us, ks.zip ws⟩) F hr I (hb.to s us ws I.kIn (r.length.symm.trans l1) (rz.length.symm.trans l2)) (hb.rel r rz) h
/-- f(e, .., k = v, ..) -/
theorem pe_gn (F : FnG X.prog X.w X.K X.mg X.base k f fd ps pr) (hr : RG k X.A) (hg : Gl X x)
    (hm : X.mg x = some (.ref f)) (hk : PySem.W.keepIn X.K (.ref f) = true) (hb : KBn X.K fd ps n ks g gV)
    (ha : PA X (e :: es) t) (hkw : PK X kws tk)
    (hall : (backToKw pos (keywordEach kws X.env)).all (·.1.isSome) = true := by rfl)
    (hks : (backToKw pos (keywordEach kws X.env)).filterMap (·.1) = ks := by rfl)
    (hdb : (x == ("__debug__" : Str)) = false := by decide)
    (he : starEach (e :: es) X.env = (false, eval e X.env) :: starEach es X.env := by rfl)
    (hpl : ((backTo pos (starEach (e :: es) X.env)).any (·.1) || (backToKw pos (keywordEach kws X.env)).any (·.1.isNone)) = false := by rfl) :
    PE X (.Call (.Name x p) (e :: es) kws pos) (tCallNG n ks.length pr gV t tk) := by
  constructor
  intro pins s σ H Q I h
  refine wpAny_Call_Name_kw (ld_glob I hg hm ?_ hdb)
  refine PySem.W.callWith_KW (h₀ := X.base) I.ok.mod.kin hk hall (thn (ha.run pos pins s σ H _ I h) ?_) hpl he
  rintro us s1 ⟨vs, H1, I1, r, q⟩
  refine thn (hkw.run pos pins s1 σ H1 _ I1 q) ?_
  rintro ws s2 ⟨zs, H2, I2, rz, l1, l2, q2⟩
  refine ⟨I2.kIn, ?_⟩
  rw [hks]
  exact goN F hr hb I2 r rz l1 l2 q2
/-- f(k = v, ..) -/
theorem pe_gn0 (F : FnG X.prog X.w X.K X.mg X.base k f fd ps pr) (hr : RG k X.A) (hg : Gl X x)
    (hm : X.mg x = some (.ref f)) (hk : PySem.W.keepIn X.K (.ref f) = true) (hb : KBn X.K fd ps 0 ks g gV)
    (hkw : PK X kws tk)
    (hall : (backToKw pos (keywordEach kws X.env)).all (·.1.isSome) = true := by rfl)
    (hks : (backToKw pos (keywordEach kws X.env)).filterMap (·.1) = ks := by rfl)
    (hdb : (x == ("__debug__" : Str)) = false := by decide)
    (hpl : ((backTo pos (starEach [] X.env)).any (·.1) || (backToKw pos (keywordEach kws X.env)).any (·.1.isNone)) = false := by rfl) :
    PE X (.Call (.Name x p) [] kws pos) (tCallNG 0 ks.length pr gV tNil tk) := by
  constructor
  intro pins s σ H Q I h
  refine wpAny_Call_Name_kw (ld_glob I hg hm ?_ hdb)
  refine PySem.W.callWith_KW0 (h₀ := X.base) I.ok.mod.kin hk hall ?_ hpl
  refine thn (hkw.run pos pins s σ H _ I h) ?_
  rintro ws s2 ⟨zs, H2, I2, rz, l1, l2, q2⟩
  refine ⟨I2.kIn, ?_⟩
  rw [hks]
  exact goN (us := []) F hr hb I2 .nil rz l1 l2 q2
end
end AskG
/-! Rows as data: what repr shows of them, == with []. -/
namespace AskG
open PySem PySem.Spec PyProof.Rows L2
/-- data that repr shows in at most n signs -/
structure Fine (k n : Nat) (d : PyData) : Prop where
  shw : d.showable = true
  nod : d.hasDict = false
  dep : d.depth ≤ k
  len : d.shown.length ≤ n
theorem Fine.mono {k n k' n' : Nat} {d : PyData} (h : Fine k n d) (hk : k ≤ k') (hn : n ≤ n') : Fine k' n' d :=
  ⟨h.shw, h.nod, Nat.le_trans h.dep hk, Nat.le_trans h.len hn⟩
theorem all_fine {k n : Nat} : ∀ {ds : List PyData}, (∀ d ∈ ds, Fine k n d) →
    PyData.showableAll ds = true ∧ PyData.hasDictAll ds = false ∧ PyData.depthAll ds ≤ k ∧ ((PyData.shownAll ds).map (·.length)).sum ≤ ds.length * n ∧ (PyData.shownAll ds).length = ds.length
  | [], _ => ⟨rfl, rfl, Nat.zero_le _, Nat.zero_le _, rfl⟩
  | d :: ds, h => by
    obtain ⟨h1, h2, h3, h4, h5⟩ := all_fine (ds := ds) fun e he => h e (List.mem_cons_of_mem _ he)
    have f := h d List.mem_cons_self
    refine ⟨?_, ?_, ?_, ?_, ?_⟩
    · show (d.showable && PyData.showableAll ds) = true
      rw [f.shw, h1]
      rfl
    · show (d.hasDict || PyData.hasDictAll ds) = false
      rw [f.nod, h2]
      rfl
    · show max d.depth (PyData.depthAll ds) ≤ k
      exact Nat.max_le.mpr ⟨f.dep, h3⟩
    · show ((d.shown :: PyData.shownAll ds).map (·.length)).sum ≤ _
      rw [List.map_cons, List.sum_cons, List.length_cons, Nat.succ_mul]
      have := f.len
      omega
    · show (d.shown :: PyData.shownAll ds).length = _
      rw [List.length_cons, List.length_cons, h5]
theorem Fine.tup {k n m : Nat} {ds : List PyData} (h : ∀ d ∈ ds, Fine k n d) (hm : ds.length ≤ m) : Fine (k + 1) (m * (n + 2) + 3) (.tuple ds) := by
  obtain ⟨h1, h2, h3, h4, h5⟩ := all_fine h
  refine ⟨h1, h2, Nat.succ_le_succ h3, ?_⟩
  have := tupleText_len_le (PyData.shownAll ds)
  show (tupleText (PyData.shownAll ds)).length ≤ _
  have e : ds.length * (n + 2) ≤ m * (n + 2) := Nat.mul_le_mul_right _ hm
  have e2 : ds.length * (n + 2) = ds.length * n + 2 * ds.length := by rw [Nat.mul_add, Nat.mul_comm ds.length 2]
  rw [h5] at this
  omega
theorem Fine.lst {k n m : Nat} {ds : List PyData} (h : ∀ d ∈ ds, Fine k n d) (hm : ds.length ≤ m) : Fine (k + 1) (m * (n + 2) + 3) (.list ds) := by
  obtain ⟨h1, h2, h3, h4, h5⟩ := all_fine h
  refine ⟨h1, h2, Nat.succ_le_succ h3, ?_⟩
  have := listText_len_le (PyData.shownAll ds)
  show (listText (PyData.shownAll ds)).length ≤ _
  have e : ds.length * (n + 2) ≤ m * (n + 2) := Nat.mul_le_mul_right _ hm
  have e2 : ds.length * (n + 2) = ds.length * n + 2 * ds.length := by rw [Nat.mul_add, Nat.mul_comm ds.length 2]
  rw [h5] at this
  omega
theorem fine_int {i : Int} (h : i.natAbs.log2 < 1920) : Fine 0 1921 (.int i) :=
  ⟨decide_eq_true h, rfl, Nat.le_refl _, int_text_len_1921 h⟩
theorem fine_str {x : Str} (h : x.length ≤ 8) (hx : ∀ c ∈ x.cps.toList, c < 16 ^ 8) : Fine 0 1921 (.str x) :=
  ⟨rfl, rfl, Nat.le_refl _, by
    have := StrLaws.reprText_len x hx
    show (reprText x).length ≤ _
    omega⟩

/-- sizes of what rows hold -/
structure CellOk (c : Cell) : Prop where
  short : c.1.length ≤ 8
  plain : ∀ n ∈ c.1.cps.toList, n < 16 ^ 8
  ok : PyData.strOk c.1 = true
  lit : c.2.natAbs.log2 < 1920
def cellD (c : Cell) : PyData := .tuple [.str c.1, .int c.2]
def pairD (x : Cell × Int) : PyData := .tuple [cellD x.1, .int x.2]
def rowPD (ρ : RowD) : PyData := .tuple (ρ.map pairD)
structure RowOk (ρ : RowD) : Prop where
  many : ρ.length ≤ 100
  cells : ∀ x ∈ ρ, CellOk x.1
  lit : ∀ x ∈ ρ, x.2.natAbs.log2 < 1920
theorem fine_cell {c : Cell} (h : CellOk c) : Fine 1 3849 (cellD c) := by
  refine Fine.tup (k := 0) (n := 1921) (m := 2) (fun d hd => ?_) (Nat.le_refl _)
  rcases List.mem_cons.mp hd with e | hd
  · rw [e]
    exact fine_str h.short h.plain
  · rw [List.mem_singleton.mp hd]
    exact fine_int h.lit
theorem fine_pair {x : Cell × Int} (h : CellOk x.1) (hw : x.2.natAbs.log2 < 1920) : Fine 2 7705 (pairD x) := by
  refine Fine.tup (k := 1) (n := 3849) (m := 2) (fun d hd => ?_) (Nat.le_refl _)
  rcases List.mem_cons.mp hd with e | hd
  · rw [e]
    exact fine_cell h
  · rw [List.mem_singleton.mp hd]
    exact (fine_int hw).mono (by decide) (by decide)
theorem fine_row {ρ : RowD} (h : RowOk ρ) : Fine 3 770703 (rowPD ρ) := by
  refine Fine.tup (k := 2) (n := 7705) (m := 100) (fun d hd => ?_) (by rw [List.length_map]; exact h.many)
  obtain ⟨x, hx, rfl⟩ := List.mem_map.mp hd
  exact fine_pair (h.cells x hx) (h.lit x hx)

section
variable {K : PySem.W.Frag} {H : Hp}
theorem dp_cell {b : Addr} {c : Cell} (h : CellAt H b c) : Dp K H (.ref b) (cellD c) := .tup (sqT h) (.cons (.str _) (.cons (.int _) .nil))
theorem dp_pair {p : Addr} {x : Cell × Int} (h : PairRow H p x) : Dp K H (.ref p) (pairD x) := by
  obtain ⟨b, h1, h2⟩ := h
  exact .tup (sqT h1) (.cons (dp_cell h2) (.cons (.int _) .nil))
theorem dp_all {R : Addr → α → Prop} {f : α → PyData} (h : ∀ p x, R p x → Dp K H (.ref p) (f x)) : ∀ {ps : List Addr} {l : List α}, Paired R ps l → DpAll K H (ps.map V.ref) (l.map f)
  | _, _, .nil => .nil
  | _, _, .cons h1 t => .cons (h _ _ h1) (dp_all h t)
theorem dp_row {r : Addr} {ρ : RowD} (h : RowAt H r ρ) : Dp K H (.ref r) (rowPD ρ) := by
  obtain ⟨ps, h1, h2⟩ := h
  exact .tup (sqT h1) (dp_all (f := pairD) (R := PairRow H) (fun _ _ z => dp_pair z) h2)
end
/-! ### == of lists -/
theorem shaped_nil : SeqAt.shaped (.list []) = true := by decide
theorem can_all {f : α → PyData} : ∀ {l : List α}, (∀ x ∈ l, (f x).canLay0 = true) → PyData.canLayAll0 (l.map f) = true
  | [], _ => rfl
  | x :: l, h => by
    show ((f x).canLay0 && PyData.canLayAll0 (l.map f)) = true
    rw [h x List.mem_cons_self, can_all fun y hy => h y (List.mem_cons_of_mem _ hy)]
    rfl
theorem depth_all {f : α → PyData} {k : Nat} : ∀ {l : List α}, (∀ x ∈ l, (f x).depth ≤ k) → PyData.depthAll (l.map f) ≤ k
  | [], _ => Nat.zero_le _
  | x :: l, h => by
    show max (f x).depth (PyData.depthAll (l.map f)) ≤ k
    exact Nat.max_le.mpr ⟨h x List.mem_cons_self, depth_all fun y hy => h y (List.mem_cons_of_mem _ hy)⟩
theorem shaped_ints (ns : List Int) : SeqAt.shaped (.list (ns.map PyData.int)) = true := by
  have h1 : PyData.canLayAll0 (ns.map PyData.int) = true := can_all fun _ _ => rfl
  have h2 : PyData.depthAll (ns.map PyData.int) ≤ 0 := depth_all fun _ _ => Nat.le_refl _
  show (PyData.canLayAll0 (ns.map PyData.int) && decide (PyData.depthAll (ns.map PyData.int) + 1 ≤ 64)) = true
  rw [h1, decide_eq_true (by omega)]
  rfl
theorem shaped_pairs {ρ : RowD} (h : ∀ x ∈ ρ, CellOk x.1) : SeqAt.shaped (.list (ρ.map pairD)) = true := by
  have h1 : PyData.canLayAll0 (ρ.map pairD) = true := can_all fun x hx => by
    show (((PyData.strOk x.1.1) && (true && true)) && (true && true)) = true
    rw [(h x hx).ok]
    rfl
  have h2 : PyData.depthAll (ρ.map pairD) ≤ 2 := depth_all fun x _ => by
    show max (max 0 (max 0 0) + 1) (max 0 0) + 1 ≤ 2
    decide
  show (PyData.canLayAll0 (ρ.map pairD) && decide (PyData.depthAll (ρ.map pairD) + 1 ≤ 64)) = true
  rw [h1, decide_eq_true (by omega)]
  rfl
theorem dp_ints {K : PySem.W.Frag} {H : Hp} : ∀ ns : List Int, DpAll K H (ns.map V.int) (ns.map PyData.int)
  | [] => .nil
  | n :: ns => .cons (.int n) (dp_ints ns)
/-- the same by computation -/
def cellB (c : Cell) : Bool := decide (c.1.length ≤ 8) && c.1.cps.toList.all (fun n => decide (n < 16 ^ 8)) && PyData.strOk c.1 && decide (c.2.natAbs.log2 < 1920)
theorem cellOk_of {c : Cell} (h : cellB c = true) : CellOk c := by
  unfold cellB at h
  rw [Bool.and_eq_true, Bool.and_eq_true, Bool.and_eq_true] at h
  obtain ⟨⟨⟨h1, h2⟩, h3⟩, h4⟩ := h
  exact ⟨of_decide_eq_true h1, fun n hn => of_decide_eq_true (List.all_eq_true.mp h2 n hn), h3, of_decide_eq_true h4⟩
end AskG
/-! The end of a law's row, by a promise of its def that holds where nothing is being shown. -/
namespace AskG
open PySem PySem.Spec PyProof.Rows L2
/-- from an abstract heap that tracks at most the script -/
theorem lawG_core {P : Program} {w : World} {K : PySem.W.Frag} {mg mb : Str → Option Value} {k : Nat} {fa a : Addr} {fd : FuncData} {x : Str} {pr : Pr}
    {s₁ : Shared} {vs : List Value} {H : Hp}
    (inK : K.In s₁.heap) (ns1 : s₁.heap.Ns mainGlobals mg) (ns2 : s₁.heap.Ns builtinsNs mb)
    (bb : ∀ x : Str, x ≠ "__name__" → mb x = bootBuiltins x) (lim : s₁.heap.NoLimit) (gn : s₁.gens = #[])
    (ha : s₁.heap.get? a = some { cls := .type "list", data := .seq vs.toArray }) (hr : RG k callerA)
    (F : ∀ base : Heap, K.In base → base.Ns mainGlobals mg → FnG P w K mg base k fa fd [x] pr)
    (bind : ∀ (s : Shared) (u : Value), BindsTo s fd ⟨[u], []⟩ [(x, u)])
    (only : Only H) (hok : HOk P w H s₁.heap) (at_a : ∀ b, H b ≠ none → b = a) (noK : H a ≠ none → K.lookup a = none)
    (hp : pr [.ref a] H fun v _ => v = .bl true) :
    codeAny (model P w) callerA (.call (.ref fa) ⟨[.ref a], []⟩)
      (fun r s' => r = .ok (.ret (.bool true)) ∧ OldK s₁.heap s'.heap ∧ s'.os = s₁.os ∧ AllBare s'.gens) s₁ := by
  have hid : ∀ {b : Addr} {o : Obj}, s₁.heap.get? b = some o → H b = none → (hidT s₁.heap H).get? b = some o :=
    fun e n => hidT_get e n
  have notA : ∀ {b : Addr} {o : Obj} {es : Array DictEntry} {ep : Nat}, s₁.heap.get? b = some o → o.data = .dict es ep → H b = none := by
    intro b o es ep e d
    cases q : H b with
    | none => rfl
    | some u =>
      have eb : b = a := at_a b (by rw [q]; simp)
      rw [eb, ha] at e
      cases e
      cases (show Data.seq vs.toArray _ = Data.dict es ep from d)
  have nsH : ∀ {b : Addr} {m : Str → Option Value}, s₁.heap.Ns b m → (hidT s₁.heap H).Ns b m := by
    rintro b m ⟨o, es, ep, e, d, r⟩
    exact ⟨o, es, ep, hid e (notA e d), d, r⟩
  have inH : K.In (hidT s₁.heap H) := by
    intro b o e
    refine hid (inK b o e) ?_
    cases q : H b with
    | none => rfl
    | some u =>
      have eb : b = a := at_a b (by rw [q]; simp)
      rw [eb, noK (by rw [← eb, q]; simp)] at e
      cases e
  have M : Mod K mg (hidT s₁.heap H) :=
    ⟨inH, nsH ns1, ⟨mb, nsH ns2, bb⟩, lim.elim fun mc h => ⟨mc, nsH h.1, h.2⟩⟩
  have e0 : Env0 P w K mg (hidT s₁.heap H) callerA [] s₁ H :=
    ⟨rfl, M, fun b o e => of_hidT e, Nat.le_of_eq (hidT_size _ _), trivial,
      fun b hb => absurd (show b ∈ ([] : List Addr) from hb) (by simp), hok, .of_eq gn⟩
  refine codeAny_mono ((F _ inH (nsH ns1)).goes callerA [] s₁ H ⟨[.ref a], []⟩ [.ref a] [.ref a] _ hr e0
    (bind s₁ (.ref a)) (.cons rfl .nil) hp) fun r s' h => ?_
  match r, h with
  | .error e, h => exact h.elim
  | .ok .next, h => exact h.elim
  | .ok .brk, h => exact h.elim
  | .ok .cont, h => exact h.elim
  | .ok (.ret u), h =>
    obtain ⟨v, H', os, bare, un, hok', r', q⟩ := h
    have q : v = .bl true := q
    subst q
    obtain rfl : u = Value.bool true := r'
    refine ⟨rfl, OldK.of_keep fun b o e => ?_, os, bare⟩
    cases hb : H b with
    | none =>
      exact un.keep b o e hb (fun z => absurd (show b ∈ ([] : List Addr) from z) (by simp)) (by simp)
    | some u =>
      rcases only b with z | ⟨ob, xs, z⟩
      · rw [hb] at z
        cases z
      · obtain ⟨e1, _⟩ := hok b _ z
        obtain ⟨e2, _⟩ := hok' b _ (un.frzs b ob _ z)
        rw [e] at e1
        cases e1
        exact e2
theorem lawG {P : Program} {w : World} {K : PySem.W.Frag} {mg mb : Str → Option Value} {k : Nat} {fa a : Addr} {fd : FuncData} {x : Str} {pr : Pr}
    {s₁ : Shared} {vs : List Value} {ns : List Int}
    (inK : K.In s₁.heap) (ns1 : s₁.heap.Ns mainGlobals mg) (ns2 : s₁.heap.Ns builtinsNs mb)
    (bb : ∀ x : Str, x ≠ "__name__" → mb x = bootBuiltins x) (lim : s₁.heap.NoLimit) (gn : s₁.gens = #[])
    (ha : s₁.heap.get? a = some { cls := .type "list", data := .seq vs.toArray }) (hi : IntsAre vs ns) (hl : ns.length ≤ sizeLine) (hr : RG k callerA)
    (F : ∀ base : Heap, K.In base → base.Ns mainGlobals mg → FnG P w K mg base k fa fd [x] pr)
    (bind : ∀ (s : Shared) (u : Value), BindsTo s fd ⟨[u], []⟩ [(x, u)])
    (hp : ∀ H : Hp, Only H → SqL K H a (ns.map V.int) → pr [.ref a] H fun v _ => v = .bl true) :
    codeAny (model P w) callerA (.call (.ref fa) ⟨[.ref a], []⟩)
      (fun r s' => r = .ok (.ret (.bool true)) ∧ OldK s₁.heap s'.heap ∧ s'.os = s₁.os ∧ AllBare s'.gens) s₁ := by
  have rv := vals_ints hi
  cases hk : K.lookup a with
  | some o =>
    have e := inK a o hk
    rw [ha] at e
    cases e
    refine lawG_core (H := fun _ => none) inK ns1 ns2 bb lim gn ha hr F bind (fun _ => .inl rfl)
      (fun b u z => nomatch (show (none : Option HO) = some u from z)) (fun b z => absurd rfl z) (fun z => absurd rfl z) ?_
    refine hp _ (fun _ => .inl rfl) (.inr ⟨_, vs.toArray, _, hk, rfl, rfl, rfl, ?_, by simpa using rv⟩)
    rw [List.size_toArray, hi.length]
    exact hl
  | none =>
    have at1 : (fun b => if b = a then some (HO.frz { cls := .type "list", data := .seq vs.toArray } (.lst (ns.map V.int))) else none : Hp) a =
        some (.frz { cls := .type "list", data := .seq vs.toArray } (.lst (ns.map V.int))) := if_pos rfl
    have else1 : ∀ b, b ≠ a → (fun b => if b = a then some (HO.frz { cls := .type "list", data := .seq vs.toArray } (.lst (ns.map V.int))) else none : Hp) b = none :=
      fun b h => if_neg h
    generalize (fun b => if b = a then some (HO.frz { cls := .type "list", data := .seq vs.toArray } (.lst (ns.map V.int))) else none : Hp) = H at at1 else1
    have only : Only H := fun b => by
      by_cases h : b = a
      · rw [h]
        exact .inr ⟨_, _, at1⟩
      · exact .inl (else1 b h)
    refine lawG_core (H := H) inK ns1 ns2 bb lim gn ha hr F bind only (fun b u z => ?_) (fun b z => ?_) (fun _ => hk) (hp H only (.inl (.inr ⟨_, at1⟩)))
    · by_cases h : b = a
      · subst h
        rw [at1] at z
        cases z
        exact ⟨ha, by rw [List.length_map]; exact hl, vs, _, rv, ha⟩
      · rw [else1 b h] at z
        cases z
    · by_cases h : b = a
      · exact h
      · exact absurd (else1 b h) z
/-- the goal behind the head -/
theorem walkG {l : PySem.W.OpenLaw} {n k : Nat} {q : Program} {loose : List Str} {XP : (Str → Option Value) → Heap → Prop} {YP : World → Heap → Prop} {d : DefRec}
    {K : Params → PySem.W.Frag} {pr : PySem.W.Frag → Pr} {x : Str}
    (hn : l.most = some n) (hn2 : n ≤ sizeLine) (hdf : d.params.defaults = []) (hr : RG k callerA)
    (hY : ∀ (w : World) (h : Heap), YP w h → (K w.params).In h)
    (F : ∀ (w : World) (mg : Str → Option Value) (fa : Addr) (h : Heap), (K w.params).In h → h.Ns mainGlobals mg → mg d.name = some (.ref fa) →
      ∃ fd : FuncData, (∀ (s : Shared) (u : Value), BindsTo s fd ⟨[u], []⟩ [(x, u)]) ∧
        ∀ base : Heap, (K w.params).In base → base.Ns mainGlobals mg → FnG l.prog w (K w.params) mg base k fa fd [x] (pr (K w.params)))
    (hp : ∀ (K : PySem.W.Frag) (H : Hp) (a : Addr) (ns : List Int), ns.length ≤ n → SqL K H a (ns.map V.int) → pr K [.ref a] H fun v _ => v = .bl true) :
    PySem.W.WalkO q loose XP YP l.row.toRowW d [] (fun f vs => PySem.call f vs) := by
  refine Att.attach_call hn hdf ?_
  intro w s₀ s₁ mg mb fa o pm cd doc a vs ns G Y ho hd hcd hmg hobj hints hlen hg
  have inK := hY w _ Y
  obtain ⟨fd, hb, hF⟩ := F w mg fa _ inK G.T.g hmg
  exact lawG inK G.T.g G.T.b G.T.builtins G.T.nolimit hg hobj hints (Nat.le_trans hlen hn2) hr hF hb fun H _ hS => hp _ H a ns hlen hS
end AskG
/-! Rows are their weights: sums, multiples and parts by weights; effects as sums over cells. -/
namespace AskG
open PySem PySem.Spec PyProof.Rows L2
theorem rising_ext : ∀ {a b : List Cell}, Rising a → Rising b → (∀ c, c ∈ a ↔ c ∈ b) → a = b
  | [], b, _, _, h => by
    cases b with
    | nil => rfl
    | cons y b => exact absurd ((h y).mpr List.mem_cons_self) (by simp)
  | x :: a, [], _, _, h => absurd ((h x).mp List.mem_cons_self) (by simp)
  | x :: a, y :: b, ha, hb, h => by
    have hx := List.pairwise_cons.mp ha
    have hy := List.pairwise_cons.mp hb
    have no : ∀ {u v : Cell}, ltC u v = true → ltC v u = true → False := by
      intro u v h1 h2
      have := ltC_trans h1 h2
      rw [ltC_irr] at this
      cases this
    have e : x = y := by
      rcases List.mem_cons.mp ((h x).mp List.mem_cons_self) with e | h1
      · exact e
      · rcases List.mem_cons.mp ((h y).mpr List.mem_cons_self) with e | h2
        · exact e.symm
        · exact (no (hx.1 _ h2) (hy.1 _ h1)).elim
    subst e
    rw [rising_ext hx.2 hy.2 fun c => ⟨fun hc => ?_, fun hc => ?_⟩]
    · rcases List.mem_cons.mp ((h c).mp (List.mem_cons_of_mem _ hc)) with e | g
      · exact (no (hx.1 c hc) (by rw [e]; exact e ▸ hx.1 c hc)).elim
      · exact g
    · rcases List.mem_cons.mp ((h c).mpr (List.mem_cons_of_mem _ hc)) with e | g
      · exact (no (hy.1 c hc) (by rw [e]; exact e ▸ hy.1 c hc)).elim
      · exact g
theorem row_is {r : RowD} (h : OkRow r) : r = (keys r).map fun c => (c, get0 r c) := by
  unfold keys
  rw [List.map_map]
  have : ∀ x ∈ r, ((fun c => (c, get0 r c)) ∘ fun x : Cell × Int => x.1) x = id x := by
    intro x hx
    show (x.1, get0 r x.1) = x
    rw [get0_mem (rising_nodup h.up) hx]
  rw [List.map_congr_left this]
  exact (List.map_id _).symm
theorem key_iff {r : RowD} (h : OkRow r) (c : Cell) : c ∈ keys r ↔ get0 r c ≠ 0 := by
  constructor
  · intro hc
    obtain ⟨w, h1, h2⟩ := getO_some hc
    have : get0 r c = w := by
      unfold get0
      rw [h1]
      rfl
    rw [this]
    exact h.nz _ h2
  · intro hc
    by_cases hk : c ∈ keys r
    · exact hk
    · exact absurd (get0_none hk) hc
theorem ok_ext {a b : RowD} (ha : OkRow a) (hb : OkRow b) (h : ∀ c, get0 a c = get0 b c) : a = b := by
  have e : keys a = keys b := rising_ext ha.up hb.up fun c => by rw [key_iff ha, key_iff hb, h c]
  rw [row_is ha, row_is hb, e]
  exact List.map_congr_left fun c _ => by rw [h c]
theorem okr_add {a b : RowD} {t : Int} : OkRow (addR a b t) := ok_tidy (addF_nodup (ofRow_nodup a) b t)
theorem okr_scale {r : RowD} (h : OkRow r) (t : Int) : OkRow (scaleR r t) := by
  unfold scaleR
  by_cases e : t = 0
  · rw [if_pos e]
    exact ok_nil
  · rw [if_neg e]
    refine ⟨?_, fun x hx => ?_⟩
    · have : keys (r.map fun x => (x.1, x.2 * t)) = keys r := by
        unfold keys
        rw [List.map_map]
        rfl
      rw [this]
      exact h.up
    · obtain ⟨y, hy, rfl⟩ := List.mem_map.mp hx
      exact Int.mul_ne_zero (h.nz y hy) e
theorem get0_scale (r : RowD) (t : Int) (c : Cell) : get0 (scaleR r t) c = get0 r c * t := by
  unfold scaleR
  by_cases e : t = 0
  · rw [if_pos e, e, Int.mul_zero]
    rfl
  · rw [if_neg e]
    induction r with
    | nil => rw [List.map_nil, get0_nil, Int.zero_mul]
    | cons x r ih =>
      rw [List.map_cons, get0_cons, get0_cons]
      by_cases g : x.1 = c
      · rw [if_pos g, if_pos g]
      · rw [if_neg g, if_neg g]
        exact ih
theorem ok_filter {r : RowD} (h : OkRow r) (p : Cell × Int → Bool) : OkRow (r.filter p) := by
  refine ⟨?_, fun x hx => h.nz x (List.mem_filter.mp hx).1⟩
  have : (keys (r.filter p)).Sublist (keys r) := (List.filter_sublist).map _
  exact h.up.sublist this
theorem get0_filter {r : RowD} (p : Cell → Bool) (c : Cell) : get0 (r.filter fun x => p x.1) c = if p c = true then get0 r c else 0 := by
  induction r with
  | nil =>
    rw [List.filter_nil, get0_nil]
    split <;> rfl
  | cons x r ih =>
    rw [List.filter_cons]
    by_cases hx : p x.1 = true
    · rw [if_pos hx, get0_cons, get0_cons, ih]
      by_cases e : x.1 = c
      · rw [if_pos e, if_pos e, if_pos (e ▸ hx)]
      · rw [if_neg e, if_neg e]
    · rw [if_neg hx, ih, get0_cons]
      by_cases e : x.1 = c
      · rw [if_pos e, if_neg (e ▸ hx), if_neg (e ▸ hx)]
      · rw [if_neg e]
theorem DrawnR.scale {cs : List Cell} {B : Int} {r : RowD} (h : DrawnR cs B r) {t T : Int} (h1 : -T ≤ t) (h2 : t ≤ T) (hB : 0 ≤ B) : DrawnR cs (B * T) (scaleR r t) := by
  refine ⟨okr_scale h.ok t, fun c hc => ?_, fun c => ?_⟩
  · have := (key_iff (okr_scale h.ok t) c).mp hc
    rw [get0_scale] at this
    refine h.on c ((key_iff h.ok c).mpr fun z => this ?_)
    rw [z, Int.zero_mul]
  · rw [get0_scale]
    have := h.lit c
    have a1 : (get0 r c).natAbs ≤ B.natAbs := by omega
    have a2 : t.natAbs ≤ T.natAbs := by omega
    have a3 : (get0 r c * t).natAbs ≤ B.natAbs * T.natAbs := by
      rw [Int.natAbs_mul]
      exact Nat.mul_le_mul a1 a2
    have a4 : ((B.natAbs * T.natAbs : Nat) : Int) = B * T := by
      rw [Int.natCast_mul, Int.natAbs_of_nonneg hB, Int.natAbs_of_nonneg (by omega)]
    omega
theorem DrawnR.part {cs : List Cell} {B : Int} {r : RowD} (h : DrawnR cs B r) (p : Cell → Bool) : DrawnR cs B (r.filter fun x => p x.1) := by
  have ok := ok_filter h.ok fun x => p x.1
  refine ⟨ok, fun c hc => ?_, fun c => ?_⟩
  · have := (key_iff ok c).mp hc
    rw [get0_filter] at this
    refine h.on c ((key_iff h.ok c).mpr fun z => this ?_)
    rw [z]
    split <;> rfl
  · rw [get0_filter]
    have := h.lit c
    split <;> omega
/-! ### effects -/
def dotC (cs : List Cell) (f g : Cell → Int) : Int := (cs.map fun c => f c * g c).sum
theorem dot_add (cs : List Cell) (f1 f2 g : Cell → Int) : dotC cs (fun c => f1 c + f2 c) g = dotC cs f1 g + dotC cs f2 g := by
  unfold dotC
  induction cs with
  | nil => rfl
  | cons c cs ih =>
    rw [List.map_cons, List.map_cons, List.map_cons, List.sum_cons, List.sum_cons, List.sum_cons, ih, Int.add_mul]
    omega
theorem dot_mul (cs : List Cell) (t : Int) (f g : Cell → Int) : dotC cs (fun c => f c * t) g = t * dotC cs f g := by
  unfold dotC
  induction cs with
  | nil => simp
  | cons c cs ih =>
    rw [List.map_cons, List.map_cons, List.sum_cons, List.sum_cons, ih, Int.mul_add]
    show f c * t * g c + _ = _
    rw [Int.mul_comm (f c) t, Int.mul_assoc]
theorem dot_comm (cs : List Cell) (f g : Cell → Int) : dotC cs f g = dotC cs g f := by
  unfold dotC
  congr 1
  exact List.map_congr_left fun c _ => Int.mul_comm _ _
theorem dot_congr {cs : List Cell} {f f' g : Cell → Int} (h : ∀ c, f c = f' c) : dotC cs f g = dotC cs f' g := by
  unfold dotC
  congr 1
  exact List.map_congr_left fun c _ => by rw [h c]
theorem dot_one (c : Cell) (v : Int) (g : Cell → Int) : ∀ {cs : List Cell}, cs.Nodup → c ∈ cs → dotC cs (fun d => if c = d then v else 0) g = v * g c
  | [], _, h => by cases h
  | d :: cs, n, h => by
    have n' := List.nodup_cons.mp n
    show (if c = d then v else 0) * g d + dotC cs (fun d => if c = d then v else 0) g = v * g c
    by_cases e : c = d
    · have z : dotC cs (fun d => if c = d then v else 0) g = 0 := by
        have : ∀ cs : List Cell, c ∉ cs → dotC cs (fun d => if c = d then v else 0) g = 0 := by
          intro cs
          induction cs with
          | nil => exact fun _ => rfl
          | cons y cs ih =>
            intro hn
            show (if c = y then v else 0) * g y + dotC cs (fun d => if c = d then v else 0) g = 0
            rw [if_neg (fun e => hn (by rw [e]; exact List.mem_cons_self)), ih fun z => hn (List.mem_cons_of_mem _ z)]
            omega
        exact this cs (e ▸ n'.1)
      rw [if_pos e, z, e]
      omega
    · rw [if_neg e]
      rcases List.mem_cons.mp h with h | h
      · exact absurd h e
      · rw [dot_one c v g n'.2 h]
        omega
theorem dot_row (g : Cell → Int) {cs : List Cell} (n : cs.Nodup) : ∀ {a : RowD}, (keys a).Nodup → (∀ c ∈ keys a, c ∈ cs) → (a.map fun x => x.2 * g x.1).sum = dotC cs (get0 a) g
  | [], _, _ => by
    have z : ∀ cs : List Cell, dotC cs (get0 []) g = 0 := by
      intro cs
      induction cs with
      | nil => rfl
      | cons c cs ih =>
        show get0 [] c * g c + dotC cs (get0 []) g = 0
        rw [ih, get0_nil]
        omega
    rw [z]
    rfl
  | x :: a, na, on => by
    have n' := List.nodup_cons.mp na
    rw [List.map_cons, List.sum_cons, dot_row g n n'.2 fun c hc => on c (List.mem_cons_of_mem _ hc)]
    have e : dotC cs (get0 (x :: a)) g = dotC cs (fun d => (if x.1 = d then x.2 else 0) + get0 a d) g := dot_congr fun d => by
      rw [get0_cons]
      by_cases e : x.1 = d
      · rw [if_pos e, if_pos e, get0_none (e ▸ n'.1)]
        omega
      · rw [if_neg e, if_neg e]
        omega
    rw [e, dot_add, dot_one x.1 x.2 g n (on _ List.mem_cons_self)]
theorem eff_dot {cs : List Cell} (n : cs.Nodup) {B C : Int} {a b : RowD} (ha : DrawnR cs B a) (hb : OkRow b) : effR a b = dotC cs (get0 a) (get0 b) := by
  unfold effR
  rw [dot_row (fun c => get0 (ofRow b) c) n (rising_nodup ha.ok.up) ha.on]
  rw [dot_comm, dot_comm cs (get0 a)]
  exact dot_congr fun c => get0_ofRow hb c
end AskG
/-! cell < cell -/
namespace AskG
open PySem PySem.Spec PyProof.Rows L2
def rLtC : R2 := fun x y H Q => ∃ (a b : Addr) (c d : Cell), x = .ref a ∧ y = .ref b ∧ CellAt H a c ∧ CellAt H b d ∧ Q (.bl (ltC c d)) H
theorem op_ltC {X : Cx} (hu : X.A.units < cLine) : OpR X (compareOp .Lt) rLtC := by
  intro pins s σ H x y v u Q I rx ry h
  obtain ⟨a, b, c, d, rfl, rfl, ha, hb, q⟩ := h
  cases rx
  cases ry
  obtain ⟨a', t, t', e, ht⟩ := isCl_of I.hok ha
  cases e
  obtain ⟨b', u, u', e, hu2⟩ := isCl_of I.hok hb
  cases e
  have R := Ob.RcOp.tuples_lt (A := X.A) (s := s) (e := fun j => if j = 0 then c.1 == d.1 else c.2 == d.2)
    (r := fun j => if j = 0 then decide (c.1.cps.toList < d.1.cps.toList) else decide (c.2 < d.2)) ht hu2 hu
    (fun j h1 h2 => by
      have h1 : j < 2 := h1
      match j, h1 with
      | 0, _ => exact SeqAt.EqAt.str_str c.1 t d.1 u
      | 1, _ => exact SeqAt.EqAt.int_int c.2 t' d.2 u')
    (fun j h1 h2 _ => by
      have h1 : j < 2 := h1
      match j, h1 with
      | 0, _ => exact fun _ _ _ _ h => PyProof.Rows.lt_str h
      | 1, _ => exact fun _ _ _ _ h => PyProof.Rows.lt_int h)
  have e : Ob.lexAt (fun j => if j = 0 then c.1 == d.1 else c.2 == d.2) (fun j => if j = 0 then decide (c.1.cps.toList < d.1.cps.toList) else decide (c.2 < d.2)) (decide (2 < 2)) 0 (min 2 2) = ltC c d := by
    show (if (c.1 == d.1) = true then (if (c.2 == d.2) = true then decide (2 < 2) else decide (c.2 < d.2)) else decide (c.1.cps.toList < d.1.cps.toList)) = ltC c d
    unfold ltC
    by_cases e1 : c.1 = d.1
    · rw [if_pos (beq_iff_eq.mpr e1), if_pos e1]
      by_cases e2 : c.2 = d.2
      · rw [if_pos (beq_iff_eq.mpr e2), e2, decide_eq_false (Int.lt_irrefl _)]
        rfl
      · rw [if_neg fun z => e2 (beq_iff_eq.mp z)]
    · rw [if_neg fun z => e1 (beq_iff_eq.mp z), if_neg e1]
  have R2 : Ob.RcOp .Lt X.A s (.ref a) (.ref b) (ltC c d) := by
    rw [← e]
    exact R
  have z : wpAny (model X.prog X.w) X.A (compareOp .Lt (.ref a) (.ref b)) (EP X pins σ Q) X.xe s :=
    R2 X.prog X.w X.xe (EP X pins σ Q) ⟨.bl _, H, I, rfl, q⟩
  exact z
end AskG
/-! d.update(pairs), the keys tuples. -/
namespace AskG
open PySem PySem.Spec PyProof.Rows L2
def rUpdT (K : PySem.W.Frag) : V → List V → Hp → VK → Prop := fun x xs H Q => ∃ (d a : Addr) (ps : List Addr) (kvs more : List (List Key × V)), x = .ref d ∧ xs = [.ref a] ∧ H d = some (.dT kvs) ∧
  H a = some (.lst (ps.map V.ref)) ∧ Paired (PairAt' K H) ps more ∧ (∀ p ∈ ps, p ≠ d) ∧ kvs.length + more.length ≤ sizeLine ∧ Q .non (upd H d (.dT (putAll kvs more)))
theorem mt_updT {X : Cx} {k : Nat} (hc : X.calm = true) (hr : Room k X.A) : MtR X "dict.update" (rUpdT X.K) := by
  intro pins s σ H x xs v us Q I rx rxs q
  obtain ⟨d, a, ps, kvs, more, rfl, rfl, hd, hq, hp, hne, hln, q⟩ := q
  cases rx
  obtain ⟨u, eu, ru⟩ := vals1 rxs
  subst eu
  cases ru
  obtain ⟨its, rv, pl, hz⟩ := I.list (Or.inl (Or.inl hq))
  have ei := refs_at rv
  subst ei
  rw [List.length_map] at hz
  obtain ⟨ms, rel, hl, hpr⟩ := pairsT_of I hp
  obtain ⟨o, n, ho, hcl, hdd, hdat⟩ := pl
  obtain ⟨z, hsys, xs, relx, dd⟩ := dt_of I.hok hd
  have hu := hr.units
  have all : ∀ {l : List (List Key × V)} {m : List (List Key × Addr × Value)}, KT H l m → ∀ x ∈ m, H x.2.1 = some (.tup (x.1.map kV)) := by
    intro l m r
    induction r with
    | nil => exact fun x hx => absurd hx (by simp)
    | cons h t ih =>
      intro x hx
      rcases List.mem_cons.mp hx with e | hx
      · subst e
        rw [← h.1]
        exact h.2.1
      · exact ih x hx
  have pit : PairItems s.heap (ps.map Value.ref).toArray (fun j => ps.getD j 0) (ms.map fun q => (Value.ref q.2.1, q.2.2)) := by
    refine ⟨by simp [hl], fun j k' v e => ?_⟩
    rw [List.getElem?_map] at e
    cases em : ms[j]? with
    | none =>
      rw [em] at e
      cases e
    | some q' =>
      rw [em] at e
      obtain ⟨b, e1, e2⟩ := hpr j q' em
      have e3 : (Value.ref q'.2.1, q'.2.2) = (k', v) := Option.some.inj e
      injection e3 with e4 e5
      have eg : ps.getD j 0 = b := by
        rw [List.getD_eq_getElem?_getD, e1]
        rfl
      refine ⟨?_, ?_⟩
      · show _ = some (Value.ref (ps.getD j 0))
        rw [eg]
        simp [e1]
      · show PairAt s.heap (ps.getD j 0) k' v
        rw [eg, ← e4, ← e5]
        exact .inl e2
  have ml : more.length = ms.length := Paired.length rel
  have kl : kvs.length = xs.length := Paired.length relx
  have P := PairArg.list (prog := X.prog) (w := X.w) a (ps.map Value.ref).toArray (fun j => ps.getD j 0) (ms.map fun q => (Value.ref q.2.1, q.2.2))
  refine call_update_pairsH (knd := tupleKind (mixKind X.prog X.w)) (acc := xs) (ps := ms) P (I.ok.hd hc) (tupleKind_room_in1 (A := X.A) (by omega)) ⟨⟨o, n, ho, hcl, hdd, hdat⟩, pit⟩ ?_ ⟨by rw [List.length_map], fun i key v e => ?_⟩ (fun h' hk' x hx => ?_) dd (by rw [List.length_map]; omega) fun h' tk hd' kp => ?_
  · intro hm
    rcases List.mem_cons.mp hm with e | hm
    · rw [e, hq] at hd
      cases hd
    · obtain ⟨j, hj, e⟩ := List.mem_map.mp hm
      have hj : j < (ms.map fun q => (Value.ref q.2.1, q.2.2)).length := List.mem_range.mp hj
      rw [List.length_map, hl] at hj
      have e : ps.getD j 0 = d := e
      rw [List.getD_eq_getElem?_getD, List.getElem?_eq_getElem hj] at e
      exact hne _ (List.getElem_mem hj) e
  · have e : (ms.map fun q => (Value.ref q.2.1, q.2.2))[i]? = some (key, v) := e
    rw [List.getElem?_map] at e
    cases em : ms[i]? with
    | none =>
      rw [em] at e
      cases e
    | some q' =>
      rw [em] at e
      have e3 : (Value.ref q'.2.1, q'.2.2) = (key, v) := Option.some.inj e
      injection e3 with e4 e5
      exact ⟨q'.1, q'.2.1, by rw [← e5], e4.symm⟩
  · have hk : H x.2.1 = some (.tup (x.1.map kV)) := by
      rcases List.mem_append.mp hx with hx | hx
      · exact all relx x hx
      · exact all rel x hx
    have ns : x.2.1 ≠ d := ne_of hk hd fun z => nomatch z
    obtain ⟨ox, its, m, g1, g2, g3, g4⟩ := key_of I.hok hk
    exact ⟨ox, its, m, hk' _ _ ns (by simp) g1, g2, g3, g4⟩
  · obtain ⟨q1, es, ep, h1, h2, h3, h4, _, h5⟩ := hd'
    have hlen : (putAll kvs more).length ≤ sizeLine := Nat.le_trans (length_putAll more kvs) hln
    refine ⟨.non, upd H d (.dT (putAll kvs more)), I.write (t' := tk) (x := d) (e := d) (by rw [hd]; exact True.intro) (.inl rfl) (fun b q hb z => kp b q hb (by simp) z) ⟨q1, h1⟩
      (show ObjOk X.prog X.w _ _ _ (.dT (putAll kvs more)) from ⟨hlen, hsys, storedAllH xs ms, (ktAll rel relx).keeps fun c ys ec => ?_, q1, es, ep, h1, h2, h3, h4, h5⟩), rfl, q⟩
    rw [upd_ne (ne_of ec hd fun z => nomatch z)]
    exact ec
end AskG
namespace P09
open PySem PySem.Spec PyProof.Rows L2 AskG
def topS (i : Nat) : Stmt := PySem.Challenge.pw_askrights_k09_whole_sums_are_linear.main.body.getD i (.Pass ⟨0, 0, 0, 0⟩)
abbrev sAdd : Stmt := topS 1
theorem scAdd : FnScope ["one", "other", "weights", "cell", "weight"] ["one", "other"] (defScope sAdd) := ⟨rfl, rfl, rfl, by decide +kernel, rfl, by decide +kernel, by decide +kernel⟩
abbrev sScale : Stmt := topS 2
theorem scScale : FnScope ["row", "factor", "cell", "weight"] ["row", "factor"] (defScope sScale) := ⟨rfl, rfl, rfl, by decide +kernel, rfl, by decide +kernel, by decide +kernel⟩
abbrev sInside : Stmt := topS 3
theorem scInside : FnScope ["cell", "last_day", "accounts", "account", "day"] ["cell", "last_day", "accounts"] (defScope sInside) := ⟨rfl, rfl, rfl, by decide +kernel, rfl, by decide +kernel, by decide +kernel⟩
abbrev sPart : Stmt := topS 4
theorem scPart : FnScope ["row", "last_day", "accounts", "cell", "weight"] ["row", "last_day", "accounts"] (defScope sPart) := ⟨rfl, rfl, rfl, by decide +kernel, rfl, by decide +kernel, by decide +kernel⟩
abbrev sEff : Stmt := topS 5
theorem scEff : FnScope ["change", "row", "weights", "cell", "weight"] ["change", "row"] (defScope sEff) := ⟨rfl, rfl, rfl, by decide +kernel, rfl, by decide +kernel, by decide +kernel⟩
abbrev sVal : Stmt := topS 6
theorem scVal : FnScope ["row", "data"] ["row", "data"] (defScope sVal) := ⟨rfl, rfl, rfl, by decide +kernel, rfl, by decide +kernel, by decide +kernel⟩
section
variable {P : Program} {w : World} {K : PySem.W.Frag} {mg : Str → Option Value} {base : Heap}
def prAdd : Pr := fun vs H Q => ∃ (a b : Addr) (ρ π : RowD), vs = [.ref a, .ref b] ∧ RowAt H a ρ ∧ RowAt H b π ∧ ρ.length ≤ 100 ∧ π.length ≤ 100 ∧
  ∀ H' p, Same H H' → RowAt H' p (addR ρ π 1) → Q (.ref p) H'
theorem ok_add {f : Addr} {fd : FuncData} {k : Nat} (F : Fun K "add_rows" "add_rows" sAdd f fd) (ms : mg "sorted" = none) (mt : mg "tuple" = none) : FnG P w K mg base (k + 1) f fd ["one", "other"] prAdd := by
  refine okG F scAdd (fun vs H Q h => ?_) (fun cdv A outer s H vs Q hr h => ?_)
  · obtain ⟨a, b, _, _, rfl, _⟩ := h
    rfl
  · obtain ⟨a, b, ρ, π, rfl, hA, hB, lA, lB, q⟩ := h
    have hu := hu_of hr.room
    refine ⟨_, pss_cons (ps_set (i := 2) scAdd.nd rfl (.inr rfl) (pe_dcT (own := [("cell", 3), ("weight", 4)]) (g := gTup K 2 (gCons (gName 3) (gCons (gName 4) gNil))) hu rfl scAdd.nd (pi_tup (pv 0)) (blkOk_by (N := ["one", "other", "weights", "cell", "weight"]) (sc := defScope sAdd) (by decide +kernel))
        (fun _ _ _ _ _ => pg_tup rfl (pgs_cons (pg_name (i := 3) scAdd.nd rfl (.inl rfl)) (pgs_cons (pg_name (i := 4) scAdd.nd rfl (.inl rfl)) pgs_nil)))
        (fun _ _ _ _ _ => pv 3) (fun _ _ _ _ _ => pv 4)))
      (pss_cons (ps_for PassesOwn.never rfl (pi_tup (pv 1)) (pg_tup rfl (pgs_cons (pg_name (i := 3) scAdd.nd rfl (.inl rfl)) (pgs_cons (pg_name (i := 4) scAdd.nd rfl (.inl rfl)) pgs_nil)))
        (pss_one (ps_dput hu (pv 2) (pv 3) (pe_op op_add (pe_dget2 hu (pv 2) (pv 3) pe_int ⟨rfl, rfl, rfl, rfl⟩) (pv 4)) rfl)))
      (pss_one (ps_ret (pe_callTy call_tuple_of (by rfl) mt (by decide +kernel) (pa_cons (pe_lc (own := [("cell", 3)]) (g := gName 3) rfl scAdd.nd
          (pi_list (pe_callB (cr_sortT rfl) (by rfl) ms (by decide +kernel) (pa_cons (pv 2) pa_nil)))
          (blkOk_by (N := ["one", "other", "weights", "cell", "weight"]) (sc := defScope sAdd) (by decide +kernel)) (fun _ _ _ _ _ => pg_name (i := 3) scAdd.nd rfl (.inl rfl))
          (fun _ _ _ _ _ => pts_one (pt_cmpR op_ne (pe_dget hu (pv 2) (pv 3) (fun _ _ => rfl)) pe_int (nomark _)))
          (fun _ _ _ _ _ => pe_tup (pa_cons (pv 3) (pa_cons (pe_dget hu (pv 2) (pv 3) (fun _ _ => rfl)) pa_nil)))) pa_nil))))), ?_⟩
    refine iSeq (iAsg ?_)
    refine dc_row (K := K) (i := 0) (a := 3) (b := 4) (σ := [some (.ref a), some (.ref b), none, none, none]) (r := a) (ρ := ρ) rfl hA (by simp) (by simp) (by decide) (by omega) fun D hD => ?_
    have s1 : Same H (upd H D (.dT (dk (ofRow ρ)))) := same_new hD
    have lo := ofRow_length ρ
    refine iSeq ?_
    refine for_add (K := K) (σ := [some (.ref a), some (.ref b), some (.ref D), none, none]) (io := 1) (iw := 2) (a := 3) (b := 4) (r := b) (Dd := D) (π := π) (m := ofRow ρ) (t := 1) rfl rfl (by decide) (by decide) (by simp) (by simp) (by decide) (hB.keep (KeepT.of s1)) upd_same (by omega)
      (fun σ' H' c w m' bb Q hmem hj ha hb hD' hc hq => ?_) (fun σ' hj hl => ?_)
    · refine ⟨.ref D, hj 2 (by decide) (by decide), D, rfl, .inr ⟨_, .inl hD'⟩, .ref bb, ha, _, dget_of hD' hc, .int w, hb, get0 m' c, w, ?_, rfl, ?_⟩
      · show ((getO m' c).map V.int).getD (.int 0) = .int (get0 m' c)
        unfold get0
        cases getO m' c <;> rfl
      · rw [Int.one_mul] at hq
        exact hq
    · rw [upd_upd]
      have n := addF_nodup (ofRow_nodup ρ) π 1
      have al := addF_length (ofRow ρ) π 1
      dsimp only
      refine iRet (iCB (iCons ?_))
      refine lc_tidy (K := K) (iw := 2) (ic := 3) (D := D) (m := addF (ofRow ρ) π 1) (hj 2 (by decide) (by decide)) (by decide) (by rw [hl]; simp) upd_same n (by omega) fun H' L ps sm hL hps hpp => ?_
      refine ⟨L, _, rfl, .inl ⟨sqL hps, fun p hp => ?_⟩⟩
      refine q _ p (fun c o e => ?_) (row_of_list (L := L) hp hpp)
      have e1 : upd H D (.dT (dk (addF (ofRow ρ) π 1))) c = some o := by
        rw [upd_ne (ne_of_none e hD)]
        exact e
      rw [upd_ne (ne_of_none (sm _ _ e1) hp)]
      exact sm _ _ e1

/-! ### scale_row -/
def prScale : Pr := fun vs H Q => ∃ (a : Addr) (ρ : RowD) (t : Int), vs = [.ref a, .int t] ∧ RowAt H a ρ ∧ ρ.length ≤ 100 ∧ -(2 ^ 64) < t ∧ t < 2 ^ 64 ∧
  ∀ H' p, Same H H' → RowAt H' p (scaleR ρ t) → Q (.ref p) H'
theorem ok_scale {f : Addr} {fd : FuncData} {k : Nat} (F : Fun K "scale_row" "scale_row" sScale f fd) (mt : mg "tuple" = none) : FnG P w K mg base (k + 1) f fd ["row", "factor"] prScale := by
  refine okG F scScale (fun vs H Q h => ?_) (fun cdv A outer s H vs Q hr h => ?_)
  · obtain ⟨a, _, _, rfl, _⟩ := h
    rfl
  · obtain ⟨a, ρ, t, rfl, hA, lA, t1, t2, q⟩ := h
    refine ⟨_, pss_cons (ps_if (pt_cmpR op_eq (pv 1) pe_int (nomark _)) (pss_one (ps_ret (pe_tup pa_nil))) pss_nil)
      (pss_one (ps_ret (pe_callTy call_tuple_of (by rfl) mt (by decide +kernel) (pa_cons (pe_lc (own := [("cell", 2), ("weight", 3)]) (g := g2 K 2 3) (tt := tYes) rfl scScale.nd
          (pi_tup (pv 0)) (blkOk_by (N := ["row", "factor", "cell", "weight"]) (sc := defScope sScale) (by decide +kernel))
          (fun _ _ _ _ _ => pg_tup rfl (pgs_cons (pg_name (i := 2) scScale.nd rfl (.inl rfl)) (pgs_cons (pg_name (i := 3) scScale.nd rfl (.inl rfl)) pgs_nil)))
          (fun _ _ _ _ _ => pts_nil)
          (fun _ _ _ _ _ => pe_tup (pa_cons (pv 2) (pa_cons (pe_op op_mul (pv 3) (pv 1)) pa_nil)))) pa_nil)))), ?_⟩
    refine iSeq ?_
    refine ⟨.int t, rfl, rfl, _, rfl, ite2 (fun e => ?_) (fun e => ?_)⟩
    · have e0 : t = 0 := V.int.inj (of_decide_eq_true e)
      refine iRet ⟨Nat.zero_le _, fun p hp => ?_⟩
      refine q _ p (same_new hp) ⟨[], upd_same, ?_⟩
      unfold scaleR
      rw [if_pos e0]
      exact .nil
    · have e0 : t ≠ 0 := fun z => e (by rw [z]; rfl)
      refine iNext ?_
      dsimp only
      refine iRet (iCB (iCons ?_))
      refine lc_rows (K := K) (i := 0) (a := 2) (b := 3) (σ := [some (.ref a), some (.int t), none, none]) (fun _ => true) (fun x => x.2 * t) rfl hA (by simp) (by simp) (by decide) (by omega)
        (fun σ' H' bb x Q _ _ _ _ hq => iYes (hq H' (Same.refl _))) (fun σ' H' bb x Q _ _ T _ hq => ?_) (fun H' L ps sm hL hps hpp => ?_)
      · exact ⟨.int x.2, T.snd, .int t, T.old 1 (by decide) (by decide), x.2, t, rfl, rfl, .inr ⟨t1, t2⟩, hq⟩
      · refine ⟨L, _, rfl, .inl ⟨sqL hps, fun p hp => ?_⟩⟩
        refine q _ p (sm.trans (same_new hp)) ?_
        have e1 : scaleR ρ t = (ρ.filter fun _ => true).map fun x => (x.1, x.2 * t) := by
          unfold scaleR
          rw [if_neg e0, List.filter_eq_self.mpr fun _ _ => rfl]
        rw [e1]
        exact row_of_list (L := L) hp hpp

/-! ### is_inside, part_of -/
def vLast : Option Int → V
  | none => .non
  | some t => .int t
/-- the accounts that are asked: None, or a tuple of texts -/
def AccAt (K : PySem.W.Frag) (H : Hp) (v : V) : Option (List Str) → Prop
  | none => v = .non
  | some l => ∃ a, v = .ref a ∧ H a = some (.tup (l.map V.str))
theorem AccAt.keep {H H' : Hp} {v : V} {o : Option (List Str)} (h : AccAt K H v o) (k : KeepT H H') : AccAt K H' v o := by
  cases o with
  | none => exact h
  | some l =>
    obtain ⟨a, e, h⟩ := h
    exact ⟨a, e, k _ _ h⟩
def inLast (c : Cell) : Option Int → Bool
  | none => true
  | some t => decide (c.2 ≤ t)
def inAcc (c : Cell) : Option (List Str) → Bool
  | none => true
  | some l => inV (.str c.1) (l.map V.str)
def prInside (K : PySem.W.Frag) : Pr := fun vs H Q => ∃ (b : Addr) (c : Cell) (last : Option Int) (v : V) (acc : Option (List Str)), vs = [.ref b, vLast last, v] ∧ CellAt H b c ∧ AccAt K H v acc ∧
  ∀ H', Same H H' → Q (.bl (inLast c last && inAcc c acc)) H'
theorem all_flat (l : List Str) : (l.map V.str).all flatV = true := by
  rw [List.all_eq_true]
  intro x hx
  obtain ⟨y, _, rfl⟩ := List.mem_map.mp hx
  rfl
theorem ok_inside {f : Addr} {fd : FuncData} {k : Nat} (F : Fun K "is_inside" "is_inside" sInside f fd) : FnG P w K mg base (k + 1) f fd ["cell", "last_day", "accounts"] (prInside K) := by
  refine okG F scInside (fun vs H Q h => ?_) (fun cdv A outer s H vs Q hr h => ?_)
  · obtain ⟨_, _, _, _, _, rfl, _⟩ := h
    rfl
  · obtain ⟨b, c, last, v, acc, rfl, hC, hA, q⟩ := h
    refine ⟨_, pss_cons (ps_asg (pv 0) (pg_tup (by rfl) (pgs_cons (pg_name (i := 3) scInside.nd rfl (.inl rfl)) (pgs_cons (pg_name (i := 4) scInside.nd rfl (.inl rfl)) pgs_nil))))
      (pss_one (ps_ret (pe_and (pe_or (pe_cmpR op_isN (pv 1) pe_non (nomark _)) (pe_one (pe_cmpR op_le (pv 4) (pv 1) (nomark _))))
        (pe_one (pe_or (pe_cmpR op_isN (pv 2) pe_non (nomark _)) (pe_one (pe_cmpR op_in_seq (pv 3) (pv 2) (by rfl)))))))), ?_⟩
    refine ⟨.ref b, rfl, b, [.str c.1, .int c.2], rfl, sqT hC, rfl, .str c.1, [.int c.2], rfl, .int c.2, [], rfl, rfl, ?_⟩
    have second : ∀ (Q : VK), (∀ H', Same H H' → Q (.bl (inAcc c acc)) H') → tOrV (tOp (fun x y H Q => y = V.non ∧ Q (V.bl (decide (x = V.non))) H) (tVar 2) (tC V.non)) (tOp (rIn K false) (tVar 3) (tVar 2))
        [some (.ref b), some (vLast last), some v, some (.str c.1), some (.int c.2)] H Q := by
      intro Q hq
      cases acc with
      | none =>
        have hv : v = .non := hA
        subst hv
        exact ⟨.non, rfl, rfl, true, rfl, iteT (hq H (Same.refl _))⟩
      | some l =>
        obtain ⟨a, rfl, ha⟩ := hA
        exact ⟨.ref a, rfl, rfl, false, rfl, iteF ⟨.str c.1, rfl, .ref a, rfl, a, l.map V.str, rfl, .inr (sqT ha), rfl, all_flat l, hq H (Same.refl _)⟩⟩
    cases last with
    | none =>
      refine ⟨.non, rfl, rfl, true, rfl, iteT ⟨true, rfl, iteT (second _ fun H' sm => ?_)⟩⟩
      exact q H' sm
    | some t =>
      refine ⟨.int t, rfl, rfl, false, rfl, iteF ⟨.int c.2, rfl, .int t, rfl, c.2, t, rfl, rfl, decide (c.2 ≤ t), rfl, ?_⟩⟩
      refine ite2 (fun e => second _ fun H' sm => ?_) (fun e => ?_)
      · have := q H' sm
        have e1 : inLast c (some t) = true := e
        rw [e1, Bool.true_and] at this
        exact this
      · have := q H (Same.refl _)
        have e1 : inLast c (some t) = false := by
          cases h : inLast c (some t) with
          | false => rfl
          | true => exact absurd h e
        rw [e1, Bool.false_and] at this
        exact this

def insideR (last : Option Int) (acc : Option (List Str)) (x : Cell × Int) : Bool := inLast x.1 last && inAcc x.1 acc
def prPart (K : PySem.W.Frag) : Pr := fun vs H Q => ∃ (a : Addr) (ρ : RowD) (last : Option Int) (v : V) (acc : Option (List Str)), vs = [.ref a, vLast last, v] ∧ RowAt H a ρ ∧ ρ.length ≤ 100 ∧ AccAt K H v acc ∧
  ∀ H' p, Same H H' → RowAt H' p (ρ.filter (insideR last acc)) → Q (.ref p) H'
theorem ok_part {f fI : Addr} {fd fdI : FuncData} {k : Nat} (F : FunD K "part_of" "part_of" (defArgs sPart) (defBody sPart) (defScope sPart) [] [("last_day", .non), ("accounts", .non)] f fd) (FI : Fun K "is_inside" "is_inside" sInside fI fdI)
    (bI : Binds K fdI ["cell", "last_day", "accounts"] []) (gI : mg "is_inside" = some (.ref fI)) (mt : mg "tuple" = none) : FnG P w K mg base (k + 2) f fd ["row", "last_day", "accounts"] (prPart K) := by
  have GI : FnG P w K mg base (k + 1) fI fdI ["cell", "last_day", "accounts"] (prInside K) := ok_inside FI
  refine okGD F scPart (fun vs H Q h => ?_) (fun cdv A outer s H vs Q hr h => ?_)
  · obtain ⟨_, _, _, _, _, rfl, _⟩ := h
    rfl
  · obtain ⟨a, ρ, last, v, acc, rfl, hA, lA, hAc, q⟩ := h
    refine ⟨_, pss_one (ps_ret (pe_callTy call_tuple_of (by rfl) mt (by decide +kernel) (pa_cons (pe_lc (own := [("cell", 3), ("weight", 4)]) (g := g2 K 3 4) rfl scPart.nd
          (pi_tup (pv 0)) (blkOk_by (N := ["row", "last_day", "accounts", "cell", "weight"]) (sc := defScope sPart) (by decide +kernel))
          (fun _ _ _ _ _ => pg_tup rfl (pgs_cons (pg_name (i := 3) scPart.nd rfl (.inl rfl)) (pgs_cons (pg_name (i := 4) scPart.nd rfl (.inl rfl)) pgs_nil)))
          (fun _ _ _ _ _ => pts_one (pt_val (pe_g GI hr (by rfl) gI FI.kp bI .nil (pa_cons (pv 3) (pa_cons (pv 1) (pa_cons (pv 2) pa_nil))))))
          (fun _ _ _ _ _ => pe_tup (pa_cons (pv 3) (pa_cons (pv 4) pa_nil)))) pa_nil))), ?_⟩
    refine iRet (iCB (iCons ?_))
    refine lc_rows (K := K) (i := 0) (a := 3) (b := 4) (σ := [some (.ref a), some (vLast last), some v, none, none]) (insideR last acc) (fun x => x.2) rfl hA (by simp) (by simp) (by decide) (by omega)
        (fun σ' H' bb x Q _ sm T hc hq => ?_) (fun σ' H' bb x Q _ _ T _ hq => ⟨_, T.snd, hq⟩) (fun H' L ps sm hL hps hpp => ?_)
    · refine ⟨.ref bb, T.fst, vLast last, T.old 1 (by decide) (by decide), v, T.old 2 (by decide) (by decide), bb, x.1, last, v, acc, rfl, hc, hAc.keep (KeepT.of sm), fun H'' sm' => ⟨_, rfl, hq H'' sm'⟩⟩
    · refine ⟨L, _, rfl, .inl ⟨sqL hps, fun p hp => ?_⟩⟩
      refine q _ p (sm.trans (same_new hp)) ?_
      have e1 : (ρ.filter (insideR last acc)).map (fun x => (x.1, x.2)) = ρ.filter (insideR last acc) := List.map_id _
      rw [e1] at hpp
      exact row_of_list (L := L) hp hpp

/-! ### effect_of, row_value -/
def prEff : Pr := fun vs H Q => ∃ (a b : Addr) (ρ π : RowD), vs = [.ref a, .ref b] ∧ RowAt H a ρ ∧ RowAt H b π ∧ ρ.length ≤ 100 ∧ π.length ≤ 100 ∧ (∀ x ∈ ρ, -(2 ^ 64) < x.2 ∧ x.2 < 2 ^ 64) ∧
  ∀ H', Same H H' → Q (.int (effR ρ π)) H'
theorem ok_eff {f : Addr} {fd : FuncData} {k : Nat} (F : Fun K "effect_of" "effect_of" sEff f fd) (ms : mg "sum" = none) : FnG P w K mg base (k + 1) f fd ["change", "row"] prEff := by
  refine okG F scEff (fun vs H Q h => ?_) (fun cdv A outer s H vs Q hr h => ?_)
  · obtain ⟨_, _, _, _, rfl, _⟩ := h
    rfl
  · obtain ⟨a, b, ρ, π, rfl, hA, hB, lA, lB, hw, q⟩ := h
    have hu := hu_of hr.room
    refine ⟨_, pss_cons (ps_set (i := 2) scEff.nd rfl (.inr rfl) (pe_dcT (own := [("cell", 3), ("weight", 4)]) (g := gTup K 2 (gCons (gName 3) (gCons (gName 4) gNil))) hu rfl scEff.nd (pi_tup (pv 1)) (blkOk_by (N := ["change", "row", "weights", "cell", "weight"]) (sc := defScope sEff) (by decide +kernel))
        (fun _ _ _ _ _ => pg_tup rfl (pgs_cons (pg_name (i := 3) scEff.nd rfl (.inl rfl)) (pgs_cons (pg_name (i := 4) scEff.nd rfl (.inl rfl)) pgs_nil)))
        (fun _ _ _ _ _ => pv 3) (fun _ _ _ _ _ => pv 4)))
      (pss_one (ps_ret (pe_callB (cr_sum rfl) (by rfl) ms (by decide +kernel) (pa_cons (pe_lc (own := [("cell", 3), ("weight", 4)]) (g := g2 K 3 4) (tt := tYes) rfl scEff.nd
          (pi_tup (pv 0)) (blkOk_by (N := ["change", "row", "weights", "cell", "weight"]) (sc := defScope sEff) (by decide +kernel))
          (fun _ _ _ _ _ => pg_tup rfl (pgs_cons (pg_name (i := 3) scEff.nd rfl (.inl rfl)) (pgs_cons (pg_name (i := 4) scEff.nd rfl (.inl rfl)) pgs_nil)))
          (fun _ _ _ _ _ => pts_nil)
          (fun _ _ _ _ _ => pe_op op_mul (pv 4) (pe_dget2 hu (pv 2) (pv 3) pe_int ⟨rfl, rfl, rfl, rfl⟩))) pa_nil)))), ?_⟩
    refine iSeq (iAsg ?_)
    refine dc_row (K := K) (i := 1) (a := 3) (b := 4) (σ := [some (.ref a), some (.ref b), none, none, none]) (r := b) (ρ := π) rfl hB (by simp) (by simp) (by decide) (by omega) fun D hD => ?_
    have s1 : Same H (upd H D (.dT (dk (ofRow π)))) := same_new hD
    refine iName ?_
    dsimp only
    refine iRet (iCB (iCons ?_))
    refine lc_ints (K := K) (i := 0) (a := 3) (b := 4) (σ := [some (.ref a), some (.ref b), some (.ref D), none, none]) (fun x => x.2 * get0 (ofRow π) x.1) rfl (hA.keep (KeepT.of s1)) (by simp) (by simp) (by decide) (by omega)
      (fun σ' H' bb x Q hx sm T hc hq => ?_) (fun H' L sm hL hps => ?_)
    · refine ⟨.int x.2, T.snd, .ref D, T.old 2 (by decide) (by decide), D, rfl, .inr ⟨_, .inl (sm _ _ upd_same)⟩, .ref bb, T.fst, _, dget_of (sm _ _ upd_same) hc, x.2, get0 (ofRow π) x.1, rfl, ?_, .inl (hw x hx), hq⟩
      show ((getO (ofRow π) x.1).map V.int).getD (.int 0) = .int (get0 (ofRow π) x.1)
      unfold get0
      cases getO (ofRow π) x.1 <;> rfl
    · exact ⟨L, _, rfl, sqL hps, q H' (s1.trans sm)⟩
def prVal : Pr := fun vs H Q => ∃ (a b : Addr) (ρ π : RowD), vs = [.ref a, .ref b] ∧ RowAt H a ρ ∧ RowAt H b π ∧ ρ.length ≤ 100 ∧ π.length ≤ 100 ∧ (∀ x ∈ π, -(2 ^ 64) < x.2 ∧ x.2 < 2 ^ 64) ∧
  ∀ H', Same H H' → Q (.int (effR π ρ)) H'
theorem ok_val {f fE : Addr} {fd fdE : FuncData} {k : Nat} (F : Fun K "row_value" "row_value" sVal f fd) (FE : Fun K "effect_of" "effect_of" sEff fE fdE) (bE : Binds K fdE ["change", "row"] []) (gE : mg "effect_of" = some (.ref fE)) (ms : mg "sum" = none) : FnG P w K mg base (k + 2) f fd ["row", "data"] prVal := by
  have GE : FnG P w K mg base (k + 1) fE fdE ["change", "row"] prEff := ok_eff FE ms
  refine okG F scVal (fun vs H Q h => ?_) (fun cdv A outer s H vs Q hr h => ?_)
  · obtain ⟨_, _, _, _, rfl, _⟩ := h
    rfl
  · obtain ⟨a, b, ρ, π, rfl, hA, hB, lA, lB, hw, q⟩ := h
    refine ⟨_, pss_one (ps_ret (pe_g GE hr (by rfl) gE FE.kp bE .nil (pa_cons (pv 1) (pa_cons (pv 0) pa_nil)))), ?_⟩
    exact ⟨.ref b, rfl, .ref a, rfl, b, a, π, ρ, rfl, hB, hA, lB, lA, hw, q⟩
end
end P09
namespace P09
open PySem PySem.Spec PyProof.Rows L2 AskG
abbrev sFeed : Stmt := topS 18
theorem scFeed : FnScope ["_law_script"] ["_law_script"] (defScope sFeed) := ⟨rfl, rfl, rfl, by decide +kernel, rfl, by decide +kernel, by decide +kernel⟩
abbrev sDraw : Stmt := topS 19
theorem scDraw : FnScope ["_law_feed_here", "_law_many", "_law_digit", "_law_at", "_law_cell", "_law_mixed"] ["_law_feed_here", "_law_many"] (defScope sDraw) := ⟨rfl, rfl, rfl, by decide +kernel, rfl, by decide +kernel, by decide +kernel⟩
def feedKvs (L : Addr) (at' left n : Int) : List (Key × V) := [(Sum.inr "cells", .ref L), (Sum.inr "at", .int at'), (Sum.inr "left", .int left), (Sum.inr "count", .int n)]
def FeedAt (H : Hp) (F L : Addr) : Prop := ∃ (ns : List Int) (at' left n : Int), H F = some (.dK (feedKvs L at' left n)) ∧ H L = some (.lst (ns.map V.int))
/-- all but the feed stays -/
def KeepF (F : Addr) (H H' : Hp) : Prop := ∀ b o, b ≠ F → H b = some o → H' b = some o
theorem KeepF.refl (F : Addr) (H : Hp) : KeepF F H H := fun _ _ _ e => e
theorem KeepF.trans {F : Addr} {H H1 H2 : Hp} (h : KeepF F H H1) (g : KeepF F H1 H2) : KeepF F H H2 := fun b o n e => g b o n (h b o n e)
theorem KeepF.of {F : Addr} {H H' : Hp} (h : Same H H') : KeepF F H H' := fun b o _ e => h b o e
theorem KeepF.tup {F L : Addr} {H H' : Hp} (h : KeepF F H H') (f : FeedAt H F L) : KeepT H H' := fun b xs e => by
  obtain ⟨_, _, _, _, hF, _⟩ := f
  exact h b _ (ne_of e hF fun z => nomatch z) e
theorem FeedAt.same {F L : Addr} {H H' : Hp} (f : FeedAt H F L) (h : Same H H') : FeedAt H' F L := by
  obtain ⟨ns, a, l, n, h1, h2⟩ := f
  exact ⟨ns, a, l, n, h _ _ h1, h _ _ h2⟩
section
variable (L : Addr) (a l n x : Int)
theorem g_count : valV (feedKvs L a l n) (Sum.inr "count") = some (.int n) := rfl
theorem g_left : valV (feedKvs L a l n) (Sum.inr "left") = some (.int l) := rfl
theorem g_at : valV (feedKvs L a l n) (Sum.inr "at") = some (.int a) := rfl
theorem g_cells : valV (feedKvs L a l n) (Sum.inr "cells") = some (.ref L) := rfl
theorem p_count : putK (feedKvs L a l n) (Sum.inr "count") (.int x) = feedKvs L a l x := rfl
theorem p_left : putK (feedKvs L a l n) (Sum.inr "left") (.int x) = feedKvs L a x n := rfl
theorem p_at : putK (feedKvs L a l n) (Sum.inr "at") (.int x) = feedKvs L x l n := rfl
end
theorem dg_count {H : Hp} {F L : Addr} {a l n : Int} (h : H F = some (.dK (feedKvs L a l n))) : DGet H F (.str "count") (some (.int n)) := DGet.k (k := Sum.inr "count") h
theorem dg_left {H : Hp} {F L : Addr} {a l n : Int} (h : H F = some (.dK (feedKvs L a l n))) : DGet H F (.str "left") (some (.int l)) := DGet.k (k := Sum.inr "left") h
theorem dg_at {H : Hp} {F L : Addr} {a l n : Int} (h : H F = some (.dK (feedKvs L a l n))) : DGet H F (.str "at") (some (.int a)) := DGet.k (k := Sum.inr "at") h
theorem dg_cells {H : Hp} {F L : Addr} {a l n : Int} (h : H F = some (.dK (feedKvs L a l n))) : DGet H F (.str "cells") (some (.ref L)) := DGet.k (k := Sum.inr "cells") h
theorem four : (feedKvs 0 0 0 0).length < sizeLine := by
  show 4 < sizeLine
  decide
theorem dp_count {H : Hp} {F L : Addr} {a l n x : Int} (h : H F = some (.dK (feedKvs L a l n))) : DPut H F (.str "count") (.int x) (upd H F (.dK (feedKvs L a l x))) := DPut.k (k := Sum.inr "count") h four
theorem dp_left {H : Hp} {F L : Addr} {a l n x : Int} (h : H F = some (.dK (feedKvs L a l n))) : DPut H F (.str "left") (.int x) (upd H F (.dK (feedKvs L a x n))) := DPut.k (k := Sum.inr "left") h four
theorem dp_at {H : Hp} {F L : Addr} {a l n x : Int} (h : H F = some (.dK (feedKvs L a l n))) : DPut H F (.str "at") (.int x) (upd H F (.dK (feedKvs L x l n))) := DPut.k (k := Sum.inr "at") h four
section
variable {P : Program} {w : World} {K : PySem.W.Frag} {mg : Str → Option Value} {base : Heap}
def prFeed (K : PySem.W.Frag) : Pr := fun vs H Q => ∃ (a : Addr) (ns : List Int), vs = [.ref a] ∧ SqL K H a (ns.map V.int) ∧ ∀ H' F L, Same H H' → FeedAt H' F L → Q (.ref F) H'
theorem cut63 (ns : List Int) : ∃ ms : List Int, cutV (ns.map V.int) none (some 63) = ms.map V.int := by
  unfold cutV
  rw [← List.map_drop, ← List.map_take]
  exact ⟨_, rfl⟩
theorem ok_feed {f : Addr} {fd : FuncData} {k : Nat} (F : Fun K "_law_feed" "_law_feed" sFeed f fd) (ml : mg "list" = none) : FnG P w K mg base (k + 1) f fd ["_law_script"] (prFeed K) := by
  refine okG F scFeed (fun vs H Q h => ?_) (fun cdv A outer s H vs Q hr h => ?_)
  · obtain ⟨_, _, rfl, _⟩ := h
    rfl
  · obtain ⟨a, ns, rfl, hS, q⟩ := h
    refine ⟨_, pss_one (ps_ret (pe_disp (pps_cons pe_str (pe_callTy call_list_of (by rfl) ml (by decide +kernel) (pa_cons (pe_slice sl_list (pv 0) po_none (po_some pe_int)) pa_nil))
      (pps_cons pe_str pe_int (pps_cons pe_str pe_int (pps_cons pe_str pe_int pps_nil)))) (by rfl) (by rfl) (fun z => by cases z) (by decide))), ?_⟩
    obtain ⟨ms, hms⟩ := cut63 ns
    refine iRet (fun p hp => ?_)
    have s1 : Same H (upd H p (.dK [])) := same_new hp
    refine ⟨.ref a, rfl, 63, rfl, a, ns.map V.int, rfl, s1.seq hS, fun c hc => ?_⟩
    rw [hms]
    have s2 : Same (upd H p (.dK [])) (upd (upd H p (.dK [])) c (.lst (ms.map V.int))) := same_new hc
    refine ⟨c, ms.map V.int, rfl, .inl (sqL upd_same), fun l hl => ?_⟩
    have s3 : Same (upd (upd H p (.dK [])) c (.lst (ms.map V.int))) (upd (upd (upd H p (.dK [])) c (.lst (ms.map V.int))) l (.lst (ms.map V.int))) := same_new hl
    have hpp : (upd (upd (upd H p (.dK [])) c (.lst (ms.map V.int))) l (.lst (ms.map V.int))) p = some (.dK []) := s3 _ _ (s2 _ _ upd_same)
    refine ⟨hpp, feedKvs l 0 0 0, rfl, by show 4 ≤ 15; decide, ?_⟩
    have npl : l ≠ p := fun e => by
      rw [e, s2 _ _ upd_same] at hl
      cases hl
    refine q _ p l (fun b o e => ?_) ⟨ms, 0, 0, 0, upd_same, ?_⟩
    · rw [upd_ne (ne_of_none e hp)]
      exact s3 _ _ (s2 _ _ (s1 _ _ e))
    · rw [upd_ne npl, upd_same]
end
end P09
namespace P09
open PySem PySem.Spec PyProof.Rows L2 AskG
section
variable {P : Program} {w : World} {K : PySem.W.Frag} {mg : Str → Option Value} {base : Heap}
def prDraw : Pr := fun vs H Q => ∃ (F L : Addr) (m : Int), vs = [.ref F, .int m] ∧ FeedAt H F L ∧ 0 < m ∧ m < 1000 ∧
  ∀ d H', 0 ≤ d → d < m → KeepF F H H' → FeedAt H' F L → Q (.int d) H'
theorem ok_draw {f : Addr} {fd : FuncData} {k : Nat} (F : Fun K "_law_draw" "_law_draw" sDraw f fd) (ml : mg "len" = none) : FnG P w K mg base (k + 1) f fd ["_law_feed_here", "_law_many"] prDraw := by
  refine okG F scDraw (fun vs H Q h => ?_) (fun cdv A outer s H vs Q hr h => ?_)
  · obtain ⟨_, _, _, rfl, _⟩ := h
    rfl
  · obtain ⟨F, L, m, rfl, ⟨ns, a, l, n, hF, hL⟩, m1, m2, q⟩ := h
    have hu := hu_of hr.room
    refine ⟨_, pss_cons (ps_dput hu (pv 0) pe_str (pe_op op_add (pe_dget hu (pv 0) pe_str (fun _ _ => rfl)) pe_int) rfl)
      (pss_cons (ps_if (pt_cmpR op_gt (pe_dget hu (pv 0) pe_str (fun _ _ => rfl)) pe_int (nomark _))
        (pss_cons (ps_set (i := 2) scDraw.nd rfl (.inl rfl) (pe_op op_mod (pe_dget hu (pv 0) pe_str (fun _ _ => rfl)) (pv 1)))
          (pss_cons (ps_dput hu (pv 0) pe_str (pe_op op_fdiv (pe_dget hu (pv 0) pe_str (fun _ _ => rfl)) (pv 1)) rfl)
          (pss_one (ps_ret (pv 2))))) pss_nil)
      (pss_cons (ps_set (i := 3) scDraw.nd rfl (.inl rfl) (pe_dget hu (pv 0) pe_str (fun _ _ => rfl)))
      (pss_cons (ps_dput hu (pv 0) pe_str (pe_op op_add (pv 3) pe_int) rfl)
      (pss_cons (ps_set (i := 4) scDraw.nd rfl (.inl rfl) (pe_ifExp (pt_cmpR (op_neD hr.room.units) (pe_dget hu (pv 0) pe_str (fun _ _ => rfl)) (pe_lst pa_nil) (nomark _))
        (pe_ix ix_list (pe_dget hu (pv 0) pe_str (fun _ _ => rfl)) (pe_op op_mod (pv 3) (pe_callB call_len_seq (by rfl) ml PySem.boot_len (pa_cons (pe_dget hu (pv 0) pe_str (fun _ _ => rfl)) pa_nil))) (fun _ _ => rfl)) pe_int))
      (pss_cons (ps_if (PW.pt (pw_and (pt_cmpR op_ge (pv 4) (pe_op op_pow pe_int pe_int) (nomark _)) (pw_and1 (pt_cmpR op_lt (pv 3) (pe_callB call_len_seq (by rfl) ml PySem.boot_len (pa_cons (pe_dget hu (pv 0) pe_str (fun _ _ => rfl)) pa_nil)) (nomark _)))))
        (pss_cons (ps_dput hu (pv 0) pe_str (pe_op op_fdiv (pv 4) (pv 1)) rfl) (pss_one (ps_ret (pe_op op_mod (pv 4) (pv 1))))) pss_nil)
      (pss_cons (ps_set (i := 5) scDraw.nd rfl (.inl rfl) (pe_op op_mod (pe_op op_add (pe_op op_add (pe_op op_mod (pv 4) pe_int) (pe_op op_mul pe_int (pe_dget hu (pv 0) pe_str (fun _ _ => rfl)))) pe_int) pe_int))
      (pss_cons (ps_set (i := 5) scDraw.nd rfl (.inl rfl) (pe_op op_mod (pe_op op_add (pe_op op_add (pe_op op_mul (pv 5) (pv 5)) (pe_op op_mul pe_int (pe_dget hu (pv 0) pe_str (fun _ _ => rfl)))) pe_int) pe_int))
      (pss_one (ps_ret (pe_op op_mod (pe_op op_fdiv (pe_op op_mod (pe_op op_add (pe_op op_mul (pv 5) (pv 5)) (pe_op op_mul pe_int (pv 5))) pe_int) pe_int) (pv 1))))))))))), ?_⟩
    have nLF : L ≠ F := ne_of hL hF fun z => nomatch z
    -- count
    refine ⟨.ref F, rfl, F, .int n, rfl, dg_count hF, n, 1, rfl, rfl, .ref F, rfl, F, _, rfl, dp_count hF, ?_⟩
    have hF1 : (upd H F (.dK (feedKvs L a l (n + 1)))) F = some (.dK (feedKvs L a l (n + 1))) := upd_same
    have hL1 : (upd H F (.dK (feedKvs L a l (n + 1)))) L = some (.lst (ns.map V.int)) := by
      rw [upd_ne nLF]
      exact hL
    have k1 : KeepF F H (upd H F (.dK (feedKvs L a l (n + 1)))) := fun b o h e => by
      rw [upd_ne h]
      exact e
    generalize upd H F (.dK (feedKvs L a l (n + 1))) = H1 at hF1 hL1 k1 ⊢
    -- left
    refine ⟨.ref F, rfl, F, .int l, rfl, dg_left hF1, l, 0, rfl, rfl, _, rfl, ite2 (fun e => ?_) (fun e => ?_)⟩
    · refine ⟨.ref F, rfl, F, .int l, rfl, dg_left hF1, .int m, rfl, l, m, rfl, rfl, m1, ?_⟩
      refine ⟨.ref F, rfl, F, .int l, rfl, dg_left hF1, .int m, rfl, l, m, rfl, rfl, ⟨m1, by omega⟩, .ref F, rfl, F, _, rfl, dp_left hF1, ?_⟩
      refine ⟨.int (l % m), rfl, q _ _ (Int.emod_nonneg _ (by omega)) (Int.emod_lt_of_pos _ m1) (k1.trans fun b o h e => ?_) ⟨ns, a, l / m, n + 1, upd_same, ?_⟩⟩
      · rw [upd_ne h]
        exact e
      · rw [upd_ne nLF]
        exact hL1
    · -- at
      refine ⟨.ref F, rfl, F, .int a, rfl, dg_at hF1, ?_⟩
      refine ⟨.int a, rfl, a, 1, rfl, rfl, .ref F, rfl, F, _, rfl, dp_at hF1, ?_⟩
      have hF2 : (upd H1 F (.dK (feedKvs L (a + 1) l (n + 1)))) F = some (.dK (feedKvs L (a + 1) l (n + 1))) := upd_same
      have hL2 : (upd H1 F (.dK (feedKvs L (a + 1) l (n + 1)))) L = some (.lst (ns.map V.int)) := by
        rw [upd_ne nLF]
        exact hL1
      have k2 : KeepF F H (upd H1 F (.dK (feedKvs L (a + 1) l (n + 1)))) := k1.trans fun b o h e => by
        rw [upd_ne h]
        exact e
      generalize upd H1 F (.dK (feedKvs L (a + 1) l (n + 1))) = H2 at hF2 hL2 k2 ⊢
      -- the cell
      dsimp only
      refine iSeq (iAsg ?_)
      refine split_k (fun v H3 => ∃ c, v = .int c ∧ H3 F = some (.dK (feedKvs L (a + 1) l (n + 1))) ∧ H3 L = some (.lst (ns.map V.int)) ∧ KeepF F H H3) (fun Q' hQ' => ?_) (fun v H3 hv => ?_)
      · refine ⟨.ref F, rfl, F, .ref L, rfl, dg_cells hF2, Nat.zero_le _, fun p hp => ?_⟩
        have s3 : Same H2 (upd H2 p (.lst [])) := same_new hp
        have k3 : KeepF F H (upd H2 p (.lst [])) := k2.trans (KeepF.of s3)
        refine ⟨.list (ns.map PyData.int), .list [], .lst (sqL (s3 _ _ hL2)) (dp_ints ns), .lst (sqL upd_same) .nil, shaped_ints ns, shaped_nil, _, rfl, ?_⟩
        cases ns with
        | nil => exact iteF (hQ' _ _ ⟨47, rfl, s3 _ _ hF2, s3 _ _ hL2, k3⟩)
        | cons x ns =>
          refine iteT ?_
          refine ⟨.ref F, rfl, F, .ref L, rfl, dg_cells (s3 _ _ hF2), .int a, rfl, .ref F, rfl, F, .ref L, rfl, dg_cells (s3 _ _ hF2), L, _, rfl, .inl (sqL (s3 _ _ hL2)), a, (((x :: ns).map V.int).length : Int), rfl, rfl, ?_, ?_⟩
          · rw [List.length_map, List.length_cons]
            show (0 : Int) < ((ns.length + 1 : Nat) : Int)
            omega
          · have hlen : (0 : Int) < (((x :: ns).map V.int).length : Int) := by
              rw [List.length_map, List.length_cons]
              omega
            have h0 := Int.emod_nonneg a (show (((x :: ns).map V.int).length : Int) ≠ 0 by omega)
            have h1 := Int.emod_lt_of_pos a hlen
            obtain ⟨jn, ej⟩ : ∃ jn : Nat, a % (((x :: ns).map V.int).length : Int) = (jn : Int) := ⟨(a % (((x :: ns).map V.int).length : Int)).toNat, by omega⟩
            have hj : jn < ((x :: ns).map V.int).length := by omega
            have hjn : jn < (x :: ns).length := by rw [List.length_map] at hj; exact hj
            refine ⟨L, _, _, .int (x :: ns)[jn], rfl, rfl, sqL (s3 _ _ hL2), (by rw [ej]; exact atI_nat (j := jn) (by rw [List.getElem?_map, List.getElem?_eq_getElem hjn]; rfl)), hQ' _ _ ⟨_, rfl, s3 _ _ hF2, s3 _ _ hL2, k3⟩⟩
      · obtain ⟨c, rfl, hF3, hL3, k3⟩ := hv
        -- if cell >= 10 ** 18 and at < len(cells)
        refine iName ?_
        dsimp only
        refine iSeq ?_
        refine split_s (fun σ' H' => σ' = [some (.ref F), some (.int m), none, some (.int a), some (.int c), none] ∧ H' = H3) (fun nx hnx => ?_) (fun σ' H' hx => ?_)
        · refine ⟨.int c, rfl, 10, 18, rfl, rfl, ⟨by decide, by decide, by decide⟩, c, _, rfl, rfl, _, rfl, ite2 (fun e1 => ?_) (fun e1 => ?_)⟩
          · refine ⟨.int a, rfl, .ref F, rfl, F, .ref L, rfl, dg_cells hF3, L, _, rfl, .inl (sqL hL3), a, _, rfl, rfl, _, rfl, ite2 (fun e2 => ?_) (fun e2 => ?_)⟩
            · refine ⟨.int c, rfl, .int m, rfl, c, m, rfl, rfl, ⟨m1, by omega⟩, .ref F, rfl, F, _, rfl, dp_left hF3, ?_⟩
              refine ⟨.int c, rfl, .int m, rfl, c, m, rfl, rfl, m1, q _ _ (Int.emod_nonneg _ (by omega)) (Int.emod_lt_of_pos _ m1) (k3.trans fun b o h e => ?_) ⟨ns, a + 1, c / m, n + 1, upd_same, ?_⟩⟩
              · rw [upd_ne h]
                exact e
              · rw [upd_ne nLF]
                exact hL3
            · exact hnx _ _ ⟨rfl, rfl⟩
          · exact iteF (hnx _ _ ⟨rfl, rfl⟩)
        · obtain ⟨rfl, rfl⟩ := hx
          dsimp only
          -- mixed
          refine ⟨.int c, rfl, c, 1000000447, rfl, rfl, (by decide : (0 : Int) < 1000000447), .ref F, rfl, F, .int (n + 1), rfl, dg_count hF3, 140009, n + 1, rfl, rfl, .inl ⟨by decide, by decide⟩, _, _, rfl, rfl, _, 89, rfl, rfl, _, 2147483423, rfl, rfl, (by decide : (0 : Int) < 2147483423), ?_⟩
          dsimp only
          have b0 := Int.emod_nonneg (c % 1000000447 + 140009 * (n + 1) + 89) (show (2147483423 : Int) ≠ 0 by decide)
          have b1 := Int.emod_lt_of_pos (c % 1000000447 + 140009 * (n + 1) + 89) (show (0 : Int) < 2147483423 by decide)
          generalize (c % 1000000447 + 140009 * (n + 1) + 89) % 2147483423 = x at b0 b1 ⊢
          refine ⟨.int x, rfl, .int x, rfl, x, x, rfl, rfl, .inl ⟨by omega, by omega⟩, .ref F, rfl, F, .int (n + 1), rfl, dg_count hF3, 3600091, n + 1, rfl, rfl, .inl ⟨by decide, by decide⟩, _, _, rfl, rfl, _, 61, rfl, rfl, _, 2147483399, rfl, rfl, (by decide : (0 : Int) < 2147483399), ?_⟩
          dsimp only
          have d0 := Int.emod_nonneg (x * x + 3600091 * (n + 1) + 61) (show (2147483399 : Int) ≠ 0 by decide)
          have d1 := Int.emod_lt_of_pos (x * x + 3600091 * (n + 1) + 61) (show (0 : Int) < 2147483399 by decide)
          generalize (x * x + 3600091 * (n + 1) + 61) % 2147483399 = y at d0 d1 ⊢
          refine ⟨.int y, rfl, .int y, rfl, y, y, rfl, rfl, .inl ⟨by omega, by omega⟩, .int y, rfl, 73, y, rfl, rfl, .inl ⟨by decide, by decide⟩, _, _, rfl, rfl, _, 2147483353, rfl, rfl, (by decide : (0 : Int) < 2147483353), _, 16, rfl, rfl, ⟨by decide, by decide⟩, .int m, rfl, _, m, rfl, rfl, m1, ?_⟩
          exact q _ _ (Int.emod_nonneg _ (by omega)) (Int.emod_lt_of_pos _ m1) k3 ⟨ns, a + 1, l, n + 1, hF3, hL3⟩
end
end P09
namespace P09
open PySem PySem.Spec PyProof.Rows L2 AskG
abbrev sPlaces : Stmt := topS 20
theorem scPlaces : FnScope [] [] (defScope sPlaces) := ⟨rfl, rfl, rfl, by decide +kernel, rfl, by decide +kernel, by decide +kernel⟩
abbrev sTidy : Stmt := topS 21
theorem scTidy : FnScope ["_law_weights", "_law_cell"] ["_law_weights"] (defScope sTidy) := ⟨rfl, rfl, rfl, by decide +kernel, rfl, by decide +kernel, by decide +kernel⟩
abbrev sPlus : Stmt := topS 22
theorem scPlus : FnScope ["_law_one", "_law_other", "_law_times", "_law_weights", "_law_cell", "_law_weight"] ["_law_one", "_law_other", "_law_times"] (defScope sPlus) := ⟨rfl, rfl, rfl, by decide +kernel, rfl, by decide +kernel, by decide +kernel⟩
abbrev sSmall : Stmt := topS 23
theorem scSmall : FnScope ["_law_line_here", "_law_pair"] ["_law_line_here"] (defScope sSmall) := ⟨rfl, rfl, rfl, by decide +kernel, rfl, by decide +kernel, by decide +kernel⟩
def places : List Cell := [("a", 0), ("a", 1), ("a", 9), ("b", 0), ("b", 7), ("zzzzzzzz", 9)]
def places7 : List Cell := places ++ [((("b" : Str), 8) : Cell)]
theorem cells_ok : ∀ c ∈ places7, CellOk c := by
  have h : places7.all cellB = true := by decide +kernel
  exact fun c hc => cellOk_of (List.all_eq_true.mp h c hc)
/-- a list of cells, made new -/
def CellsAt (H : Hp) (p : Addr) (cs : List Cell) : Prop := ∃ bs : List Addr, H p = some (.lst (bs.map V.ref)) ∧ Paired (CellAt H) bs cs
section
variable {P : Program} {w : World} {K : PySem.W.Frag} {mg : Str → Option Value} {base : Heap}
def prPlaces : Pr := fun vs H Q => vs = [] ∧ ∀ H' p, Same H H' → H p = none → CellsAt H' p places → Q (.ref p) H'
/-- one cell written out -/
abbrev tCell (x : Str) (n : Int) : TE := tTup (tCons (tC (.str x)) (tCons (tC (.int n)) tNil))
theorem pe_cell {X : Cx} {x : Str} {n : Int} {k1 k2 p1 p2 p3 j} : PE X (.Tuple [.Constant (.str x) k1 p1, .Constant (.int n) k2 p2] j p3) (tCell x n) := pe_tup (pa_cons pe_str (pa_cons pe_int pa_nil))
def tCells : List Cell → TA
  | [] => tNil
  | c :: cs => tCons (tCell c.1 c.2) (tCells cs)
theorem cells_made {σ : L2.St} : ∀ (cs : List Cell) {H : Hp} {Q : List V → Hp → Prop}, (∀ H' bs, Same H H' → Paired (CellAt H') bs cs → Q (bs.map V.ref) H') → tCells cs σ H Q
  | [], H, Q, h => h H [] (Same.refl _) .nil
  | c :: cs, H, Q, h => by
    refine ⟨by show 2 ≤ sizeLine; decide, fun p hp => ?_⟩
    have s1 : Same H (upd H p (.tup [.str c.1, .int c.2])) := same_new hp
    refine cells_made cs fun H' bs sm hb => h H' (p :: bs) (s1.trans sm) (.cons (sm _ _ upd_same) hb)
theorem ok_places {f : Addr} {fd : FuncData} {k : Nat} (F : Fun K "_law_places" "_law_places" sPlaces f fd) : FnG P w K mg base (k + 1) f fd [] prPlaces := by
  refine okG F scPlaces (fun vs H Q h => ?_) (fun cdv A outer s H vs Q hr h => ?_)
  · rw [h.1]
    rfl
  · obtain ⟨rfl, q⟩ := h
    refine ⟨_, pss_one (ps_ret (pe_lst (pa_cons pe_cell (pa_cons pe_cell (pa_cons pe_cell (pa_cons pe_cell (pa_cons pe_cell (pa_cons pe_cell pa_nil)))))))), ?_⟩
    refine cells_made (σ := start [] []) places fun H' bs sm hb => ?_
    refine ⟨by rw [List.length_map, Paired.length hb]; show 6 ≤ sizeLine; decide, fun p hp => ?_⟩
    refine q _ p (sm.trans (same_new hp)) (sm.free hp) ⟨bs, upd_same, Paired.mapP hb fun _ _ z => z.keep (KeepT.new hp)⟩
/-! ### tidy -/
def prTidy : Pr := fun vs H Q => ∃ (D : Addr) (m : RowD), vs = [.ref D] ∧ H D = some (.dT (dk m)) ∧ (keys m).Nodup ∧ m.length ≤ 1000 ∧ ∀ H' p, Same H H' → RowAt H' p (tidy m) → Q (.ref p) H'
theorem ok_tidyF {f : Addr} {fd : FuncData} {k : Nat} (F : Fun K "_law_tidy" "_law_tidy" sTidy f fd) (ms : mg "sorted" = none) (mt : mg "tuple" = none) : FnG P w K mg base (k + 1) f fd ["_law_weights"] prTidy := by
  refine okG F scTidy (fun vs H Q h => ?_) (fun cdv A outer s H vs Q hr h => ?_)
  · obtain ⟨_, _, rfl, _⟩ := h
    rfl
  · obtain ⟨D, m, rfl, hD, n, hz, q⟩ := h
    have hu := hu_of hr.room
    refine ⟨_, pss_one (ps_ret (pe_callTy call_tuple_of (by rfl) mt (by decide +kernel) (pa_cons (pe_lc (own := [("_law_cell", 1)]) (g := gName 1) rfl scTidy.nd
          (pi_list (pe_callB (cr_sortT rfl) (by rfl) ms (by decide +kernel) (pa_cons (pv 0) pa_nil)))
          (blkOk_by (N := ["_law_weights", "_law_cell"]) (sc := defScope sTidy) (by decide +kernel)) (fun _ _ _ _ _ => pg_name (i := 1) scTidy.nd rfl (.inl rfl))
          (fun _ _ _ _ _ => pts_one (pt_cmpR op_ne (pe_dget hu (pv 0) (pv 1) (fun _ _ => rfl)) pe_int (nomark _)))
          (fun _ _ _ _ _ => pe_tup (pa_cons (pv 1) (pa_cons (pe_dget hu (pv 0) (pv 1) (fun _ _ => rfl)) pa_nil)))) pa_nil))), ?_⟩
    refine iRet (iCB (iCons ?_))
    refine lc_tidy (K := K) (iw := 0) (ic := 1) (D := D) (m := m) rfl (by decide) (by show 1 < 2; decide) hD n hz fun H' L ps sm hL hps hpp => ?_
    exact ⟨L, _, rfl, .inl ⟨sqL hps, fun p hp => q _ p (sm.trans (same_new hp)) (row_of_list (L := L) hp hpp)⟩⟩
/-! ### plus -/
def prPlus : Pr := fun vs H Q => ∃ (a b : Addr) (ρ π : RowD) (t : Int), vs = [.ref a, .ref b, .int t] ∧ RowAt H a ρ ∧ RowAt H b π ∧ ρ.length ≤ 100 ∧ π.length ≤ 100 ∧ -(2 ^ 64) < t ∧ t < 2 ^ 64 ∧
  ∀ H' p, Same H H' → RowAt H' p (addR ρ π t) → Q (.ref p) H'
theorem pairs_dict {H : Hp} : ∀ {ps : List Addr} {ρ : RowD}, Paired (PairRow H) ps ρ → Paired (PairAt' K H) ps (dk ρ)
  | _, _, .nil => .nil
  | _, _, .cons h t => by
    obtain ⟨b, h1, h2⟩ := h
    exact .cons ⟨b, sqT h1, h2⟩ (pairs_dict t)
theorem putAll_dk : ∀ (ρ m : RowD), putAll (dk m) (dk ρ) = dk (ρ.foldl (fun m x => putC m x.1 x.2) m)
  | [], _ => rfl
  | x :: ρ, m => by
    show putAll (putK (dk m) (ck x.1) (.int x.2)) (dk ρ) = _
    rw [dk_put]
    exact putAll_dk ρ _
theorem ok_plus {f fT : Addr} {fd fdT : FuncData} {k : Nat} (F : Fun K "_law_plus" "_law_plus" sPlus f fd) (FT : Fun K "_law_tidy" "_law_tidy" sTidy fT fdT) (bT : Binds K fdT ["_law_weights"] []) (gT : mg "_law_tidy" = some (.ref fT))
    (ms : mg "sorted" = none) (mt : mg "tuple" = none) (md : mg "dict" = none) (ml : mg "list" = none) : FnG P w K mg base (k + 2) f fd ["_law_one", "_law_other", "_law_times"] prPlus := by
  have GT : FnG P w K mg base (k + 1) fT fdT ["_law_weights"] prTidy := ok_tidyF FT ms mt
  refine okG F scPlus (fun vs H Q h => ?_) (fun cdv A outer s H vs Q hr h => ?_)
  · obtain ⟨_, _, _, _, _, rfl, _⟩ := h
    rfl
  · obtain ⟨a, b, ρ, π, t, rfl, hA, hB, lA, lB, t1, t2, q⟩ := h
    have hu := hu_of hr.room
    refine ⟨_, pss_cons (ps_set (i := 3) scPlus.nd rfl (.inl rfl) (pe_callTy (call_dictT rfl hr.room) (by rfl) md (by decide +kernel) (pa_cons (pe_callTy call_list_of (by rfl) ml (by decide +kernel) (pa_cons (pv 0) pa_nil)) pa_nil)))
      (pss_cons (ps_for PassesOwn.never rfl (pi_tup (pv 1)) (pg_tup rfl (pgs_cons (pg_name (i := 4) scPlus.nd rfl (.inl rfl)) (pgs_cons (pg_name (i := 5) scPlus.nd rfl (.inl rfl)) pgs_nil)))
        (pss_one (ps_dput hu (pv 3) (pv 4) (pe_op op_add (pe_dget2 hu (pv 3) (pv 4) pe_int ⟨rfl, rfl, rfl, rfl⟩) (pe_op op_mul (pv 2) (pv 5))) rfl)))
      (pss_one (ps_ret (pe_g GT hr (by rfl) gT FT.kp bT .nil (pa_cons (pv 3) pa_nil))))), ?_⟩
    obtain ⟨ps, hr1, hp⟩ := hA
    refine ⟨.ref a, rfl, a, _, rfl, .inr (sqT hr1), fun l hl => ?_⟩
    have s1 : Same H (upd H l (.lst (ps.map V.ref))) := same_new hl
    refine ⟨l, ps, dk ρ, rfl, sqL upd_same, pairs_dict (Paired.mapP hp fun _ _ z => z.keep (KeepT.of s1)), fun D hD => ?_⟩
    have ed : putAll [] (dk ρ) = dk (ofRow ρ) := putAll_dk ρ []
    rw [ed]
    have s2 : Same (upd H l (.lst (ps.map V.ref))) (upd (upd H l (.lst (ps.map V.ref))) D (.dT (dk (ofRow ρ)))) := same_new hD
    have lo := ofRow_length ρ
    refine iName ?_
    dsimp only
    refine iSeq ?_
    refine for_add (K := K) (σ := [some (.ref a), some (.ref b), some (.int t), some (.ref D), none, none]) (io := 1) (iw := 3) (a := 4) (b := 5) (r := b) (Dd := D) (π := π) (m := ofRow ρ) (t := t) rfl rfl (by decide) (by decide) (by simp) (by simp) (by decide) (hB.keep (KeepT.of (s1.trans s2))) upd_same (by omega)
      (fun σ' H' c w m' bb Q hmem hj ha hb hD' hc hq => ?_) (fun σ' hj hl => ?_)
    · refine ⟨.ref D, hj 3 (by decide) (by decide), D, rfl, .inr ⟨_, .inl hD'⟩, .ref bb, ha, _, dget_of hD' hc, .int t, hj 2 (by decide) (by decide), .int w, hb, t, w, rfl, rfl, .inl ⟨t1, t2⟩, get0 m' c, t * w, ?_, rfl, hq⟩
      show ((getO m' c).map V.int).getD (.int 0) = .int (get0 m' c)
      unfold get0
      cases getO m' c <;> rfl
    · rw [upd_upd]
      have n := addF_nodup (ofRow_nodup ρ) π t
      have al := addF_length (ofRow ρ) π t
      refine ⟨.ref D, hj 3 (by decide) (by decide), D, addF (ofRow ρ) π t, rfl, upd_same, n, by omega, fun H' p sm hp => q H' p (fun c o e => ?_) hp⟩
      refine sm _ _ ?_
      have e1 := s1 _ _ e
      rw [upd_ne (ne_of_none e1 hD)]
      exact e1
end
end P09
namespace P09
open PySem PySem.Spec PyProof.Rows L2 AskG
abbrev sLine : Stmt := topS 24
theorem scLine : FnScope ["_law_feed_here", "_law_weights", "_law_cell"] ["_law_feed_here"] (defScope sLine) := ⟨rfl, rfl, rfl, by decide +kernel, rfl, by decide +kernel, by decide +kernel⟩
theorem log_small {x : Int} (h1 : -(2 ^ 200) < x) (h2 : x < 2 ^ 200) : x.natAbs.log2 < 1920 := by
  by_cases e : x.natAbs = 0
  · rw [e]
    decide
  · have : x.natAbs < 2 ^ 200 := by omega
    have := (Nat.log2_lt e).mpr this
    omega
theorem DrawnR.row {cs : List Cell} {B : Int} {ρ : RowD} (h : DrawnR cs B ρ) (hl : cs.length ≤ 40) (hc : ∀ c ∈ cs, CellOk c) (e : B ≤ 2 ^ 64) : RowOk ρ :=
  ⟨by have := h.many; omega, fun x hx => hc _ (h.on _ (List.mem_map_of_mem hx)), fun x hx => by
    have := h.at' hx
    have b : (2 : Int) ^ 64 < 2 ^ 200 := by decide
    exact log_small (by omega) (by omega)⟩
section
variable {P : Program} {w : World} {K : PySem.W.Frag} {mg : Str → Option Value} {base : Heap}
def prSmall : Pr := fun vs H Q => ∃ (a : Addr) (ρ : RowD), vs = [.ref a] ∧ RowAt H a ρ ∧ ρ.length ≤ 100 ∧ (∀ x ∈ ρ, CellOk x.1) ∧ ∀ b H', Same H H' → Q (.bl b) H'
theorem ok_small {f : Addr} {fd : FuncData} {k : Nat} (F : Fun K "_law_small" "_law_small" sSmall f fd) : FnG P w K mg base (k + 1) f fd ["_law_line_here"] prSmall := by
  refine okG F scSmall (fun vs H Q h => ?_) (fun cdv A outer s H vs Q hr h => ?_)
  · obtain ⟨_, _, rfl, _⟩ := h
    rfl
  · obtain ⟨a, ρ, rfl, ⟨qs, hr1, hp⟩, lA, hc, q⟩ := h
    refine ⟨_, pss_one (ps_ret (pe_cmpR (op_eqD hr.room.units) (pe_lc (own := [("_law_pair", 1)]) (g := gName 1) rfl scSmall.nd (pi_tup (pv 0))
      (blkOk_by (N := ["_law_line_here", "_law_pair"]) (sc := defScope sSmall) (by decide +kernel)) (fun _ _ _ _ _ => pg_name (i := 1) scSmall.nd rfl (.inl rfl))
      (fun _ _ _ _ _ => pts_one (pt_not (pt_chain op_lt op_lt (pe_un un_neg pe_int) (pe_ix (ix_tup : IxR _ (rIxT K)) (pv 1) pe_int (fun _ _ => rfl)) pe_int)))
      (fun _ _ _ _ _ => pv 1)) (pe_lst pa_nil) (nomark _))), ?_⟩
    refine iRet (iOp ?_)
    refine lc_pairsT (K := K) (i := 0) (a := 1) (σ := [some (.ref a), none]) (fun x => !(decide (-4 < x.2) && decide (x.2 < 4))) rfl hr1 hp (by show 1 < 2; decide) (by omega) (fun σ' H' p x Q _ sm hp hj hx hq => ?_) (fun H' L ps sm hL hps hpp => ?_)
    · obtain ⟨b, h1, h2⟩ := hx
      refine ⟨4, rfl, .ref p, hp, p, _, 1, .int x.2, rfl, rfl, sqT h1, atI_nat (j := 1) rfl, -4, x.2, rfl, rfl, decide (-4 < x.2), rfl, ?_⟩
      by_cases e : -4 < x.2
      · rw [decide_eq_true e]
        refine iteT ⟨x.2, 4, rfl, rfl, _, rfl, ?_⟩
        have := hq H' (Same.refl _)
        rw [decide_eq_true e, Bool.true_and] at this
        exact this
      · rw [decide_eq_false e]
        refine iteF ⟨_, rfl, ?_⟩
        have := hq H' (Same.refl _)
        rw [decide_eq_false e, Bool.false_and] at this
        exact this
    · refine ⟨Nat.zero_le _, fun p hp => ?_⟩
      have s2 : Same H' (upd H' p (.lst [])) := same_new hp
      refine ⟨.list ((ρ.filter fun x => !(decide (-4 < x.2) && decide (x.2 < 4))).map AskG.pairD), .list [], .lst (sqL (s2 _ _ hps)) (dp_all (f := AskG.pairD) (R := PairRow _) (fun _ _ z => dp_pair z) (Paired.mapP hpp fun _ _ z => z.keep (KeepT.of s2))), .lst (sqL upd_same) .nil, shaped_pairs fun x hx => hc x (List.mem_filter.mp hx).1, shaped_nil, q _ _ (sm.trans s2)⟩
/-! ### dicts filled by draws -/
theorem for_fill {iw ic : Nat} {σ : L2.St} {H : Hp} {Dn : Ends} {Dd F L p : Addr} {cs : List Cell} {B : Int} {tv : TE}
    (hiw : σ[iw]? = some (some (.ref Dd))) (wc : iw ≠ ic) (hc : ic < σ.length) (C : CellsAt H p cs) (n : cs.Nodup) (hz : cs.length ≤ 100) (hD : H Dd = some (.dT [])) (hF : FeedAt H F L)
    (htv : ∀ (σ' : L2.St) (H' : Hp) (Q : VK), (∀ j, j ≠ ic → σ'[j]? = σ[j]?) → FeedAt H' F L → (∀ x H'', -B ≤ x → x ≤ B → KeepF F H' H'' → FeedAt H'' F L → Q (.int x) H'') → tv σ' H' Q)
    (q : ∀ σ' H' m, (∀ j, j ≠ ic → σ'[j]? = σ[j]?) → (∀ b o, b ≠ F → b ≠ Dd → H b = some o → H' b = some o) → FeedAt H' F L → H' Dd = some (.dT (dk m)) → keys m = cs → (∀ x ∈ m, -B ≤ x.2 ∧ x.2 ≤ B) → Dn.nx σ' H') :
    ∃ W : Nat → Nat → L2.St → Hp → Prop, (∃ m, W 0 m σ H) ∧ ∀ i m σ H, W i m σ H →
      ((Itl K p).stop i H ∧ Dn.nx σ H) ∨ ((Itl K p).go i H ∧ ∃ N : L2.St → Hp → Prop, (∀ σ' H', N σ' H' → ∃ m', m' < m ∧ W (i + 1) m' σ' H') ∧ ∀ x H', (Itl K p).yld i H x H' → gName ic x σ H' fun σ2 H2 => sDPut (tVar iw) (tVar ic) tv { Dn with nx := N, ct := N, bk := Dn.nx } σ2 H2) := by
  obtain ⟨bs, hp, hb⟩ := C
  have nDF : Dd ≠ F := by
    obtain ⟨_, _, _, _, h, _⟩ := hF
    exact ne_of hD h fun z => nomatch z
  have npF : p ≠ F := by
    obtain ⟨_, _, _, _, h, _⟩ := hF
    exact ne_of hp h fun z => nomatch z
  have npD : p ≠ Dd := ne_of hp hD fun z => nomatch z
  refine for_list (K := K) (a := p) (xs := bs.map V.ref) (fun i σ' H' => (∀ j, j ≠ ic → σ'[j]? = σ[j]?) ∧ σ'.length = σ.length ∧ (∀ b o, b ≠ F → b ≠ Dd → H b = some o → H' b = some o) ∧ FeedAt H' F L ∧
      ∃ m, H' Dd = some (.dT (dk m)) ∧ keys m = cs.take i ∧ ∀ x ∈ m, -B ≤ x.2 ∧ x.2 ≤ B)
    ⟨fun _ _ => rfl, rfl, fun _ _ _ _ e => e, hF, [], hD, rfl, fun x hx => absurd hx (by simp)⟩ (fun i σ' H' _ h => sqL (h.2.2.1 _ _ npF npD hp)) (fun i x σ' H' hx h => ?_) (fun σ' H' h => ?_)
  · obtain ⟨hj, hl, kp, hF', m, hD', hm, hB⟩ := h
    rw [List.getElem?_map] at hx
    cases hbi : bs[i]? with
    | none =>
      rw [hbi] at hx
      cases hx
    | some b =>
      rw [hbi] at hx
      have ex : V.ref b = x := Option.some.inj hx
      subst ex
      obtain ⟨c, hci, hcb⟩ := paired_at' hb hbi
      have hj' : ∀ j, j ≠ ic → (σ'.set ic (some (.ref b)))[j]? = σ[j]? := fun j h => by
        rw [List.getElem?_set_ne (fun e => h e.symm)]
        exact hj j h
      refine htv _ _ _ hj' hF' fun y H2 y1 y2 k2 hF2 => ?_
      have kt2 : KeepT H' H2 := k2.tup hF'
      have hcb2 : CellAt H2 b c := by
        have nbF : b ≠ F := by
          obtain ⟨_, _, _, _, h, _⟩ := hF
          exact ne_of hcb h fun z => nomatch z
        exact kt2 _ _ (kp _ _ nbF (ne_of hcb hD fun z => nomatch z) hcb)
      have hD2 : H2 Dd = some (.dT (dk m)) := k2 _ _ nDF hD'
      have nc : c ∉ keys m := by
        rw [hm]
        intro hc'
        have i1 : i < cs.length := (List.getElem?_eq_some_iff.mp hci).1
        have n2 := n
        rw [← List.take_append_drop i cs, List.drop_eq_getElem_cons i1] at n2
        have e2 : cs[i] = c := (List.getElem?_eq_some_iff.mp hci).2
        exact (List.nodup_append.mp n2).2.2 c hc' c (by rw [e2]; exact List.mem_cons_self) rfl
      have ml : m.length ≤ 100 := by
        have := congrArg List.length hm
        unfold keys at this
        rw [List.length_map, List.length_take] at this
        omega
      have big := sizeBig
      refine ⟨.ref Dd, by rw [hj' iw wc]; exact hiw, .ref b, List.getElem?_set_self (by rw [hl]; exact hc), Dd, _, rfl, DPut.t (k := ck c) hD2 (by rw [ck_kV]; exact hcb2) (by rw [dk_length]; omega), ?_⟩
      refine ⟨hj', by rw [List.length_set]; exact hl, fun b' o' h1 h2 e => ?_, ?_, putC m c y, ?_, ?_, fun x hx => ?_⟩
      · rw [upd_ne h2]
        exact k2 _ _ h1 (kp _ _ h1 h2 e)
      · obtain ⟨ns, a, l, n', h1, h2⟩ := hF2
        refine ⟨ns, a, l, n', ?_, ?_⟩
        · rw [upd_ne nDF.symm]
          exact h1
        · rw [upd_ne (ne_of h2 hD2 fun z => nomatch z)]
          exact h2
      · rw [upd_same, dk_put]
      · rw [keys_put, if_neg nc, hm, List.take_add_one, hci]
        rfl
      · rcases mem_put hx with h | h
        · exact hB x h
        · rw [h]
          exact ⟨y1, y2⟩
  · obtain ⟨hj, hl, kp, hF', m, hD', hm, hB⟩ := h
    have e : cs.take (bs.map V.ref).length = cs := List.take_of_length_le (by rw [List.length_map, Paired.length hb]; exact Nat.le_refl _)
    rw [e] at hm
    exact q σ' H' m hj kp hF' hD' hm hB

theorem cells_nodup : places.Nodup := by decide +kernel
theorem cells7_nodup : places7.Nodup := by decide +kernel
def prLine (cs : List Cell) (B : Int) : Pr := fun vs H Q => ∃ F L, vs = [.ref F] ∧ FeedAt H F L ∧ ∀ H' p ρ, KeepF F H H' → FeedAt H' F L → RowAt H' p ρ → DrawnR cs B ρ → Q (.ref p) H'
theorem at_int (l : List Int) {d : Int} (h0 : 0 ≤ d) (h1 : d < (l.length : Int)) : ∃ x, x ∈ l ∧ atI (l.map V.int) d = some (.int x) := by
  obtain ⟨n, rfl⟩ : ∃ n : Nat, d = (n : Int) := ⟨d.toNat, by omega⟩
  have hn : n < l.length := by omega
  refine ⟨l[n], List.getElem_mem hn, atI_nat (j := n) ?_⟩
  rw [List.getElem?_map, List.getElem?_eq_getElem hn]
  rfl
section
variable {fP fD fT : Addr} {fdP fdD fdT : FuncData}
theorem ok_line {f : Addr} {fd : FuncData} {k : Nat} (F : Fun K "_law_line" "_law_line" sLine f fd)
    (FP : Fun K "_law_places" "_law_places" sPlaces fP fdP) (bP : Binds K fdP [] []) (gP : mg "_law_places" = some (.ref fP))
    (FD : Fun K "_law_draw" "_law_draw" sDraw fD fdD) (bD : Binds K fdD ["_law_feed_here", "_law_many"] []) (gD : mg "_law_draw" = some (.ref fD))
    (FT : Fun K "_law_tidy" "_law_tidy" sTidy fT fdT) (bT : Binds K fdT ["_law_weights"] []) (gT : mg "_law_tidy" = some (.ref fT))
    (ms : mg "sorted" = none) (mt : mg "tuple" = none) (ml : mg "len" = none) : FnG P w K mg base (k + 2) f fd ["_law_feed_here"] (prLine places 3) := by
  have GP : FnG P w K mg base (k + 1) fP fdP [] prPlaces := ok_places FP
  have GD : FnG P w K mg base (k + 1) fD fdD ["_law_feed_here", "_law_many"] prDraw := ok_draw FD ml
  have GT : FnG P w K mg base (k + 1) fT fdT ["_law_weights"] prTidy := ok_tidyF FT ms mt
  refine okG F scLine (fun vs H Q h => ?_) (fun cdv A outer s H vs Q hr h => ?_)
  · obtain ⟨_, _, rfl, _⟩ := h
    rfl
  · obtain ⟨F, L, rfl, hF, q⟩ := h
    have hu := hu_of hr.room
    refine ⟨_, pss_cons (ps_set (i := 1) scLine.nd rfl (.inl rfl) pe_dnewT)
      (pss_cons (ps_for PassesOwn.never rfl (pi_list (pe_g0 GP hr (by rfl) gP FP.kp bP .nil)) (pg_name (i := 2) scLine.nd rfl (.inl rfl))
        (pss_one (ps_dput hu (pv 1) (pv 2) (pe_ix ix_list (pe_lst (pa_cons pe_int (pa_cons pe_int (pa_cons pe_int (pa_cons pe_int (pa_cons pe_int (pa_cons pe_int (pa_cons (pe_un un_neg pe_int) (pa_cons pe_int (pa_cons (pe_un un_neg pe_int) (pa_cons pe_int (pa_cons (pe_un un_neg pe_int) pa_nil))))))))))))
          (pe_g GD hr (by rfl) gD FD.kp bD .nil (pa_cons (pv 0) (pa_cons pe_int pa_nil))) (fun _ _ => rfl)) rfl)))
      (pss_one (ps_ret (pe_g GT hr (by rfl) gT FT.kp bT .nil (pa_cons (pv 1) pa_nil))))), ?_⟩
    refine iSeq (iAsg (fun D hD => ?_))
    have s1 : Same H (upd H D (.dT [])) := same_new hD
    refine iName ?_
    dsimp only
    refine iSeq ?_
    refine ⟨rfl, fun H2 p s2 hp hC => ⟨p, rfl, ⟨_, sqL hC.choose_spec.1⟩, ?_⟩⟩
    have hF2 : FeedAt H2 F L := (hF.same s1).same s2
    refine for_fill (K := K) (iw := 1) (ic := 2) (σ := [some (.ref F), some (.ref D), none]) (H := H2) (Dd := D) (F := F) (B := 3) rfl (by decide) (by show 2 < 3; decide) hC cells_nodup (by decide) (s2 _ _ upd_same) hF2 (fun σ' H' Q' hj hF' hq => ?_) (fun σ' H' m hj kp hF' hD' hm hB => ?_)
    · refine ⟨1, rfl, 2, rfl, 3, rfl, by show 11 ≤ sizeLine; decide, fun t ht => ?_⟩
      have s3 : Same H' (upd H' t (.lst ([0, 0, 0, 0, 1, 1, -1, 2, -2, 3, -3].map V.int))) := same_new ht
      refine ⟨.ref F, hj 0 (by decide), F, L, 11, rfl, hF'.same s3, by decide, by decide, fun d H4 d0 d1 k4 hF4 => ?_⟩
      obtain ⟨x, hx, hat⟩ := at_int [0, 0, 0, 0, 1, 1, -1, 2, -2, 3, -3] d0 d1
      have ntF : t ≠ F := by
        obtain ⟨_, _, _, _, h, _⟩ := hF'
        exact (ne_of_none h ht).symm
      refine ⟨t, _, d, .int x, rfl, rfl, sqL (k4 _ _ ntF upd_same), hat, hq x H4 ?_ ?_ ((KeepF.of s3).trans k4) hF4⟩
      · simp at hx
        omega
      · simp at hx
        omega
    · refine ⟨.ref D, hj 1 (by decide), D, m, rfl, hD', by rw [hm]; exact cells_nodup, ?_, fun H5 r sm hr => q H5 r _ (fun b o hb e => ?_) (hF'.same sm) hr (drawn_tidy hm cells_nodup (by decide) hB)⟩
      · have := congrArg List.length hm
        unfold keys at this
        rw [List.length_map] at this
        rw [this]
        decide
      · exact sm _ _ (kp _ _ hb (ne_of_none e hD) (s2 _ _ (s1 _ _ e)))
end
end
end P09
namespace P09
open PySem PySem.Spec PyProof.Rows L2 AskG
abbrev sSys : Stmt := topS 25
theorem scSys : FnScope ["_law_feed_here", "_law_most", "_law_found", "_law_k", "_law_way", "_law_fresh"] ["_law_feed_here", "_law_most"] (defScope sSys) := ⟨rfl, rfl, rfl, by decide +kernel, rfl, by decide +kernel, by decide +kernel⟩
theorem shaped_rows {ρs : List RowD} (h : ∀ ρ ∈ ρs, ∀ x ∈ ρ, CellOk x.1) : SeqAt.shaped (.list (ρs.map rowPD)) = true := by
  have h1 : PyData.canLayAll0 (ρs.map rowPD) = true := can_all fun ρ hρ => by
    show PyData.canLayAll0 (ρ.map AskG.pairD) = true
    refine can_all fun x hx => ?_
    show (((PyData.strOk x.1.1) && (true && true)) && (true && true)) = true
    rw [(h ρ hρ x hx).ok]
    rfl
  have h2 : PyData.depthAll (ρs.map rowPD) ≤ 3 := depth_all fun ρ _ => by
    show PyData.depthAll (ρ.map AskG.pairD) + 1 ≤ 3
    have : PyData.depthAll (ρ.map AskG.pairD) ≤ 2 := depth_all fun x _ => by
      show max (max 0 (max 0 0) + 1) (max 0 0) + 1 ≤ 2
      decide
    omega
  show (PyData.canLayAll0 (ρs.map rowPD) && decide (PyData.depthAll (ρs.map rowPD) + 1 ≤ 64)) = true
  rw [h1, decide_eq_true (by omega)]
  rfl
theorem atI_neg {α : Type} {xs : List α} {k : Nat} {v : α} (h1 : 1 ≤ k) (h2 : k ≤ xs.length) (h : xs[xs.length - k]? = some v) : atI xs (-(k : Int)) = some v := by
  unfold atI
  have e : ixN xs.length (-(k : Int)) = some (xs.length - k) := by
    unfold ixN
    rw [if_neg (by omega), if_pos (by omega)]
    congr 1
    omega
  rw [e]
  exact h
/-- the state within a turn: all but the feed stays, the found rows stand -/
structure Mid (H0 : Hp) (F L Lf : Addr) (rs : List Addr) (ρs : List RowD) (H : Hp) : Prop where
  keep : KeepF F H0 H
  feed : FeedAt H F L
  apart : L ≠ Lf
  list : H Lf = some (.lst (rs.map V.ref))
  rows : Paired (RowAt H) rs ρs
theorem Mid.step {H0 H H' : Hp} {F L Lf : Addr} {rs : List Addr} {ρs : List RowD} (h : Mid H0 F L Lf rs ρs H) (k : KeepF F H H') (f : FeedAt H' F L) : Mid H0 F L Lf rs ρs H' := by
  have nLF : Lf ≠ F := by
    obtain ⟨_, _, _, _, e, _⟩ := h.feed
    exact ne_of h.list e fun z => nomatch z
  exact ⟨h.keep.trans k, f, h.apart, k _ _ nLF h.list, Paired.mapP h.rows fun _ _ z => z.keep (k.tup h.feed)⟩
theorem Mid.same {H0 H H' : Hp} {F L Lf : Addr} {rs : List Addr} {ρs : List RowD} (h : Mid H0 F L Lf rs ρs H) (k : Same H H') : Mid H0 F L Lf rs ρs H' := h.step (KeepF.of k) (h.feed.same k)
def SysAt (H : Hp) (s : Addr) (ρs : List RowD) : Prop := ∃ rs : List Addr, H s = some (.tup (rs.map V.ref)) ∧ Paired (RowAt H) rs ρs
theorem SysAt.keep {H H' : Hp} {s : Addr} {ρs : List RowD} (h : SysAt H s ρs) (k : KeepT H H') : SysAt H' s ρs := by
  obtain ⟨rs, h1, h2⟩ := h
  exact ⟨rs, k _ _ h1, Paired.mapP h2 fun _ _ z => z.keep k⟩
section
variable {P : Program} {w : World} {K : PySem.W.Frag} {mg : Str → Option Value} {base : Heap}
def prSys : Pr := fun vs H Q => ∃ (F L : Addr) (m : Int), vs = [.ref F, .int m] ∧ FeedAt H F L ∧ 0 ≤ m ∧ m ≤ 6 ∧
  ∀ H' s ρs, KeepF F H H' → FeedAt H' F L → SysAt H' s ρs → ρs.length ≤ 6 → (∀ ρ ∈ ρs, DrawnR places 200 ρ) → Q (.ref s) H'
variable {fP fD fT fL fS fU : Addr} {fdP fdD fdT fdL fdS fdU : FuncData}
theorem ok_sys {f : Addr} {fd : FuncData} {k : Nat} (F : Fun K "_law_system" "_law_system" sSys f fd)
    (FP : Fun K "_law_places" "_law_places" sPlaces fP fdP) (bP : Binds K fdP [] []) (gP : mg "_law_places" = some (.ref fP))
    (FD : Fun K "_law_draw" "_law_draw" sDraw fD fdD) (bD : Binds K fdD ["_law_feed_here", "_law_many"] []) (gD : mg "_law_draw" = some (.ref fD))
    (FT : Fun K "_law_tidy" "_law_tidy" sTidy fT fdT) (bT : Binds K fdT ["_law_weights"] []) (gT : mg "_law_tidy" = some (.ref fT))
    (FL : Fun K "_law_line" "_law_line" sLine fL fdL) (bL : Binds K fdL ["_law_feed_here"] []) (gL : mg "_law_line" = some (.ref fL))
    (FS : Fun K "_law_small" "_law_small" sSmall fS fdS) (bS : Binds K fdS ["_law_line_here"] []) (gS : mg "_law_small" = some (.ref fS))
    (FU : Fun K "_law_plus" "_law_plus" sPlus fU fdU) (bU : Binds K fdU ["_law_one", "_law_other", "_law_times"] []) (gU : mg "_law_plus" = some (.ref fU))
    (ms : mg "sorted" = none) (mt : mg "tuple" = none) (ml : mg "len" = none) (md : mg "dict" = none) (mls : mg "list" = none) (mr : mg "range" = none) : FnG P w K mg base (k + 3) f fd ["_law_feed_here", "_law_most"] prSys := by
  have GD : FnG P w K mg base (k + 1) fD fdD ["_law_feed_here", "_law_many"] prDraw := ok_draw FD ml
  have GL : FnG P w K mg base (k + 2) fL fdL ["_law_feed_here"] (prLine places 3) := ok_line FL FP bP gP FD bD gD FT bT gT ms mt ml
  have GS : FnG P w K mg base (k + 1) fS fdS ["_law_line_here"] prSmall := ok_small FS
  have GU : FnG P w K mg base (k + 2) fU fdU ["_law_one", "_law_other", "_law_times"] prPlus := ok_plus FU FT bT gT ms mt md mls
  refine okG F scSys (fun vs H Q h => ?_) (fun cdv A outer s H vs Q hr h => ?_)
  · obtain ⟨_, _, _, rfl, _⟩ := h
    rfl
  · obtain ⟨F, L, m, rfl, hF, m1, m2, q⟩ := h
    have hu := hu_of hr.room
    have hr1 : RG (k + 1) (A.deeper (envOfC "_law_system" (defScope sSys) s.heap.objs.size f cdv)) := hr.mono (by omega)
    refine ⟨_, pss_cons (ps_set (i := 2) scSys.nd rfl (.inl rfl) (pe_lst pa_nil))
      (pss_cons (ps_for PassesOwn.never rfl (pi_range1 rfl mr (pa_cons (pe_g GD hr1 (by rfl) gD FD.kp bD .nil (pa_cons (pv 0) (pa_cons (pe_op op_add (pv 1) pe_int) pa_nil))) pa_nil)) (pg_name (i := 3) scSys.nd rfl (.inl rfl))
        (pss_cons (ps_par (by rfl) scSys.nd (i := 4) (j := 5) rfl rfl (by decide) rfl rfl (pa_cons (pe_g GD hr1 (by rfl) gD FD.kp bD .nil (pa_cons (pv 0) (pa_cons pe_int pa_nil))) (pa_cons (pe_g GL hr (by rfl) gL FL.kp bL .nil (pa_cons (pv 0) pa_nil)) pa_nil)) (by rfl))
        (pss_cons (ps_if (PW.pt (pw_and (pt_cmpR op_eq (pv 4) pe_int (nomark _)) (pw_and1 (pt_cmpR (op_neD hr.room.units) (pv 2) (pe_lst pa_nil) (nomark _)))))
          (pss_one (ps_set (i := 5) scSys.nd rfl (.inl rfl) (pe_ix ix_list (pv 2) (pe_g GD hr1 (by rfl) gD FD.kp bD .nil (pa_cons (pv 0) (pa_cons (pe_callB call_len_seq (by rfl) ml PySem.boot_len (pa_cons (pv 2) pa_nil)) pa_nil))) (fun _ _ => rfl)))) pss_nil)
        (pss_cons (ps_if (pt_cmpR op_eq (pv 4) pe_int (nomark _)) (pss_one (ps_set (i := 5) scSys.nd rfl (.inl rfl) (pe_tup pa_nil))) pss_nil)
        (pss_cons (ps_if (PW.pt (pw_and (pt_cmpR op_eq (pv 4) pe_int (nomark _)) (pw_and (pt_cmpR op_gt (pe_callB call_len_seq (by rfl) ml PySem.boot_len (pa_cons (pv 2) pa_nil)) pe_int (nomark _))
            (pw_and1 (pt_val (pe_g GS hr1 (by rfl) gS FS.kp bS .nil (pa_cons (pe_g GU hr (by rfl) gU FU.kp bU .nil (pa_cons (pe_ix ix_list (pv 2) (pe_un un_neg pe_int) (fun _ _ => rfl)) (pa_cons (pe_ix ix_list (pv 2) (pe_un un_neg pe_int) (fun _ _ => rfl)) (pa_cons pe_int pa_nil)))) pa_nil)))))))
          (pss_one (ps_set (i := 5) scSys.nd rfl (.inl rfl) (pe_g GU hr (by rfl) gU FU.kp bU .nil (pa_cons (pe_ix ix_list (pv 2) (pe_un un_neg pe_int) (fun _ _ => rfl)) (pa_cons (pe_ix ix_list (pv 2) (pe_un un_neg pe_int) (fun _ _ => rfl)) (pa_cons pe_int pa_nil)))))) pss_nil)
        (pss_one (ps_expr (pe_bm PySem.F.plainAttrs_list PySem.F.slot_list_append PySem.F.type_list_append mt_append (pv 2) (pa_cons (pv 5) pa_nil)))))))))
      (pss_one (ps_ret (pe_callTy call_tuple_of (by rfl) mt (by decide +kernel) (pa_cons (pv 2) pa_nil))))), ?_⟩
    refine iSeq (iAsg ⟨Nat.zero_le _, fun Lf hLf => ?_⟩)
    have s1 : Same H (upd H Lf (.lst [])) := same_new hLf
    refine iName ?_
    dsimp only
    refine iSeq ?_
    refine ⟨.ref F, rfl, .int m, rfl, m, 1, rfl, rfl, F, L, m + 1, rfl, hF.same s1, by omega, by omega, fun d H2 d0 d1 k2 hF2 => ?_⟩
    have nLF : Lf ≠ F := by
      obtain ⟨_, _, _, _, h, _⟩ := hF
      exact (ne_of_none h hLf).symm
    have nLL : L ≠ Lf := by
      obtain ⟨_, _, _, _, _, h⟩ := hF
      exact ne_of_none h hLf
    refine ⟨d, rfl, by omega, by omega, ?_⟩
    refine for_range (lo := 0) (n := d.toNat) (fun i σ' H' => (∃ v3 v4 v5, σ' = [some (.ref F), some (.int m), some (.ref Lf), v3, v4, v5]) ∧ ∃ rs ρs, Mid H F L Lf rs ρs H' ∧ ρs.length = i ∧ ∀ ρ ∈ ρs, DrawnR places (3 * 2 ^ i) ρ)
      ⟨⟨none, none, none, rfl⟩, [], [], ⟨(KeepF.of s1).trans k2, hF2, nLL, k2 _ _ nLF upd_same, .nil⟩, rfl, fun _ h => absurd h (by simp)⟩ (fun i σ' H' hi h => ?_) (fun σ' H' h => ?_)
    · obtain ⟨⟨v3, v4, v5, rfl⟩, rs, ρs, M, hl, hD⟩ := h
      have i6 : i < 6 := by omega
      have p6 : (3 * 2 ^ i : Int) + 3 * 2 ^ i = 3 * 2 ^ (i + 1) := by
        rw [Int.pow_succ]
        omega
      have pp : (3 : Int) ≤ 3 * 2 ^ i ∧ (3 * 2 ^ i : Int) ≤ 3 * 2 ^ (i + 1) := by
        have h1 : ∀ i : Nat, (1 : Int) ≤ 2 ^ i := by
          intro i
          induction i with
          | zero => decide
          | succ j ih =>
            rw [Int.pow_succ]
            omega
        have := h1 i
        constructor
        · omega
        · rw [← p6]
          omega
      have hrl : rs.length = i := by rw [← hl]; exact Paired.length M.rows
      have hcell : ∀ ρ ∈ ρs, ∀ x ∈ ρ, CellOk x.1 := fun ρ hρ x hx => cells_ok _ (List.mem_append_left _ ((hD ρ hρ).on _ (List.mem_map_of_mem hx)))
      refine iName ?_
      refine iSeq ?_
      -- way, fresh
      refine ⟨.ref F, rfl, F, L, 8, rfl, M.feed, by decide, by decide, fun wy H3 w0 w1 k3 hF3 => ?_⟩
      have M3 := M.step k3 hF3
      refine ⟨.ref F, rfl, F, L, rfl, hF3, fun H4 r ρ k4 hF4 hr4 hd4 => ?_⟩
      have M4 := M3.step k4 hF4
      refine ⟨.int wy, .ref r, rfl, ?_⟩
      dsimp only
      -- a found one
      refine iSeq ?_
      refine split_s (fun σ' H' => ∃ r ρ, σ' = [some (.ref F), some (.int m), some (.ref Lf), some (.int (0 + i)), some (.int wy), some (.ref r)] ∧ Mid H F L Lf rs ρs H' ∧ RowAt H' r ρ ∧ DrawnR places (3 * 2 ^ i) ρ) (fun nx hnx => ?_) (fun σ' H' hx => ?_)
      · refine ⟨.int wy, rfl, rfl, _, rfl, ite2 (fun e => ?_) (fun e => ?_)⟩
        · refine ⟨.ref Lf, rfl, Nat.zero_le _, fun p hp => ?_⟩
          have s5 : Same H4 (upd H4 p (.lst [])) := same_new hp
          have M5 := M4.same s5
          refine ⟨.list (ρs.map rowPD), .list [], .lst (sqL M5.list) (dp_all (f := rowPD) (R := RowAt _) (fun _ _ z => dp_row z) M5.rows), .lst (sqL upd_same) .nil, shaped_rows hcell, shaped_nil, _, rfl, ?_⟩
          cases hρ : ρs with
          | nil => exact iteF (hnx _ _ ⟨r, ρ, rfl, M5, hr4.keep (KeepT.of s5), hd4.mono pp.1⟩)
          | cons ρ1 ρr =>
            have hne : 0 < rs.length := by
              rw [hrl, ← hl, hρ, List.length_cons]
              omega
            refine iteT ?_
            refine ⟨.ref Lf, rfl, .ref F, rfl, .ref Lf, rfl, Lf, _, rfl, .inl (sqL M5.list), F, L, ((rs.map V.ref).length : Int), rfl, M5.feed, by rw [List.length_map]; omega, by rw [List.length_map]; omega, fun j H6 j0 j1 k6 hF6 => ?_⟩
            have M6 := M5.step k6 hF6
            rw [List.length_map] at j1
            obtain ⟨jn, rfl⟩ : ∃ jn : Nat, j = (jn : Int) := ⟨j.toNat, by omega⟩
            have hjn : jn < rs.length := by omega
            obtain ⟨ρj, hj1, hj2⟩ := paired_at' M6.rows (List.getElem?_eq_getElem hjn)
            refine ⟨Lf, _, _, .ref rs[jn], rfl, rfl, sqL M6.list, atI_nat (j := jn) (by rw [List.getElem?_map, List.getElem?_eq_getElem hjn]; rfl), ?_⟩
            exact hnx _ _ ⟨rs[jn], ρj, rfl, M6, hj2, hD ρj (List.mem_of_getElem? hj1)⟩
        · exact iteF (hnx _ _ ⟨r, ρ, rfl, M4, hr4, hd4.mono pp.1⟩)
      · clear hr4 hd4 M4 M3
        obtain ⟨r, ρ, rfl, M4, hr4, hd4⟩ := hx
        dsimp only
        -- ()
        refine iSeq ?_
        refine split_s (fun σ' H' => ∃ r ρ, σ' = [some (.ref F), some (.int m), some (.ref Lf), some (.int (0 + i)), some (.int wy), some (.ref r)] ∧ Mid H F L Lf rs ρs H' ∧ RowAt H' r ρ ∧ DrawnR places (3 * 2 ^ i) ρ) (fun nx hnx => ?_) (fun σ' H' hx => ?_)
        · refine ⟨.int wy, rfl, rfl, _, rfl, ite2 (fun e => ?_) (fun e => ?_)⟩
          · refine ⟨Nat.zero_le _, fun p hp => ?_⟩
            exact hnx _ _ ⟨p, [], rfl, M4.same (same_new hp), ⟨[], upd_same, .nil⟩, drawn_nil (by omega)⟩
          · exact hnx _ _ ⟨r, ρ, rfl, M4, hr4, hd4⟩
        · clear hr4 hd4 M4
          obtain ⟨r, ρ, rfl, M4, hr4, hd4⟩ := hx
          dsimp only
          -- a sum
          have sums : ∀ (H5 : Hp), Mid H F L Lf rs ρs H5 → 1 < rs.length → ∀ (Q' : VK), (∀ H6 p π, Same H5 H6 → RowAt H6 p π → DrawnR places (3 * 2 ^ (i + 1)) π → Q' (.ref p) H6) →
              tCallG prPlus [] (tCons (tOp (rIxL K) (tVar 2) (tUn (rU fun i => V.int (-i)) (tC (.int 1)))) (tCons (tOp (rIxL K) (tVar 2) (tUn (rU fun i => V.int (-i)) (tC (.int 2)))) (tCons (tC (.int 1)) tNil)))
                [some (.ref F), some (.int m), some (.ref Lf), some (.int (0 + i)), some (.int wy), some (.ref r)] H5 Q' := by
            intro H5 M5 h2 Q' hq
            have e1 : rs.length - 1 < rs.length := by omega
            have e2 : rs.length - 2 < rs.length := by omega
            obtain ⟨ρ1, h11, h12⟩ := paired_at' M5.rows (List.getElem?_eq_getElem e1)
            obtain ⟨ρ2, h21, h22⟩ := paired_at' M5.rows (List.getElem?_eq_getElem e2)
            have d1 := hD ρ1 (List.mem_of_getElem? h11)
            have d2 := hD ρ2 (List.mem_of_getElem? h21)
            have a1 : atI (rs.map V.ref) (-1) = some (.ref rs[rs.length - 1]) := atI_neg (k := 1) (by decide) (by rw [List.length_map]; omega) (by rw [List.length_map, List.getElem?_map, List.getElem?_eq_getElem e1]; rfl)
            have a2 : atI (rs.map V.ref) (-2) = some (.ref rs[rs.length - 2]) := atI_neg (k := 2) (by decide) (by rw [List.length_map]; omega) (by rw [List.length_map, List.getElem?_map, List.getElem?_eq_getElem e2]; rfl)
            have l1 := d1.many
            have l2 := d2.many
            have lp : places.length = 6 := rfl
            refine ⟨.ref Lf, rfl, 1, rfl, Lf, _, _, _, rfl, rfl, sqL M5.list, a1, .ref Lf, rfl, 2, rfl, Lf, _, _, _, rfl, rfl, sqL M5.list, a2, _, _, ρ1, ρ2, 1, rfl, h12, h22, by omega, by omega, by decide, by decide, fun H6 p sm hp => ?_⟩
            refine hq H6 p _ sm hp ?_
            have := d1.sum d2
            rw [p6] at this
            exact this
          refine iSeq ?_
          refine split_s (fun σ' H' => ∃ r ρ, σ' = [some (.ref F), some (.int m), some (.ref Lf), some (.int (0 + i)), some (.int wy), some (.ref r)] ∧ Mid H F L Lf rs ρs H' ∧ RowAt H' r ρ ∧ DrawnR places (3 * 2 ^ (i + 1)) ρ) (fun nx hnx => ?_) (fun σ' H' hx => ?_)
          · refine ⟨.int wy, rfl, rfl, _, rfl, ite2 (fun e => ?_) (fun e => ?_)⟩
            · refine ⟨.ref Lf, rfl, Lf, _, rfl, .inl (sqL M4.list), _, 1, rfl, rfl, _, rfl, ite2 (fun e2 => ?_) (fun e2 => ?_)⟩
              · have h2 : 1 < rs.length := by
                  have := of_decide_eq_true e2
                  rw [List.length_map] at this
                  omega
                refine sums _ M4 h2 _ fun H6 p π sm hp hd => ?_
                have M6 := M4.same sm
                have lp : places.length = 6 := rfl
                have := hd.many
                refine ⟨p, π, rfl, hp, by omega, fun x hx => cells_ok _ (List.mem_append_left _ (hd.on _ (List.mem_map_of_mem hx))), fun b H7 sm7 => ⟨b, rfl, ?_⟩⟩
                have M7 := M6.same sm7
                refine ite2 (fun e3 => ?_) (fun e3 => ?_)
                · refine sums H7 M7 h2 _ fun H8 p8 π8 sm8 hp8 hd8 => ?_
                  exact hnx _ _ ⟨p8, π8, rfl, M7.same sm8, hp8, hd8⟩
                · exact hnx _ _ ⟨r, ρ, rfl, M7, (hr4.keep (KeepT.of sm)).keep (KeepT.of sm7), hd4.mono pp.2⟩
              · exact iteF (hnx _ _ ⟨r, ρ, rfl, M4, hr4, hd4.mono pp.2⟩)
            · exact iteF (hnx _ _ ⟨r, ρ, rfl, M4, hr4, hd4.mono pp.2⟩)
          · clear hr4 hd4 M4
            obtain ⟨r, ρ, rfl, M4, hr4, hd4⟩ := hx
            dsimp only
            -- append
            have big := sizeBig
            refine ⟨.ref Lf, rfl, .inl ⟨rfl, _, sqL M4.list⟩, .ref r, rfl, Lf, _, _, rfl, rfl, M4.list, by rw [List.length_map]; omega, ?_⟩
            refine ⟨⟨_, _, _, rfl⟩, rs ++ [r], ρs ++ [ρ], ?_, by rw [List.length_append, hl]; rfl, fun π hπ => ?_⟩
            · have kp : KeepT _ (upd _ Lf (.lst (rs.map V.ref ++ [.ref r]))) := KeepT.put M4.list fun _ z => nomatch z
              refine ⟨fun b o hb e => ?_, ?_, nLL, ?_, Paired.snoc (Paired.mapP M4.rows fun _ _ z => z.keep kp) (hr4.keep kp)⟩
              · rw [upd_ne (ne_of_none e hLf)]
                exact M4.keep b o hb e
              · obtain ⟨ns, a, l, n, h1, h2⟩ := M4.feed
                refine ⟨ns, a, l, n, ?_, ?_⟩
                · rw [upd_ne nLF.symm]
                  exact h1
                · rw [upd_ne nLL]
                  exact h2
              · rw [upd_same, List.map_append]
                rfl
            · rcases List.mem_append.mp hπ with h | h
              · exact (hD π h).mono pp.2
              · rw [List.mem_singleton.mp h]
                exact hd4
    · obtain ⟨⟨v3, v4, v5, rfl⟩, rs, ρs, M, hl, hD⟩ := h
      dsimp only
      refine ⟨.ref Lf, rfl, Lf, _, rfl, .inl ⟨sqL M.list, fun p hp => ?_⟩⟩
      have s5 : Same _ (upd _ p (.tup (rs.map V.ref))) := same_new hp
      refine q _ p ρs (M.keep.trans (KeepF.of s5)) (M.feed.same s5) ⟨rs, upd_same, Paired.mapP M.rows fun _ _ z => z.keep (KeepT.of s5)⟩ (by omega) fun ρ hρ => (hD ρ hρ).mono ?_
      have : d.toNat ≤ 6 := by omega
      have mono : ∀ n : Nat, n ≤ 6 → (3 * 2 ^ n : Int) ≤ 200 := by decide
      exact mono _ this
end
end P09
namespace P09
open PySem PySem.Spec PyProof.Rows L2 AskG
abbrev sIsInt : Stmt := topS 9
abbrev sIsNum : Stmt := topS 10
abbrev sIsName : Stmt := topS 11
abbrev sIsPair : Stmt := topS 12
abbrev sIsCell : Stmt := topS 13
abbrev sIsWt : Stmt := topS 14
abbrev sIsRow : Stmt := topS 15
abbrev sAreRows : Stmt := topS 16
theorem scIsInt : FnScope ["thing"] ["thing"] (defScope sIsInt) := ⟨rfl, rfl, rfl, by decide +kernel, rfl, by decide +kernel, by decide +kernel⟩
theorem scIsNum : FnScope ["thing"] ["thing"] (defScope sIsNum) := ⟨rfl, rfl, rfl, by decide +kernel, rfl, by decide +kernel, by decide +kernel⟩
theorem scIsName : FnScope ["thing", "letter"] ["thing"] (defScope sIsName) := ⟨rfl, rfl, rfl, by decide +kernel, rfl, by decide +kernel, by decide +kernel⟩
theorem scIsPair : FnScope ["thing"] ["thing"] (defScope sIsPair) := ⟨rfl, rfl, rfl, by decide +kernel, rfl, by decide +kernel, by decide +kernel⟩
theorem scIsCell : FnScope ["thing"] ["thing"] (defScope sIsCell) := ⟨rfl, rfl, rfl, by decide +kernel, rfl, by decide +kernel, by decide +kernel⟩
theorem scIsWt : FnScope ["thing"] ["thing"] (defScope sIsWt) := ⟨rfl, rfl, rfl, by decide +kernel, rfl, by decide +kernel, by decide +kernel⟩
theorem scIsRow : FnScope ["thing", "cells", "item", "cell", "weight", "one", "other"] ["thing"] (defScope sIsRow) := ⟨rfl, rfl, rfl, by decide +kernel, rfl, by decide +kernel, by decide +kernel⟩
theorem scAreRows : FnScope ["thing", "item"] ["thing"] (defScope sAreRows) := ⟨rfl, rfl, rfl, by decide +kernel, rfl, by decide +kernel, by decide +kernel⟩
def letters : Str := "abcdefghijklmnopqrstuvwxyz"
structure NameOk (c : Cell) : Prop where
  lo : 1 ≤ c.1.length
  hi : c.1.length ≤ 8
  all : ∀ n ∈ c.1.cps.toList, n ∈ letters.cps.toList
  day : 0 ≤ c.2
def nameB (c : Cell) : Bool := decide (1 ≤ c.1.length) && decide (c.1.length ≤ 8) && c.1.cps.toList.all (fun n => decide (n ∈ letters.cps.toList)) && decide (0 ≤ c.2)
theorem nameOk_of {c : Cell} (h : nameB c = true) : NameOk c := by
  unfold nameB at h
  rw [Bool.and_eq_true, Bool.and_eq_true, Bool.and_eq_true] at h
  obtain ⟨⟨⟨h1, h2⟩, h3⟩, h4⟩ := h
  exact ⟨of_decide_eq_true h1, of_decide_eq_true h2, fun n hn => of_decide_eq_true (List.all_eq_true.mp h3 n hn), of_decide_eq_true h4⟩
section
variable {P : Program} {w : World} {K : PySem.W.Frag} {mg : Str → Option Value} {base : Heap}
def prYes (T : Hp → V → Prop) : Pr := fun vs H Q => ∃ v, vs = [v] ∧ T H v ∧ ∀ H', Same H H' → Q (.bl true) H'
abbrev tInt : Hp → V → Prop := fun _ v => ∃ i, v = .int i
abbrev tNum : Hp → V → Prop := fun _ v => ∃ i, v = .int i ∧ 0 ≤ i
abbrev tName : Hp → V → Prop := fun _ v => ∃ c, v = .str c.1 ∧ NameOk c
abbrev tPair : Hp → V → Prop := fun H v => ∃ a x y, v = .ref a ∧ H a = some (.tup [x, y])
abbrev tCellV : Hp → V → Prop := fun H v => ∃ a c, v = .ref a ∧ CellAt H a c ∧ NameOk c
abbrev tWt : Hp → V → Prop := fun H v => ∃ a x, v = .ref a ∧ PairRow H a x ∧ NameOk x.1 ∧ x.2 ≠ 0
abbrev tRow : Hp → V → Prop := fun H v => ∃ a ρ, v = .ref a ∧ RowAt H a ρ ∧ OkRow ρ ∧ ρ.length ≤ 100 ∧ ∀ x ∈ ρ, NameOk x.1
abbrev tRows : Hp → V → Prop := fun H v => ∃ a ρs, v = .ref a ∧ SysAt H a ρs ∧ ρs.length ≤ 100 ∧ ∀ ρ ∈ ρs, OkRow ρ ∧ ρ.length ≤ 100 ∧ ∀ x ∈ ρ, NameOk x.1
theorem isi_yes {H : Hp} {x : V} {a b : String} {r : Bool} {Q : VK} (h : TyX K H x (.type a)) (k : kitB a b = some r) (q : Q (.bl r) H) : rIsi K [x, .ty b] H Q := ⟨x, .ty b, .type a, .type b, r, rfl, .ty b, h, kit_ty k, q⟩
theorem isi_call {i : Nat} {σ : L2.St} {H : Hp} {x : V} {a b : String} {r : Bool} {Q : VK} (hi : σ[i]? = some (some x)) (h : TyX K H x (.type a)) (k : kitB a b = some r) (q : Q (.bl r) H) : tCB (rIsi K) (tCons (tVar i) (tCons (tC (.ty b)) tNil)) σ H Q :=
  ⟨x, hi, isi_yes h k q⟩
theorem iAndV {ta tb : TE} {σ : L2.St} {H : Hp} {Q : VK} (h : ta σ H fun x H1 => ∃ c, x = .bl c ∧ if c = true then tb σ H1 Q else Q (.bl false) H1) : tAndV ta tb σ H Q := h
theorem iNotV {ta : TE} {σ : L2.St} {H : Hp} {Q : VK} (h : ta σ H fun x H1 => ∃ c, x = .bl c ∧ Q (.bl (!c)) H1) : tNotV ta σ H Q := h
theorem iIfS {c : TT} {t u : TS} {D : Ends} {σ : L2.St} {H : Hp} (h : c σ H fun b H1 => if b = true then t D σ H1 else u D σ H1) : tIfS c t u D σ H := h
theorem iOr {t u : TT} {σ : L2.St} {H : Hp} {Q : Bool → Hp → Prop} (h : t σ H fun c H1 => if c = true then Q true H1 else u σ H1 Q) : tOr t u σ H Q := h
theorem iNot {t : TT} {σ : L2.St} {H : Hp} {Q : Bool → Hp → Prop} (h : t σ H fun c H1 => Q (!c) H1) : tNot t σ H Q := h
theorem iB {t : TE} {σ : L2.St} {H : Hp} {Q : Bool → Hp → Prop} (h : t σ H fun x H1 => ∃ c, x = .bl c ∧ Q c H1) : tB t σ H Q := h
theorem ok_isInt {f : Addr} {fd : FuncData} {k : Nat} (F : Fun K "is_integer" "is_integer" sIsInt f fd) (mi : mg "isinstance" = none) (mn : mg "int" = none) (mb : mg "bool" = none) : FnG P w K mg base (k + 1) f fd ["thing"] (prYes tInt) := by
  refine okG F scIsInt (fun vs H Q h => ?_) (fun cdv A outer s H vs Q hr h => ?_)
  · obtain ⟨_, rfl, _⟩ := h
    rfl
  · obtain ⟨v, rfl, ⟨i, rfl⟩, q⟩ := h
    refine ⟨_, pss_one (ps_ret (pe_and (pe_callB call_isi (by rfl) mi (by decide +kernel) (pa_cons (pv 0) (pa_cons (pe_bltn (v := .ty "int") (by rfl) mn (by decide +kernel) rfl) pa_nil)))
      (pe_one (pe_not (pe_callB call_isi (by rfl) mi (by decide +kernel) (pa_cons (pv 0) (pa_cons (pe_bltn (v := .ty "bool") (by rfl) mb (by decide +kernel) rfl) pa_nil))))))), ?_⟩
    refine iRet (iAndV (isi_call (K := K) (i := 0) (a := "int") (b := "int") (r := true) (x := .int i) rfl (.base (.int i)) (by decide +kernel) ⟨true, rfl, iteT (iNotV (isi_call (K := K) (i := 0) (a := "int") (b := "bool") (r := false) (x := .int i) rfl (.base (.int i)) (by decide +kernel) ⟨false, rfl, q H (Same.refl _)⟩))⟩))
theorem ok_isPair {f : Addr} {fd : FuncData} {k : Nat} (F : Fun K "is_pair" "is_pair" sIsPair f fd) (mi : mg "isinstance" = none) (mt : mg "tuple" = none) (ml : mg "len" = none) : FnG P w K mg base (k + 1) f fd ["thing"] (prYes tPair) := by
  refine okG F scIsPair (fun vs H Q h => ?_) (fun cdv A outer s H vs Q hr h => ?_)
  · obtain ⟨_, rfl, _⟩ := h
    rfl
  · obtain ⟨v, rfl, ⟨a, x, y, rfl, ha⟩, q⟩ := h
    refine ⟨_, pss_one (ps_ret (pe_and (pe_callB call_isi (by rfl) mi (by decide +kernel) (pa_cons (pv 0) (pa_cons (pe_bltn (v := .ty "tuple") (by rfl) mt (by decide +kernel) rfl) pa_nil)))
      (pe_one (pe_cmpR op_eq (pe_callB call_len_seq (by rfl) ml PySem.boot_len (pa_cons (pv 0) pa_nil)) pe_int (nomark _))))), ?_⟩
    exact iRet (iAndV (isi_call (K := K) (i := 0) (a := "tuple") (b := "tuple") (r := true) (x := .ref a) rfl (.base (.tup ha)) (by decide +kernel) ⟨true, rfl, iteT ⟨.ref a, rfl, a, _, rfl, .inr (sqT ha), rfl, q H (Same.refl _)⟩⟩))
variable {fI fN fM fQ fC fW fR : Addr} {fdI fdN fdM fdQ fdC fdW fdR : FuncData}
theorem ok_isNum {f : Addr} {fd : FuncData} {k : Nat} (F : Fun K "is_number" "is_number" sIsNum f fd) (FI : Fun K "is_integer" "is_integer" sIsInt fI fdI) (bI : Binds K fdI ["thing"] []) (gI : mg "is_integer" = some (.ref fI)) (GI : FnG P w K mg base (k + 1) fI fdI ["thing"] (prYes tInt)) : FnG P w K mg base (k + 2) f fd ["thing"] (prYes tNum) := by
  refine okG F scIsNum (fun vs H Q h => ?_) (fun cdv A outer s H vs Q hr h => ?_)
  · obtain ⟨_, rfl, _⟩ := h
    rfl
  · obtain ⟨v, rfl, ⟨i, rfl, i0⟩, q⟩ := h
    refine ⟨_, pss_one (ps_ret (pe_and (pe_g GI hr (by rfl) gI FI.kp bI .nil (pa_cons (pv 0) pa_nil)) (pe_one (pe_cmpR op_ge (pv 0) pe_int (nomark _))))), ?_⟩
    refine ⟨.int i, rfl, .int i, rfl, ⟨i, rfl⟩, fun H' sm => ⟨true, rfl, iteT ⟨.int i, rfl, i, 0, rfl, rfl, ?_⟩⟩⟩
    show Q (.bl (decide (0 ≤ i))) H'
    rw [decide_eq_true i0]
    exact q H' sm
theorem ok_isName {f : Addr} {fd : FuncData} {k : Nat} {tk : Tok} (F : Fun K "is_name" "is_name" sIsName f fd) (mi : mg "isinstance" = none) (mst : mg "str" = none) (ml : mg "len" = none) (ma : mg "all" = none) (mL : mg "LETTERS" = some (.str letters tk)) : FnG P w K mg base (k + 1) f fd ["thing"] (prYes tName) := by
  refine okG F scIsName (fun vs H Q h => ?_) (fun cdv A outer s H vs Q hr h => ?_)
  · obtain ⟨_, rfl, _⟩ := h
    rfl
  · obtain ⟨v, rfl, ⟨c, rfl, hc⟩, q⟩ := h
    refine ⟨_, pss_cons (ps_if (PW.pt (pw_or (pt_not (pt_val (pe_callB call_isi (by rfl) mi (by decide +kernel) (pa_cons (pv 0) (pa_cons (pe_bltn (v := .ty "str") (by rfl) mst (by decide +kernel) rfl) pa_nil)))))
        (pw_or1 (pt_not (pt_chain op_le op_le pe_int (pe_callB call_len_str (by rfl) ml PySem.boot_len (pa_cons (pv 0) pa_nil)) pe_int))))) (pss_one (ps_ret pe_bl)) pss_nil)
      (pss_one (ps_ret (pe_callB (cr_all rfl) (by rfl) ma (by decide +kernel) (pa_cons (pe_lc (own := [("letter", 1)]) (g := gName 1) (tt := tYes) rfl scIsName.nd (pi_str (pv 0)) (blkOk_by (N := ["thing", "letter"]) (sc := defScope sIsName) (by decide +kernel))
        (fun _ _ _ _ _ => pg_name (i := 1) scIsName.nd rfl (.inl rfl)) (fun _ _ _ _ _ => pts_nil) (fun _ _ _ _ _ => pe_cmpR op_in_sign (pv 1) (pe_glob (v := .str letters) (by rfl) mL ⟨_, rfl⟩) (by rfl))) pa_nil)))), ?_⟩
    have h1 := hc.lo
    have h2 := hc.hi
    have big := sizeBig
    refine iSeq ?_
    refine iIfS (iOr (iNot (iB (isi_call (K := K) (i := 0) (a := "str") (b := "str") (r := true) (x := .str c.1) rfl (.base (.str c.1)) (by decide +kernel) ⟨true, rfl, iteF ?_⟩))))
    refine iNot ⟨.str c.1, rfl, c.1, rfl, by omega, 1, _, rfl, rfl, true, ?_, iteT ⟨_, 8, rfl, rfl, true, ?_, iteF ?_⟩⟩
    · show V.bl (decide ((1 : Int) ≤ (c.1.length : Int))) = _
      rw [decide_eq_true (by omega)]
    · show V.bl (decide ((c.1.length : Int) ≤ (8 : Int))) = _
      rw [decide_eq_true (by omega)]
    · refine iNext ?_
      dsimp only
      refine iRet (iCB (iCons ?_))
      refine ⟨.str c.1, rfl, c.1, rfl, fun L hL => ?_⟩
      have sz : c.1.cps.size ≤ 8 := h2
      refine lc_it (walk_str (z := c.1)) (fun i H' => Same H H' ∧ H' L = some (.lst ((List.replicate i true).map V.bl))) ⟨same_new hL, upd_same⟩ (fun _ _ _ _ => trivial) (fun i x H' H2 hi h hy => ?_) (fun H' h => ?_)
      · obtain ⟨rfl, n, hn, rfl⟩ := hy
        refine ⟨wipe1, iYes (iteT ⟨_, rfl, n, letters, rfl, rfl, _, h.2, ?_, ?_, ?_⟩)⟩
        · rw [List.length_map, List.length_replicate]
          omega
        · intro b o e
          rw [upd_ne (ne_of_none e hL)]
          exact h.1 _ _ e
        · have hm : n ∈ c.1.cps.toList := by
            have := Array.mem_of_getElem? hn
            exact Array.mem_toList_iff.mpr this
          rw [upd_same, decide_eq_true (hc.all n hm), List.replicate_succ']
          rw [List.map_append]
          rfl
      · refine ⟨L, _, rfl, sqL h.2, ?_⟩
        have : (List.replicate c.1.cps.size true).all id = true := by
          rw [List.all_eq_true]
          intro b hb
          exact List.eq_of_mem_replicate hb
        rw [this]
        exact q H' h.1
end
end P09
namespace P09
open PySem PySem.Spec PyProof.Rows L2 AskG
section
variable {P : Program} {w : World} {K : PySem.W.Frag} {mg : Str → Option Value} {base : Heap}
theorem all_true (n : Nat) : (List.replicate n true).all id = true := by
  rw [List.all_eq_true]
  intro b hb
  exact List.eq_of_mem_replicate hb
/-- [.. for x in t], each True -/
theorem lc_yesT {i a : Nat} {σ : L2.St} {H : Hp} {Q : VK} {r : Addr} {xs : List V} {te : TE}
    (hi : σ[i]? = some (some (.ref r))) (hr : H r = some (.tup xs)) (ha : a < σ.length) (hz : xs.length ≤ 1000)
    (hte : ∀ σ' H' x (Q' : VK), x ∈ xs → Same H H' → σ'[a]? = some (some x) → (∀ j, j ≠ a → σ'[j]? = σ[j]?) → (∀ H'', Same H' H'' → Q' (.bl true) H'') → te σ' H' Q')
    (q : ∀ H' L, Same H H' → H' L = some (.lst ((List.replicate xs.length true).map V.bl)) → Q (.ref L) H') :
    tLc (iTup K (tVar i)) (gName a) tYes te [a] σ H Q := by
  refine ⟨.ref r, hi, r, rfl, ⟨_, sqT hr⟩, fun L hL => ?_⟩
  refine lc_tup (xs := xs) (fun i H' => Same H H' ∧ H' L = some (.lst ((List.replicate i true).map V.bl))) ⟨same_new hL, upd_same⟩ (fun i H' _ h => sqT (h.1 _ _ hr)) (fun i x H' hx h => ?_) (fun H' h => q H' L h.1 h.2)
  have big := sizeBig
  have il := (List.getElem?_eq_some_iff.mp hx).1
  refine ⟨wipe1, iYes (iteT (hte _ _ x _ (List.mem_of_getElem? hx) h.1 (set1_at ha) (fun j hj => set1_old hj) fun H2 sm2 => ⟨_, sm2 _ _ h.2, ?_, ?_, ?_⟩))⟩
  · rw [List.length_map, List.length_replicate]
    omega
  · intro b o e
    rw [upd_ne (ne_of_none e hL)]
    exact sm2 _ _ (h.1 _ _ e)
  · rw [upd_same, List.replicate_succ', List.map_append]
    rfl
variable {fI fN fM fQ fC fW fR : Addr} {fdI fdN fdM fdQ fdC fdW fdR : FuncData}
theorem ok_isCell {f : Addr} {fd : FuncData} {k : Nat} (F : Fun K "is_cell" "is_cell" sIsCell f fd)
    (FQ : Fun K "is_pair" "is_pair" sIsPair fQ fdQ) (bQ : Binds K fdQ ["thing"] []) (gQ : mg "is_pair" = some (.ref fQ)) (GQ : FnG P w K mg base (k + 1) fQ fdQ ["thing"] (prYes tPair))
    (FM : Fun K "is_name" "is_name" sIsName fM fdM) (bM : Binds K fdM ["thing"] []) (gM : mg "is_name" = some (.ref fM)) (GM : FnG P w K mg base (k + 1) fM fdM ["thing"] (prYes tName))
    (FN : Fun K "is_number" "is_number" sIsNum fN fdN) (bN : Binds K fdN ["thing"] []) (gN : mg "is_number" = some (.ref fN)) (GN : FnG P w K mg base (k + 2) fN fdN ["thing"] (prYes tNum)) : FnG P w K mg base (k + 3) f fd ["thing"] (prYes tCellV) := by
  refine okG F scIsCell (fun vs H Q h => ?_) (fun cdv A outer s H vs Q hr h => ?_)
  · obtain ⟨_, rfl, _⟩ := h
    rfl
  · obtain ⟨v, rfl, ⟨a, c, rfl, ha, hc⟩, q⟩ := h
    have hr1 : RG (k + 1) (A.deeper (envOfC "is_cell" (defScope sIsCell) s.heap.objs.size f cdv)) := hr.mono (by omega)
    refine ⟨_, pss_one (ps_ret (pe_and (pe_g GQ hr1 (by rfl) gQ FQ.kp bQ .nil (pa_cons (pv 0) pa_nil)) (pe_and (pe_g GM hr1 (by rfl) gM FM.kp bM .nil (pa_cons (pe_ix ix_tup (pv 0) pe_int (fun _ _ => rfl)) pa_nil))
      (pe_one (pe_g GN hr (by rfl) gN FN.kp bN .nil (pa_cons (pe_ix ix_tup (pv 0) pe_int (fun _ _ => rfl)) pa_nil)))))), ?_⟩
    refine ⟨.ref a, rfl, .ref a, rfl, ⟨a, _, _, rfl, ha⟩, fun H1 s1 => ⟨true, rfl, iteT ?_⟩⟩
    refine ⟨.ref a, rfl, a, _, 0, .str c.1, rfl, rfl, sqT (s1 _ _ ha), atI_nat (j := 0) rfl, .str c.1, rfl, ⟨c, rfl, hc⟩, fun H2 s2 => ⟨true, rfl, iteT ?_⟩⟩
    refine ⟨.ref a, rfl, a, _, 1, .int c.2, rfl, rfl, sqT (s2 _ _ (s1 _ _ ha)), atI_nat (j := 1) rfl, .int c.2, rfl, ⟨c.2, rfl, hc.day⟩, fun H3 s3 => q H3 ((s1.trans s2).trans s3)⟩
theorem ok_isWt {f : Addr} {fd : FuncData} {k : Nat} (F : Fun K "is_weighted_cell" "is_weighted_cell" sIsWt f fd)
    (FQ : Fun K "is_pair" "is_pair" sIsPair fQ fdQ) (bQ : Binds K fdQ ["thing"] []) (gQ : mg "is_pair" = some (.ref fQ)) (GQ : FnG P w K mg base (k + 1) fQ fdQ ["thing"] (prYes tPair))
    (FC : Fun K "is_cell" "is_cell" sIsCell fC fdC) (bC : Binds K fdC ["thing"] []) (gC : mg "is_cell" = some (.ref fC)) (GC : FnG P w K mg base (k + 3) fC fdC ["thing"] (prYes tCellV))
    (FI : Fun K "is_integer" "is_integer" sIsInt fI fdI) (bI : Binds K fdI ["thing"] []) (gI : mg "is_integer" = some (.ref fI)) (GI : FnG P w K mg base (k + 1) fI fdI ["thing"] (prYes tInt)) : FnG P w K mg base (k + 4) f fd ["thing"] (prYes tWt) := by
  refine okG F scIsWt (fun vs H Q h => ?_) (fun cdv A outer s H vs Q hr h => ?_)
  · obtain ⟨_, rfl, _⟩ := h
    rfl
  · obtain ⟨v, rfl, ⟨a, x, rfl, ⟨b, ha, hb⟩, hn, h0⟩, q⟩ := h
    have hr1 : RG (k + 1) (A.deeper (envOfC "is_weighted_cell" (defScope sIsWt) s.heap.objs.size f cdv)) := hr.mono (by omega)
    refine ⟨_, pss_one (ps_ret (pe_and (pe_g GQ hr1 (by rfl) gQ FQ.kp bQ .nil (pa_cons (pv 0) pa_nil)) (pe_and (pe_g GC hr (by rfl) gC FC.kp bC .nil (pa_cons (pe_ix ix_tup (pv 0) pe_int (fun _ _ => rfl)) pa_nil))
      (pe_and (pe_g GI hr1 (by rfl) gI FI.kp bI .nil (pa_cons (pe_ix ix_tup (pv 0) pe_int (fun _ _ => rfl)) pa_nil)) (pe_one (pe_cmpR op_ne (pe_ix ix_tup (pv 0) pe_int (fun _ _ => rfl)) pe_int (nomark _))))))), ?_⟩
    refine ⟨.ref a, rfl, .ref a, rfl, ⟨a, _, _, rfl, ha⟩, fun H1 s1 => ⟨true, rfl, iteT ?_⟩⟩
    refine ⟨.ref a, rfl, a, _, 0, .ref b, rfl, rfl, sqT (s1 _ _ ha), atI_nat (j := 0) rfl, .ref b, rfl, ⟨b, x.1, rfl, s1 _ _ hb, hn⟩, fun H2 s2 => ⟨true, rfl, iteT ?_⟩⟩
    refine ⟨.ref a, rfl, a, _, 1, .int x.2, rfl, rfl, sqT (s2 _ _ (s1 _ _ ha)), atI_nat (j := 1) rfl, .int x.2, rfl, ⟨x.2, rfl⟩, fun H3 s3 => ⟨true, rfl, iteT ?_⟩⟩
    refine ⟨.ref a, rfl, a, _, 1, .int x.2, rfl, rfl, sqT (s3 _ _ (s2 _ _ (s1 _ _ ha))), atI_nat (j := 1) rfl, rfl, ?_⟩
    rw [decide_eq_false fun z => h0 (V.int.inj z)]
    exact q H3 ((s1.trans s2).trans s3)
theorem ok_isRow {f : Addr} {fd : FuncData} {k : Nat} (F : Fun K "is_row" "is_row" sIsRow f fd)
    (FW : Fun K "is_weighted_cell" "is_weighted_cell" sIsWt fW fdW) (bW : Binds K fdW ["thing"] []) (gW : mg "is_weighted_cell" = some (.ref fW)) (GW : FnG P w K mg base (k + 4) fW fdW ["thing"] (prYes tWt))
    (mi : mg "isinstance" = none) (mt : mg "tuple" = none) (ma : mg "all" = none) (mz : mg "zip" = none) : FnG P w K mg base (k + 5) f fd ["thing"] (prYes tRow) := by
  refine okG F scIsRow (fun vs H Q h => ?_) (fun cdv A outer s H vs Q hr h => ?_)
  · obtain ⟨_, rfl, _⟩ := h
    rfl
  · obtain ⟨v, rfl, ⟨a, ρ, rfl, ⟨ps, ha, hp⟩, ok, hl, hn⟩, q⟩ := h
    have hu := hr.room.units0
    refine ⟨_, pss_cons (ps_if (PW.pt (pw_or (pt_not (pt_val (pe_callB call_isi (by rfl) mi (by decide +kernel) (pa_cons (pv 0) (pa_cons (pe_bltn (v := .ty "tuple") (by rfl) mt (by decide +kernel) rfl) pa_nil)))))
        (pw_or1 (pt_not (pt_val (pe_callB (cr_all rfl) (by rfl) ma (by decide +kernel) (pa_cons (pe_lc (own := [("item", 2)]) (g := gName 2) (tt := tYes) rfl scIsRow.nd (pi_tup (pv 0)) (blkOk_by (N := ["thing", "cells", "item", "cell", "weight", "one", "other"]) (sc := defScope sIsRow) (by decide +kernel))
          (fun _ _ _ _ _ => pg_name (i := 2) scIsRow.nd rfl (.inl rfl)) (fun _ _ _ _ _ => pts_nil) (fun _ _ _ _ _ => pe_g GW hr (by rfl) gW FW.kp bW .nil (pa_cons (pv 2) pa_nil))) pa_nil))))))) (pss_one (ps_ret pe_bl)) pss_nil)
      (pss_cons (ps_setLc (i := 1) (own := [("cell", 3), ("weight", 4)]) (g := g2 K 3 4) (tt := tYes) rfl scIsRow.nd rfl rfl (sw_true rfl rfl rfl (by decide +kernel)) (pi_tup (pv 0))
        (blkOk_by (N := ["thing", "cells", "item", "cell", "weight", "one", "other"]) (sc := defScope sIsRow) (by decide +kernel)) (fun _ _ _ _ _ => pg_tup rfl (pgs_cons (pg_name (i := 3) scIsRow.nd rfl (.inl rfl)) (pgs_cons (pg_name (i := 4) scIsRow.nd rfl (.inl rfl)) pgs_nil))) (fun _ _ _ _ _ => pts_nil) (fun _ _ _ _ _ => pv 3))
      (pss_one (ps_ret (pe_callB (cr_all rfl) (by rfl) ma (by decide +kernel) (pa_cons (pe_lc (own := [("one", 5), ("other", 6)]) (g := g2 K 5 6) (tt := tYes) rfl scIsRow.nd (pi_zip (by rfl) mz (pa_cons (pv 1) (pa_cons (pe_slice sl_list (pv 1) (po_some pe_int) po_none) pa_nil)))
        (blkOk_by (N := ["thing", "cells", "item", "cell", "weight", "one", "other"]) (sc := defScope sIsRow) (by decide +kernel)) (fun _ _ _ _ _ => pg_tup rfl (pgs_cons (pg_name (i := 5) scIsRow.nd rfl (.inl rfl)) (pgs_cons (pg_name (i := 6) scIsRow.nd rfl (.inl rfl)) pgs_nil))) (fun _ _ _ _ _ => pts_nil)
        (fun _ _ _ _ _ => pe_cmpR (op_ltC hu) (pv 5) (pv 6) (nomark _))) pa_nil))))), ?_⟩
    have big := sizeBig
    have pl : ps.length = ρ.length := Paired.length hp
    refine iSeq ?_
    refine iIfS (iOr (iNot (iB (isi_call (K := K) (i := 0) (a := "tuple") (b := "tuple") (r := true) (x := .ref a) rfl (.base (.tup ha)) (by decide +kernel) ⟨true, rfl, iteF ?_⟩))))
    refine iNot (iB (iCB (iCons ?_)))
    refine lc_yesT (K := K) (i := 0) (a := 2) (σ := [some (.ref a), none, none, none, none, none, none]) (xs := ps.map V.ref) rfl ha (by show 2 < 7; decide) (by rw [List.length_map]; omega) (fun σ' H' x Q' hx sm h2 hj hq => ?_) (fun H1 L s1 hL => ?_)
    · obtain ⟨p, hpm, rfl⟩ := List.mem_map.mp hx
      obtain ⟨i, hi⟩ := List.getElem?_of_mem hpm
      obtain ⟨y, hy, hpy⟩ := paired_at' hp hi
      exact ⟨.ref p, h2, .ref p, rfl, ⟨p, y, rfl, hpy.keep (KeepT.of sm), hn y (List.mem_of_getElem? hy), ok.nz y (List.mem_of_getElem? hy)⟩, hq⟩
    · refine ⟨L, _, rfl, sqL hL, true, ?_, iteF ?_⟩
      · rw [all_true]
      · refine iNext ?_
        dsimp only
        refine iSeq (iAsg ?_)
        refine ⟨.ref a, rfl, a, rfl, ⟨_, sqT (s1 _ _ ha)⟩, fun C hC => ?_⟩
        refine lc_tup (xs := ps.map V.ref) (fun i H' => Same H1 H' ∧ ∃ bs, H' C = some (.lst (bs.map V.ref)) ∧ Paired (CellAt H') bs ((keys ρ).take i) ∧ bs.length ≤ i) ⟨same_new hC, [], upd_same, .nil, Nat.le_refl _⟩ (fun i H' _ h => sqT (h.1 _ _ (s1 _ _ ha))) (fun i x H' hx h => ?_) (fun H2 h => ?_)
        · obtain ⟨sm, bs, hbs, hbp, hbl⟩ := h
          rw [List.getElem?_map] at hx
          cases hpi : ps[i]? with
          | none =>
            rw [hpi] at hx
            cases hx
          | some p =>
            rw [hpi] at hx
            have ex : V.ref p = x := Option.some.inj hx
            subst ex
            have il := (List.getElem?_eq_some_iff.mp hpi).1
            obtain ⟨y, hy, b, h1, h2⟩ := paired_at' hp hpi
            have k1 := (KeepT.of s1).trans (KeepT.of sm)
            have T := turn2 (σ := [some (.ref a), none, none, none, none, none, none]) (a := 3) (b := 4) (v := .ref b) (w := .int y.2) (by show 3 < 7; decide) (by show 4 < 7; decide) (by decide)
            refine ⟨p, [.ref b, .int y.2], rfl, sqT (k1 _ _ h1), rfl, .ref b, [.int y.2], rfl, .int y.2, [], rfl, rfl, ?_⟩
            refine ⟨wipe2 (by decide), iYes (iteT ⟨.ref b, T.fst, _, hbs, by rw [List.length_map]; omega, ?_, bs ++ [b], ?_, ?_, ?_⟩)⟩
            · intro b' o e
              rw [upd_ne (ne_of_none e hC)]
              exact sm _ _ e
            · rw [upd_same, List.map_append]
              rfl
            · have k2 : KeepT H' (upd H' C (.lst (bs.map V.ref ++ [.ref b]))) := KeepT.put hbs fun _ z => nomatch z
              have e : (keys ρ).take (i + 1) = (keys ρ).take i ++ [y.1] := by
                unfold keys
                rw [List.take_add_one, List.getElem?_map, hy]
                rfl
              rw [e]
              exact Paired.snoc (Paired.mapP hbp fun _ _ z => z.keep k2) ((h2.keep k1).keep k2)
            · rw [List.length_append]
              show bs.length + 1 ≤ i + 1
              omega
        · obtain ⟨s2, bs, hbs, hbp, hbl⟩ := h
          have ek : (keys ρ).take (ps.map V.ref).length = keys ρ := List.take_of_length_le (by unfold keys; rw [List.length_map, List.length_map]; omega)
          rw [ek] at hbp
          have kl : bs.length = ρ.length := by
            rw [Paired.length hbp]
            exact List.length_map _
          refine iName ?_
          dsimp only
          refine iRet (iCB (iCons ?_))
          refine ⟨.ref C, rfl, .ref C, rfl, 1, rfl, C, bs.map V.ref, rfl, sqL hbs, fun E hE => ?_⟩
          have ed : cutV (bs.map V.ref) (some 1) none = (bs.drop 1).map V.ref := by
            unfold cutV
            rw [show HT.sIx (bs.map V.ref).length 0 (some 1) = min 1 (bs.map V.ref).length from HT.sIx_nat _ 0 1, HT.sIx_none, List.length_map]
            cases bs with
            | nil => rfl
            | cons x r =>
              rw [show min 1 (x :: r).length = 1 by
                rw [List.length_cons]
                omega]
              show (List.take ((x :: r).length - 1) (r.map V.ref)) = r.map V.ref
              rw [List.length_cons, Nat.add_sub_cancel]
              exact List.take_of_length_le (by rw [List.length_map]; exact Nat.le_refl _)
          rw [ed]
          have s3 : Same H2 (upd H2 E (.lst ((bs.drop 1).map V.ref))) := same_new hE
          refine ⟨C, E, bs.map V.ref, (bs.drop 1).map V.ref, rfl, sqL (s3 _ _ hbs), sqL upd_same, fun L3 hL3 => ?_⟩
          have hE3 : (upd H2 E (.lst ((bs.drop 1).map V.ref))) E = some (.lst ((bs.drop 1).map V.ref)) := upd_same
          have hb3 : Paired (CellAt (upd H2 E (.lst ((bs.drop 1).map V.ref)))) bs (keys ρ) := Paired.mapP hbp fun _ _ z => z.keep (KeepT.of s3)
          have hC3 := s3 _ _ hbs
          generalize upd H2 E (.lst ((bs.drop 1).map V.ref)) = H3 at s3 hE3 hb3 hC3 hL3 ⊢
          refine lc_it (walk_zip (K := K) (a := C) (b := E) (xs := bs.map V.ref) (ys := (bs.drop 1).map V.ref) (n := bs.length - 1) (by rw [List.length_map, List.length_map, List.length_drop]; omega)) (fun i H' => Same H3 H' ∧ H' L3 = some (.lst ((List.replicate i true).map V.bl))) ⟨same_new hL3, upd_same⟩ (fun i H' _ h => ⟨sqL (h.1 _ _ hC3), sqL (h.1 _ _ hE3)⟩) (fun i x H' H4 hi h hy => ?_) (fun H4 h => ?_)
          · obtain ⟨T, x1, x2, rfl, hT, rfl, f1, f2⟩ := hy
            have f1 : (bs.map V.ref)[i]? = some x1 := f1
            have f2 : ((bs.drop 1).map V.ref)[i]? = some x2 := f2
            have i1 : i < bs.length := by omega
            have i2 : i + 1 < bs.length := by omega
            have e1 : x1 = .ref bs[i] := by
              rw [List.getElem?_map, List.getElem?_eq_getElem i1] at f1
              exact (Option.some.inj f1).symm
            have e2 : x2 = .ref bs[i + 1] := by
              rw [List.getElem?_map, List.getElem?_drop, Nat.add_comm 1 i, List.getElem?_eq_getElem i2] at f2
              exact (Option.some.inj f2).symm
            subst e1 e2
            obtain ⟨c1, hc1, hk1⟩ := paired_at' hb3 (List.getElem?_eq_getElem i1)
            obtain ⟨c2, hc2, hk2⟩ := paired_at' hb3 (List.getElem?_eq_getElem i2)
            have lt : ltC c1 c2 = true := by
              obtain ⟨g1, e1⟩ := List.getElem?_eq_some_iff.mp hc1
              obtain ⟨g2, e2⟩ := List.getElem?_eq_some_iff.mp hc2
              rw [← e1, ← e2]
              exact List.pairwise_iff_getElem.mp ok.up i (i + 1) g1 g2 (by omega)
            have sT : Same H' (upd H' T (.tup [.ref bs[i], .ref bs[i + 1]])) := same_new hT
            have kT := (KeepT.of h.1).trans (KeepT.of sT)
            have Tn := turn2 (σ := [some (.ref a), some (.ref C), none, none, none, none, none]) (a := 5) (b := 6) (v := .ref bs[i]) (w := .ref bs[i + 1]) (by show 5 < 7; decide) (by show 6 < 7; decide) (by decide)
            refine ⟨T, [.ref bs[i], .ref bs[i + 1]], rfl, sqT upd_same, rfl, .ref bs[i], [.ref bs[i + 1]], rfl, .ref bs[i + 1], [], rfl, rfl, ?_⟩
            refine ⟨wipe2 (by decide), iYes (iteT ⟨.ref bs[i], Tn.fst, .ref bs[i + 1], Tn.snd, bs[i], bs[i + 1], c1, c2, rfl, rfl, hk1.keep kT, hk2.keep kT, _, sT _ _ h.2, ?_, ?_, ?_⟩)⟩
            · rw [List.length_map, List.length_replicate]
              omega
            · intro b o e
              rw [upd_ne (ne_of_none e hL3)]
              exact sT _ _ (h.1 _ _ e)
            · rw [upd_same, lt, List.replicate_succ', List.map_append]
              rfl
          · refine ⟨L3, _, rfl, sqL h.2, ?_⟩
            rw [all_true]
            exact q H4 (((s1.trans s2).trans s3).trans h.1)
theorem ok_areRows {f : Addr} {fd : FuncData} {k : Nat} (F : Fun K "are_rows" "are_rows" sAreRows f fd)
    (FR : Fun K "is_row" "is_row" sIsRow fR fdR) (bR : Binds K fdR ["thing"] []) (gR : mg "is_row" = some (.ref fR)) (GR : FnG P w K mg base (k + 5) fR fdR ["thing"] (prYes tRow))
    (mi : mg "isinstance" = none) (mt : mg "tuple" = none) (ma : mg "all" = none) : FnG P w K mg base (k + 6) f fd ["thing"] (prYes tRows) := by
  refine okG F scAreRows (fun vs H Q h => ?_) (fun cdv A outer s H vs Q hr h => ?_)
  · obtain ⟨_, rfl, _⟩ := h
    rfl
  · obtain ⟨v, rfl, ⟨a, ρs, rfl, ⟨rs, ha, hp⟩, hl, hn⟩, q⟩ := h
    refine ⟨_, pss_one (ps_ret (pe_and (pe_callB call_isi (by rfl) mi (by decide +kernel) (pa_cons (pv 0) (pa_cons (pe_bltn (v := .ty "tuple") (by rfl) mt (by decide +kernel) rfl) pa_nil)))
      (pe_one (pe_callB (cr_all rfl) (by rfl) ma (by decide +kernel) (pa_cons (pe_lc (own := [("item", 1)]) (g := gName 1) (tt := tYes) rfl scAreRows.nd (pi_tup (pv 0)) (blkOk_by (N := ["thing", "item"]) (sc := defScope sAreRows) (by decide +kernel))
          (fun _ _ _ _ _ => pg_name (i := 1) scAreRows.nd rfl (.inl rfl)) (fun _ _ _ _ _ => pts_nil) (fun _ _ _ _ _ => pe_g GR hr (by rfl) gR FR.kp bR .nil (pa_cons (pv 1) pa_nil))) pa_nil))))), ?_⟩
    have pl : rs.length = ρs.length := Paired.length hp
    refine iRet (iAndV (isi_call (K := K) (i := 0) (a := "tuple") (b := "tuple") (r := true) (x := .ref a) rfl (.base (.tup ha)) (by decide +kernel) ⟨true, rfl, iteT ?_⟩))
    refine iCB (iCons ?_)
    refine lc_yesT (K := K) (i := 0) (a := 1) (σ := [some (.ref a), none]) (xs := rs.map V.ref) rfl ha (by show 1 < 2; decide) (by rw [List.length_map]; omega) (fun σ' H' x Q' hx sm h2 hj hq => ?_) (fun H1 L s1 hL => ?_)
    · obtain ⟨p, hpm, rfl⟩ := List.mem_map.mp hx
      obtain ⟨i, hi⟩ := List.getElem?_of_mem hpm
      obtain ⟨ρ, hρ, hrow⟩ := paired_at' hp hi
      obtain ⟨o1, o2, o3⟩ := hn ρ (List.mem_of_getElem? hρ)
      exact ⟨.ref p, h2, .ref p, rfl, ⟨p, ρ, rfl, hrow.keep (KeepT.of sm), o1, o2, o3⟩, hq⟩
    · refine ⟨L, _, rfl, sqL hL, ?_⟩
      rw [all_true]
      exact q H1 s1
end
end P09
namespace P09
open PySem PySem.Spec PyProof.Rows L2 AskG
abbrev sCells : Stmt := topS 26
theorem scCells : FnScope ["_law_system_here", "_law_found", "_law_line_here", "_law_pair"] ["_law_system_here"] (defScope sCells) := ⟨rfl, rfl, rfl, by decide +kernel, rfl, by decide +kernel, by decide +kernel⟩
abbrev sFacts : Stmt := topS 27
theorem scFacts : FnScope ["_law_feed_here", "_law_cells", "_law_weights", "_law_cell"] ["_law_feed_here", "_law_cells"] (defScope sFacts) := ⟨rfl, rfl, rfl, by decide +kernel, rfl, by decide +kernel, by decide +kernel⟩
/-- all cells that the law uses -/
def allC : List Cell := ((List.range 10).map fun (i : Nat) => (("a" : Str), 0 + (i : Int))) ++ ((List.range 10).map fun (i : Nat) => (("b" : Str), 0 + (i : Int))) ++ ((List.range 10).map fun (i : Nat) => (("zzzzzzzz" : Str), 0 + (i : Int)))
theorem allC_nodup : allC.Nodup := by decide +kernel
theorem allC_len : allC.length = 30 := by decide +kernel
theorem allC_cells : ∀ c ∈ allC, CellOk c := by
  have h : allC.all cellB = true := by decide +kernel
  exact fun c hc => cellOk_of (List.all_eq_true.mp h c hc)
theorem allC_names : ∀ c ∈ allC, NameOk c := by
  have h : allC.all nameB = true := by decide +kernel
  exact fun c hc => nameOk_of (List.all_eq_true.mp h c hc)
theorem places_in : ∀ c ∈ places, c ∈ allC := by decide +kernel
theorem b9_in : ((("b" : Str), (9 : Int)) : Cell) ∈ allC := by decide +kernel
abbrev Dr (B : Int) (ρ : RowD) : Prop := DrawnR allC B ρ
theorem Dr.of {B : Int} {ρ : RowD} (h : DrawnR places B ρ) : Dr B ρ := ⟨h.ok, fun c hc => places_in c (h.on c hc), h.lit⟩
theorem Dr.len {B : Int} {ρ : RowD} (h : Dr B ρ) : ρ.length ≤ 30 := by
  have := h.many
  rw [allC_len] at this
  exact this
section
variable {P : Program} {w : World} {K : PySem.W.Frag} {mg : Str → Option Value} {base : Heap}
/-- the keys are cells of the law -/
def KeysIn (kvs : List (List Key × V)) : Prop := ∃ cs : List Cell, kvs.map (·.1) = cs.map ck ∧ ∀ c ∈ cs, c ∈ allC
theorem keysIn_put {kvs : List (List Key × V)} (h : KeysIn kvs) {c : Cell} (hc : c ∈ allC) (v : V) : KeysIn (putK kvs (ck c) v) := by
  obtain ⟨cs, h1, h2⟩ := h
  unfold putK
  by_cases g : (kvs.any fun kv => decide (kv.1 = ck c)) = true
  · rw [if_pos g]
    refine ⟨cs, ?_, h2⟩
    rw [← h1, List.map_map]
    refine List.map_congr_left fun x _ => ?_
    show (if x.1 = ck c then (x.1, v) else x).1 = x.1
    split <;> rfl
  · rw [if_neg g]
    refine ⟨cs ++ [c], ?_, fun d hd => ?_⟩
    · rw [List.map_append, List.map_append, h1]
      rfl
    · rcases List.mem_append.mp hd with hd | hd
      · exact h2 d hd
      · rw [List.mem_singleton.mp hd]
        exact hc
theorem keysIn_all : ∀ {ρ : RowD} {kvs : List (List Key × V)}, KeysIn kvs → (∀ x ∈ ρ, x.1 ∈ allC) → KeysIn (putAll kvs (ρ.map fun x => (ck x.1, V.bl true)))
  | [], _, h, _ => h
  | x :: ρ, _, h, g => keysIn_all (ρ := ρ) (keysIn_put h (g x List.mem_cons_self) _) fun y hy => g y (List.mem_cons_of_mem _ hy)
def prCells : Pr := fun vs H Q => ∃ (a : Addr) (ρs : List RowD), vs = [.ref a] ∧ SysAt H a ρs ∧ ρs.length ≤ 7 ∧ (∀ ρ ∈ ρs, ρ.length ≤ 30 ∧ ∀ x ∈ ρ, x.1 ∈ allC) ∧
  ∀ H' p cs, Same H H' → CellsAt H' p cs → (∀ c ∈ cs, c ∈ allC) → cs.length ≤ 800 → Q (.ref p) H'
theorem ok_cells {f : Addr} {fd : FuncData} {k : Nat} (F : Fun K "_law_cells_of" "_law_cells_of" sCells f fd) (ms : mg "sorted" = none) : FnG P w K mg base (k + 1) f fd ["_law_system_here"] prCells := by
  refine okG F scCells (fun vs H Q h => ?_) (fun cdv A outer s H vs Q hr h => ?_)
  · obtain ⟨_, _, rfl, _⟩ := h
    rfl
  · obtain ⟨a, ρs, rfl, ⟨rs, ha, hrr⟩, hl, hin, q⟩ := h
    refine ⟨_, pss_cons (ps_set (i := 1) scCells.nd rfl (.inl rfl) pe_dnewT)
      (pss_cons (ps_for PassesOwn.never rfl (pi_tup (pv 0)) (pg_name (i := 2) scCells.nd rfl (.inl rfl))
        (pss_one (ps_expr (pe_bm PySem.F.plainAttrs_dict PySem.F.slot_dict_update PySem.F.type_dict_update (mt_updT rfl hr.room) (pv 1) (pa_cons
          (pe_lc (own := [("_law_pair", 3)]) (g := gName 3) (tt := tYes) rfl scCells.nd (pi_tup (pv 2)) (blkOk_by (N := ["_law_system_here", "_law_found", "_law_line_here", "_law_pair"]) (sc := defScope sCells) (by decide +kernel))
            (fun _ _ _ _ _ => pg_name (i := 3) scCells.nd rfl (.inl rfl)) (fun _ _ _ _ _ => pts_nil) (fun _ _ _ _ _ => pe_tup (pa_cons (pe_ix (ix_tup : IxR _ (rIxT K)) (pv 3) pe_int (fun _ _ => rfl)) (pa_cons pe_bl pa_nil)))) pa_nil)))))
      (pss_one (ps_ret (pe_callB (cr_sortT rfl) (by rfl) ms (by decide +kernel) (pa_cons (pv 1) pa_nil))))), ?_⟩
    have big := sizeBig
    have rl : rs.length = ρs.length := Paired.length hrr
    refine iSeq (iAsg (fun D hD => ?_))
    have s0 : Same H (upd H D (.dT [])) := same_new hD
    refine iName ?_
    dsimp only
    refine iSeq ?_
    refine ⟨.ref a, rfl, a, rfl, ⟨_, sqT (s0 _ _ ha)⟩, ?_⟩
    refine for_tup (K := K) (xs := rs.map V.ref) (fun i σ' H' => (∃ v2, σ' = [some (.ref a), some (.ref D), v2, none]) ∧ Same H H' ∧ ∃ kvs, H' D = some (.dT kvs) ∧ KeysIn kvs ∧ kvs.length ≤ 30 * i) ⟨⟨none, rfl⟩, s0, [], upd_same, ⟨[], rfl, fun _ h => absurd h (by simp)⟩, Nat.zero_le _⟩ (fun i σ' H' _ h => sqT (h.2.1 _ _ ha)) (fun i x σ' H' hx h => ?_) (fun σ' H' h => ?_)
    · rw [List.getElem?_map] at hx
      cases hri : rs[i]? with
      | none =>
        rw [hri] at hx
        cases hx
      | some r =>
        rw [hri] at hx
        have ex : V.ref r = x := Option.some.inj hx
        subst ex
        obtain ⟨⟨v2, rfl⟩, sm, kvs, hk, hki, hkl⟩ := h
        have il := (List.getElem?_eq_some_iff.mp hri).1
        obtain ⟨ρ, hρ, qs, hq, hp⟩ := paired_at' hrr hri
        obtain ⟨l30, hcs⟩ := hin ρ (List.mem_of_getElem? hρ)
        have hq' := sm _ _ hq
        refine iName ?_
        refine ⟨.ref D, rfl, .inr (.inr (.inl ⟨rfl, .inr ⟨_, hk⟩⟩)), ?_⟩
        refine iCons ?_
        refine ⟨.ref r, rfl, r, rfl, ⟨_, sqT hq'⟩, fun L hL => ?_⟩
        refine lc_tup (xs := qs.map V.ref) (fun i H2 => Same H' H2 ∧ ∃ ts, H2 L = some (.lst (ts.map V.ref)) ∧ Paired (PairAt' K H2) ts ((ρ.take i).map fun x => (ck x.1, V.bl true)) ∧ (∀ t ∈ ts, H' t = none ∧ t ≠ L ∧ ∃ o, H2 t = some o) ∧ ts.length ≤ i) ⟨same_new hL, [], upd_same, .nil, fun _ h => absurd h (by simp), Nat.le_refl _⟩ (fun i H2 _ h => sqT (h.1 _ _ hq')) (fun j y H2 hy h => ?_) (fun H2 h => ?_)
        · obtain ⟨sm2, ts, hts, htp, htn, htl⟩ := h
          rw [List.getElem?_map] at hy
          cases hqj : qs[j]? with
          | none =>
            rw [hqj] at hy
            cases hy
          | some p =>
            rw [hqj] at hy
            have ey : V.ref p = y := Option.some.inj hy
            subst ey
            have jl := (List.getElem?_eq_some_iff.mp hqj).1
            have ql : qs.length = ρ.length := Paired.length hp
            obtain ⟨z, hz, b, h1, h2⟩ := paired_at' hp hqj
            have k2 := (KeepT.of sm).trans (KeepT.of sm2)
            refine ⟨wipe1, iYes (iteT ⟨.ref p, rfl, p, _, 0, .ref b, rfl, rfl, sqT (k2 _ _ h1), atI_nat (j := 0) rfl, by show 2 ≤ sizeLine; decide, fun t ht => ?_⟩)⟩
            have s3 : Same H2 (upd H2 t (.tup [.ref b, .bl true])) := same_new ht
            have hts3 := s3 _ _ hts
            have ntL : t ≠ L := (ne_of_none hts ht).symm
            have k3 : KeepT H2 (upd (upd H2 t (.tup [.ref b, .bl true])) L (.lst (ts.map V.ref ++ [.ref t]))) := (KeepT.of s3).trans (KeepT.put hts3 fun _ z => nomatch z)
            refine ⟨_, hts3, by rw [List.length_map]; omega, ?_, ts ++ [t], ?_, ?_, fun u hu => ?_, ?_⟩
            · intro b' o e
              rw [upd_ne (ne_of_none e hL)]
              exact s3 _ _ (sm2 _ _ e)
            · rw [upd_same, List.map_append]
              rfl
            · rw [List.take_add_one, hz, List.map_append]
              refine Paired.snoc (Paired.mapP htp fun p kv h => ?_) ⟨b, ?_, k3 _ _ (k2 _ _ h2)⟩
              · obtain ⟨bb, g1, g2⟩ := h
                refine ⟨bb, ?_, k3 _ _ g2⟩
                rcases g1 with (g1 | ⟨o, g1⟩) | g1
                · exact .inl (.inl (k3 _ _ g1))
                · refine .inl (.inr ⟨o, ?_⟩)
                  have npL : p ≠ L := ne_of g1 hts fun z => nomatch z
                  rw [upd_ne npL]
                  exact s3 _ _ g1
                · exact .inr g1
              · refine sqT ?_
                rw [upd_ne ntL, upd_same]
            · rcases List.mem_append.mp hu with hu | hu
              · obtain ⟨g1, g2, o, g3⟩ := htn u hu
                refine ⟨g1, g2, o, ?_⟩
                rw [upd_ne g2]
                exact s3 _ _ g3
              · rw [List.mem_singleton.mp hu]
                refine ⟨sm2.free ht, ntL, .tup [.ref b, .bl true], ?_⟩
                rw [upd_ne ntL]
                exact upd_same
            · rw [List.length_append]
              show ts.length + 1 ≤ j + 1
              omega
        · obtain ⟨sm2, ts, hts, htp, htn, htl⟩ := h
          have e : ρ.take (qs.map V.ref).length = ρ := List.take_of_length_le (by rw [List.length_map, Paired.length hp]; exact Nat.le_refl _)
          rw [e] at htp
          have ml : (ρ.map fun x => (ck x.1, V.bl true)).length = ρ.length := List.length_map _
          have i7 : i < 7 := by omega
          try dsimp only
          refine iNil ?_
          try dsimp only
          refine ⟨D, L, ts, kvs, _, rfl, rfl, sm2 _ _ hk, hts, htp, fun p hp' => ?_, by rw [ml]; omega, ?_⟩
          · intro e
            have := (htn p hp').1
            rw [e, hk] at this
            cases this
          · refine ⟨⟨_, rfl⟩, fun b o e => ?_, _, upd_same, keysIn_all hki hcs, ?_⟩
            · have nb : b ≠ D := ne_of_none e hD
              rw [upd_ne nb]
              exact sm2 _ _ (sm _ _ e)
            · have := length_putAll (ρ.map fun x => (ck x.1, V.bl true)) kvs
              rw [ml] at this
              omega
    · obtain ⟨⟨v2, rfl⟩, sm, kvs, hk, ⟨cs, hc1, hc2⟩, hkl⟩ := h
      dsimp only
      refine ⟨.ref D, rfl, D, kvs, cs, rfl, .inl hk, hc1, fun ys bs p hp hup hbs hpn => ?_⟩
      have cl : cs.length = kvs.length := by
        have := congrArg List.length hc1
        rw [List.length_map, List.length_map] at this
        exact this.symm
      rw [List.length_map] at hkl
      refine q _ p ys (sm.trans (same_new hpn)) ⟨bs, upd_same, Paired.mapP hbs fun _ _ z => z.keep (KeepT.new hpn)⟩ (fun c hc => hc2 c (hp.mem_iff.mp hc)) ?_
      rw [hp.length_eq]
      omega

/-! ### facts -/
theorem for_fillD {iw ic : Nat} {σ : L2.St} {H : Hp} {Dn : Ends} {Dd F L p : Addr} {cs : List Cell} {B : Int} {tv : TE}
    (hiw : σ[iw]? = some (some (.ref Dd))) (wc : iw ≠ ic) (hc : ic < σ.length) (C : CellsAt H p cs) (hz : cs.length ≤ 2000) (hD : H Dd = some (.dT [])) (hF : FeedAt H F L)
    (htv : ∀ (σ' : L2.St) (H' : Hp) (Q : VK), (∀ j, j ≠ ic → σ'[j]? = σ[j]?) → FeedAt H' F L → (∀ x H'', -B ≤ x → x ≤ B → KeepF F H' H'' → FeedAt H'' F L → Q (.int x) H'') → tv σ' H' Q)
    (q : ∀ σ' H' m, (∀ j, j ≠ ic → σ'[j]? = σ[j]?) → (∀ b o, b ≠ F → b ≠ Dd → H b = some o → H' b = some o) → FeedAt H' F L → H' Dd = some (.dT (dk m)) → (keys m).Nodup → (∀ c ∈ keys m, c ∈ cs) → (∀ x ∈ m, -B ≤ x.2 ∧ x.2 ≤ B) → m.length ≤ cs.length → Dn.nx σ' H') :
    ∃ W : Nat → Nat → L2.St → Hp → Prop, (∃ m, W 0 m σ H) ∧ ∀ i m σ H, W i m σ H →
      ((Itl K p).stop i H ∧ Dn.nx σ H) ∨ ((Itl K p).go i H ∧ ∃ N : L2.St → Hp → Prop, (∀ σ' H', N σ' H' → ∃ m', m' < m ∧ W (i + 1) m' σ' H') ∧ ∀ x H', (Itl K p).yld i H x H' → gName ic x σ H' fun σ2 H2 => sDPut (tVar iw) (tVar ic) tv { Dn with nx := N, ct := N, bk := Dn.nx } σ2 H2) := by
  obtain ⟨bs, hp, hb⟩ := C
  have nDF : Dd ≠ F := by
    obtain ⟨_, _, _, _, h, _⟩ := hF
    exact ne_of hD h fun z => nomatch z
  have npF : p ≠ F := by
    obtain ⟨_, _, _, _, h, _⟩ := hF
    exact ne_of hp h fun z => nomatch z
  have npD : p ≠ Dd := ne_of hp hD fun z => nomatch z
  refine for_list (K := K) (a := p) (xs := bs.map V.ref) (fun i σ' H' => (∀ j, j ≠ ic → σ'[j]? = σ[j]?) ∧ σ'.length = σ.length ∧ (∀ b o, b ≠ F → b ≠ Dd → H b = some o → H' b = some o) ∧ FeedAt H' F L ∧
      ∃ m, H' Dd = some (.dT (dk m)) ∧ (keys m).Nodup ∧ (∀ c ∈ keys m, c ∈ cs) ∧ (∀ x ∈ m, -B ≤ x.2 ∧ x.2 ≤ B) ∧ m.length ≤ i)
    ⟨fun _ _ => rfl, rfl, fun _ _ _ _ e => e, hF, [], hD, List.nodup_nil, fun x hx => absurd hx (by simp [keys]), fun x hx => absurd hx (by simp), Nat.le_refl _⟩ (fun i σ' H' _ h => sqL (h.2.2.1 _ _ npF npD hp)) (fun i x σ' H' hx h => ?_) (fun σ' H' h => ?_)
  · obtain ⟨hj, hl, kp, hF', m, hD', hm, hmc, hB, hml⟩ := h
    rw [List.getElem?_map] at hx
    cases hbi : bs[i]? with
    | none =>
      rw [hbi] at hx
      cases hx
    | some b =>
      rw [hbi] at hx
      have ex : V.ref b = x := Option.some.inj hx
      subst ex
      obtain ⟨c, hci, hcb⟩ := paired_at' hb hbi
      have i1 : i < cs.length := (List.getElem?_eq_some_iff.mp hci).1
      have hj' : ∀ j, j ≠ ic → (σ'.set ic (some (.ref b)))[j]? = σ[j]? := fun j h => by
        rw [List.getElem?_set_ne (fun e => h e.symm)]
        exact hj j h
      refine htv _ _ _ hj' hF' fun y H2 y1 y2 k2 hF2 => ?_
      have kt2 : KeepT H' H2 := k2.tup hF'
      have hcb2 : CellAt H2 b c := by
        have nbF : b ≠ F := by
          obtain ⟨_, _, _, _, h, _⟩ := hF
          exact ne_of hcb h fun z => nomatch z
        exact kt2 _ _ (kp _ _ nbF (ne_of hcb hD fun z => nomatch z) hcb)
      have hD2 : H2 Dd = some (.dT (dk m)) := k2 _ _ nDF hD'
      have big := sizeBig
      refine ⟨.ref Dd, by rw [hj' iw wc]; exact hiw, .ref b, List.getElem?_set_self (by rw [hl]; exact hc), Dd, _, rfl, DPut.t (k := ck c) hD2 (by rw [ck_kV]; exact hcb2) (by rw [dk_length]; omega), ?_⟩
      refine ⟨hj', by rw [List.length_set]; exact hl, fun b' o' h1 h2 e => ?_, ?_, putC m c y, ?_, nodup_put hm c y, fun d hd => ?_, fun x hx => ?_, ?_⟩
      · rw [upd_ne h2]
        exact k2 _ _ h1 (kp _ _ h1 h2 e)
      · obtain ⟨ns, a, l, n', h1, h2⟩ := hF2
        refine ⟨ns, a, l, n', ?_, ?_⟩
        · rw [upd_ne nDF.symm]
          exact h1
        · rw [upd_ne (ne_of h2 hD2 fun z => nomatch z)]
          exact h2
      · rw [upd_same, dk_put]
      · rw [keys_put] at hd
        by_cases e : c ∈ keys m
        · rw [if_pos e] at hd
          exact hmc d hd
        · rw [if_neg e] at hd
          rcases List.mem_append.mp hd with hd | hd
          · exact hmc d hd
          · rw [List.mem_singleton.mp hd]
            exact List.mem_of_getElem? hci
      · rcases mem_put hx with h | h
        · exact hB x h
        · rw [h]
          exact ⟨y1, y2⟩
      · have := length_put m c y
        omega
  · obtain ⟨hj, hl, kp, hF', m, hD', hm, hmc, hB, hml⟩ := h
    rw [List.length_map, Paired.length hb] at hml
    exact q σ' H' m hj kp hF' hD' hm hmc hB hml
def prFacts : Pr := fun vs H Q => ∃ F L p cs, vs = [.ref F, .ref p] ∧ FeedAt H F L ∧ CellsAt H p cs ∧ cs.length ≤ 900 ∧ (∀ c ∈ cs, c ∈ allC) ∧ ∀ H' r ρ, KeepF F H H' → FeedAt H' F L → RowAt H' r ρ → Dr 10000 ρ → Q (.ref r) H'
variable {fD fT : Addr} {fdD fdT : FuncData}
theorem ok_facts {f : Addr} {fd : FuncData} {k : Nat} (F : Fun K "_law_facts" "_law_facts" sFacts f fd)
    (FD : Fun K "_law_draw" "_law_draw" sDraw fD fdD) (bD : Binds K fdD ["_law_feed_here", "_law_many"] []) (gD : mg "_law_draw" = some (.ref fD))
    (FT : Fun K "_law_tidy" "_law_tidy" sTidy fT fdT) (bT : Binds K fdT ["_law_weights"] []) (gT : mg "_law_tidy" = some (.ref fT))
    (ms : mg "sorted" = none) (mt : mg "tuple" = none) (ml : mg "len" = none) : FnG P w K mg base (k + 2) f fd ["_law_feed_here", "_law_cells"] prFacts := by
  have GD : FnG P w K mg base (k + 1) fD fdD ["_law_feed_here", "_law_many"] prDraw := ok_draw FD ml
  have GT : FnG P w K mg base (k + 1) fT fdT ["_law_weights"] prTidy := ok_tidyF FT ms mt
  refine okG F scFacts (fun vs H Q h => ?_) (fun cdv A outer s H vs Q hr h => ?_)
  · obtain ⟨_, _, _, _, rfl, _⟩ := h
    rfl
  · obtain ⟨F, L, p, cs, rfl, hF, hC, hz, hin, q⟩ := h
    have hu := hu_of hr.room
    refine ⟨_, pss_cons (ps_set (i := 2) scFacts.nd rfl (.inl rfl) pe_dnewT)
      (pss_cons (ps_for PassesOwn.never rfl (pi_list (pv 1)) (pg_name (i := 3) scFacts.nd rfl (.inl rfl))
        (pss_one (ps_dput hu (pv 2) (pv 3) (pe_ix ix_list (pe_lst (pa_cons pe_int (pa_cons pe_int (pa_cons pe_int (pa_cons (pe_un un_neg pe_int) (pa_cons pe_int (pa_cons (pe_un un_neg pe_int) (pa_cons pe_int (pa_cons (pe_un un_neg pe_int) pa_nil)))))))))
          (pe_g GD hr (by rfl) gD FD.kp bD .nil (pa_cons (pv 0) (pa_cons pe_int pa_nil))) (fun _ _ => rfl)) rfl)))
      (pss_one (ps_ret (pe_g GT hr (by rfl) gT FT.kp bT .nil (pa_cons (pv 2) pa_nil))))), ?_⟩
    refine iSeq (iAsg (fun D hD => ?_))
    have s1 : Same H (upd H D (.dT [])) := same_new hD
    refine iName ?_
    dsimp only
    refine iSeq ?_
    have hC1 : CellsAt (upd H D (.dT [])) p cs := by
      obtain ⟨bs, h1, h2⟩ := hC
      exact ⟨bs, s1 _ _ h1, Paired.mapP h2 fun _ _ z => z.keep (KeepT.of s1)⟩
    refine ⟨.ref p, rfl, p, rfl, ⟨_, sqL hC1.choose_spec.1⟩, ?_⟩
    have hF2 := hF.same s1
    refine for_fillD (K := K) (iw := 2) (ic := 3) (σ := [some (.ref F), some (.ref p), some (.ref D), none]) (H := upd H D (.dT [])) (Dd := D) (F := F) (B := 10000) rfl (by decide) (by show 3 < 4; decide) hC1 (by omega) upd_same hF2 (fun σ' H' Q' hj hF' hq => ?_) (fun σ' H' m hj kp hF' hD' hm hmc hB hml => ?_)
    · refine ⟨1, rfl, 7, rfl, 10000, rfl, by show 8 ≤ sizeLine; decide, fun t ht => ?_⟩
      have s3 : Same H' (upd H' t (.lst ([0, 0, 1, -1, 5, -7, 9999, -10000].map V.int))) := same_new ht
      refine ⟨.ref F, hj 0 (by decide), F, L, 8, rfl, hF'.same s3, by decide, by decide, fun d H4 d0 d1 k4 hF4 => ?_⟩
      obtain ⟨x, hx, hat⟩ := at_int [0, 0, 1, -1, 5, -7, 9999, -10000] d0 d1
      have ntF : t ≠ F := by
        obtain ⟨_, _, _, _, h, _⟩ := hF'
        exact (ne_of_none h ht).symm
      refine ⟨t, _, d, .int x, rfl, rfl, sqL (k4 _ _ ntF upd_same), hat, hq x H4 ?_ ?_ ((KeepF.of s3).trans k4) hF4⟩
      · simp at hx
        omega
      · simp at hx
        omega
    · refine ⟨.ref D, hj 2 (by decide), D, m, rfl, hD', hm, by omega, fun H5 r sm hr => q H5 r _ (fun b o hb e => ?_) (hF'.same sm) hr ?_⟩
      · exact sm _ _ (kp _ _ hb (ne_of_none e hD) (s1 _ _ e))
      · have := drawn_tidy (m := m) (B := 10000) rfl hm (by decide) hB
        exact ⟨this.ok, fun c hc => hin c (hmc c (this.on c hc)), this.lit⟩
end
end P09
namespace P09
open PySem PySem.Spec PyProof.Rows L2 AskG
/-! ### the mathematics -/
section
variable {a b c : RowD}
theorem add_comm' (ha : OkRow a) (hb : OkRow b) : addR b a 1 = addR a b 1 := ok_ext okr_add okr_add fun x => by
  rw [get0_addR hb ha, get0_addR ha hb]
  omega
theorem add_assoc' (ha : OkRow a) (hb : OkRow b) (hc : OkRow c) : addR (addR a b 1) c 1 = addR a (addR b c 1) 1 := ok_ext okr_add okr_add fun x => by
  rw [get0_addR okr_add hc, get0_addR ha hb, get0_addR ha okr_add, get0_addR hb hc]
  omega
theorem add_nil' (ha : OkRow a) : addR a [] 1 = a := ok_ext okr_add ha fun x => by
  rw [get0_addR ha ok_nil, get0_nil]
  omega
theorem add_neg' (ha : OkRow a) : addR a (scaleR a (-1)) 1 = [] := ok_ext okr_add ok_nil fun x => by
  rw [get0_addR ha (okr_scale ha _), get0_scale, get0_nil]
  omega
theorem scale_add' (ha : OkRow a) (hb : OkRow b) (t : Int) : scaleR (addR a b 1) t = addR (scaleR a t) (scaleR b t) 1 := ok_ext (okr_scale okr_add t) okr_add fun x => by
  rw [get0_scale, get0_addR ha hb, get0_addR (okr_scale ha t) (okr_scale hb t), get0_scale, get0_scale, Int.one_mul, Int.one_mul, Int.add_mul]
theorem scale_scale' (ha : OkRow a) (t : Int) : scaleR (scaleR a t) (-2) = scaleR a (-2 * t) := ok_ext (okr_scale (okr_scale ha t) _) (okr_scale ha _) fun x => by
  rw [get0_scale, get0_scale, get0_scale, Int.mul_assoc, Int.mul_comm t (-2)]
end
section
variable {B C D : Int} {a b c f : RowD}
theorem eff_add (ha : Dr B a) (hb : Dr C b) (hc : OkRow c) : effR (addR a b 1) c = effR a c + effR b c := by
  rw [eff_dot (C := 0) allC_nodup (ha.sum hb) hc, eff_dot (C := 0) allC_nodup ha hc, eff_dot (C := 0) allC_nodup hb hc, ← dot_add]
  exact dot_congr fun x => by
    rw [get0_addR ha.ok hb.ok]
    omega
theorem eff_scale (ha : Dr B a) (h0 : 0 ≤ B) {t T : Int} (h1 : -T ≤ t) (h2 : t ≤ T) (hc : OkRow c) : effR (scaleR a t) c = t * effR a c := by
  rw [eff_dot (C := 0) allC_nodup (ha.scale h1 h2 h0) hc, eff_dot (C := 0) allC_nodup ha hc, ← dot_mul]
  exact dot_congr fun x => get0_scale a t x
theorem eff_right (ha : Dr B a) (hb : Dr C b) (hf : OkRow f) : effR f (addR a b 1) = effR f a + effR f b := by
  rw [effR_sym hf okr_add, effR_sym hf ha.ok, effR_sym hf hb.ok]
  exact eff_add ha hb hf
end
theorem shaped_row {B : Int} {ρ : RowD} (h : Dr B ρ) : SeqAt.shaped (rowPD ρ) = true := by
  have hc : ∀ x ∈ ρ, CellOk x.1 := fun x hx => allC_cells _ (h.on _ (List.mem_map_of_mem hx))
  have h1 : PyData.canLayAll0 (ρ.map AskG.pairD) = true := can_all fun x hx => by
    show (((PyData.strOk x.1.1) && (true && true)) && (true && true)) = true
    rw [(hc x hx).ok]
    rfl
  have h2 : PyData.depthAll (ρ.map AskG.pairD) ≤ 2 := depth_all fun x _ => by
    show max (max 0 (max 0 0) + 1) (max 0 0) + 1 ≤ 2
    decide
  show (PyData.canLayAll0 (ρ.map AskG.pairD) && decide (PyData.depthAll (ρ.map AskG.pairD) + 1 ≤ 64)) = true
  rw [h1, decide_eq_true (by omega)]
  rfl
section
variable {P : Program} {w : World} {K : PySem.W.Frag} {mg : Str → Option Value} {base : Heap}
theorem ne_rows {H : Hp} {x y : Addr} {ρ π : RowD} {B : Int} {Q : VK} (hx : RowAt H x ρ) (hy : RowAt H y π) (hd : Dr B ρ) (e : ρ = π) (q : Q (.bl false) H) : rNeD K (.ref x) (.ref y) H Q := by
  subst e
  have hs := shaped_row hd
  refine ⟨rowPD ρ, rowPD ρ, dp_row hx, dp_row hy, hs, hs, ?_⟩
  rw [SeqAt.eqv_refl _ (SeqAt.canLay_of_shaped hs)]
  exact q
theorem eq_rows {H : Hp} {x y : Addr} {ρ π : RowD} {B : Int} {Q : VK} (hx : RowAt H x ρ) (hy : RowAt H y π) (hd : Dr B ρ) (e : ρ = π) (q : Q (.bl true) H) : rEqD K (.ref x) (.ref y) H Q := by
  subst e
  have hs := shaped_row hd
  refine ⟨rowPD ρ, rowPD ρ, dp_row hx, dp_row hy, hs, hs, ?_⟩
  rw [SeqAt.eqv_refl _ (SeqAt.canLay_of_shaped hs)]
  exact q
theorem Dr.wide {B : Int} {ρ : RowD} (h : Dr B ρ) (e : B < 2 ^ 64) : ∀ x ∈ ρ, -(2 ^ 64) < x.2 ∧ x.2 < 2 ^ 64 := fun x hx => by
  have := h.at' hx
  omega
theorem Dr.named {B : Int} {ρ : RowD} (h : Dr B ρ) : ∀ x ∈ ρ, NameOk x.1 := fun x hx => allC_names _ (h.on _ (List.mem_map_of_mem hx))
theorem p64 : (1000000000 : Int) < 2 ^ 64 := by decide
abbrev sThree : Stmt := topS 28
theorem scThree : FnScope ["_law_one_line", "_law_other_line", "_law_third", "_law_both", "_law_times", "_law_due"] ["_law_one_line", "_law_other_line", "_law_third"] (defScope sThree) := ⟨rfl, rfl, rfl, by decide +kernel, rfl, by decide +kernel, by decide +kernel⟩
def prThree : Pr := fun vs H Q => ∃ (a b c : Addr) (ρ π τ : RowD), vs = [.ref a, .ref b, .ref c] ∧ RowAt H a ρ ∧ RowAt H b π ∧ RowAt H c τ ∧ Dr 1000 ρ ∧ Dr 1000 π ∧ Dr 1000 τ ∧ ∀ H', Same H H' → Q (.bl true) H'
variable {fA fS fE fR : Addr} {fdA fdS fdE fdR : FuncData}
def times3 : List Int := [-3, 0, 2]
theorem map_at {α : Type} {f : α → V} {l : List α} {i : Nat} {x : V} (h : (l.map f)[i]? = some x) : ∃ y ∈ l, f y = x := by
  rw [List.getElem?_map] at h
  cases e : l[i]? with
  | none =>
    rw [e] at h
    cases h
  | some y =>
    rw [e] at h
    exact ⟨y, List.mem_of_getElem? e, Option.some.inj h⟩
theorem ok_three {f : Addr} {fd : FuncData} {k : Nat} (F : Fun K "_law_three_right" "_law_three_right" sThree f fd)
    (FA : Fun K "add_rows" "add_rows" sAdd fA fdA) (bA : Binds K fdA ["one", "other"] []) (gA : mg "add_rows" = some (.ref fA))
    (FS : Fun K "scale_row" "scale_row" sScale fS fdS) (bS : Binds K fdS ["row", "factor"] []) (gS : mg "scale_row" = some (.ref fS))
    (FE : Fun K "effect_of" "effect_of" sEff fE fdE) (bE : Binds K fdE ["change", "row"] []) (gE : mg "effect_of" = some (.ref fE))
    (FR : Fun K "is_row" "is_row" sIsRow fR fdR) (bR : Binds K fdR ["thing"] []) (gR : mg "is_row" = some (.ref fR)) (GR : FnG P w K mg base (k + 5) fR fdR ["thing"] (prYes tRow))
    (ms : mg "sorted" = none) (mt : mg "tuple" = none) (mu : mg "sum" = none) : FnG P w K mg base (k + 6) f fd ["_law_one_line", "_law_other_line", "_law_third"] prThree := by
  have GA : FnG P w K mg base (k + 1) fA fdA ["one", "other"] prAdd := ok_add FA ms mt
  have GS : FnG P w K mg base (k + 1) fS fdS ["row", "factor"] prScale := ok_scale FS mt
  have GE : FnG P w K mg base (k + 1) fE fdE ["change", "row"] prEff := ok_eff FE mu
  refine okG F scThree (fun vs H Q h => ?_) (fun cdv A outer s H vs Q hr h => ?_)
  · obtain ⟨_, _, _, _, _, _, rfl, _⟩ := h
    rfl
  · obtain ⟨a, b, c, ρ, π, τ, rfl, hA, hB, hC, dA, dB, dC, q⟩ := h
    have h1r : RG (k + 1) (A.deeper (envOfC "_law_three_right" (defScope sThree) s.heap.objs.size f cdv)) := hr.mono (by omega)
    have hun := hr.room.units
    refine ⟨_, pss_cons (ps_set (i := 3) scThree.nd rfl (.inl rfl) (pe_g GA h1r (by rfl) gA FA.kp bA .nil (pa_cons (pv 0) (pa_cons (pv 1) pa_nil))))
      (pss_cons (ps_if (pt_cmpR (op_neD hun) (pe_g GA h1r (by rfl) gA FA.kp bA .nil (pa_cons (pv 1) (pa_cons (pv 0) pa_nil))) (pv 3) (nomark _)) (pss_one (ps_ret pe_bl)) pss_nil)
      (pss_cons (ps_if (pt_cmpR (op_neD hun) (pe_g GA h1r (by rfl) gA FA.kp bA .nil (pa_cons (pv 3) (pa_cons (pv 2) pa_nil))) (pe_g GA h1r (by rfl) gA FA.kp bA .nil (pa_cons (pv 0) (pa_cons (pe_g GA h1r (by rfl) gA FA.kp bA .nil (pa_cons (pv 1) (pa_cons (pv 2) pa_nil))) pa_nil))) (nomark _)) (pss_one (ps_ret pe_bl)) pss_nil)
      (pss_cons (ps_if (PW.pt (pw_or (pt_cmpR (op_neD hun) (pe_g GA h1r (by rfl) gA FA.kp bA .nil (pa_cons (pv 0) (pa_cons (pe_tup pa_nil) pa_nil))) (pv 0) (nomark _))
          (pw_or (pt_cmpR (op_neD hun) (pe_g GA h1r (by rfl) gA FA.kp bA .nil (pa_cons (pv 0) (pa_cons (pe_g GS h1r (by rfl) gS FS.kp bS .nil (pa_cons (pv 0) (pa_cons (pe_un un_neg pe_int) pa_nil))) pa_nil))) (pe_tup pa_nil) (nomark _))
          (pw_or1 (pt_not (pt_val (pe_g GR hr (by rfl) gR FR.kp bR .nil (pa_cons (pv 3) pa_nil)))))))) (pss_one (ps_ret pe_bl)) pss_nil)
      (pss_cons (ps_for PassesOwn.never rfl (pi_tup (pe_tup (pa_cons (pe_un un_neg pe_int) (pa_cons pe_int (pa_cons pe_int pa_nil))))) (pg_name (i := 4) scThree.nd rfl (.inl rfl))
        (pss_cons (ps_if (pt_cmpR (op_neD hun) (pe_g GS h1r (by rfl) gS FS.kp bS .nil (pa_cons (pv 3) (pa_cons (pv 4) pa_nil))) (pe_g GA h1r (by rfl) gA FA.kp bA .nil (pa_cons (pe_g GS h1r (by rfl) gS FS.kp bS .nil (pa_cons (pv 0) (pa_cons (pv 4) pa_nil))) (pa_cons (pe_g GS h1r (by rfl) gS FS.kp bS .nil (pa_cons (pv 1) (pa_cons (pv 4) pa_nil))) pa_nil))) (nomark _)) (pss_one (ps_ret pe_bl)) pss_nil)
        (pss_cons (ps_if (pt_cmpR (op_neD hun) (pe_g GS h1r (by rfl) gS FS.kp bS .nil (pa_cons (pe_g GS h1r (by rfl) gS FS.kp bS .nil (pa_cons (pv 2) (pa_cons (pv 4) pa_nil))) (pa_cons (pe_un un_neg pe_int) pa_nil))) (pe_g GS h1r (by rfl) gS FS.kp bS .nil (pa_cons (pv 2) (pa_cons (pe_op op_mul (pe_un un_neg pe_int) (pv 4)) pa_nil))) (nomark _)) (pss_one (ps_ret pe_bl)) pss_nil)
        (pss_cons (ps_set (i := 5) scThree.nd rfl (.inl rfl) (pe_op op_add (pe_op op_mul (pv 4) (pe_g GE h1r (by rfl) gE FE.kp bE .nil (pa_cons (pv 0) (pa_cons (pv 2) pa_nil)))) (pe_g GE h1r (by rfl) gE FE.kp bE .nil (pa_cons (pv 1) (pa_cons (pv 2) pa_nil)))))
        (pss_one (ps_if (pt_cmpR op_ne (pe_g GE h1r (by rfl) gE FE.kp bE .nil (pa_cons (pe_g GA h1r (by rfl) gA FA.kp bA .nil (pa_cons (pe_g GS h1r (by rfl) gS FS.kp bS .nil (pa_cons (pv 0) (pa_cons (pv 4) pa_nil))) (pa_cons (pv 1) pa_nil))) (pa_cons (pv 2) pa_nil))) (pv 5) (nomark _)) (pss_one (ps_ret pe_bl)) pss_nil))))))
      (pss_one (ps_ret (pe_cmpR op_eq (pe_g GE h1r (by rfl) gE FE.kp bE .nil (pa_cons (pv 0) (pa_cons (pv 1) pa_nil))) (pe_g GE h1r (by rfl) gE FE.kp bE .nil (pa_cons (pv 1) (pa_cons (pv 0) pa_nil))) (nomark _)))))))), ?_⟩
    have lA := Dr.len dA
    have lB := Dr.len dB
    have lC := Dr.len dC
    have p := p64
    have dAB := dA.sum dB
    have lAB := Dr.len dAB
    have dBC := dB.sum dC
    have lBC := Dr.len dBC
    refine ⟨.ref a, rfl, .ref b, rfl, a, b, ρ, π, rfl, hA, hB, by omega, by omega, fun H1 p1 s1 r1 => ?_⟩
    refine iName ?_
    dsimp only
    refine iSeq ?_
    refine ⟨.ref b, rfl, .ref a, rfl, b, a, π, ρ, rfl, hB.keep (KeepT.of s1), hA.keep (KeepT.of s1), by omega, by omega, fun H2 p2 s2 r2 => ?_⟩
    have s02 := s1.trans s2
    refine ⟨.ref p1, rfl, ne_rows r2 (r1.keep (KeepT.of s2)) (dB.sum dA) (add_comm' dA.ok dB.ok) ⟨false, rfl, iteF ?_⟩⟩
    refine iNext ?_
    dsimp only
    refine iSeq ?_
    refine ⟨.ref p1, rfl, .ref c, rfl, p1, c, _, τ, rfl, r1.keep (KeepT.of s2), hC.keep (KeepT.of s02), by omega, by omega, fun H3 p3 s3 r3 => ?_⟩
    have s03 := s02.trans s3
    refine ⟨.ref a, rfl, .ref b, rfl, .ref c, rfl, b, c, π, τ, rfl, hB.keep (KeepT.of s03), hC.keep (KeepT.of s03), by omega, by omega, fun H4 p4 s4 r4 => ?_⟩
    have s04 := s03.trans s4
    refine ⟨a, p4, ρ, _, rfl, hA.keep (KeepT.of s04), r4, by omega, by omega, fun H5 p5 s5 r5 => ?_⟩
    have s05 := s04.trans s5
    refine ne_rows ((r3.keep (KeepT.of s4)).keep (KeepT.of s5)) r5 (dAB.sum dC) (add_assoc' dA.ok dB.ok dC.ok) ⟨false, rfl, iteF ?_⟩
    refine iNext ?_
    dsimp only
    refine iSeq ?_
    refine ⟨.ref a, rfl, Nat.zero_le _, fun e he => ?_⟩
    have s06 := s05.trans (same_new (o := .tup []) he)
    refine ⟨a, e, ρ, [], rfl, hA.keep (KeepT.of s06), ⟨[], upd_same, .nil⟩, by omega, by decide, fun H7 p7 s7 r7 => ?_⟩
    have s07 := s06.trans s7
    refine ⟨.ref a, rfl, ne_rows r7 (hA.keep (KeepT.of s07)) (dA.sum (drawn_nil (Int.le_refl 0))) (add_nil' dA.ok) ⟨false, rfl, iteF ?_⟩⟩
    refine ⟨.ref a, rfl, .ref a, rfl, 1, rfl, a, ρ, -1, rfl, hA.keep (KeepT.of s07), by omega, by decide, by decide, fun H8 p8 s8 r8 => ?_⟩
    have s08 := s07.trans s8
    have dm := dA.scale (t := -1) (T := 1) (by decide) (by decide) (by decide)
    have lm := Dr.len dm
    refine ⟨a, p8, ρ, _, rfl, hA.keep (KeepT.of s08), r8, by omega, by omega, fun H9 p9 s9 r9 => ?_⟩
    have s09 := s08.trans s9
    refine ⟨Nat.zero_le _, fun e2 he2 => ?_⟩
    have s010 := s09.trans (same_new (o := .tup []) he2)
    refine ne_rows (r9.keep (KeepT.new he2)) ⟨[], upd_same, .nil⟩ (dA.sum dm) (add_neg' dA.ok) ⟨false, rfl, iteF ?_⟩
    have r1x : RowAt (upd H9 e2 (.tup [])) p1 (addR ρ π 1) := r1.keep (((((((KeepT.of s2).trans (KeepT.of s3)).trans (KeepT.of s4)).trans (KeepT.of s5)).trans (KeepT.new he)).trans ((KeepT.of s7).trans (KeepT.of s8))).trans ((KeepT.of s9).trans (KeepT.new he2)))
    refine ⟨.ref p1, rfl, .ref p1, rfl, ⟨p1, _, rfl, r1x, okr_add, by omega, Dr.named dAB⟩, fun Ha sa => ⟨true, rfl, iteF ?_⟩⟩
    have s0a := s010.trans sa
    have r1a := r1x.keep (KeepT.of sa)
    refine iNext ?_
    dsimp only
    clear r9 r8 r7 r5 r4 r3 r2 r1x
    -- the loop
    refine iSeq ?_
    refine ⟨3, rfl, by show 3 ≤ sizeLine; decide, fun t ht => ?_⟩
    have st := same_new (o := .tup (times3.map V.int)) ht
    refine ⟨t, rfl, ⟨_, sqT upd_same⟩, ?_⟩
    refine for_tup (K := K) (xs := times3.map V.int) (fun i σ' H' => (∃ v4 v5, σ' = [some (.ref a), some (.ref b), some (.ref c), some (.ref p1), v4, v5]) ∧ Same (upd Ha t (.tup (times3.map V.int))) H') ⟨⟨none, none, rfl⟩, Same.refl _⟩ (fun i σ' H' _ h => sqT (h.2 _ _ upd_same)) (fun i x σ' H' hx h => ?_) (fun σ' H' h => ?_)
    · obtain ⟨y, hy, rfl⟩ := map_at hx
      obtain ⟨⟨v4, v5, rfl⟩, sm⟩ := h
      have yb : -3 ≤ y ∧ y ≤ 3 := by
        have : ∀ y ∈ times3, -3 ≤ y ∧ y ≤ 3 := by decide
        exact this y hy
      have y1 : -(2 ^ 64) < y := by omega
      have y2 : y < 2 ^ 64 := by omega
      have k0 := (s0a.trans st).trans sm
      have hA0 := hA.keep (KeepT.of k0)
      have hB0 := hB.keep (KeepT.of k0)
      have hC0 := hC.keep (KeepT.of k0)
      have hP0 := r1a.keep (KeepT.of (st.trans sm))
      have dAy := dA.scale yb.1 yb.2 (by decide)
      have dBy := dB.scale yb.1 yb.2 (by decide)
      have dCy := dC.scale yb.1 yb.2 (by decide)
      have dABy := dAB.scale yb.1 yb.2 (by decide)
      have lAy := Dr.len dAy
      have lBy := Dr.len dBy
      have lCy := Dr.len dCy
      refine iName ?_
      refine iSeq ?_
      refine ⟨.ref p1, rfl, .int y, rfl, p1, _, y, rfl, hP0, by omega, y1, y2, fun H1 q1 t1 w1 => ?_⟩
      refine ⟨.ref a, rfl, .int y, rfl, a, ρ, y, rfl, hA0.keep (KeepT.of t1), by omega, y1, y2, fun H2 q2 t2 w2 => ?_⟩
      have t02 := t1.trans t2
      refine ⟨.ref b, rfl, .int y, rfl, b, π, y, rfl, hB0.keep (KeepT.of t02), by omega, y1, y2, fun H3 q3 t3 w3 => ?_⟩
      refine ⟨q2, q3, _, _, rfl, w2.keep (KeepT.of t3), w3, by omega, by omega, fun H4 q4 t4 w4 => ?_⟩
      have t04 := (t02.trans t3).trans t4
      refine ne_rows (w1.keep (KeepT.of ((t2.trans t3).trans t4))) w4 dABy (scale_add' dA.ok dB.ok y) ⟨false, rfl, iteF ?_⟩
      refine iNext ?_
      dsimp only
      refine iSeq ?_
      refine ⟨.ref c, rfl, .int y, rfl, c, τ, y, rfl, hC0.keep (KeepT.of t04), by omega, y1, y2, fun H5 q5 t5 w5 => ?_⟩
      refine ⟨2, rfl, q5, _, -2, rfl, w5, by omega, by decide, by decide, fun H6 q6 t6 w6 => ?_⟩
      have t06 := (t04.trans t5).trans t6
      have my : -(2 ^ 64) < (-2 * y : Int) ∧ (-2 * y : Int) < 2 ^ 64 := by omega
      refine ⟨.ref c, rfl, 2, rfl, .int y, rfl, -2, y, rfl, rfl, .inl ⟨by decide, by decide⟩, c, τ, -2 * y, rfl, hC0.keep (KeepT.of t06), by omega, my.1, my.2, fun H7 q7 t7 w7 => ?_⟩
      have t07 := t06.trans t7
      refine ne_rows (w6.keep (KeepT.of t7)) w7 (dCy.scale (t := -2) (T := 2) (by decide) (by decide) (by decide)) (scale_scale' dC.ok y) ⟨false, rfl, iteF ?_⟩
      refine iNext ?_
      dsimp only
      refine iSeq (iAsg ?_)
      refine ⟨.int y, rfl, .ref a, rfl, .ref c, rfl, a, c, ρ, τ, rfl, hA0.keep (KeepT.of t07), hC0.keep (KeepT.of t07), by omega, by omega, Dr.wide dA (by omega), fun H8 t8 => ?_⟩
      have t08 := t07.trans t8
      refine ⟨y, effR ρ τ, rfl, rfl, .inl ⟨y1, y2⟩, .ref b, rfl, .ref c, rfl, b, c, π, τ, rfl, hB0.keep (KeepT.of t08), hC0.keep (KeepT.of t08), by omega, by omega, Dr.wide dB (by omega), fun H9 t9 => ?_⟩
      have t09 := t08.trans t9
      refine ⟨_, _, rfl, rfl, ?_⟩
      refine iName ?_
      dsimp only
      refine ⟨.ref a, rfl, .int y, rfl, a, ρ, y, rfl, hA0.keep (KeepT.of t09), by omega, y1, y2, fun Ha qa ta wa => ?_⟩
      have t0a := t09.trans ta
      refine ⟨.ref b, rfl, qa, b, _, π, rfl, wa, hB0.keep (KeepT.of t0a), by omega, by omega, fun Hb qb tb wb => ?_⟩
      have t0b := t0a.trans tb
      have dS := dAy.sum dB
      have lS := Dr.len dS
      refine ⟨.ref c, rfl, qb, c, _, τ, rfl, wb, hC0.keep (KeepT.of t0b), by omega, by omega, Dr.wide dS (by omega), fun Hc tc => ?_⟩
      have e : effR (addR (scaleR ρ y) π 1) τ = y * effR ρ τ + effR π τ := by
        rw [eff_add dAy dB dC.ok, eff_scale dA (by decide) yb.1 yb.2 dC.ok]
      refine ⟨_, rfl, rfl, _, rfl, ?_⟩
      rw [e, decide_eq_true rfl]
      refine iteF ?_
      exact ⟨⟨_, _, rfl⟩, (sm.trans t0b).trans tc⟩
    · obtain ⟨⟨v4, v5, rfl⟩, sm⟩ := h
      dsimp only
      have k0 := (s0a.trans st).trans sm
      refine ⟨.ref a, rfl, .ref b, rfl, a, b, ρ, π, rfl, hA.keep (KeepT.of k0), hB.keep (KeepT.of k0), by omega, by omega, Dr.wide dA (by omega), fun H1 t1 => ?_⟩
      have k1 := k0.trans t1
      refine ⟨.ref b, rfl, .ref a, rfl, b, a, π, ρ, rfl, hB.keep (KeepT.of k1), hA.keep (KeepT.of k1), by omega, by omega, Dr.wide dB (by omega), fun H2 t2 => ?_⟩
      refine ⟨rfl, ?_⟩
      rw [effR_sym dA.ok dB.ok, decide_eq_true rfl]
      exact q _ (k1.trans t2)
end
end P09
namespace P09
open PySem PySem.Spec PyProof.Rows L2 AskG
section
variable {P : Program} {w : World} {K : PySem.W.Frag} {mg : Str → Option Value} {base : Heap}
abbrev sVals : Stmt := topS 29
theorem scVals : FnScope ["_law_one_line", "_law_other_line", "_law_third", "_law_facts_here", "_law_both"] ["_law_one_line", "_law_other_line", "_law_third", "_law_facts_here"] (defScope sVals) := ⟨rfl, rfl, rfl, by decide +kernel, rfl, by decide +kernel, by decide +kernel⟩
def prVals : Pr := fun vs H Q => ∃ (a b c e : Addr) (ρ π τ φ : RowD), vs = [.ref a, .ref b, .ref c, .ref e] ∧ RowAt H a ρ ∧ RowAt H b π ∧ RowAt H c τ ∧ RowAt H e φ ∧ Dr 1000 ρ ∧ Dr 1000 π ∧ Dr 1000 τ ∧ Dr 10000 φ ∧ ∀ H', Same H H' → Q (.bl true) H'
variable {fA fS fE fV fP fI : Addr} {fdA fdS fdE fdV fdP fdI : FuncData}
theorem ok_vals {f : Addr} {fd : FuncData} {k : Nat} (F : Fun K "_law_values_right" "_law_values_right" sVals f fd)
    (FA : Fun K "add_rows" "add_rows" sAdd fA fdA) (bA : Binds K fdA ["one", "other"] []) (gA : mg "add_rows" = some (.ref fA))
    (FE : Fun K "effect_of" "effect_of" sEff fE fdE) (bE : Binds K fdE ["change", "row"] []) (gE : mg "effect_of" = some (.ref fE))
    (FV : Fun K "row_value" "row_value" sVal fV fdV) (bV : Binds K fdV ["row", "data"] []) (gV : mg "row_value" = some (.ref fV))
    (ms : mg "sorted" = none) (mt : mg "tuple" = none) (mu : mg "sum" = none) : FnG P w K mg base (k + 6) f fd ["_law_one_line", "_law_other_line", "_law_third", "_law_facts_here"] prVals := by
  have GA : FnG P w K mg base (k + 1) fA fdA ["one", "other"] prAdd := ok_add FA ms mt
  have GE : FnG P w K mg base (k + 1) fE fdE ["change", "row"] prEff := ok_eff FE mu
  have GV : FnG P w K mg base (k + 2) fV fdV ["row", "data"] prVal := ok_val FV FE bE gE mu
  refine okG F scVals (fun vs H Q h => ?_) (fun cdv A outer s H vs Q hr h => ?_)
  · obtain ⟨_, _, _, _, _, _, _, _, rfl, _⟩ := h
    rfl
  · obtain ⟨a, b, c, d, ρ, π, τ, φ, rfl, hA, hB, hC, hD, dA, dB, dC, dD, q⟩ := h
    have h1r : RG (k + 1) (A.deeper (envOfC "_law_values_right" (defScope sVals) s.heap.objs.size f cdv)) := hr.mono (by omega)
    have h2r : RG (k + 2) (A.deeper (envOfC "_law_values_right" (defScope sVals) s.heap.objs.size f cdv)) := hr.mono (by omega)
    refine ⟨_, pss_cons (ps_set (i := 4) scVals.nd rfl (.inl rfl) (pe_g GA h1r (by rfl) gA FA.kp bA .nil (pa_cons (pv 0) (pa_cons (pv 1) pa_nil))))
      (pss_cons (ps_if (pt_cmpR op_ne (pe_g GV h2r (by rfl) gV FV.kp bV .nil (pa_cons (pv 4) (pa_cons (pv 3) pa_nil))) (pe_op op_add (pe_g GV h2r (by rfl) gV FV.kp bV .nil (pa_cons (pv 0) (pa_cons (pv 3) pa_nil))) (pe_g GV h2r (by rfl) gV FV.kp bV .nil (pa_cons (pv 1) (pa_cons (pv 3) pa_nil)))) (nomark _)) (pss_one (ps_ret pe_bl)) pss_nil)
      (pss_cons (ps_if (pt_cmpR op_ne (pe_g GV h2r (by rfl) gV FV.kp bV .nil (pa_cons (pv 2) (pa_cons (pv 4) pa_nil))) (pe_op op_add (pe_g GV h2r (by rfl) gV FV.kp bV .nil (pa_cons (pv 2) (pa_cons (pv 0) pa_nil))) (pe_g GV h2r (by rfl) gV FV.kp bV .nil (pa_cons (pv 2) (pa_cons (pv 1) pa_nil)))) (nomark _)) (pss_one (ps_ret pe_bl)) pss_nil)
      (pss_one (ps_ret (pe_chain op_eq op_eq (pe_g GV h2r (by rfl) gV FV.kp bV .nil (pa_cons (pv 4) (pa_cons (pv 2) pa_nil))) (pe_g GE h1r (by rfl) gE FE.kp bE .nil (pa_cons (pv 2) (pa_cons (pv 4) pa_nil))) (pe_g GE h1r (by rfl) gE FE.kp bE .nil (pa_cons (pv 4) (pa_cons (pv 2) pa_nil)))))))), ?_⟩
    have lA := Dr.len dA
    have lB := Dr.len dB
    have lC := Dr.len dC
    have lD := Dr.len dD
    have p := p64
    have dAB := dA.sum dB
    have lAB := Dr.len dAB
    refine ⟨.ref a, rfl, .ref b, rfl, a, b, ρ, π, rfl, hA, hB, by omega, by omega, fun H1 p1 s1 r1 => ?_⟩
    refine iName ?_
    dsimp only
    refine iSeq ?_
    have t1 := s1
    refine ⟨.ref p1, rfl, .ref d, rfl, p1, d, _, φ, rfl, r1, hD.keep (KeepT.of t1), by omega, by omega, Dr.wide dD (by omega), fun H2 s2 => ?_⟩
    have t2 := t1.trans s2
    refine ⟨.ref a, rfl, .ref d, rfl, a, d, ρ, φ, rfl, hA.keep (KeepT.of t2), hD.keep (KeepT.of t2), by omega, by omega, Dr.wide dD (by omega), fun H3 s3 => ?_⟩
    have t3 := t2.trans s3
    refine ⟨.ref b, rfl, .ref d, rfl, b, d, π, φ, rfl, hB.keep (KeepT.of t3), hD.keep (KeepT.of t3), by omega, by omega, Dr.wide dD (by omega), fun H4 s4 => ?_⟩
    have t4 := t3.trans s4
    refine ⟨_, _, rfl, rfl, rfl, ?_⟩
    refine ⟨_, rfl, ?_⟩
    rw [eff_right dA dB dD.ok, decide_eq_true rfl]
    refine iteF ?_
    refine iNext ?_
    dsimp only
    refine iSeq ?_
    have r4 := r1.keep (KeepT.of ((s2.trans s3).trans s4))
    refine ⟨.ref c, rfl, .ref p1, rfl, c, p1, τ, _, rfl, hC.keep (KeepT.of t4), r4, by omega, by omega, Dr.wide dAB (by omega), fun H5 s5 => ?_⟩
    have t5 := t4.trans s5
    refine ⟨.ref c, rfl, .ref a, rfl, c, a, τ, ρ, rfl, hC.keep (KeepT.of t5), hA.keep (KeepT.of t5), by omega, by omega, Dr.wide dA (by omega), fun H6 s6 => ?_⟩
    have t6 := t5.trans s6
    refine ⟨.ref c, rfl, .ref b, rfl, c, b, τ, π, rfl, hC.keep (KeepT.of t6), hB.keep (KeepT.of t6), by omega, by omega, Dr.wide dB (by omega), fun H7 s7 => ?_⟩
    have t7 := t6.trans s7
    refine ⟨_, _, rfl, rfl, rfl, ?_⟩
    refine ⟨_, rfl, ?_⟩
    rw [eff_add dA dB dC.ok, decide_eq_true rfl]
    refine iteF ?_
    refine iNext ?_
    dsimp only
    have r7 := r4.keep (KeepT.of ((s5.trans s6).trans s7))
    refine ⟨.ref p1, rfl, .ref c, rfl, p1, c, _, τ, rfl, r7, hC.keep (KeepT.of t7), by omega, by omega, Dr.wide dC (by omega), fun H8 s8 => ?_⟩
    have t8 := t7.trans s8
    have r8 := r7.keep (KeepT.of s8)
    refine ⟨.ref c, rfl, .ref p1, rfl, c, p1, τ, _, rfl, hC.keep (KeepT.of t8), r8, by omega, by omega, Dr.wide dC (by omega), fun H9 s9 => ?_⟩
    have t9 := t8.trans s9
    have r9 := r8.keep (KeepT.of s9)
    refine ⟨rfl, ?_⟩
    rw [decide_eq_true rfl]
    refine ⟨true, rfl, ?_⟩
    refine ⟨.ref p1, rfl, .ref c, rfl, p1, c, _, τ, rfl, r9, hC.keep (KeepT.of t9), by omega, by omega, Dr.wide dAB (by omega), fun H10 s10 => ?_⟩
    refine ⟨rfl, ?_⟩
    rw [effR_sym dC.ok dAB.ok, decide_eq_true rfl]
    exact q _ (t9.trans s10)
end
end P09
namespace P09
open PySem PySem.Spec PyProof.Rows L2 AskG
/-! ### parts -/
abbrev pc (last : Option Int) (acc : Option (List Str)) (c : Cell) : Bool := inLast c last && inAcc c acc
section
variable {a b : RowD} {B C : Int} {last : Option Int} {acc : Option (List Str)}
theorem get0_part (c : Cell) : get0 (a.filter (insideR last acc)) c = if pc last acc c = true then get0 a c else 0 := get0_filter (pc last acc) c
theorem dr_part (h : Dr B a) (last : Option Int) (acc : Option (List Str)) : Dr B (a.filter (insideR last acc)) := h.part (pc last acc)
theorem part_back (ha : Dr B a) : addR (a.filter (insideR last acc)) (addR a (scaleR (a.filter (insideR last acc)) (-1)) 1) 1 = a := ok_ext okr_add ha.ok fun x => by
  have hp := (dr_part ha last acc).ok
  rw [get0_addR hp okr_add, get0_addR ha.ok (okr_scale hp _), get0_scale]
  omega
theorem part_late (ha : Dr B a) : (addR a (scaleR (a.filter (insideR last acc)) (-1)) 1).filter (insideR last acc) = [] := ok_ext (ok_filter okr_add _) ok_nil fun x => by
  have hp := (dr_part ha last acc).ok
  rw [get0_part, get0_addR ha.ok (okr_scale hp _), get0_scale, get0_part, get0_nil]
  by_cases e : pc last acc x = true
  · rw [if_pos e, if_pos e]
    omega
  · rw [if_neg e]
theorem part_add (ha : Dr B a) (hb : Dr C b) : (addR a b 1).filter (insideR last acc) = addR (a.filter (insideR last acc)) (b.filter (insideR last acc)) 1 := ok_ext (ok_filter okr_add _) okr_add fun x => by
  rw [get0_part, get0_addR ha.ok hb.ok, get0_addR (dr_part ha last acc).ok (dr_part hb last acc).ok, get0_part, get0_part]
  split <;> omega
end
abbrev accA : Option (List Str) := some ["a"]
abbrev accB : Option (List Str) := some ["b", "zzzzzzzz"]
theorem acc_one : ∀ c ∈ allC, (pc none accA c = true ∧ pc none accB c = false) ∨ (pc none accA c = false ∧ pc none accB c = true) := by
  have h : allC.all (fun c => (pc none accA c && !pc none accB c) || (!pc none accA c && pc none accB c)) = true := by decide +kernel
  intro c hc
  have := List.all_eq_true.mp h c hc
  revert this
  cases pc none accA c <;> cases pc none accB c <;> simp
section
variable {a : RowD} {B : Int}
theorem sides (ha : Dr B a) : addR (a.filter (insideR none accA)) (a.filter (insideR none accB)) 1 = a := ok_ext okr_add ha.ok fun x => by
  rw [get0_addR (dr_part ha none accA).ok (dr_part ha none accB).ok, get0_part, get0_part]
  by_cases hx : x ∈ allC
  · rcases acc_one x hx with ⟨h1, h2⟩ | ⟨h1, h2⟩
    · rw [if_pos h1, if_neg (by rw [h2]; exact Bool.noConfusion)]
      omega
    · rw [if_pos h2, if_neg (by rw [h1]; exact Bool.noConfusion)]
      omega
  · have h0 : get0 a x = 0 := get0_none fun h => hx (ha.on x h)
    rw [h0]
    split <;> split <;> rfl
theorem dot_zero {cs : List Cell} {f g : Cell → Int} (h : ∀ c ∈ cs, f c * g c = 0) : dotC cs f g = 0 := by
  unfold dotC
  induction cs with
  | nil => rfl
  | cons c cs ih =>
    rw [List.map_cons, List.sum_cons, h c List.mem_cons_self, ih fun d hd => h d (List.mem_cons_of_mem _ hd)]
    rfl
theorem sides_eff (ha : Dr B a) : effR (a.filter (insideR none accA)) (a.filter (insideR none accB)) = 0 := by
  rw [eff_dot (C := 0) allC_nodup (dr_part ha none accA) (dr_part ha none accB).ok]
  refine dot_zero fun c hc => ?_
  rw [get0_part, get0_part]
  rcases acc_one c hc with ⟨h1, h2⟩ | ⟨h1, h2⟩
  · rw [if_neg (c := pc none accB c = true) (by rw [h2]; exact Bool.noConfusion), Int.mul_zero]
  · rw [if_neg (c := pc none accA c = true) (by rw [h1]; exact Bool.noConfusion), Int.zero_mul]
theorem way_one (l : Option Int) (q : Option (List Str)) : (a.filter (insideR l none)).filter (insideR none q) = (a.filter (insideR none q)).filter (insideR l none) := by
  rw [List.filter_filter, List.filter_filter]
  exact List.filter_congr fun x _ => Bool.and_comm _ _
theorem way_two (l : Option Int) (q : Option (List Str)) : (a.filter (insideR none q)).filter (insideR l none) = a.filter (insideR l q) := by
  rw [List.filter_filter]
  refine List.filter_congr fun x _ => ?_
  show ((inLast x.1 l && true) && (true && inAcc x.1 q)) = (inLast x.1 l && inAcc x.1 q)
  rw [Bool.and_true, Bool.true_and]
end
section
variable {P : Program} {w : World} {K : PySem.W.Frag} {mg : Str → Option Value} {base : Heap}
abbrev FPart (K : PySem.W.Frag) (f : Addr) (fd : FuncData) : Prop := FunD K "part_of" "part_of" (defArgs sPart) (defBody sPart) (defScope sPart) [] [("last_day", .non), ("accounts", .non)] f fd
/-- part_of(e, last_day=.., accounts=..) -/
theorem kb_part {f : Addr} {fd : FuncData} (F : FPart K f fd) : KBn K fd ["row", "last_day", "accounts"] 1 ["last_day", "accounts"] (fun us ws => us ++ ws) (fun vs zs => vs ++ zs) := by
  obtain ⟨oc, od, dV, kV, doc, pm, an, cdv, ct, osl, rfl, lk, hcd, hD, hK⟩ := F.ex
  rcases hD with ⟨_, rfl⟩ | ⟨e, _⟩
  · rcases hK with e | ⟨D, rfl, hq⟩
    · cases e
    · refine ⟨fun s us ws _ hu hw => ?_, fun r rz => r.append rz⟩
      match us, ws, hu, hw with
      | [a], [b, c], _, _ => exact .of_eq rfl
  · exact absurd rfl e
/-- part_of(e, last_day=..) -/
theorem kb_partL {f : Addr} {fd : FuncData} (F : FPart K f fd) : ∃ mv, KBn K fd ["row", "last_day", "accounts"] 1 ["last_day"] (fun us ws => us ++ ws ++ mv) (fun vs zs => vs ++ zs ++ [.non]) := by
  refine FunD.kbinds0 F 1 ["last_day"] [("accounts", .non)] (fun us mv ws => us ++ ws ++ mv) (by simp) (by simp) (fun r0 r1 r2 => (r0.append r2).append r1) fun D doc pm an cdv ct us mv ws hu hm hw => ?_
  match us, mv, ws, hu, hm, hw with
  | [a], [c], [b], _, _, _ => exact ⟨_, _, _, _, _, _, rfl, rfl, rfl⟩
/-- part_of(e, accounts=..) -/
theorem kb_part1 {f : Addr} {fd : FuncData} (F : FPart K f fd) : ∃ mv, KBn K fd ["row", "last_day", "accounts"] 1 ["accounts"] (fun us ws => us ++ mv ++ ws) (fun vs zs => vs ++ [.non] ++ zs) := by
  refine FunD.kbinds0 F 1 ["accounts"] [("last_day", .non)] (fun us mv ws => us ++ mv ++ ws) (by simp) (by simp) (fun r0 r1 r2 => (r0.append r1).append r2) fun D doc pm an cdv ct us mv ws hu hm hw => ?_
  match us, mv, ws, hu, hm, hw with
  | [a], [b], [c], _, _, _ => exact ⟨_, _, _, _, _, _, rfl, rfl, rfl⟩
abbrev sParts : Stmt := topS 30
theorem scParts : FnScope ["_law_one_line", "_law_other_line", "_law_facts_here", "_law_last", "_law_early", "_law_late", "_law_both", "_law_left", "_law_right", "_law_one_way"] ["_law_one_line", "_law_other_line", "_law_facts_here"] (defScope sParts) := ⟨rfl, rfl, rfl, by decide +kernel, rfl, by decide +kernel, by decide +kernel⟩
def prParts : Pr := fun vs H Q => ∃ (a b e : Addr) (ρ π φ : RowD), vs = [.ref a, .ref b, .ref e] ∧ RowAt H a ρ ∧ RowAt H b π ∧ RowAt H e φ ∧ Dr 1000 ρ ∧ Dr 1000 π ∧ Dr 10000 φ ∧ ∀ H', Same H H' → Q (.bl true) H'
variable {fA fS fE fV fP fI : Addr} {fdA fdS fdE fdV fdP fdI : FuncData}
def lasts3 : List Int := [0, 1, 7]
theorem ok_parts {f : Addr} {fd : FuncData} {k : Nat} (F : Fun K "_law_parts_right" "_law_parts_right" sParts f fd)
    (FA : Fun K "add_rows" "add_rows" sAdd fA fdA) (bA : Binds K fdA ["one", "other"] []) (gA : mg "add_rows" = some (.ref fA))
    (FS : Fun K "scale_row" "scale_row" sScale fS fdS) (bS : Binds K fdS ["row", "factor"] []) (gS : mg "scale_row" = some (.ref fS))
    (FE : Fun K "effect_of" "effect_of" sEff fE fdE) (bE : Binds K fdE ["change", "row"] []) (gE : mg "effect_of" = some (.ref fE))
    (FV : Fun K "row_value" "row_value" sVal fV fdV) (bV : Binds K fdV ["row", "data"] []) (gV : mg "row_value" = some (.ref fV))
    (FI : Fun K "is_inside" "is_inside" sInside fI fdI) (bI : Binds K fdI ["cell", "last_day", "accounts"] []) (gI : mg "is_inside" = some (.ref fI))
    (FP : FPart K fP fdP) (gP : mg "part_of" = some (.ref fP))
    (ms : mg "sorted" = none) (mt : mg "tuple" = none) (mu : mg "sum" = none) : FnG P w K mg base (k + 6) f fd ["_law_one_line", "_law_other_line", "_law_facts_here"] prParts := by
  have GA : FnG P w K mg base (k + 1) fA fdA ["one", "other"] prAdd := ok_add FA ms mt
  have GS : FnG P w K mg base (k + 1) fS fdS ["row", "factor"] prScale := ok_scale FS mt
  have GE : FnG P w K mg base (k + 1) fE fdE ["change", "row"] prEff := ok_eff FE mu
  have GV : FnG P w K mg base (k + 2) fV fdV ["row", "data"] prVal := ok_val FV FE bE gE mu
  have GP : FnG P w K mg base (k + 2) fP fdP ["row", "last_day", "accounts"] (prPart K) := ok_part FP FI bI gI mt
  have kP := kb_part FP
  obtain ⟨mvL, kPL⟩ := kb_partL FP
  obtain ⟨mv1, kP1⟩ := kb_part1 FP
  refine okG F scParts (fun vs H Q h => ?_) (fun cdv A outer s H vs Q hr h => ?_)
  · obtain ⟨_, _, _, _, _, _, rfl, _⟩ := h
    rfl
  · obtain ⟨a, b, d, ρ, π, φ, rfl, hA, hB, hD, dA, dB, dD, q⟩ := h
    have h1r : RG (k + 1) (A.deeper (envOfC "_law_parts_right" (defScope sParts) s.heap.objs.size f cdv)) := hr.mono (by omega)
    have h2r : RG (k + 2) (A.deeper (envOfC "_law_parts_right" (defScope sParts) s.heap.objs.size f cdv)) := hr.mono (by omega)
    have hun := hr.room.units
    refine ⟨_, pss_cons (ps_for PassesOwn.never rfl (pi_tup (pe_tup (pa_cons pe_int (pa_cons pe_int (pa_cons pe_int pa_nil))))) (pg_name (i := 3) scParts.nd rfl (.inl rfl))
        (pss_cons (ps_set (i := 4) scParts.nd rfl (.inl rfl) (pe_gn GP h2r (by rfl) gP FP.kp kPL (pa_cons (pv 0) pa_nil) (pk_cons (pv 3) pk_nil)))
        (pss_cons (ps_set (i := 5) scParts.nd rfl (.inl rfl) (pe_g GA h1r (by rfl) gA FA.kp bA .nil (pa_cons (pv 0) (pa_cons (pe_g GS h1r (by rfl) gS FS.kp bS .nil (pa_cons (pv 4) (pa_cons (pe_un un_neg pe_int) pa_nil))) pa_nil))))
        (pss_cons (ps_if (PW.pt (pw_or (pt_cmpR (op_neD hun) (pe_g GA h1r (by rfl) gA FA.kp bA .nil (pa_cons (pv 4) (pa_cons (pv 5) pa_nil))) (pv 0) (nomark _))
            (pw_or1 (pt_cmpR (op_neD hun) (pe_gn GP h2r (by rfl) gP FP.kp kPL (pa_cons (pv 5) pa_nil) (pk_cons (pv 3) pk_nil)) (pe_tup pa_nil) (nomark _))))) (pss_one (ps_ret pe_bl)) pss_nil)
        (pss_cons (ps_if (pt_cmpR op_ne (pe_op op_add (pe_g GV h2r (by rfl) gV FV.kp bV .nil (pa_cons (pv 4) (pa_cons (pv 2) pa_nil))) (pe_g GV h2r (by rfl) gV FV.kp bV .nil (pa_cons (pv 5) (pa_cons (pv 2) pa_nil)))) (pe_g GV h2r (by rfl) gV FV.kp bV .nil (pa_cons (pv 0) (pa_cons (pv 2) pa_nil))) (nomark _)) (pss_one (ps_ret pe_bl)) pss_nil)
        (pss_cons (ps_set (i := 6) scParts.nd rfl (.inl rfl) (pe_gn GP h2r (by rfl) gP FP.kp kPL (pa_cons (pe_g GA h1r (by rfl) gA FA.kp bA .nil (pa_cons (pv 0) (pa_cons (pv 1) pa_nil))) pa_nil) (pk_cons (pv 3) pk_nil)))
        (pss_one (ps_if (pt_cmpR (op_neD hun) (pv 6) (pe_g GA h1r (by rfl) gA FA.kp bA .nil (pa_cons (pv 4) (pa_cons (pe_gn GP h2r (by rfl) gP FP.kp kPL (pa_cons (pv 1) pa_nil) (pk_cons (pv 3) pk_nil)) pa_nil))) (nomark _)) (pss_one (ps_ret pe_bl)) pss_nil))))))))
      (pss_cons (ps_par (by rfl) scParts.nd (i := 7) (j := 8) rfl rfl (by decide) rfl rfl (pa_cons (pe_gn GP h2r (by rfl) gP FP.kp kP1 (pa_cons (pv 0) pa_nil) (pk_cons (pe_tup (pa_cons pe_str pa_nil)) pk_nil)) (pa_cons (pe_gn GP h2r (by rfl) gP FP.kp kP1 (pa_cons (pv 0) pa_nil) (pk_cons (pe_tup (pa_cons pe_str (pa_cons pe_str pa_nil))) pk_nil)) pa_nil)) (by rfl))
      (pss_cons (ps_if (PW.pt (pw_or (pt_cmpR (op_neD hun) (pe_g GA h1r (by rfl) gA FA.kp bA .nil (pa_cons (pv 7) (pa_cons (pv 8) pa_nil))) (pv 0) (nomark _))
            (pw_or1 (pt_cmpR op_ne (pe_g GE h1r (by rfl) gE FE.kp bE .nil (pa_cons (pv 7) (pa_cons (pv 8) pa_nil))) pe_int (nomark _))))) (pss_one (ps_ret pe_bl)) pss_nil)
      (pss_cons (ps_set (i := 9) scParts.nd rfl (.inl rfl) (pe_gn GP h2r (by rfl) gP FP.kp kP1 (pa_cons (pe_gn GP h2r (by rfl) gP FP.kp kPL (pa_cons (pv 0) pa_nil) (pk_cons pe_int pk_nil)) pa_nil) (pk_cons (pe_tup (pa_cons pe_str pa_nil)) pk_nil)))
      (pss_one (ps_ret (pe_chain (op_eqD hun) (op_eqD hun) (pv 9) (pe_gn GP h2r (by rfl) gP FP.kp kPL (pa_cons (pv 7) pa_nil) (pk_cons pe_int pk_nil)) (pe_gn GP h2r (by rfl) gP FP.kp kP (pa_cons (pv 0) pa_nil) (pk_cons pe_int (pk_cons (pe_tup (pa_cons pe_str pa_nil)) pk_nil))))))))), ?_⟩
    have lA := Dr.len dA
    have lB := Dr.len dB
    have lD := Dr.len dD
    have p := p64
    have dAB := dA.sum dB
    have lAB := Dr.len dAB
    refine iSeq ?_
    refine ⟨by show 3 ≤ sizeLine; decide, fun t ht => ?_⟩
    have st := same_new (o := .tup (lasts3.map V.int)) ht
    refine ⟨t, rfl, ⟨_, sqT upd_same⟩, ?_⟩
    refine for_tup (K := K) (xs := lasts3.map V.int) (fun i σ' H' => (∃ v3 v4 v5 v6, σ' = [some (.ref a), some (.ref b), some (.ref d), v3, v4, v5, v6, none, none, none]) ∧ Same (upd H t (.tup (lasts3.map V.int))) H') ⟨⟨none, none, none, none, rfl⟩, Same.refl _⟩ (fun i σ' H' _ h => sqT (h.2 _ _ upd_same)) (fun i x σ' H' hx h => ?_) (fun σ' H' h => ?_)
    · obtain ⟨y, hy, rfl⟩ := map_at hx
      obtain ⟨⟨v3, v4, v5, v6, rfl⟩, sm⟩ := h
      have k0 := st.trans sm
      have hA0 := hA.keep (KeepT.of k0)
      have hB0 := hB.keep (KeepT.of k0)
      have hD0 := hD.keep (KeepT.of k0)
      have dE := dr_part dA (some y) none
      have lE := Dr.len dE
      have dN := dE.scale (t := -1) (T := 1) (by decide) (by decide) (by decide)
      have lN := Dr.len dN
      have dL := dA.sum dN
      have lL := Dr.len dL
      have dO := dr_part dB (some y) none
      have lO := Dr.len dO
      refine iName ?_
      refine iSeq (iAsg ?_)
      refine ⟨.ref a, rfl, .int y, rfl, rfl, rfl, a, ρ, some y, .non, none, rfl, hA0, by omega, rfl, fun H1 p1 s1 r1 => ?_⟩
      refine iName ?_
      dsimp only
      refine iSeq (iAsg ?_)
      refine ⟨.ref a, rfl, .ref p1, rfl, 1, rfl, p1, _, -1, rfl, r1, by omega, by decide, by decide, fun H2 p2 s2 r2 => ?_⟩
      have t2 := s1.trans s2
      refine ⟨a, p2, ρ, _, rfl, hA0.keep (KeepT.of t2), r2, by omega, by omega, fun H3 p3 s3 r3 => ?_⟩
      have t3 := t2.trans s3
      refine iName ?_
      dsimp only
      refine iSeq ?_
      have r13 := r1.keep (KeepT.of (s2.trans s3))
      refine ⟨.ref p1, rfl, .ref p3, rfl, p1, p3, _, _, rfl, r13, r3, by omega, by omega, fun H4 p4 s4 r4 => ?_⟩
      have t4 := t3.trans s4
      refine ⟨.ref a, rfl, ne_rows r4 (hA0.keep (KeepT.of t4)) (dE.sum dL) (part_back dA) ⟨false, rfl, iteF ?_⟩⟩
      refine ⟨.ref p3, rfl, .int y, rfl, rfl, rfl, p3, _, some y, .non, none, rfl, r3.keep (KeepT.of s4), by omega, rfl, fun H5 p5 s5 r5 => ?_⟩
      have t5 := t4.trans s5
      refine ⟨Nat.zero_le _, fun e he => ?_⟩
      have t6 := t5.trans (same_new (o := .tup []) he)
      refine ne_rows (r5.keep (KeepT.new he)) ⟨[], upd_same, .nil⟩ (dr_part dL (some y) none) (part_late dA) ⟨false, rfl, iteF ?_⟩
      refine iNext ?_
      dsimp only
      refine iSeq ?_
      have kx := (s4.trans s5).trans (same_new (o := .tup []) he)
      have r16 := r13.keep (KeepT.of kx)
      have r36 := r3.keep (KeepT.of kx)
      generalize upd H5 e (.tup []) = H6 at t6 kx r16 r36 ⊢
      refine ⟨.ref p1, rfl, .ref d, rfl, p1, d, _, φ, rfl, r16, hD0.keep (KeepT.of t6), by omega, by omega, Dr.wide dD (by omega), fun H7 s7 => ?_⟩
      have t7 := t6.trans s7
      refine ⟨.ref p3, rfl, .ref d, rfl, p3, d, _, φ, rfl, r36.keep (KeepT.of s7), hD0.keep (KeepT.of t7), by omega, by omega, Dr.wide dD (by omega), fun H8 s8 => ?_⟩
      have t8 := t7.trans s8
      refine ⟨_, _, rfl, rfl, ?_⟩
      refine ⟨.ref a, rfl, .ref d, rfl, a, d, ρ, φ, rfl, hA0.keep (KeepT.of t8), hD0.keep (KeepT.of t8), by omega, by omega, Dr.wide dD (by omega), fun H9 s9 => ?_⟩
      have t9 := t8.trans s9
      have e1 : effR φ (ρ.filter (insideR (some y) none)) + effR φ (addR ρ (scaleR (ρ.filter (insideR (some y) none)) (-1)) 1) = effR φ ρ := by
        rw [← eff_right dE dL dD.ok, part_back dA]
      refine ⟨rfl, false, ?_, iteF ?_⟩
      · show V.bl (!decide (V.int (effR φ (ρ.filter (insideR (some y) none)) + effR φ (addR ρ (scaleR (ρ.filter (insideR (some y) none)) (-1)) 1)) = V.int (effR φ ρ))) = V.bl false
        rw [e1, decide_eq_true rfl]
        rfl
      refine iNext ?_
      dsimp only
      refine iSeq (iAsg ?_)
      refine ⟨.ref a, rfl, .ref b, rfl, a, b, ρ, π, rfl, hA0.keep (KeepT.of t9), hB0.keep (KeepT.of t9), by omega, by omega, fun H10 p10 s10 r10 => ?_⟩
      have t10 := t9.trans s10
      refine ⟨.int y, rfl, rfl, rfl, p10, _, some y, .non, none, rfl, r10, by omega, rfl, fun H11 p11 s11 r11 => ?_⟩
      have t11 := t10.trans s11
      refine iName ?_
      dsimp only
      refine ⟨.ref p11, rfl, .ref p1, rfl, .ref b, rfl, .int y, rfl, rfl, rfl, b, π, some y, .non, none, rfl, hB0.keep (KeepT.of t11), by omega, rfl, fun H12 p12 s12 r12 => ?_⟩
      have t12 := t11.trans s12
      have r112 := r16.keep (KeepT.of ((((s7.trans s8).trans s9).trans s10).trans (s11.trans s12)))
      refine ⟨p1, p12, _, _, rfl, r112, r12, by omega, by omega, fun H13 p13 s13 r13 => ?_⟩
      have t13 := t12.trans s13
      refine ne_rows (r11.keep (KeepT.of (s12.trans s13))) r13 (dr_part dAB (some y) none) (part_add dA dB) ⟨false, rfl, iteF ?_⟩
      exact ⟨⟨_, _, _, _, rfl⟩, sm.trans t13⟩
    · obtain ⟨⟨v3, v4, v5, v6, rfl⟩, sm⟩ := h
      dsimp only
      have k0 := st.trans sm
      have hA0 := hA.keep (KeepT.of k0)
      have dLe := dr_part dA none accA
      have lLe := Dr.len dLe
      have dRi := dr_part dA none accB
      have lRi := Dr.len dRi
      have dE := dr_part dA (some 1) none
      have lE := Dr.len dE
      refine iSeq ?_
      refine ⟨.ref a, rfl, by show 1 ≤ sizeLine; decide, fun x1 hx1 => ?_⟩
      have n1 := same_new (o := .tup [.str "a"]) hx1
      refine ⟨rfl, rfl, a, ρ, none, .ref x1, accA, rfl, hA0.keep (KeepT.of n1), by omega, ⟨x1, rfl, upd_same⟩, fun H1 p1 s1 r1 => ?_⟩
      have t1 := n1.trans s1
      refine ⟨.ref a, rfl, by show 2 ≤ sizeLine; decide, fun x2 hx2 => ?_⟩
      have n2 := same_new (o := .tup [.str "b", .str "zzzzzzzz"]) hx2
      have t1' := t1.trans n2
      refine ⟨rfl, rfl, a, ρ, none, .ref x2, accB, rfl, hA0.keep (KeepT.of t1'), by omega, ⟨x2, rfl, upd_same⟩, fun H2 p2 s2 r2 => ?_⟩
      have t2 := t1'.trans s2
      have r12 := r1.keep (KeepT.of (n2.trans s2))
      refine ⟨_, _, rfl, ?_⟩
      dsimp only
      refine iSeq ?_
      refine ⟨.ref p1, rfl, .ref p2, rfl, p1, p2, _, _, rfl, r12, r2, by omega, by omega, fun H3 p3 s3 r3 => ?_⟩
      have t3 := t2.trans s3
      refine ⟨.ref a, rfl, ne_rows r3 (hA0.keep (KeepT.of t3)) (dLe.sum dRi) (sides dA) ⟨false, rfl, iteF ?_⟩⟩
      refine ⟨.ref p1, rfl, .ref p2, rfl, p1, p2, _, _, rfl, r12.keep (KeepT.of s3), r2.keep (KeepT.of s3), by omega, by omega, Dr.wide dLe (by omega), fun H4 s4 => ?_⟩
      have t4 := t3.trans s4
      refine ⟨rfl, _, rfl, ?_⟩
      rw [sides_eff dA, decide_eq_true rfl]
      refine iteF ?_
      refine iNext ?_
      dsimp only
      refine iSeq (iAsg ?_)
      refine ⟨.ref a, rfl, rfl, rfl, a, ρ, some 1, .non, none, rfl, hA0.keep (KeepT.of t4), by omega, rfl, fun H5 p5 s5 r5 => ?_⟩
      have t5 := t4.trans s5
      refine ⟨by show 1 ≤ sizeLine; decide, fun x3 hx3 => ?_⟩
      have n3 := same_new (o := .tup [.str "a"]) hx3
      have t5' := t5.trans n3
      refine ⟨rfl, rfl, p5, _, none, .ref x3, accA, rfl, r5.keep (KeepT.of n3), by omega, ⟨x3, rfl, upd_same⟩, fun H6 p6 s6 r6 => ?_⟩
      have t6 := t5'.trans s6
      refine iName ?_
      dsimp only
      have r16 := r12.keep (KeepT.of ((s3.trans s4).trans ((s5.trans n3).trans s6)))
      refine ⟨.ref p6, rfl, .ref p1, rfl, rfl, rfl, p1, _, some 1, .non, none, rfl, r16, by omega, rfl, fun H7 p7 s7 r7 => ?_⟩
      have t7 := t6.trans s7
      refine eq_rows (r6.keep (KeepT.of s7)) r7 (dr_part dE none accA) (way_one (some 1) accA) ⟨true, rfl, ?_⟩
      refine ⟨.ref a, rfl, by show 1 ≤ sizeLine; decide, fun x4 hx4 => ?_⟩
      have n4 := same_new (o := .tup [.str "a"]) hx4
      have t8 := t7.trans n4
      refine ⟨rfl, rfl, a, ρ, some 1, .ref x4, accA, rfl, hA0.keep (KeepT.of t8), by omega, ⟨x4, rfl, upd_same⟩, fun H9 p9 s9 r9 => ?_⟩
      refine eq_rows (r7.keep (KeepT.of (n4.trans s9))) r9 (dr_part dLe (some 1) none) (way_two (some 1) accA) (q _ ?_)
      exact (k0.trans t8).trans s9
end
end P09
namespace P09
open PySem PySem.Spec PyProof.Rows L2 AskG
/-! ### the rows by hand -/
def gw (i : Nat) : Int := ([1, -2, 3] : List Int).getD (i % 3) 0
def rowG (x : Str) : RowD := (List.range 10).map fun (i : Nat) => ((x, 0 + (i : Int)), gw i)
def rowN (x : Str) (n : Nat) : RowD := (List.range n).map fun (i : Nat) => ((x, 0 + (i : Int)), gw i)
def greatOf : List Str → RowD
  | [] => []
  | x :: l => rowG x ++ greatOf l
theorem greatOf_snoc (x : Str) : ∀ l, greatOf (l ++ [x]) = greatOf l ++ rowG x
  | [] => by
    show rowG x ++ [] = [] ++ rowG x
    rw [List.append_nil, List.nil_append]
  | y :: l => by
    show rowG y ++ greatOf (l ++ [x]) = rowG y ++ greatOf l ++ rowG x
    rw [greatOf_snoc x l, List.append_assoc]
def names3 : List Str := ["a", "b", "zzzzzzzz"]
def great : RowD := greatOf names3
def ones : RowD := great.map fun x => (x.1, 1)
def slice : RowD := (great.drop 3).take 6
def drB (ρ : RowD) : Bool := decide (Rising (keys ρ)) && ρ.all fun x => decide (x.1 ∈ allC) && decide (-1000 ≤ x.2) && decide (x.2 ≤ 1000) && decide (x.2 ≠ 0)
theorem dr_by {ρ : RowD} (h : drB ρ = true) : Dr 1000 ρ := by
  unfold drB at h
  rw [Bool.and_eq_true] at h
  obtain ⟨h1, h3⟩ := h
  have up := of_decide_eq_true h1
  have each : ∀ x ∈ ρ, x.1 ∈ allC ∧ -1000 ≤ x.2 ∧ x.2 ≤ 1000 ∧ x.2 ≠ 0 := fun x hx => by
    have := List.all_eq_true.mp h3 x hx
    rw [Bool.and_eq_true, Bool.and_eq_true, Bool.and_eq_true] at this
    obtain ⟨⟨⟨a, b⟩, c⟩, d⟩ := this
    exact ⟨of_decide_eq_true a, of_decide_eq_true b, of_decide_eq_true c, of_decide_eq_true d⟩
  refine ⟨⟨up, fun x hx => (each x hx).2.2.2⟩, fun c hc => ?_, fun c => ?_⟩
  · obtain ⟨x, hx, rfl⟩ := List.mem_map.mp hc
    exact (each x hx).1
  · by_cases hc : c ∈ keys ρ
    · obtain ⟨w, h1, h2⟩ := getO_some hc
      have e : get0 ρ c = w := by
        unfold get0
        rw [h1]
        rfl
      rw [e]
      exact ⟨(each _ h2).2.1, (each _ h2).2.2.1⟩
    · rw [get0_none hc]
      omega
theorem dr_great : Dr 1000 great := dr_by (by decide +kernel)
theorem dr_ones : Dr 1000 ones := dr_by (by decide +kernel)
theorem dr_slice : Dr 1000 slice := dr_by (by decide +kernel)
theorem great_len : great.length = 30 := by decide +kernel
theorem rowG_len (x : Str) : (rowG x).length = 10 := by
  unfold rowG
  rw [List.length_map, List.length_range]
theorem at_gw (i : Nat) : atI ([1, -2, 3].map V.int) ((0 + (i : Int)) % 3) = some (.int (gw i)) := by
  have e : (0 + (i : Int)) % 3 = ((i % 3 : Nat) : Int) := by omega
  rw [e]
  refine atI_nat ?_
  have h : i % 3 < 3 := Nat.mod_lt _ (by decide)
  unfold gw
  generalize i % 3 = j at h
  match j, h with
  | 0, _ => rfl
  | 1, _ => rfl
  | 2, _ => rfl
theorem paired_app {α β : Type} {R : α → β → Prop} {l1 l2 : List α} {m1 m2 : List β} (h1 : Paired R l1 m1) (h2 : Paired R l2 m2) : Paired R (l1 ++ l2) (m1 ++ m2) := by
  induction h1 with
  | nil => exact h2
  | cons h _ ih => exact .cons h ih
theorem paired_drop {α β : Type} {R : α → β → Prop} : ∀ (n : Nat) {l : List α} {m : List β}, Paired R l m → Paired R (l.drop n) (m.drop n)
  | 0, _, _, h => h
  | _ + 1, _, _, .nil => .nil
  | n + 1, _, _, .cons _ t => paired_drop n t
theorem paired_take {α β : Type} {R : α → β → Prop} : ∀ (n : Nat) {l : List α} {m : List β}, Paired R l m → Paired R (l.take n) (m.take n)
  | 0, _, _, _ => .nil
  | _ + 1, _, _, .nil => .nil
  | n + 1, _, _, .cons h t => .cons h (paired_take n t)
section
variable {K : PySem.W.Frag}
theorem cut_row {H : Hp} {p : Addr} {ps : List Addr} {ρ : RowD} (hp : H p = none) (hl : ps.length = 30) (h : Paired (PairRow H) ps ρ) :
    RowAt (upd H p (.tup (cutV (ps.map V.ref) (some 3) (some 9)))) p ((ρ.drop 3).take 6) := by
  have e : cutV (ps.map V.ref) (some 3) (some 9) = ((ps.drop 3).take 6).map V.ref := by
    unfold cutV
    rw [List.length_map, hl]
    show ((ps.map V.ref).drop 3).take 6 = _
    rw [List.map_take, List.map_drop]
  rw [e]
  exact ⟨_, upd_same, Paired.mapP (paired_take 6 (paired_drop 3 h)) fun _ _ z => z.keep (KeepT.new hp)⟩
theorem cut_part {ps : List Addr} (hl : ps.length = 30) : ¬ (HT.sIx (ps.map V.ref).length 0 (some 3) = 0 ∧ HT.sIx (ps.map V.ref).length (ps.map V.ref).length (some 9) = (ps.map V.ref).length) := by
  rw [List.length_map, hl]
  decide
/-- [((name, k), ..) for k in range(10)] -/
theorem lc_great {ic jn : Nat} {σ : L2.St} {H : Hp} {Q : VK} {x : Str} {tw : TE} (hic : ic < σ.length) (hne : jn ≠ ic) (hn : σ[jn]? = some (some (.str x)))
    (htw : ∀ σ' H' (i : Nat) (Q' : VK), σ'[ic]? = some (some (.int (0 + (i : Int)))) → (∀ H'', Same H' H'' → Q' (.int (gw i)) H'') → tw σ' H' Q')
    (q : ∀ H' L ps, Same H H' → H L = none → H' L = some (.lst (ps.map V.ref)) → Paired (PairRow H') ps (rowG x) → Q (.ref L) H') :
    tLc (iRng1 (tCons (tC (.int 10)) tNil)) (gName ic) tYes (tTup (tCons (tTup (tCons (tVar jn) (tCons (tVar ic) tNil))) (tCons tw tNil))) [ic] σ H Q := by
  refine ⟨10, rfl, by decide, by decide, fun L hL => ?_⟩
  refine lc_range (lo := 0) (n := 10) (fun i H' => Same H H' ∧ ∃ ps, H' L = some (.lst (ps.map V.ref)) ∧ Paired (PairRow H') ps (rowN x i) ∧ ps.length = i)
    ⟨same_new hL, [], upd_same, .nil, rfl⟩ (fun i H' hi h => ?_) (fun H' h => ?_)
  · obtain ⟨sm, ps, hps, hpp, hpl⟩ := h
    have big := sizeBig
    refine ⟨wipe1, iYes (iteT ?_)⟩
    have hat : ((wipe σ [ic]).set ic (some (.int (0 + (i : Int)))))[ic]? = some (some (.int (0 + (i : Int)))) := set1_at hic
    have hna : ((wipe σ [ic]).set ic (some (.int (0 + (i : Int)))))[jn]? = some (some (.str x)) := (set1_old hne).trans hn
    refine ⟨_, hna, _, hat, by show 2 ≤ sizeLine; decide, fun b hb => ?_⟩
    have s1 : Same H' (upd H' b (.tup [.str x, .int (0 + (i : Int))])) := same_new hb
    refine htw _ _ i _ hat fun H2 sm2 => ⟨by show 2 ≤ sizeLine; decide, fun t ht => ?_⟩
    have s2 := same_new (o := .tup [.ref b, .int (gw i)]) ht
    have s12 := sm2.trans s2
    have hps2 := s12 _ _ (s1 _ _ hps)
    refine ⟨ps.map V.ref, hps2, by rw [List.length_map]; omega, ?_, ps ++ [t], ?_, ?_, by rw [List.length_append, hpl]; rfl⟩
    · intro b' o' e'
      rw [upd_ne (ne_of_none e' hL)]
      exact s12 _ _ (s1 _ _ (sm _ _ e'))
    · rw [upd_same, List.map_append]
      rfl
    · have k3 := KeepT.put (o := .lst (ps.map V.ref ++ [.ref t])) hps2 (fun _ z => nomatch z)
      have k := ((KeepT.of s1).trans (KeepT.of s12)).trans k3
      have e : rowN x (i + 1) = rowN x i ++ [((x, 0 + (i : Int)), gw i)] := by
        unfold rowN
        rw [List.range_succ, List.map_append]
        rfl
      rw [e]
      refine Paired.snoc (Paired.mapP hpp fun _ _ z => z.keep k) ⟨b, k3 _ _ upd_same, k3 _ _ (s12 _ _ upd_same)⟩
  · obtain ⟨sm, ps, hps, hpp, _⟩ := h
    exact q H' L ps sm hL hps hpp
/-- [(pair[0], 1) for pair in row] -/
theorem lc_ones {i a : Nat} {σ : L2.St} {H : Hp} {Q : VK} {r : Addr} {ρ : RowD} {te : TE} (hi : σ[i]? = some (some (.ref r))) (hr : RowAt H r ρ) (ha : a < σ.length) (hz : ρ.length ≤ 100)
    (hte : ∀ σ' H' (p b : Addr) (v : V) (Q' : VK), σ'[a]? = some (some (.ref p)) → H' p = some (.tup [.ref b, v]) → Q' (.ref b) H' → te σ' H' Q')
    (q : ∀ H' L ps, Same H H' → H' L = some (.lst (ps.map V.ref)) → Paired (PairRow H') ps (ρ.map fun x => (x.1, 1)) → Q (.ref L) H') :
    tLc (iTup K (tVar i)) (gName a) tYes (tTup (tCons te (tCons (tC (.int 1)) tNil))) [a] σ H Q := by
  obtain ⟨qs, hq, hp⟩ := hr
  have ql : qs.length = ρ.length := Paired.length hp
  refine ⟨.ref r, hi, r, rfl, ⟨_, sqT hq⟩, fun L hL => ?_⟩
  refine lc_tup (xs := qs.map V.ref) (fun i H' => Same H H' ∧ ∃ ps, H' L = some (.lst (ps.map V.ref)) ∧ Paired (PairRow H') ps ((ρ.take i).map fun x => (x.1, 1)) ∧ ps.length ≤ i) ⟨same_new hL, [], upd_same, .nil, Nat.le_refl _⟩ (fun i H' _ h => sqT (h.1 _ _ hq)) (fun j y H' hy h => ?_) (fun H' h => ?_)
  · obtain ⟨sm, ps, hps, hpp, hpl⟩ := h
    have big := sizeBig
    obtain ⟨p, hpm, rfl⟩ : ∃ p, qs[j]? = some p ∧ V.ref p = y := by
      rw [List.getElem?_map] at hy
      cases e : qs[j]? with
      | none =>
        rw [e] at hy
        cases hy
      | some p =>
        rw [e] at hy
        exact ⟨p, rfl, Option.some.inj hy⟩
    have jl := (List.getElem?_eq_some_iff.mp hpm).1
    obtain ⟨z, hz', b, h1, h2⟩ := paired_at' hp hpm
    have k0 := KeepT.of sm
    refine ⟨wipe1, iYes (iteT ?_)⟩
    refine hte _ _ p b _ _ (set1_at ha) (k0 _ _ h1) ⟨by show 2 ≤ sizeLine; decide, fun t ht => ?_⟩
    have s2 := same_new (o := .tup [.ref b, .int 1]) ht
    have hps2 := s2 _ _ hps
    refine ⟨ps.map V.ref, hps2, by rw [List.length_map]; omega, ?_, ps ++ [t], ?_, ?_, by rw [List.length_append]; show ps.length + 1 ≤ j + 1; omega⟩
    · intro b' o' e'
      rw [upd_ne (ne_of_none e' hL)]
      exact s2 _ _ (sm _ _ e')
    · rw [upd_same, List.map_append]
      rfl
    · have k3 := KeepT.put (o := .lst (ps.map V.ref ++ [.ref t])) hps2 (fun _ z => nomatch z)
      have k := (KeepT.of s2).trans k3
      have e : (ρ.take (j + 1)).map (fun x => ((x.1, 1) : Cell × Int)) = (ρ.take j).map (fun x => ((x.1, 1) : Cell × Int)) ++ [(z.1, 1)] := by
        rw [List.take_add_one, hz', List.map_append]
        rfl
      rw [e]
      exact Paired.snoc (Paired.mapP hpp fun _ _ z => z.keep k) ⟨b, k3 _ _ upd_same, (h2.keep k0).keep k⟩
  · obtain ⟨sm, ps, hps, hpp, _⟩ := h
    have e : ρ.take (qs.map V.ref).length = ρ := by
      rw [List.length_map, ql]
      exact List.take_length
    rw [e] at hpp
    exact q H' L ps sm hps hpp
end
end P09
namespace P09
open PySem PySem.Spec PyProof.Rows L2 AskG
abbrev sLaw : Stmt := topS 31
abbrev NL : List Str := ["_law_script", "_law_feed_here", "_law_great", "_law_name", "_law_k", "_law_systems", "_law_system_here", "_law_facts_here", "_law_one_line", "_law_other_line", "_law_third", "_law_pair"]
theorem scLaw : FnScope NL ["_law_script"] (defScope sLaw) := ⟨rfl, rfl, rfl, by decide +kernel, rfl, by decide +kernel, by decide +kernel⟩
/-- systems in a list -/
def SysOk (ρs : List RowD) : Prop := ρs.length ≤ 7 ∧ ∀ ρ ∈ ρs, Dr 1000 ρ
structure Sum0 (H0 : Hp) (F L D : Addr) (H : Hp) (ss : List Addr) (ρss : List (List RowD)) : Prop where
  keep : KeepF F H0 H
  feed : FeedAt H F L
  list : H D = some (.lst (ss.map V.ref))
  sys : Paired (SysAt H) ss ρss
  ok : ∀ ρs ∈ ρss, SysOk ρs
section
variable {P : Program} {w : World} {K : PySem.W.Frag} {mg : Str → Option Value} {base : Heap}
def prLaw (K : PySem.W.Frag) : Pr := fun vs H Q => ∃ (a : Addr) (ns : List Int), vs = [.ref a] ∧ SqL K H a (ns.map V.int) ∧ ∀ H', Q (.bl true) H'
variable {fF fS fZ fC fT fV fP fR fE : Addr} {fdF fdS fdZ fdC fdT fdV fdP fdR fdE : FuncData}
theorem at_prev {rs : List Addr} {i : Nat} (h : i < rs.length) : ∃ r, r ∈ rs ∧ atI (rs.map V.ref) (0 + (i : Int) - 1) = some (.ref r) := by
  cases i with
  | zero =>
    have hn : rs.length - 1 < rs.length := by omega
    refine ⟨rs[rs.length - 1], List.getElem_mem hn, ?_⟩
    have := atI_neg (k := 1) (xs := rs.map V.ref) (v := .ref rs[rs.length - 1]) (by decide) (by rw [List.length_map]; omega) (by rw [List.length_map, List.getElem?_map, List.getElem?_eq_getElem hn]; rfl)
    exact this
  | succ j =>
    have hn : j < rs.length := by omega
    refine ⟨rs[j], List.getElem_mem hn, ?_⟩
    have e : (0 + ((j + 1 : Nat) : Int) - 1) = (j : Int) := by omega
    rw [e]
    exact atI_nat (by rw [List.getElem?_map, List.getElem?_eq_getElem hn]; rfl)
theorem at_half {rs : List Addr} {i : Nat} (h : i < rs.length) : ∃ r, r ∈ rs ∧ atI (rs.map V.ref) ((0 + (i : Int)) / 2) = some (.ref r) := by
  have hn : i / 2 < rs.length := by omega
  refine ⟨rs[i / 2], List.getElem_mem hn, ?_⟩
  have e : (0 + (i : Int)) / 2 = ((i / 2 : Nat) : Int) := by omega
  rw [e]
  exact atI_nat (by rw [List.getElem?_map, List.getElem?_eq_getElem hn]; rfl)
theorem at_self {rs : List Addr} {i : Nat} (h : i < rs.length) : ∃ r, r ∈ rs ∧ atI (rs.map V.ref) (0 + (i : Int)) = some (.ref r) := by
  refine ⟨rs[i], List.getElem_mem h, ?_⟩
  have e : (0 + (i : Int)) = ((i : Nat) : Int) := by omega
  rw [e]
  exact atI_nat (by rw [List.getElem?_map, List.getElem?_eq_getElem h]; rfl)
theorem row_in {H : Hp} {rs : List Addr} {ρs : List RowD} {r : Addr} (h : Paired (RowAt H) rs ρs) (hr : r ∈ rs) : ∃ ρ ∈ ρs, RowAt H r ρ := by
  obtain ⟨i, hi⟩ := List.getElem?_of_mem hr
  obtain ⟨ρ, h1, h2⟩ := paired_at' h hi
  exact ⟨ρ, List.mem_of_getElem? h1, h2⟩
theorem ok_law {f : Addr} {fd : FuncData} {k : Nat} (F : Fun K "law" "law" sLaw f fd)
    (FF : Fun K "_law_feed" "_law_feed" sFeed fF fdF) (bF : Binds K fdF ["_law_script"] []) (gF : mg "_law_feed" = some (.ref fF))
    (FS : Fun K "_law_system" "_law_system" sSys fS fdS) (bS : Binds K fdS ["_law_feed_here", "_law_most"] []) (gS : mg "_law_system" = some (.ref fS)) (GS : FnG P w K mg base (k + 3) fS fdS ["_law_feed_here", "_law_most"] prSys)
    (FZ : Fun K "_law_cells_of" "_law_cells_of" sCells fZ fdZ) (bZ : Binds K fdZ ["_law_system_here"] []) (gZ : mg "_law_cells_of" = some (.ref fZ)) (GZ : FnG P w K mg base (k + 1) fZ fdZ ["_law_system_here"] prCells)
    (FC : Fun K "_law_facts" "_law_facts" sFacts fC fdC) (bC : Binds K fdC ["_law_feed_here", "_law_cells"] []) (gC : mg "_law_facts" = some (.ref fC)) (GC : FnG P w K mg base (k + 2) fC fdC ["_law_feed_here", "_law_cells"] prFacts)
    (FT : Fun K "_law_three_right" "_law_three_right" sThree fT fdT) (bT : Binds K fdT ["_law_one_line", "_law_other_line", "_law_third"] []) (gT : mg "_law_three_right" = some (.ref fT)) (GT : FnG P w K mg base (k + 6) fT fdT ["_law_one_line", "_law_other_line", "_law_third"] prThree)
    (FV : Fun K "_law_values_right" "_law_values_right" sVals fV fdV) (bV : Binds K fdV ["_law_one_line", "_law_other_line", "_law_third", "_law_facts_here"] []) (gV : mg "_law_values_right" = some (.ref fV)) (GV : FnG P w K mg base (k + 6) fV fdV ["_law_one_line", "_law_other_line", "_law_third", "_law_facts_here"] prVals)
    (FP : Fun K "_law_parts_right" "_law_parts_right" sParts fP fdP) (bP : Binds K fdP ["_law_one_line", "_law_other_line", "_law_facts_here"] []) (gP : mg "_law_parts_right" = some (.ref fP)) (GP : FnG P w K mg base (k + 6) fP fdP ["_law_one_line", "_law_other_line", "_law_facts_here"] prParts)
    (FR : Fun K "are_rows" "are_rows" sAreRows fR fdR) (bR : Binds K fdR ["thing"] []) (gR : mg "are_rows" = some (.ref fR)) (GR : FnG P w K mg base (k + 6) fR fdR ["thing"] (prYes tRows))
    (FE : Fun K "row_value" "row_value" sVal fE fdE) (bE : Binds K fdE ["row", "data"] []) (gE : mg "row_value" = some (.ref fE)) (GE : FnG P w K mg base (k + 2) fE fdE ["row", "data"] prVal)
    (ml : mg "list" = none) (mr : mg "range" = none) (mt : mg "tuple" = none) (mn : mg "len" = none) : FnG P w K mg base (k + 7) f fd ["_law_script"] (prLaw K) := by
  have GF : FnG P w K mg base (k + 1) fF fdF ["_law_script"] (prFeed K) := ok_feed FF ml
  refine okG F scLaw (fun vs H Q h => ?_) (fun cdv A outer s H vs Q hr h => ?_)
  · obtain ⟨_, _, rfl, _⟩ := h
    rfl
  · obtain ⟨a, ns, rfl, hS, q⟩ := h
    have hr1 : RG (k + 1) (A.deeper (envOfC "law" (defScope sLaw) s.heap.objs.size f cdv)) := hr.mono (by omega)
    have hr2 : RG (k + 2) (A.deeper (envOfC "law" (defScope sLaw) s.heap.objs.size f cdv)) := hr.mono (by omega)
    have hr3 : RG (k + 3) (A.deeper (envOfC "law" (defScope sLaw) s.heap.objs.size f cdv)) := hr.mono (by omega)
    refine ⟨_, pss_cons (ps_set (i := 1) scLaw.nd rfl (.inl rfl) (pe_g GF hr1 (by rfl) gF FF.kp bF .nil (pa_cons (pv 0) pa_nil)))
      (pss_cons (ps_set (i := 2) scLaw.nd rfl (.inl rfl) (pe_tup pa_nil))
      (pss_cons (ps_for PassesOwn.never rfl (pi_tup (pe_tup (pa_cons pe_str (pa_cons pe_str (pa_cons pe_str pa_nil))))) (pg_name (i := 3) scLaw.nd rfl (.inr rfl))
        (pss_one (ps_set (i := 2) scLaw.nd rfl (.inl rfl) (pe_op op_catA (pv 2) (pe_callTy call_tuple_of (by rfl) mt (by decide +kernel) (pa_cons
          (pe_lc (own := [("_law_k", 4)]) (g := gName 4) (tt := tYes) rfl scLaw.nd (pi_range1 rfl mr (pa_cons pe_int pa_nil)) (blkOk_by (N := NL) (sc := defScope sLaw) (by decide +kernel)) (fun _ _ _ _ _ => pg_name (i := 4) scLaw.nd rfl (.inl rfl)) (fun _ _ _ _ _ => pts_nil)
            (fun _ _ _ _ _ => pe_tup (pa_cons (pe_tup (pa_cons (pv 3) (pa_cons (pv 4) pa_nil))) (pa_cons (pe_ix (ix_list : IxR _ (rIxL K)) (pe_lst (pa_cons pe_int (pa_cons (pe_un un_neg pe_int) (pa_cons pe_int pa_nil)))) (pe_op op_mod (pv 4) pe_int) (fun _ _ => rfl)) pa_nil)))) pa_nil))))))
      (pss_cons (ps_set (i := 5) scLaw.nd rfl (.inl rfl) (pe_lst (pa_cons (pe_tup (pa_cons (pv 2) (pa_cons
          (pe_callTy call_tuple_of (by rfl) mt (by decide +kernel) (pa_cons (pe_lc (own := [("_law_pair", 11)]) (g := gName 11) (tt := tYes) rfl scLaw.nd (pi_tup (pv 2)) (blkOk_by (N := NL) (sc := defScope sLaw) (by decide +kernel)) (fun _ _ _ _ _ => pg_name (i := 11) scLaw.nd rfl (.inl rfl)) (fun _ _ _ _ _ => pts_nil)
            (fun _ _ _ _ _ => pe_tup (pa_cons (pe_ix (ix_tup : IxR _ (rIxT K)) (pv 11) pe_int (fun _ _ => rfl)) (pa_cons pe_int pa_nil)))) pa_nil))
          (pa_cons (pe_slice sl_tup (pv 2) (po_some pe_int) (po_some pe_int)) pa_nil)))) pa_nil)))
      (pss_cons (ps_for PassesOwn.never rfl (pi_range1 rfl mr (pa_cons pe_int pa_nil)) (pg_name (i := 4) scLaw.nd rfl (.inl rfl))
        (pss_one (ps_expr (pe_bm PySem.F.plainAttrs_list PySem.F.slot_list_append PySem.F.type_list_append mt_append (pv 5) (pa_cons (pe_g GS hr3 (by rfl) gS FS.kp bS .nil (pa_cons (pv 1) (pa_cons pe_int pa_nil))) pa_nil)))))
      (pss_cons (ps_for PassesOwn.never rfl (pi_list (pv 5)) (pg_name (i := 6) scLaw.nd rfl (.inl rfl))
        (pss_cons (ps_set (i := 7) scLaw.nd rfl (.inl rfl) (pe_g GC hr2 (by rfl) gC FC.kp bC .nil (pa_cons (pv 1) (pa_cons (pe_op op_cat (pe_g GZ hr1 (by rfl) gZ FZ.kp bZ .nil (pa_cons (pv 6) pa_nil)) (pe_lst (pa_cons pe_cell pa_nil))) pa_nil))))
        (pss_cons (ps_for PassesOwn.never rfl (pi_range1 rfl mr (pa_cons (pe_callB call_len_seq (by rfl) mn PySem.boot_len (pa_cons (pv 6) pa_nil)) pa_nil)) (pg_name (i := 4) scLaw.nd rfl (.inl rfl))
          (pss_cons (ps_par3 (by rfl) scLaw.nd (i := 8) (j := 9) (l := 10) rfl rfl rfl (by decide) (by decide) (by decide) rfl rfl rfl
            (pa_cons (pe_ix (ix_tup : IxR _ (rIxT K)) (pv 6) (pv 4) (fun _ _ => rfl)) (pa_cons (pe_ix (ix_tup : IxR _ (rIxT K)) (pv 6) (pe_op op_sub (pv 4) pe_int) (fun _ _ => rfl)) (pa_cons (pe_ix (ix_tup : IxR _ (rIxT K)) (pv 6) (pe_op op_fdiv (pv 4) pe_int) (fun _ _ => rfl)) pa_nil))) (by rfl))
          (pss_cons (ps_if (pt_not (pt_val (pe_g GT hr (by rfl) gT FT.kp bT .nil (pa_cons (pv 8) (pa_cons (pv 9) (pa_cons (pv 10) pa_nil)))))) (pss_one (ps_ret pe_bl)) pss_nil)
          (pss_cons (ps_if (pt_not (pt_val (pe_g GV hr (by rfl) gV FV.kp bV .nil (pa_cons (pv 8) (pa_cons (pv 9) (pa_cons (pv 10) (pa_cons (pv 7) pa_nil))))))) (pss_one (ps_ret pe_bl)) pss_nil)
          (pss_one (ps_if (pt_not (pt_val (pe_g GP hr (by rfl) gP FP.kp bP .nil (pa_cons (pv 8) (pa_cons (pv 9) (pa_cons (pv 7) pa_nil)))))) (pss_one (ps_ret pe_bl)) pss_nil))))))
        (pss_one (ps_if (PW.pt (pw_or (pt_not (pt_val (pe_g GR hr (by rfl) gR FR.kp bR .nil (pa_cons (pv 6) pa_nil)))) (pw_or1 (pt_cmpR op_ne (pe_g GE hr2 (by rfl) gE FE.kp bE .nil (pa_cons (pe_tup pa_nil) (pa_cons (pv 7) pa_nil))) pe_int (nomark _))))) (pss_one (ps_ret pe_bl)) pss_nil)))))
      (pss_one (ps_ret pe_bl))))))), ?_⟩
    have big := sizeBig
    -- the feed
    refine ⟨.ref a, rfl, a, ns, rfl, hS, fun H1 Fd L s1 hF => ?_⟩
    refine iName ?_
    dsimp only
    -- great
    refine iSeq (iAsg ⟨Nat.zero_le _, fun e0 he0 => ?_⟩)
    have u0 := same_new (o := .tup []) he0
    have hF1 := hF.same u0
    have hg0 : RowAt (upd H1 e0 (.tup [])) e0 [] := ⟨[], upd_same, .nil⟩
    generalize upd H1 e0 (.tup []) = H2 at hF1 hg0 ⊢
    refine iName ?_
    dsimp only
    refine iSeq ?_
    refine split_s (fun σ' H' => ∃ g v3 v4, σ' = [some (.ref a), some (.ref Fd), some (.ref g), v3, v4, none, none, none, none, none, none, none] ∧ Same H2 H' ∧ RowAt H' g great) (fun nx hnx => ?_) (fun σ' H3 hx => ?_)
    · refine ⟨by show 3 ≤ sizeLine; decide, fun t ht => ?_⟩
      have st := same_new (o := .tup (names3.map V.str)) ht
      refine ⟨t, rfl, ⟨_, sqT upd_same⟩, ?_⟩
      refine for_tup (K := K) (xs := names3.map V.str) (fun i σ' H' => ∃ g v3 v4, σ' = [some (.ref a), some (.ref Fd), some (.ref g), v3, v4, none, none, none, none, none, none, none] ∧ Same (upd H2 t (.tup (names3.map V.str))) H' ∧ RowAt H' g (greatOf (names3.take i)))
        ⟨e0, none, none, rfl, Same.refl _, hg0.keep (KeepT.of st)⟩ (fun i σ' H' _ h => ?_) (fun i x σ' H' hx h => ?_) (fun σ' H' h => ?_)
      · obtain ⟨_, _, _, _, sm, _⟩ := h
        exact sqT (sm _ _ upd_same)
      · obtain ⟨g, v3, v4, rfl, sm, hg⟩ := h
        obtain ⟨y, hy, rfl⟩ : ∃ y, names3[i]? = some y ∧ V.str y = x := by
          rw [List.getElem?_map] at hx
          cases e : names3[i]? with
          | none =>
            rw [e] at hx
            cases hx
          | some y =>
            rw [e] at hx
            exact ⟨y, rfl, Option.some.inj hx⟩
        refine iName ?_
        refine iAsg (iOp ?_)
        refine ⟨.ref g, rfl, ?_⟩
        refine iCB (iCons ?_)
        refine lc_great (ic := 4) (jn := 3) (x := y) (by show 4 < 12; decide) (by decide) rfl (fun σ' H' i Q' hi hq => ⟨2, rfl, by show 3 ≤ sizeLine; decide, fun l hl => ⟨_, hi, _, 3, rfl, rfl, (by decide : (0 : Int) < 3), l, _, _, .int (gw i), rfl, rfl, sqL upd_same, at_gw i, hq _ (same_new hl)⟩⟩) (fun H4 La pa s4 hLa hpa hppa => ?_)
        refine ⟨La, _, rfl, .inl ⟨sqL hpa, fun p hp => ?_⟩⟩
        have s5 := same_new (o := .tup (pa.map V.ref)) hp
        have s45 := s4.trans s5
        obtain ⟨ps, hps, hpp⟩ := hg
        have la : pa.length = 10 := by rw [Paired.length hppa]; exact rowG_len y
        have ls : ps.length ≤ 30 := by
          rw [Paired.length hpp]
          have hi3 : i < 3 := (List.getElem?_eq_some_iff.mp hy).1
          have : ∀ i < 3, (greatOf (names3.take i)).length ≤ 30 := by decide +kernel
          exact this i hi3
        have et : names3.take (i + 1) = names3.take i ++ [y] := by
          rw [List.take_add_one, hy]
          rfl
        have hpa5 : (upd H4 p (.tup (pa.map V.ref))) p = some (.tup (pa.map V.ref)) := upd_same
        have hpp5 : Paired (PairRow (upd H4 p (.tup (pa.map V.ref)))) pa (rowG y) := Paired.mapP hppa fun _ _ z => z.keep (KeepT.of s5)
        have hpsx : Paired (PairRow (upd H4 p (.tup (pa.map V.ref)))) ps (greatOf (names3.take i)) := Paired.mapP hpp fun _ _ z => z.keep (KeepT.of s45)
        refine ⟨g, p, ps.map V.ref, pa.map V.ref, rfl, rfl, sqT (s45 _ _ hps), sqT hpa5, by rw [List.length_map, List.length_map]; omega, fun e => ?_, fun _ e => ?_, fun _ _ p2 hp2 => ?_⟩
        · have e' : ps = [] := List.map_eq_nil_iff.mp e
          subst e'
          refine ⟨p, _, _, rfl, sm.trans s45, ?_⟩
          rw [et, greatOf_snoc]
          have e0 : greatOf (names3.take i) = [] := List.eq_nil_of_length_eq_zero (Paired.length hpp).symm
          rw [e0, List.nil_append]
          exact ⟨pa, hpa5, hpp5⟩
        · have := congrArg List.length e
          rw [List.length_map, la] at this
          cases this
        · have s6 := same_new (o := .tup (ps.map V.ref ++ pa.map V.ref)) hp2
          refine ⟨p2, _, _, rfl, sm.trans (s45.trans s6), ?_⟩
          rw [et, greatOf_snoc]
          refine ⟨ps ++ pa, by rw [upd_same, List.map_append], paired_app (Paired.mapP hpsx fun _ _ z => z.keep (KeepT.of s6)) (Paired.mapP hpp5 fun _ _ z => z.keep (KeepT.of s6))⟩
      · obtain ⟨g, v3, v4, rfl, sm, hg⟩ := h
        exact hnx _ _ ⟨g, v3, v4, rfl, st.trans sm, hg⟩
    · obtain ⟨g, v3, v4, rfl, s3, hg⟩ := hx
      have hF3 := hF1.same s3
      dsimp only
      -- the first system
      refine iSeq (iAsg ?_)
      refine ⟨.ref g, rfl, ?_⟩
      try dsimp only
      refine iCons (iCB (iCons ?_))
      refine lc_ones (K := K) (i := 2) (a := 11) (σ := [some (.ref a), some (.ref Fd), some (.ref g), v3, v4, none, none, none, none, none, none, none]) (ρ := great) rfl hg (by show 11 < 12; decide) (by rw [great_len]; decide) (fun σ' H' p b v Q' hp hpt hq => ⟨.ref p, hp, p, _, 0, .ref b, rfl, rfl, sqT hpt, atI_nat (j := 0) rfl, hq⟩) (fun H4 Lo po s4 hpo hppo => ?_)
      refine ⟨Lo, _, rfl, .inl ⟨sqL hpo, fun g2 hg2 => ?_⟩⟩
      have s5 := same_new (o := .tup (po.map V.ref)) hg2
      have hones : RowAt (upd H4 g2 (.tup (po.map V.ref))) g2 ones := row_of_list (L := Lo) hg2 hppo
      have hg5 := hg.keep (KeepT.of (s4.trans s5))
      have hF5 := hF3.same (s4.trans s5)
      generalize upd H4 g2 (.tup (po.map V.ref)) = H5 at hones hg5 hF5 ⊢
      obtain ⟨ps, hps, hpp⟩ := hg5
      have lp : ps.length = 30 := by rw [Paired.length hpp]; exact great_len
      refine ⟨.ref g, rfl, 3, rfl, 9, rfl, g, _, rfl, sqT hps, cut_part lp, fun g3 hg3 => ?_⟩
      have s6 := same_new (o := .tup (cutV (ps.map V.ref) (some 3) (some 9))) hg3
      have hsl := cut_row hg3 lp hpp
      have hg6 : RowAt (upd H5 g3 (.tup (cutV (ps.map V.ref) (some 3) (some 9)))) g great := RowAt.keep ⟨ps, hps, hpp⟩ (KeepT.of s6)
      have ho6 := hones.keep (KeepT.of s6)
      have hF6 := hF5.same s6
      generalize upd H5 g3 (.tup (cutV (ps.map V.ref) (some 3) (some 9))) = H6 at hsl hg6 ho6 hF6 ⊢
      refine ⟨by show 3 ≤ sizeLine; decide, fun y1 hy1 => ⟨by show 1 ≤ sizeLine; decide, fun D hD => ?_⟩⟩
      have s7 := same_new (o := .tup [.ref g, .ref g2, .ref g3]) hy1
      have s8 := same_new (o := .lst [.ref y1]) hD
      have s78 := s7.trans s8
      have hF8 := hF6.same s78
      have hsys : SysAt (upd (upd H6 y1 (.tup [.ref g, .ref g2, .ref g3])) D (.lst [.ref y1])) y1 [great, ones, slice] :=
        ⟨[g, g2, g3], s8 _ _ upd_same, .cons (hg6.keep (KeepT.of s78)) (.cons (ho6.keep (KeepT.of s78)) (.cons (hsl.keep (KeepT.of s78)) .nil))⟩
      have hD8 : (upd (upd H6 y1 (.tup [.ref g, .ref g2, .ref g3])) D (.lst [.ref y1])) D = some (.lst [.ref y1]) := upd_same
      have nDF : D ≠ Fd := by
        obtain ⟨_, _, _, _, h, _⟩ := hF6
        exact (ne_of_none (s7 _ _ h) hD).symm
      have nDL : L ≠ D := by
        obtain ⟨_, _, _, _, _, h⟩ := hF6
        exact ne_of_none (s7 _ _ h) hD
      generalize upd (upd H6 y1 (.tup [.ref g, .ref g2, .ref g3])) D (.lst [.ref y1]) = H8 at hF8 hsys hD8 ⊢
      refine iName ?_
      try dsimp only
      -- the drawn systems
      refine iSeq ?_
      refine split_s (fun σ' H' => ∃ v4 ss ρss, σ' = [some (.ref a), some (.ref Fd), some (.ref g), v3, v4, some (.ref D), none, none, none, none, none, none] ∧ FeedAt H' Fd L ∧ H' D = some (.lst (ss.map V.ref)) ∧ Paired (SysAt H') ss ρss ∧ (∀ ρs ∈ ρss, SysOk ρs)) (fun nx hnx => ?_) (fun σ' H9 hx => ?_)
      · refine ⟨7, rfl, by decide, by decide, ?_⟩
        refine for_range (lo := 0) (n := 7) (fun i σ' H' => ∃ v4 ss ρss, σ' = [some (.ref a), some (.ref Fd), some (.ref g), v3, v4, some (.ref D), none, none, none, none, none, none] ∧ FeedAt H' Fd L ∧ H' D = some (.lst (ss.map V.ref)) ∧ Paired (SysAt H') ss ρss ∧ (∀ ρs ∈ ρss, SysOk ρs) ∧ ss.length = i + 1)
          ⟨v4, [y1], [[great, ones, slice]], rfl, hF8, hD8, .cons hsys .nil, fun ρs hρs => ?_, rfl⟩ (fun i σ' H' hi h => ?_) (fun σ' H' h => ?_)
        · rw [List.mem_singleton.mp hρs]
          refine ⟨by decide, fun ρ hρ => ?_⟩
          simp only [List.mem_cons, List.not_mem_nil, or_false] at hρ
          rcases hρ with rfl | rfl | rfl
          · exact dr_great
          · exact dr_ones
          · exact dr_slice
        · obtain ⟨v4, ss, ρss, rfl, hF', hD', hss, hok, hl⟩ := h
          refine iName ?_
          refine ⟨.ref D, rfl, .inl ⟨rfl, _, sqL hD'⟩, ?_⟩
          refine iCons ?_
          refine ⟨.ref Fd, rfl, Fd, L, 6, rfl, hF', by decide, by decide, fun H3 sy ρs k3 hF3 hsy hlen hdr => ?_⟩
          have hD3 : H3 D = some (.lst (ss.map V.ref)) := k3 _ _ nDF hD'
          have kt : KeepT H' H3 := k3.tup hF'
          have kp : KeepT H3 (upd H3 D (.lst (ss.map V.ref ++ [.ref sy]))) := KeepT.put hD3 fun _ z => nomatch z
          refine ⟨D, _, _, rfl, rfl, hD3, by rw [List.length_map]; omega, ?_⟩
          refine ⟨_, ss ++ [sy], ρss ++ [ρs], rfl, ?_, ?_, ?_, fun π hπ => ?_, by rw [List.length_append, hl]; rfl⟩
          · obtain ⟨ns, x, l, n, h1, h2⟩ := hF3
            refine ⟨ns, x, l, n, ?_, ?_⟩
            · rw [upd_ne nDF.symm]
              exact h1
            · rw [upd_ne nDL]
              exact h2
          · rw [upd_same, List.map_append]
            rfl
          · exact Paired.snoc (Paired.mapP hss fun _ _ z => (z.keep kt).keep kp) (hsy.keep kp)
          · rcases List.mem_append.mp hπ with h | h
            · exact hok π h
            · rw [List.mem_singleton.mp h]
              exact ⟨by omega, fun ρ hρ => (Dr.of (hdr ρ hρ)).mono (by decide)⟩
        · obtain ⟨v4, ss, ρss, rfl, hF', hD', hss, hok, hl⟩ := h
          exact hnx _ _ ⟨v4, ss, ρss, rfl, hF', hD', hss, hok⟩
      · obtain ⟨v4, ss, ρss, rfl, hF9, hD9, hss, hok⟩ := hx
        dsimp only
        -- the loop
        refine iSeq ?_
        refine ⟨.ref D, rfl, D, rfl, ⟨_, sqL hD9⟩, ?_⟩
        refine for_list (K := K) (xs := ss.map V.ref) (fun i σ' H' => (∃ v4 v6 v7 v8 v9 v10, σ' = [some (.ref a), some (.ref Fd), some (.ref g), v3, v4, some (.ref D), v6, v7, v8, v9, v10, none]) ∧ KeepF Fd H9 H' ∧ FeedAt H' Fd L) ⟨⟨_, none, none, none, none, none, rfl⟩, KeepF.refl _ _, hF9⟩ (fun i σ' H' _ h => sqL (h.2.1 _ _ nDF hD9)) (fun i x σ' H' hx h => ?_) (fun σ' H' h => q H')
        obtain ⟨sy, hsi, rfl⟩ : ∃ sy, ss[i]? = some sy ∧ V.ref sy = x := by
          rw [List.getElem?_map] at hx
          cases e : ss[i]? with
          | none =>
            rw [e] at hx
            cases hx
          | some sy =>
            rw [e] at hx
            exact ⟨sy, rfl, Option.some.inj hx⟩
        obtain ⟨⟨v4, v6, v7, v8, v9, v10, rfl⟩, kb, hF'⟩ := h
        obtain ⟨ρs, hρs, hsy⟩ := paired_at' hss hsi
        have okS := hok ρs (List.mem_of_getElem? hρs)
        have hsy' := hsy.keep (kb.tup hF9)
        refine iName ?_
        refine iSeq (iAsg ?_)
        refine ⟨.ref Fd, rfl, .ref sy, rfl, sy, ρs, rfl, hsy', okS.1, fun ρ hρ => ⟨Dr.len (okS.2 ρ hρ), fun x hx => (okS.2 ρ hρ).on _ (List.mem_map_of_mem hx)⟩, fun Ha p cs sa hp hcs hcl => ?_⟩
        refine ⟨by show 2 ≤ sizeLine; decide, fun c1 hc1 => ⟨by show 1 ≤ sizeLine; decide, fun l1 hl1 => ?_⟩⟩
        have t1 := same_new (o := .tup [.str "b", .int 9]) hc1
        have t2 := same_new (o := .lst [.ref c1]) hl1
        have t12 := t1.trans t2
        obtain ⟨bs, hbs, hbp⟩ := hp
        have bl : bs.length = cs.length := Paired.length hbp
        refine ⟨p, l1, _, _, rfl, rfl, t12 _ _ hbs, upd_same, by rw [List.length_map]; show bs.length + 1 ≤ sizeLine; omega, fun p2 hp2 => ?_⟩
        have t3 := same_new (o := .lst (bs.map V.ref ++ [.ref c1])) hp2
        have t13 := t12.trans t3
        have hcell : CellAt (upd (upd (upd Ha c1 (.tup [.str "b", .int 9])) l1 (.lst [.ref c1])) p2 (.lst (bs.map V.ref ++ [.ref c1]))) c1 (("b" : Str), (9 : Int)) := t3 _ _ (t2 _ _ upd_same)
        have hcs2 : CellsAt (upd (upd (upd Ha c1 (.tup [.str "b", .int 9])) l1 (.lst [.ref c1])) p2 (.lst (bs.map V.ref ++ [.ref c1]))) p2 (cs ++ [(("b" : Str), (9 : Int))]) :=
          ⟨bs ++ [c1], by rw [upd_same, List.map_append]; rfl, Paired.snoc (Paired.mapP hbp fun _ _ z => z.keep (KeepT.of t13)) hcell⟩
        have sb := sa.trans t13
        generalize upd (upd (upd Ha c1 (.tup [.str "b", .int 9])) l1 (.lst [.ref c1])) p2 (.lst (bs.map V.ref ++ [.ref c1])) = Hb at hcs2 sb ⊢
        have hFb := hF'.same sb
        refine ⟨Fd, L, p2, _, rfl, hFb, hcs2, by rw [List.length_append]; show cs.length + 1 ≤ 900; omega, fun c hc => ?_, fun Hc fr φ kc hFc hfr hφ => ?_⟩
        · rcases List.mem_append.mp hc with h | h
          · exact hcs c h
          · rw [List.mem_singleton.mp h]
            exact b9_in
        have hsyc := (hsy'.keep (KeepT.of sb)).keep (kc.tup hFb)
        refine iName ?_
        dsimp only
        refine iSeq ?_
        obtain ⟨rs, hrs, hrr⟩ := hsyc
        have rl : rs.length = ρs.length := Paired.length hrr
        have l7 := okS.1
        refine split_s (fun σ' H'' => (∃ v4 v8 v9 v10, σ' = [some (.ref a), some (.ref Fd), some (.ref g), v3, v4, some (.ref D), some (.ref sy), some (.ref fr), v8, v9, v10, none]) ∧ Same Hc H'') (fun nx hnx => ?_) (fun σ' Hd hx => ?_)
        · refine ⟨.ref sy, rfl, sy, _, rfl, .inr (sqT hrs), ((rs.map V.ref).length : Int), rfl, by omega, by rw [List.length_map]; omega, ?_⟩
          refine for_range (lo := 0) (n := ((rs.map V.ref).length : Int).toNat) (fun i σ' H'' => (∃ v4 v8 v9 v10, σ' = [some (.ref a), some (.ref Fd), some (.ref g), v3, v4, some (.ref D), some (.ref sy), some (.ref fr), v8, v9, v10, none]) ∧ Same Hc H'') ⟨⟨_, _, _, _, rfl⟩, Same.refl _⟩ (fun i σ' Hd hi h => ?_) (fun σ' Hd h => hnx σ' Hd h)
          obtain ⟨⟨v4, v8, v9, v10, rfl⟩, sd⟩ := h
          have hi' : i < rs.length := by
            rw [List.length_map, Int.toNat_natCast] at hi
            exact hi
          obtain ⟨r1, m1, a1⟩ := at_self hi'
          obtain ⟨r2, m2, a2⟩ := at_prev hi'
          obtain ⟨r3, m3, a3⟩ := at_half hi'
          obtain ⟨ρ1, n1, w1⟩ := row_in hrr m1
          obtain ⟨ρ2, n2, w2⟩ := row_in hrr m2
          obtain ⟨ρ3, n3, w3⟩ := row_in hrr m3
          have d1 := okS.2 ρ1 n1
          have d2 := okS.2 ρ2 n2
          have d3 := okS.2 ρ3 n3
          have hrs' := sd _ _ hrs
          refine iName ?_
          refine iSeq ?_
          refine ⟨.ref sy, rfl, .int (0 + (i : Int)), rfl, sy, _, _, .ref r1, rfl, rfl, sqT hrs', a1, ?_⟩
          refine ⟨.ref sy, rfl, .int (0 + (i : Int)), rfl, _, 1, rfl, rfl, sy, _, _, .ref r2, rfl, rfl, sqT hrs', a2, ?_⟩
          refine ⟨.ref sy, rfl, .int (0 + (i : Int)), rfl, _, 2, rfl, rfl, ⟨by decide, by decide⟩, sy, _, _, .ref r3, rfl, rfl, sqT hrs', a3, ?_⟩
          refine ⟨.ref r1, .ref r2, .ref r3, rfl, ?_⟩
          dsimp only
          refine iSeq ?_
          refine ⟨.ref r1, rfl, .ref r2, rfl, .ref r3, rfl, r1, r2, r3, ρ1, ρ2, ρ3, rfl, w1.keep (KeepT.of sd), w2.keep (KeepT.of sd), w3.keep (KeepT.of sd), d1, d2, d3, fun He se => ⟨true, rfl, iteF ?_⟩⟩
          have sde := sd.trans se
          refine iNext ?_
          dsimp only
          refine iSeq ?_
          refine ⟨.ref r1, rfl, .ref r2, rfl, .ref r3, rfl, .ref fr, rfl, r1, r2, r3, fr, ρ1, ρ2, ρ3, φ, rfl, w1.keep (KeepT.of sde), w2.keep (KeepT.of sde), w3.keep (KeepT.of sde), hfr.keep (KeepT.of sde), d1, d2, d3, hφ, fun Hf sf => ⟨true, rfl, iteF ?_⟩⟩
          have sdf := sde.trans sf
          refine iNext ?_
          dsimp only
          refine ⟨.ref r1, rfl, .ref r2, rfl, .ref fr, rfl, r1, r2, fr, ρ1, ρ2, φ, rfl, w1.keep (KeepT.of sdf), w2.keep (KeepT.of sdf), hfr.keep (KeepT.of sdf), d1, d2, hφ, fun Hg sg => ⟨true, rfl, iteF ?_⟩⟩
          exact ⟨⟨_, _, _, _, rfl⟩, sdf.trans sg⟩
        · obtain ⟨⟨v4, v8, v9, v10, rfl⟩, sd⟩ := hx
          dsimp only
          have hsyd : SysAt Hd sy ρs := SysAt.keep ⟨rs, hrs, hrr⟩ (KeepT.of sd)
          refine ⟨.ref sy, rfl, .ref sy, rfl, ⟨sy, ρs, rfl, hsyd, by omega, fun ρ hρ => ⟨(okS.2 ρ hρ).ok, by have := Dr.len (okS.2 ρ hρ); omega, Dr.named (okS.2 ρ hρ)⟩⟩, fun He se => ⟨true, rfl, iteF ?_⟩⟩
          have sde := sd.trans se
          refine ⟨Nat.zero_le _, fun z hz => ?_⟩
          have sz := same_new (o := .tup []) hz
          have lφ := Dr.len hφ
          refine ⟨.ref fr, rfl, z, fr, [], φ, rfl, ⟨[], upd_same, .nil⟩, hfr.keep (KeepT.of (sde.trans sz)), by decide, by omega, Dr.wide hφ (by have := p64; omega), fun Hf sf => ?_⟩
          refine ⟨rfl, false, ?_, iteF ?_⟩
          · have e : effR φ [] = 0 := by
              rw [effR_sym hφ.ok ok_nil]
              rfl
            show V.bl (!decide (V.int (effR φ []) = V.int 0)) = V.bl false
            rw [e, decide_eq_true rfl]
            rfl
          exact ⟨⟨_, _, _, _, _, _, rfl⟩, ((kb.trans (KeepF.of sb)).trans kc).trans (KeepF.of ((sde.trans sz).trans sf)), hFc.same ((sde.trans sz).trans sf)⟩
end
end P09
namespace P09
open PySem PySem.Spec PyProof.Rows L2 AskG
/-- what the top has written -/
theorem all_mk {l : PySem.W.OpenLaw} {w : World} {K : PySem.W.Frag} {h : Heap} {mg : Str → Option Value} {fa : Addr} (X : K.In h) (G : h.Ns mainGlobals mg) (hfa : mg "law" = some (.ref fa))
    {f1 f2 f3 f4 f5 f6 f7 f8 f9 f10 f11 f12 f13 f14 f15 f16 f17 f18 f19 f20 f21 f22 f23 f24 f25 f26 f27 f28 D4 : Addr} {od1 an1 od2 an2 od3 an3 od4 an4 od5 an5 od6 an6 od7 an7 od8 an8 od9 an9 od10 an10 od11 an11 od12 an12 od13 an13 od14 an14 od15 an15 od16 an16 od17 an17 od18 an18 od19 an19 od20 an20 od21 an21 od22 an22 od23 an23 od24 an24 od25 an25 od26 an26 od27 an27 od28 an28 : Option Addr} {sl1 sl2 sl3 sl4 sl5 sl6 sl7 sl8 sl9 sl10 sl11 sl12 sl13 sl14 sl15 sl16 sl17 sl18 sl19 sl20 sl21 sl22 sl23 sl24 sl25 sl26 sl27 sl28 : Array (Option Value)} {oc1 kV1 dc1 pm1 cd1 ct1 oc2 kV2 dc2 pm2 cd2 ct2 oc3 kV3 dc3 pm3 cd3 ct3 oc4 dc4 pm4 cd4 ct4 oc5 kV5 dc5 pm5 cd5 ct5 oc6 kV6 dc6 pm6 cd6 ct6 oc7 kV7 dc7 pm7 cd7 ct7 oc8 kV8 dc8 pm8 cd8 ct8 oc9 kV9 dc9 pm9 cd9 ct9 oc10 kV10 dc10 pm10 cd10 ct10 oc11 kV11 dc11 pm11 cd11 ct11 oc12 kV12 dc12 pm12 cd12 ct12 oc13 kV13 dc13 pm13 cd13 ct13 oc14 kV14 dc14 pm14 cd14 ct14 oc15 kV15 dc15 pm15 cd15 ct15 oc16 kV16 dc16 pm16 cd16 ct16 oc17 kV17 dc17 pm17 cd17 ct17 oc18 kV18 dc18 pm18 cd18 ct18 oc19 kV19 dc19 pm19 cd19 ct19 oc20 kV20 dc20 pm20 cd20 ct20 oc21 kV21 dc21 pm21 cd21 ct21 oc22 kV22 dc22 pm22 cd22 ct22 oc23 kV23 dc23 pm23 cd23 ct23 oc24 kV24 dc24 pm24 cd24 ct24 oc25 kV25 dc25 pm25 cd25 ct25 oc26 kV26 dc26 pm26 cd26 ct26 oc27 kV27 dc27 pm27 cd27 ct27 oc28 kV28 dc28 pm28 cd28 ct28 : Value} {tk : Tok}
    (a1 : PySem.W.nsIn K mainGlobals "add_rows" = some (some (.ref f1))) (l1 : K.lookup f1 = some ⟨oc1, od1, .func (PySem.W.fnOf "add_rows" "add_rows" (defArgs sAdd) (defBody sAdd) (defScope sAdd) .none kV1 dc1 pm1 an1 cd1 ct1), sl1⟩) (c1 : PySem.W.codeIn K cd1 "add_rows" = true) (k1 : PySem.W.keepIn K (.ref f1) = true)
    (a2 : PySem.W.nsIn K mainGlobals "scale_row" = some (some (.ref f2))) (l2 : K.lookup f2 = some ⟨oc2, od2, .func (PySem.W.fnOf "scale_row" "scale_row" (defArgs sScale) (defBody sScale) (defScope sScale) .none kV2 dc2 pm2 an2 cd2 ct2), sl2⟩) (c2 : PySem.W.codeIn K cd2 "scale_row" = true) (k2 : PySem.W.keepIn K (.ref f2) = true)
    (a3 : PySem.W.nsIn K mainGlobals "is_inside" = some (some (.ref f3))) (l3 : K.lookup f3 = some ⟨oc3, od3, .func (PySem.W.fnOf "is_inside" "is_inside" (defArgs sInside) (defBody sInside) (defScope sInside) .none kV3 dc3 pm3 an3 cd3 ct3), sl3⟩) (c3 : PySem.W.codeIn K cd3 "is_inside" = true) (k3 : PySem.W.keepIn K (.ref f3) = true)
    (a4 : PySem.W.nsIn K mainGlobals "part_of" = some (some (.ref f4))) (l4 : K.lookup f4 = some ⟨oc4, od4, .func (PySem.W.fnOf "part_of" "part_of" (defArgs sPart) (defBody sPart) (defScope sPart) .none (.ref D4) dc4 pm4 an4 cd4 ct4), sl4⟩) (c4 : PySem.W.codeIn K cd4 "part_of" = true) (k4 : PySem.W.keepIn K (.ref f4) = true)
    (a5 : PySem.W.nsIn K mainGlobals "effect_of" = some (some (.ref f5))) (l5 : K.lookup f5 = some ⟨oc5, od5, .func (PySem.W.fnOf "effect_of" "effect_of" (defArgs sEff) (defBody sEff) (defScope sEff) .none kV5 dc5 pm5 an5 cd5 ct5), sl5⟩) (c5 : PySem.W.codeIn K cd5 "effect_of" = true) (k5 : PySem.W.keepIn K (.ref f5) = true)
    (a6 : PySem.W.nsIn K mainGlobals "row_value" = some (some (.ref f6))) (l6 : K.lookup f6 = some ⟨oc6, od6, .func (PySem.W.fnOf "row_value" "row_value" (defArgs sVal) (defBody sVal) (defScope sVal) .none kV6 dc6 pm6 an6 cd6 ct6), sl6⟩) (c6 : PySem.W.codeIn K cd6 "row_value" = true) (k6 : PySem.W.keepIn K (.ref f6) = true)
    (a7 : PySem.W.nsIn K mainGlobals "is_integer" = some (some (.ref f7))) (l7 : K.lookup f7 = some ⟨oc7, od7, .func (PySem.W.fnOf "is_integer" "is_integer" (defArgs sIsInt) (defBody sIsInt) (defScope sIsInt) .none kV7 dc7 pm7 an7 cd7 ct7), sl7⟩) (c7 : PySem.W.codeIn K cd7 "is_integer" = true) (k7 : PySem.W.keepIn K (.ref f7) = true)
    (a8 : PySem.W.nsIn K mainGlobals "is_number" = some (some (.ref f8))) (l8 : K.lookup f8 = some ⟨oc8, od8, .func (PySem.W.fnOf "is_number" "is_number" (defArgs sIsNum) (defBody sIsNum) (defScope sIsNum) .none kV8 dc8 pm8 an8 cd8 ct8), sl8⟩) (c8 : PySem.W.codeIn K cd8 "is_number" = true) (k8 : PySem.W.keepIn K (.ref f8) = true)
    (a9 : PySem.W.nsIn K mainGlobals "is_name" = some (some (.ref f9))) (l9 : K.lookup f9 = some ⟨oc9, od9, .func (PySem.W.fnOf "is_name" "is_name" (defArgs sIsName) (defBody sIsName) (defScope sIsName) .none kV9 dc9 pm9 an9 cd9 ct9), sl9⟩) (c9 : PySem.W.codeIn K cd9 "is_name" = true) (k9 : PySem.W.keepIn K (.ref f9) = true)
    (a10 : PySem.W.nsIn K mainGlobals "is_pair" = some (some (.ref f10))) (l10 : K.lookup f10 = some ⟨oc10, od10, .func (PySem.W.fnOf "is_pair" "is_pair" (defArgs sIsPair) (defBody sIsPair) (defScope sIsPair) .none kV10 dc10 pm10 an10 cd10 ct10), sl10⟩) (c10 : PySem.W.codeIn K cd10 "is_pair" = true) (k10 : PySem.W.keepIn K (.ref f10) = true)
    (a11 : PySem.W.nsIn K mainGlobals "is_cell" = some (some (.ref f11))) (l11 : K.lookup f11 = some ⟨oc11, od11, .func (PySem.W.fnOf "is_cell" "is_cell" (defArgs sIsCell) (defBody sIsCell) (defScope sIsCell) .none kV11 dc11 pm11 an11 cd11 ct11), sl11⟩) (c11 : PySem.W.codeIn K cd11 "is_cell" = true) (k11 : PySem.W.keepIn K (.ref f11) = true)
    (a12 : PySem.W.nsIn K mainGlobals "is_weighted_cell" = some (some (.ref f12))) (l12 : K.lookup f12 = some ⟨oc12, od12, .func (PySem.W.fnOf "is_weighted_cell" "is_weighted_cell" (defArgs sIsWt) (defBody sIsWt) (defScope sIsWt) .none kV12 dc12 pm12 an12 cd12 ct12), sl12⟩) (c12 : PySem.W.codeIn K cd12 "is_weighted_cell" = true) (k12 : PySem.W.keepIn K (.ref f12) = true)
    (a13 : PySem.W.nsIn K mainGlobals "is_row" = some (some (.ref f13))) (l13 : K.lookup f13 = some ⟨oc13, od13, .func (PySem.W.fnOf "is_row" "is_row" (defArgs sIsRow) (defBody sIsRow) (defScope sIsRow) .none kV13 dc13 pm13 an13 cd13 ct13), sl13⟩) (c13 : PySem.W.codeIn K cd13 "is_row" = true) (k13 : PySem.W.keepIn K (.ref f13) = true)
    (a14 : PySem.W.nsIn K mainGlobals "are_rows" = some (some (.ref f14))) (l14 : K.lookup f14 = some ⟨oc14, od14, .func (PySem.W.fnOf "are_rows" "are_rows" (defArgs sAreRows) (defBody sAreRows) (defScope sAreRows) .none kV14 dc14 pm14 an14 cd14 ct14), sl14⟩) (c14 : PySem.W.codeIn K cd14 "are_rows" = true) (k14 : PySem.W.keepIn K (.ref f14) = true)
    (a15 : PySem.W.nsIn K mainGlobals "_law_feed" = some (some (.ref f15))) (l15 : K.lookup f15 = some ⟨oc15, od15, .func (PySem.W.fnOf "_law_feed" "_law_feed" (defArgs sFeed) (defBody sFeed) (defScope sFeed) .none kV15 dc15 pm15 an15 cd15 ct15), sl15⟩) (c15 : PySem.W.codeIn K cd15 "_law_feed" = true) (k15 : PySem.W.keepIn K (.ref f15) = true)
    (a16 : PySem.W.nsIn K mainGlobals "_law_draw" = some (some (.ref f16))) (l16 : K.lookup f16 = some ⟨oc16, od16, .func (PySem.W.fnOf "_law_draw" "_law_draw" (defArgs sDraw) (defBody sDraw) (defScope sDraw) .none kV16 dc16 pm16 an16 cd16 ct16), sl16⟩) (c16 : PySem.W.codeIn K cd16 "_law_draw" = true) (k16 : PySem.W.keepIn K (.ref f16) = true)
    (a17 : PySem.W.nsIn K mainGlobals "_law_places" = some (some (.ref f17))) (l17 : K.lookup f17 = some ⟨oc17, od17, .func (PySem.W.fnOf "_law_places" "_law_places" (defArgs sPlaces) (defBody sPlaces) (defScope sPlaces) .none kV17 dc17 pm17 an17 cd17 ct17), sl17⟩) (c17 : PySem.W.codeIn K cd17 "_law_places" = true) (k17 : PySem.W.keepIn K (.ref f17) = true)
    (a18 : PySem.W.nsIn K mainGlobals "_law_tidy" = some (some (.ref f18))) (l18 : K.lookup f18 = some ⟨oc18, od18, .func (PySem.W.fnOf "_law_tidy" "_law_tidy" (defArgs sTidy) (defBody sTidy) (defScope sTidy) .none kV18 dc18 pm18 an18 cd18 ct18), sl18⟩) (c18 : PySem.W.codeIn K cd18 "_law_tidy" = true) (k18 : PySem.W.keepIn K (.ref f18) = true)
    (a19 : PySem.W.nsIn K mainGlobals "_law_plus" = some (some (.ref f19))) (l19 : K.lookup f19 = some ⟨oc19, od19, .func (PySem.W.fnOf "_law_plus" "_law_plus" (defArgs sPlus) (defBody sPlus) (defScope sPlus) .none kV19 dc19 pm19 an19 cd19 ct19), sl19⟩) (c19 : PySem.W.codeIn K cd19 "_law_plus" = true) (k19 : PySem.W.keepIn K (.ref f19) = true)
    (a20 : PySem.W.nsIn K mainGlobals "_law_small" = some (some (.ref f20))) (l20 : K.lookup f20 = some ⟨oc20, od20, .func (PySem.W.fnOf "_law_small" "_law_small" (defArgs sSmall) (defBody sSmall) (defScope sSmall) .none kV20 dc20 pm20 an20 cd20 ct20), sl20⟩) (c20 : PySem.W.codeIn K cd20 "_law_small" = true) (k20 : PySem.W.keepIn K (.ref f20) = true)
    (a21 : PySem.W.nsIn K mainGlobals "_law_line" = some (some (.ref f21))) (l21 : K.lookup f21 = some ⟨oc21, od21, .func (PySem.W.fnOf "_law_line" "_law_line" (defArgs sLine) (defBody sLine) (defScope sLine) .none kV21 dc21 pm21 an21 cd21 ct21), sl21⟩) (c21 : PySem.W.codeIn K cd21 "_law_line" = true) (k21 : PySem.W.keepIn K (.ref f21) = true)
    (a22 : PySem.W.nsIn K mainGlobals "_law_system" = some (some (.ref f22))) (l22 : K.lookup f22 = some ⟨oc22, od22, .func (PySem.W.fnOf "_law_system" "_law_system" (defArgs sSys) (defBody sSys) (defScope sSys) .none kV22 dc22 pm22 an22 cd22 ct22), sl22⟩) (c22 : PySem.W.codeIn K cd22 "_law_system" = true) (k22 : PySem.W.keepIn K (.ref f22) = true)
    (a23 : PySem.W.nsIn K mainGlobals "_law_cells_of" = some (some (.ref f23))) (l23 : K.lookup f23 = some ⟨oc23, od23, .func (PySem.W.fnOf "_law_cells_of" "_law_cells_of" (defArgs sCells) (defBody sCells) (defScope sCells) .none kV23 dc23 pm23 an23 cd23 ct23), sl23⟩) (c23 : PySem.W.codeIn K cd23 "_law_cells_of" = true) (k23 : PySem.W.keepIn K (.ref f23) = true)
    (a24 : PySem.W.nsIn K mainGlobals "_law_facts" = some (some (.ref f24))) (l24 : K.lookup f24 = some ⟨oc24, od24, .func (PySem.W.fnOf "_law_facts" "_law_facts" (defArgs sFacts) (defBody sFacts) (defScope sFacts) .none kV24 dc24 pm24 an24 cd24 ct24), sl24⟩) (c24 : PySem.W.codeIn K cd24 "_law_facts" = true) (k24 : PySem.W.keepIn K (.ref f24) = true)
    (a25 : PySem.W.nsIn K mainGlobals "_law_three_right" = some (some (.ref f25))) (l25 : K.lookup f25 = some ⟨oc25, od25, .func (PySem.W.fnOf "_law_three_right" "_law_three_right" (defArgs sThree) (defBody sThree) (defScope sThree) .none kV25 dc25 pm25 an25 cd25 ct25), sl25⟩) (c25 : PySem.W.codeIn K cd25 "_law_three_right" = true) (k25 : PySem.W.keepIn K (.ref f25) = true)
    (a26 : PySem.W.nsIn K mainGlobals "_law_values_right" = some (some (.ref f26))) (l26 : K.lookup f26 = some ⟨oc26, od26, .func (PySem.W.fnOf "_law_values_right" "_law_values_right" (defArgs sVals) (defBody sVals) (defScope sVals) .none kV26 dc26 pm26 an26 cd26 ct26), sl26⟩) (c26 : PySem.W.codeIn K cd26 "_law_values_right" = true) (k26 : PySem.W.keepIn K (.ref f26) = true)
    (a27 : PySem.W.nsIn K mainGlobals "_law_parts_right" = some (some (.ref f27))) (l27 : K.lookup f27 = some ⟨oc27, od27, .func (PySem.W.fnOf "_law_parts_right" "_law_parts_right" (defArgs sParts) (defBody sParts) (defScope sParts) .none kV27 dc27 pm27 an27 cd27 ct27), sl27⟩) (c27 : PySem.W.codeIn K cd27 "_law_parts_right" = true) (k27 : PySem.W.keepIn K (.ref f27) = true)
    (a28 : PySem.W.nsIn K mainGlobals "law" = some (some (.ref f28))) (l28 : K.lookup f28 = some ⟨oc28, od28, .func (PySem.W.fnOf "law" "law" (defArgs sLaw) (defBody sLaw) (defScope sLaw) .none kV28 dc28 pm28 an28 cd28 ct28), sl28⟩) (c28 : PySem.W.codeIn K cd28 "law" = true) (k28 : PySem.W.keepIn K (.ref f28) = true)
    (z1 : PySem.W.nsIn K mainGlobals "sorted" = some none)
    (z2 : PySem.W.nsIn K mainGlobals "tuple" = some none)
    (z3 : PySem.W.nsIn K mainGlobals "dict" = some none)
    (z4 : PySem.W.nsIn K mainGlobals "list" = some none)
    (z5 : PySem.W.nsIn K mainGlobals "sum" = some none)
    (z6 : PySem.W.nsIn K mainGlobals "len" = some none)
    (z7 : PySem.W.nsIn K mainGlobals "range" = some none)
    (z8 : PySem.W.nsIn K mainGlobals "isinstance" = some none)
    (z9 : PySem.W.nsIn K mainGlobals "int" = some none)
    (z10 : PySem.W.nsIn K mainGlobals "bool" = some none)
    (z11 : PySem.W.nsIn K mainGlobals "str" = some none)
    (z12 : PySem.W.nsIn K mainGlobals "all" = some none)
    (z13 : PySem.W.nsIn K mainGlobals "zip" = some none)
    (zL : PySem.W.nsIn K mainGlobals "LETTERS" = some (some (.str letters tk)))
    (w1 : PySem.W.nsIn K D4 "last_day" = some (some .none)) (w2 : PySem.W.nsIn K D4 "accounts" = some (some .none)) :
    ∃ fd : FuncData, (∀ (s : Shared) (v : Value), BindsTo s fd ⟨[v], []⟩ [("_law_script", v)]) ∧ ∀ base : Heap, K.In base → base.Ns mainGlobals mg → FnG l.prog w K mg base 7 fa fd ["_law_script"] (prLaw K) := by
  have e := hfa.symm.trans (PySem.W.mg_of X G a28)
  cases e
  have F1 := fun_mk (st := sAdd) l1 c1 k1
  have b1 := F1.binds (ps := ["one", "other"]) fun _ _ _ _ _ _ us hl => match us, hl with | [_, _], _ => rfl
  have g1 := PySem.W.mg_of X G a1
  have F2 := fun_mk (st := sScale) l2 c2 k2
  have b2 := F2.binds (ps := ["row", "factor"]) fun _ _ _ _ _ _ us hl => match us, hl with | [_, _], _ => rfl
  have g2 := PySem.W.mg_of X G a2
  have F3 := fun_mk (st := sInside) l3 c3 k3
  have b3 := F3.binds (ps := ["cell", "last_day", "accounts"]) fun _ _ _ _ _ _ us hl => match us, hl with | [_, _, _], _ => rfl
  have g3 := PySem.W.mg_of X G a3
  have F4 : FPart K f4 (PySem.W.fnOf "part_of" "part_of" (defArgs sPart) (defBody sPart) (defScope sPart) .none (.ref D4) dc4 pm4 an4 cd4 ct4) :=
    ⟨⟨oc4, od4, .none, .ref D4, dc4, pm4, an4, cd4, ct4, sl4, rfl, l4, c4, .inl ⟨rfl, rfl⟩, .inr ⟨D4, rfl, fun q hq => by
      simp only [List.mem_cons, List.not_mem_nil, or_false] at hq
      rcases hq with rfl | rfl
      · exact ⟨_, w1, rfl⟩
      · exact ⟨_, w2, rfl⟩⟩⟩, k4⟩
  have g4 := PySem.W.mg_of X G a4
  have F5 := fun_mk (st := sEff) l5 c5 k5
  have b5 := F5.binds (ps := ["change", "row"]) fun _ _ _ _ _ _ us hl => match us, hl with | [_, _], _ => rfl
  have g5 := PySem.W.mg_of X G a5
  have F6 := fun_mk (st := sVal) l6 c6 k6
  have b6 := F6.binds (ps := ["row", "data"]) fun _ _ _ _ _ _ us hl => match us, hl with | [_, _], _ => rfl
  have g6 := PySem.W.mg_of X G a6
  have F7 := fun_mk (st := sIsInt) l7 c7 k7
  have b7 := F7.binds (ps := ["thing"]) fun _ _ _ _ _ _ us hl => match us, hl with | [_], _ => rfl
  have g7 := PySem.W.mg_of X G a7
  have F8 := fun_mk (st := sIsNum) l8 c8 k8
  have b8 := F8.binds (ps := ["thing"]) fun _ _ _ _ _ _ us hl => match us, hl with | [_], _ => rfl
  have g8 := PySem.W.mg_of X G a8
  have F9 := fun_mk (st := sIsName) l9 c9 k9
  have b9 := F9.binds (ps := ["thing"]) fun _ _ _ _ _ _ us hl => match us, hl with | [_], _ => rfl
  have g9 := PySem.W.mg_of X G a9
  have F10 := fun_mk (st := sIsPair) l10 c10 k10
  have b10 := F10.binds (ps := ["thing"]) fun _ _ _ _ _ _ us hl => match us, hl with | [_], _ => rfl
  have g10 := PySem.W.mg_of X G a10
  have F11 := fun_mk (st := sIsCell) l11 c11 k11
  have b11 := F11.binds (ps := ["thing"]) fun _ _ _ _ _ _ us hl => match us, hl with | [_], _ => rfl
  have g11 := PySem.W.mg_of X G a11
  have F12 := fun_mk (st := sIsWt) l12 c12 k12
  have b12 := F12.binds (ps := ["thing"]) fun _ _ _ _ _ _ us hl => match us, hl with | [_], _ => rfl
  have g12 := PySem.W.mg_of X G a12
  have F13 := fun_mk (st := sIsRow) l13 c13 k13
  have b13 := F13.binds (ps := ["thing"]) fun _ _ _ _ _ _ us hl => match us, hl with | [_], _ => rfl
  have g13 := PySem.W.mg_of X G a13
  have F14 := fun_mk (st := sAreRows) l14 c14 k14
  have b14 := F14.binds (ps := ["thing"]) fun _ _ _ _ _ _ us hl => match us, hl with | [_], _ => rfl
  have g14 := PySem.W.mg_of X G a14
  have F15 := fun_mk (st := sFeed) l15 c15 k15
  have b15 := F15.binds (ps := ["_law_script"]) fun _ _ _ _ _ _ us hl => match us, hl with | [_], _ => rfl
  have g15 := PySem.W.mg_of X G a15
  have F16 := fun_mk (st := sDraw) l16 c16 k16
  have b16 := F16.binds (ps := ["_law_feed_here", "_law_many"]) fun _ _ _ _ _ _ us hl => match us, hl with | [_, _], _ => rfl
  have g16 := PySem.W.mg_of X G a16
  have F17 := fun_mk (st := sPlaces) l17 c17 k17
  have b17 := F17.binds (ps := []) fun _ _ _ _ _ _ us hl => match us, hl with | [], _ => rfl
  have g17 := PySem.W.mg_of X G a17
  have F18 := fun_mk (st := sTidy) l18 c18 k18
  have b18 := F18.binds (ps := ["_law_weights"]) fun _ _ _ _ _ _ us hl => match us, hl with | [_], _ => rfl
  have g18 := PySem.W.mg_of X G a18
  have F19 := fun_mk (st := sPlus) l19 c19 k19
  have b19 := F19.binds (ps := ["_law_one", "_law_other", "_law_times"]) fun _ _ _ _ _ _ us hl => match us, hl with | [_, _, _], _ => rfl
  have g19 := PySem.W.mg_of X G a19
  have F20 := fun_mk (st := sSmall) l20 c20 k20
  have b20 := F20.binds (ps := ["_law_line_here"]) fun _ _ _ _ _ _ us hl => match us, hl with | [_], _ => rfl
  have g20 := PySem.W.mg_of X G a20
  have F21 := fun_mk (st := sLine) l21 c21 k21
  have b21 := F21.binds (ps := ["_law_feed_here"]) fun _ _ _ _ _ _ us hl => match us, hl with | [_], _ => rfl
  have g21 := PySem.W.mg_of X G a21
  have F22 := fun_mk (st := sSys) l22 c22 k22
  have b22 := F22.binds (ps := ["_law_feed_here", "_law_most"]) fun _ _ _ _ _ _ us hl => match us, hl with | [_, _], _ => rfl
  have g22 := PySem.W.mg_of X G a22
  have F23 := fun_mk (st := sCells) l23 c23 k23
  have b23 := F23.binds (ps := ["_law_system_here"]) fun _ _ _ _ _ _ us hl => match us, hl with | [_], _ => rfl
  have g23 := PySem.W.mg_of X G a23
  have F24 := fun_mk (st := sFacts) l24 c24 k24
  have b24 := F24.binds (ps := ["_law_feed_here", "_law_cells"]) fun _ _ _ _ _ _ us hl => match us, hl with | [_, _], _ => rfl
  have g24 := PySem.W.mg_of X G a24
  have F25 := fun_mk (st := sThree) l25 c25 k25
  have b25 := F25.binds (ps := ["_law_one_line", "_law_other_line", "_law_third"]) fun _ _ _ _ _ _ us hl => match us, hl with | [_, _, _], _ => rfl
  have g25 := PySem.W.mg_of X G a25
  have F26 := fun_mk (st := sVals) l26 c26 k26
  have b26 := F26.binds (ps := ["_law_one_line", "_law_other_line", "_law_third", "_law_facts_here"]) fun _ _ _ _ _ _ us hl => match us, hl with | [_, _, _, _], _ => rfl
  have g26 := PySem.W.mg_of X G a26
  have F27 := fun_mk (st := sParts) l27 c27 k27
  have b27 := F27.binds (ps := ["_law_one_line", "_law_other_line", "_law_facts_here"]) fun _ _ _ _ _ _ us hl => match us, hl with | [_, _, _], _ => rfl
  have g27 := PySem.W.mg_of X G a27
  have F28 := fun_mk (st := sLaw) l28 c28 k28
  have m1 := PySem.W.mg_none_of X G z1
  have m2 := PySem.W.mg_none_of X G z2
  have m3 := PySem.W.mg_none_of X G z3
  have m4 := PySem.W.mg_none_of X G z4
  have m5 := PySem.W.mg_none_of X G z5
  have m6 := PySem.W.mg_none_of X G z6
  have m7 := PySem.W.mg_none_of X G z7
  have m8 := PySem.W.mg_none_of X G z8
  have m9 := PySem.W.mg_none_of X G z9
  have m10 := PySem.W.mg_none_of X G z10
  have m11 := PySem.W.mg_none_of X G z11
  have m12 := PySem.W.mg_none_of X G z12
  have m13 := PySem.W.mg_none_of X G z13
  have mL := PySem.W.mg_of X G zL
  refine ⟨PySem.W.fnOf "law" "law" (defArgs sLaw) (defBody sLaw) (defScope sLaw) .none kV28 dc28 pm28 an28 cd28 ct28, fun s v => .of_eq rfl, fun base _ _ => ?_⟩
  have GI : FnG l.prog w K mg base 1 f7 _ ["thing"] (prYes tInt) := ok_isInt (k := 0) F7 m8 m9 m10
  have GQ : FnG l.prog w K mg base 1 f10 _ ["thing"] (prYes tPair) := ok_isPair (k := 0) F10 m8 m2 m6
  have GM : FnG l.prog w K mg base 1 f9 _ ["thing"] (prYes tName) := ok_isName (k := 0) F9 m8 m11 m6 m12 mL
  have GN : FnG l.prog w K mg base 2 f8 _ ["thing"] (prYes tNum) := ok_isNum (k := 0) F8 F7 b7 g7 GI
  have GK : FnG l.prog w K mg base 3 f11 _ ["thing"] (prYes tCellV) := ok_isCell (k := 0) F11 F10 b10 g10 GQ F9 b9 g9 GM F8 b8 g8 GN
  have GW : FnG l.prog w K mg base 4 f12 _ ["thing"] (prYes tWt) := ok_isWt (k := 0) F12 F10 b10 g10 GQ F11 b11 g11 GK F7 b7 g7 GI
  have GR : FnG l.prog w K mg base 5 f13 _ ["thing"] (prYes tRow) := ok_isRow (k := 0) F13 F12 b12 g12 GW m8 m2 m12 m13
  have GRs : FnG l.prog w K mg base 6 f14 _ ["thing"] (prYes tRows) := ok_areRows (k := 0) F14 F13 b13 g13 GR m8 m2 m12
  have GS : FnG l.prog w K mg base 3 f22 _ ["_law_feed_here", "_law_most"] prSys := ok_sys (k := 0) F22 F17 b17 g17 F16 b16 g16 F18 b18 g18 F21 b21 g21 F20 b20 g20 F19 b19 g19 m1 m2 m6 m3 m4 m7
  have GZ : FnG l.prog w K mg base 1 f23 _ ["_law_system_here"] prCells := ok_cells (k := 0) F23 m1
  have GC : FnG l.prog w K mg base 2 f24 _ ["_law_feed_here", "_law_cells"] prFacts := ok_facts (k := 0) F24 F16 b16 g16 F18 b18 g18 m1 m2 m6
  have GV : FnG l.prog w K mg base 2 f6 _ ["row", "data"] prVal := ok_val (k := 0) F6 F5 b5 g5 m5
  have GT : FnG l.prog w K mg base 6 f25 _ ["_law_one_line", "_law_other_line", "_law_third"] prThree := ok_three (k := 0) F25 F1 b1 g1 F2 b2 g2 F5 b5 g5 F13 b13 g13 GR m1 m2 m5
  have GVs : FnG l.prog w K mg base 6 f26 _ ["_law_one_line", "_law_other_line", "_law_third", "_law_facts_here"] prVals := ok_vals (k := 0) F26 F1 b1 g1 F5 b5 g5 F6 b6 g6 m1 m2 m5
  have GPs : FnG l.prog w K mg base 6 f27 _ ["_law_one_line", "_law_other_line", "_law_facts_here"] prParts := ok_parts (k := 0) F27 F1 b1 g1 F2 b2 g2 F5 b5 g5 F6 b6 g6 F3 b3 g3 F4 g4 m1 m2 m5
  exact ok_law (k := 0) F28 F15 b15 g15 F22 b22 g22 GS F23 b23 g23 GZ F24 b24 g24 GC F25 b25 g25 GT F26 b26 g26 GVs F27 b27 g27 GPs F14 b14 g14 GRs F6 b6 g6 GV m4 m7 m2 m6
end P09
open PySem PySem.W PyProof.Rows
set_option maxHeartbeats 0 in
theorem PySem.Challenge.cw_askrights_k09_whole_sums_are_linear_holds : PySem.Challenge.rw_askrights_k09_whole_sums_are_linear.Holds := by
  w_on; o_law; k_head; (case hw => w_witness2)
  k_fill
  refine AskG.walkG (l := PySem.Challenge.rw_askrights_k09_whole_sums_are_linear) (n := 63) (k := 7) (x := "_law_script") (pr := P09.prLaw) rfl (by decide) rfl ⟨⟨rfl, by decide, by decide⟩, rfl⟩ (fun w h Y => PySem.W.kIn_of Y) ?F (fun _ _ a ns _ hS => ⟨a, ns, rfl, hS, fun _ => rfl⟩)
  case F =>
    intro w mg fa h KX G hmg
    refine' P09.all_mk KX G hmg ?a1 ?l1 ?c1 ?k1 ?a2 ?l2 ?c2 ?k2 ?a3 ?l3 ?c3 ?k3 ?a4 ?l4 ?c4 ?k4 ?a5 ?l5 ?c5 ?k5 ?a6 ?l6 ?c6 ?k6 ?a7 ?l7 ?c7 ?k7 ?a8 ?l8 ?c8 ?k8 ?a9 ?l9 ?c9 ?k9 ?a10 ?l10 ?c10 ?k10 ?a11 ?l11 ?c11 ?k11 ?a12 ?l12 ?c12 ?k12 ?a13 ?l13 ?c13 ?k13 ?a14 ?l14 ?c14 ?k14 ?a15 ?l15 ?c15 ?k15 ?a16 ?l16 ?c16 ?k16 ?a17 ?l17 ?c17 ?k17 ?a18 ?l18 ?c18 ?k18 ?a19 ?l19 ?c19 ?k19 ?a20 ?l20 ?c20 ?k20 ?a21 ?l21 ?c21 ?k21 ?a22 ?l22 ?c22 ?k22 ?a23 ?l23 ?c23 ?k23 ?a24 ?l24 ?c24 ?k24 ?a25 ?l25 ?c25 ?k25 ?a26 ?l26 ?c26 ?k26 ?a27 ?l27 ?c27 ?k27 ?a28 ?l28 ?c28 ?k28 ?z1 ?z2 ?z3 ?z4 ?z5 ?z6 ?z7 ?z8 ?z9 ?z10 ?z11 ?z12 ?z13 ?zL ?w1 ?w2
    (case a1 => k_is)
    (case l1 => k_is)
    (case c1 => k_is)
    (case k1 => k_is)
    (case a2 => k_is)
    (case l2 => k_is)
    (case c2 => k_is)
    (case k2 => k_is)
    (case a3 => k_is)
    (case l3 => k_is)
    (case c3 => k_is)
    (case k3 => k_is)
    (case a4 => k_is)
    (case l4 => k_is)
    (case c4 => k_is)
    (case k4 => k_is)
    (case a5 => k_is)
    (case l5 => k_is)
    (case c5 => k_is)
    (case k5 => k_is)
    (case a6 => k_is)
    (case l6 => k_is)
    (case c6 => k_is)
    (case k6 => k_is)
    (case a7 => k_is)
    (case l7 => k_is)
    (case c7 => k_is)
    (case k7 => k_is)
    (case a8 => k_is)
    (case l8 => k_is)
    (case c8 => k_is)
    (case k8 => k_is)
    (case a9 => k_is)
    (case l9 => k_is)
    (case c9 => k_is)
    (case k9 => k_is)
    (case a10 => k_is)
    (case l10 => k_is)
    (case c10 => k_is)
    (case k10 => k_is)
    (case a11 => k_is)
    (case l11 => k_is)
    (case c11 => k_is)
    (case k11 => k_is)
    (case a12 => k_is)
    (case l12 => k_is)
    (case c12 => k_is)
    (case k12 => k_is)
    (case a13 => k_is)
    (case l13 => k_is)
    (case c13 => k_is)
    (case k13 => k_is)
    (case a14 => k_is)
    (case l14 => k_is)
    (case c14 => k_is)
    (case k14 => k_is)
    (case a15 => k_is)
    (case l15 => k_is)
    (case c15 => k_is)
    (case k15 => k_is)
    (case a16 => k_is)
    (case l16 => k_is)
    (case c16 => k_is)
    (case k16 => k_is)
    (case a17 => k_is)
    (case l17 => k_is)
    (case c17 => k_is)
    (case k17 => k_is)
    (case a18 => k_is)
    (case l18 => k_is)
    (case c18 => k_is)
    (case k18 => k_is)
    (case a19 => k_is)
    (case l19 => k_is)
    (case c19 => k_is)
    (case k19 => k_is)
    (case a20 => k_is)
    (case l20 => k_is)
    (case c20 => k_is)
    (case k20 => k_is)
    (case a21 => k_is)
    (case l21 => k_is)
    (case c21 => k_is)
    (case k21 => k_is)
    (case a22 => k_is)
    (case l22 => k_is)
    (case c22 => k_is)
    (case k22 => k_is)
    (case a23 => k_is)
    (case l23 => k_is)
    (case c23 => k_is)
    (case k23 => k_is)
    (case a24 => k_is)
    (case l24 => k_is)
    (case c24 => k_is)
    (case k24 => k_is)
    (case a25 => k_is)
    (case l25 => k_is)
    (case c25 => k_is)
    (case k25 => k_is)
    (case a26 => k_is)
    (case l26 => k_is)
    (case c26 => k_is)
    (case k26 => k_is)
    (case a27 => k_is)
    (case l27 => k_is)
    (case c27 => k_is)
    (case k27 => k_is)
    (case a28 => k_is)
    (case l28 => k_is)
    (case c28 => k_is)
    (case k28 => k_is)
    (case z1 => k_is)
    (case z2 => k_is)
    (case z3 => k_is)
    (case z4 => k_is)
    (case z5 => k_is)
    (case z6 => k_is)
    (case z7 => k_is)
    (case z8 => k_is)
    (case z9 => k_is)
    (case z10 => k_is)
    (case z11 => k_is)
    (case z12 => k_is)
    (case z13 => k_is)
    (case zL => k_is)
    (case w1 => k_is)
    (case w2 => k_is)
