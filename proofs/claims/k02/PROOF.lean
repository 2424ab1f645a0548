import PyProof.Rows.All
import Wide.All
import OpenK.AllK
import Wide.FinOn
import HandS.Words
import HandS.List
import PyProof.Rows.ReprR
import HandS.SortRule
import HandS.Conv
import KE.KDictPairs
import HandS.More
import HandS.DictComp
import HandS.Defaults
import PyProof.ReprLen
import PyProof.FitsInt
import HandS.Ends
import HandS.ForMost
import HandS.MakeKwOnly
import PySem.Challenge.RW_askrights_k02_row_sums
set_option Elab.async false
set_option linter.all false
set_option maxRecDepth 100000
set_option maxHeartbeats 8000000
/-! Defs that are only called while nothing is being shown: calls whose surroundings hold no guard, so that repr gives the plain text. -/
namespace AskG
open PySem PySem.Spec PyProof.Rows L2

/-- what a def promises, nothing being raised -/
abbrev Pr := List V → Hp → VK → Prop

/-- room for k calls, and no guard around -/
structure RG (k : Nat) (A : Around) : Prop where
  room : Room k A
  still : A.guards = some []
theorem RG.mono {j k : Nat} {A : Around} (r : RG k A) (h : j ≤ k) : RG j A :=
  ⟨r.room.mono h, r.still⟩
theorem RG.deeper {k : Nat} {A : Around} (r : RG (k + 1) A) (env : Env) : RG k (A.deeper env) :=
  ⟨r.room.deeper env, r.still⟩

section
variable (P : Program) (w : World) (K : PySem.W.Frag) (mg : Str → Option Value) (base : Heap)
structure FnG (k : Nat) (f : Addr) (fd : FuncData) (ps : List Str) (pr : Pr) : Prop where
  many : ∀ vs H Q, pr vs H Q → vs.length = ps.length
  goes : ∀ (A : Around) (outer : List Env) (s : Shared) (H : Hp) (args : Args)
    (us : List Value) (vs : List V) (Q : VK), RG k A → Env0 P w K mg base A outer s H →
    BindsTo s fd args (ps.zip us) → Vals vs us → pr vs H Q →
    codeAny (model P w) A (.call (.ref f) args) (CR CX0 outer P w H s Q E0) s
end

section
variable {P : Program} {w : World} {K : PySem.W.Frag} {mg : Str → Option Value} {base : Heap}
theorem FnG.mono {j k : Nat} {f : Addr} {fd : FuncData} {ps : List Str} {pr : Pr}
    (F : FnG P w K mg base j f fd ps pr) (h : j ≤ k) : FnG P w K mg base k f fd ps pr :=
  ⟨F.many, fun A outer s H args us vs Q hr => F.goes A outer s H args us vs Q (hr.mono h)⟩

/-- a def of the text, by its body -/
theorem fnG_of {k : Nat} {f : Addr} {name qual : Str} {params : Arguments} {body : List Stmt}
    {scope : Scope} {dV kV doc pm cdv ct oc : Value} {an od : Option Addr}
    {osl : Array (Option Value)} {N ps : List Str} {pr : Pr}
    (at_f : K.lookup f = some ⟨oc, od, .func (PySem.W.fnOf name qual params body scope dV kV doc pm an cdv ct), osl⟩)
    (code : PySem.W.codeIn K cdv qual = true) (S : FnScope N ps scope)
    (many : ∀ vs H Q, pr vs H Q → vs.length = ps.length)
    (body_ok : ∀ (A : Around) (outer : List Env) (s : Shared) (H : Hp) (vs : List V) (Q : VK),
      RG k (A.deeper (envOfC qual scope s.heap.objs.size f cdv)) → pr vs H Q →
      ∃ t, PSs (cxOf CX0 P w K mg base N qual scope f cdv A outer s H E0).nox body t ∧
        t { nx := fun _ H' => Q .non H', rt := Q } (start N vs) H) :
    FnG P w K mg base (k + 1) f
      (PySem.W.fnOf name qual params body scope dV kV doc pm an cdv ct) ps pr := by
  constructor
  · exact many
  intro A outer s H args us vs Q hr e0 hb hv hp
  have hl := many _ _ _ hp
  have inK : K.In s.heap := e0.mod.kin.keeps fun b o q => (e0.bs b o q).1
  have nl : s.heap.NoLimit := e0.mod.nolimit.keeps fun b o q => (e0.bs b o q).1
  have kinds : ∀ y ∈ ps.zip us, scope.names.lookup y.1 = some .local ∨
      (scope.names.lookup y.1 = some .cell ∧
        ((cellsFrom (s.heap.objs.size + 1) scope.names []).lookup y.1).isSome = true) := by
    rintro ⟨n, v⟩ hy
    cases S.par n (List.of_mem_zip hy).1 with
    | inl q => exact Or.inl q
    | inr q => exact Or.inr ⟨q, PySem.W.cellsFrom_some _ _ _ (Or.inl q)⟩
  refine codeAny_call_function hr.room.depth (inK _ _ at_f) rfl S.co S.gen rfl
    (PySem.W.codeRec_of inK code) (hb _ _ _ _ ?_)
  refine wpAny_newFunctionEnv_cells S.kind kinds fun env he s1 x => ?_
  subst he
  refine ⟨nl.keeps x.toInCall.keep, codeAny_func ?_⟩
  obtain ⟨t, ht, hq⟩ := body_ok A outer s H vs Q (hr.deeper _) hp
  have I : Inv (cxOf CX0 P w K mg base N qual scope f cdv A outer s H E0) [] (start N vs) H s1 :=
    inv_start S hr.room.hd e0 hl hv x
  refine wpAny_mono (ht.nox.run [] s1 (start N vs) H _ I hq) (fun fl s' hs => ?_)
    fun e s' hs => hs
  cases fl with
  | ret u =>
    obtain ⟨v, σ', H', J, rv, q⟩ := hs
    exact ⟨v, H', J.os, J.bare, J.base, J.hok, rv, q⟩
  | next =>
    obtain ⟨σ', H', J, q⟩ := hs
    exact ⟨V.non, H', J.os, J.bare, J.base, J.hok, rfl, q⟩
  | brk => exact hs.elim fun _ z => z.elim fun _ z => False.elim z.2
  | cont => exact hs.elim fun _ z => z.elim fun _ z => False.elim z.2

theorem okG {x qual : Str} {st : Stmt} {f : Addr} {fd : FuncData} {N ps : List Str} {k : Nat} {pr : Pr}
    (F : Fun K x qual st f fd) (S : FnScope N ps (defScope st))
    (many : ∀ vs H Q, pr vs H Q → vs.length = ps.length)
    (body_ok : ∀ (cdv : Value) (A : Around) (outer : List Env) (s : Shared) (H : Hp) (vs : List V) (Q : VK),
      RG k (A.deeper (envOfC qual (defScope st) s.heap.objs.size f cdv)) → pr vs H Q →
      ∃ t, PSs (cxOf CX0 P w K mg base N qual (defScope st) f cdv A outer s H E0).nox (defBody st) t ∧
        t { nx := fun _ H' => Q .non H', rt := Q } (start N vs) H) :
    FnG P w K mg base (k + 1) f fd ps pr := by
  obtain ⟨oc, od, kV, doc, pm, an, cdv, ct, osl, rfl, lk, hcd⟩ := F.ex
  exact fnG_of lk hcd S many fun A outer s H vs Q hr hp => body_ok cdv A outer s H vs Q hr hp
end

/-! ### calls -/
/-- f(..): the written arguments, then the defaults -/
def tCallG (pr : Pr) (dvs : List V) (t : TA) : TE := fun σ H Q => t σ H fun vs H1 => pr (vs ++ dvs) H1 Q
/-- f(.., k = ..) -/
def tCallKG (pr : Pr) (gV : List V → List V → List V) (t tk : TA) : TE := fun σ H Q =>
  t σ H fun vs H1 => tk σ H1 fun zs H2 => pr (gV vs zs) H2 Q

section
variable {X : Cx} {k : Nat} {f : Addr} {fd : FuncData} {ps : List Str} {pr : Pr}
theorem goG {pins : List (Addr × Obj)} {σ : L2.St} {H : Hp} {s : Shared} {Q : VK} {args : Args}
    {us : List Value} {vs : List V} (F : FnG X.prog X.w X.K X.mg X.base k f fd ps pr)
    (hr : RG k X.A) (I : Inv X pins σ H s) (hb : BindsTo s fd args (ps.zip us)) (r : Vals vs us)
    (h : pr vs H Q) : wpAny (model X.prog X.w) X.A (call (.ref f) args.pos args.kw) (EP X pins σ Q) X.xe s := by
  refine wpAny_call (codeAny_mono (F.goes X.A X.stack s H args us vs Q hr I.env0 hb r h)
    fun r s' hq => ?_)
  match r, hq with
  | .error e, hq => exact hq.elim
  | .ok (.ret u), hq => exact I.after hq
  | .ok .next, hq => exact hq.elim
  | .ok .brk, hq => exact hq.elim
  | .ok .cont, hq => exact hq.elim
end
section
variable {X : Cx} {k : Nat} {f : Addr} {fd : FuncData} {ps : List Str} {pr : Pr} {dvs : List V} {ds : List Value}
  {x : Str} {p pos : Pos} {e : Expr} {es : List Expr} {t : TA}
theorem goP {pins : List (Addr × Obj)} {σ : L2.St} {H : Hp} {s : Shared} {Q : VK} {us : List Value} {vs : List V}
    (F : FnG X.prog X.w X.K X.mg X.base k f fd ps pr) (hr : RG k X.A) (hb : Binds X.K fd ps ds) (hd : Vals dvs ds)
    (I : Inv X pins σ H s) (r : Vals vs us) (h : pr (vs ++ dvs) H Q) :
    wpAny (model X.prog X.w) X.A (call (.ref f) us) (EP X pins σ Q) X.xe s := by
  have r2 : Vals (vs ++ dvs) (us ++ ds) := r.append hd
  have hl : (us ++ ds).length = ps.length := r2.length.symm.trans (F.many _ _ _ h)
  exact goG (args := ⟨us, []⟩) F hr I (hb s us I.kIn hl) r2 h

/-- f(e, ..) -/
theorem pe_g (F : FnG X.prog X.w X.K X.mg X.base k f fd ps pr) (hr : RG k X.A) (hg : Gl X x)
    (hm : X.mg x = some (.ref f)) (hk : PySem.W.keepIn X.K (.ref f) = true) (hb : Binds X.K fd ps ds) (hd : Vals dvs ds)
    (ha : PA X (e :: es) t) (hdb : (x == ("__debug__" : Str)) = false := by decide)
    (he : starEach (e :: es) X.env = (false, eval e X.env) :: starEach es X.env := by rfl)
    (hpl : (backTo pos (starEach es X.env)).any (·.1) = false := by rfl) :
    PE X (.Call (.Name x p) (e :: es) [] pos) (tCallG pr dvs t) := by
  constructor
  intro pins s σ H Q I h
  refine wpAny_Call_Name_kw (ld_glob I hg hm ?_ hdb)
  refine PySem.W.callWith_K (h₀ := X.base) I.ok.mod.kin hk (thn (ha.run pos pins s σ H _ I h) ?_) he hpl
  rintro us s1 ⟨vs, H1, I1, r, q⟩
  exact ⟨I1.kIn, goP F hr hb hd I1 r q⟩
/-- f() -/
theorem pe_g0 (F : FnG X.prog X.w X.K X.mg X.base k f fd ps pr) (hr : RG k X.A) (hg : Gl X x)
    (hm : X.mg x = some (.ref f)) (hk : PySem.W.keepIn X.K (.ref f) = true) (hb : Binds X.K fd ps ds) (hd : Vals dvs ds)
    (hdb : (x == ("__debug__" : Str)) = false := by decide) : PE X (.Call (.Name x p) [] [] pos) (tCallG pr dvs tNil) := by
  constructor
  intro pins s σ H Q I h
  refine wpAny_Call_Name_kw (ld_glob I hg hm ?_ hdb)
  exact PySem.W.callWith_K0 I.kIn hk (goP (us := []) F hr hb hd I .nil h)
variable {ks : List Str} {g : List Value → List Value → List Value} {gV : List V → List V → List V} {kws : List Keyword} {tk : TA}
theorem goK {pins : List (Addr × Obj)} {σ : L2.St} {H : Hp} {s : Shared} {Q : VK} {us ws : List Value} {vs zs : List V}
    (F : FnG X.prog X.w X.K X.mg X.base k f fd ps pr) (hr : RG k X.A) (hb : KBinds X.K fd ps ks g gV)
    (I : Inv X pins σ H s) (r : Vals vs us) (rz : Vals zs ws) (h : pr (gV vs zs) H Q) :
    wpAny (model X.prog X.w) X.A (call (.ref f) us (ks.zip ws)) (EP X pins σ Q) X.xe s := by
  have r2 := hb.rel r rz
  have hl : (g us ws).length = ps.length := r2.length.symm.trans (F.many _ _ _ h)
  exact goG (args := ⟨us, ks.zip ws⟩) F hr I (hb.to s us ws I.kIn hl) r2 h
/-- f(e, .., k = v, ..) -/
theorem pe_gk (F : FnG X.prog X.w X.K X.mg X.base k f fd ps pr) (hr : RG k X.A) (hg : Gl X x)
    (hm : X.mg x = some (.ref f)) (hk : PySem.W.keepIn X.K (.ref f) = true) (hb : KBinds X.K fd ps ks g gV)
    (ha : PA X (e :: es) t) (hkw : PK X kws tk)
    (hall : (backToKw pos (keywordEach kws X.env)).all (·.1.isSome) = true := by rfl)
    (hks : (backToKw pos (keywordEach kws X.env)).filterMap (·.1) = ks := by rfl)
    (hdb : (x == ("__debug__" : Str)) = false := by decide)
    (he : starEach (e :: es) X.env = (false, eval e X.env) :: starEach es X.env := by rfl)
    (hpl : ((backTo pos (starEach (e :: es) X.env)).any (·.1) || (backToKw pos (keywordEach kws X.env)).any (·.1.isNone)) = false := by rfl) :
    PE X (.Call (.Name x p) (e :: es) kws pos) (tCallKG pr gV t tk) := by
  constructor
  intro pins s σ H Q I h
  refine wpAny_Call_Name_kw (ld_glob I hg hm ?_ hdb)
  refine PySem.W.callWith_KW (h₀ := X.base) I.ok.mod.kin hk hall (thn (ha.run pos pins s σ H _ I h) ?_) hpl he
  rintro us s1 ⟨vs, H1, I1, r, q⟩
  refine thn (hkw.run pos pins s1 σ H1 _ I1 q) ?_
  rintro ws s2 ⟨zs, H2, I2, rz, q2⟩
  refine ⟨I2.kIn, ?_⟩
  rw [hks]
  exact goK F hr hb I2 r rz q2
end

/-! ### repr of data -/
section
variable {X : Cx}
def rRepr (K : PySem.W.Frag) : List V → Hp → VK → Prop := fun xs H Q => ∃ (a : Addr) (d : PyData), xs = [.ref a] ∧
  Dp K H (.ref a) d ∧ d.showable = true ∧ d.hasDict = false ∧ d.depth ≤ 60 ∧ d.shown.length ≤ sizeLine ∧ Q (.str d.shown) H
theorem call_repr {k : Nat} (hr : RG k X.A) : CallR X (.builtin "repr") (rRepr X.K) := by
  intro pins s σ H xs us Q I r q
  obtain ⟨a, d, ex, hD, hs, hnd, hdp, hsz, q⟩ := q
  subst ex
  obtain ⟨u, eu, rx⟩ := vals1 r
  subst eu
  cases rx
  obtain ⟨as, rd⟩ := Dp.reads I d (.ref a) (.ref a) hD rfl
  have hu := hr.room.units
  exact repr_of_reads' rd hs (PyData.noDict_hsm hnd) hr.still (by omega) (fun _ _ z => z)
    (fun h' u tk hk => ⟨.str d.shown, H, I.kept hk, ⟨u, rfl⟩, q⟩) hsz
end
end AskG
/-! Cells (a text, an int) as keys of dicts: their order, sorted(d). -/
namespace AskG
open PySem PySem.Spec PyProof.Rows L2

abbrev Cell := Str × Int
/-- a cell as a key -/
abbrev ck (c : Cell) : List Key := [Sum.inr c.1, Sum.inl c.2]
/-- the order of cells -/
def ltC (p q : Cell) : Bool := if p.1 = q.1 then decide (p.2 < q.2) else decide (p.1.cps.toList < q.1.cps.toList)

theorem str_ext {x y : Str} (h : x.cps.toList = y.cps.toList) : x = y := by
  obtain ⟨⟨a⟩⟩ := x
  obtain ⟨⟨b⟩⟩ := y
  have h : a = b := h
  rw [h]
theorem ltC_iff {p q : Cell} : ltC p q = true ↔ (p.1.cps.toList < q.1.cps.toList) ∨ (p.1 = q.1 ∧ p.2 < q.2) := by
  unfold ltC
  by_cases e : p.1 = q.1
  · rw [if_pos e, decide_eq_true_eq]
    constructor
    · intro h
      exact Or.inr ⟨e, h⟩
    · rintro (h | h)
      · rw [e] at h
        exact absurd h (List.lt_irrefl _)
      · exact h.2
  · rw [if_neg e, decide_eq_true_eq]
    constructor
    · intro h
      exact Or.inl h
    · rintro (h | h)
      · exact h
      · exact absurd h.1 e
theorem codes_tri (x y : List Nat) : x < y ∨ x = y ∨ y < x := by
  by_cases h1 : x < y
  · exact Or.inl h1
  · by_cases h2 : y < x
    · exact Or.inr (Or.inr h2)
    · exact Or.inr (Or.inl (List.le_antisymm (List.not_lt.mp h2) (List.not_lt.mp h1)))
theorem ltC_tri (p q : Cell) : ltC p q = true ∨ p = q ∨ ltC q p = true := by
  rcases codes_tri p.1.cps.toList q.1.cps.toList with h | h | h
  · exact Or.inl (ltC_iff.mpr (Or.inl h))
  · have e := str_ext h
    rcases Int.lt_trichotomy p.2 q.2 with g | g | g
    · exact Or.inl (ltC_iff.mpr (Or.inr ⟨e, g⟩))
    · exact Or.inr (Or.inl (Prod.ext e g))
    · exact Or.inr (Or.inr (ltC_iff.mpr (Or.inr ⟨e.symm, g⟩)))
  · exact Or.inr (Or.inr (ltC_iff.mpr (Or.inl h)))
theorem ltC_trans {p q r : Cell} (h1 : ltC p q = true) (h2 : ltC q r = true) : ltC p r = true := by
  refine ltC_iff.mpr ?_
  rcases ltC_iff.mp h1 with a | ⟨a, a'⟩ <;> rcases ltC_iff.mp h2 with b | ⟨b, b'⟩
  · exact Or.inl (List.lt_trans a b)
  · exact Or.inl (b ▸ a)
  · exact Or.inl (a ▸ b)
  · exact Or.inr ⟨a.trans b, Int.lt_trans a' b'⟩
theorem ltC_irr (p : Cell) : ltC p p = false := by
  cases h : ltC p p with
  | false => rfl
  | true =>
    rcases ltC_iff.mp h with a | ⟨_, a⟩
    · exact absurd a (List.lt_irrefl _)
    · exact absurd a (Int.lt_irrefl _)
theorem ltC_asym {p q : Cell} (h : ltC p q = true) : ltC q p = false := by
  cases g : ltC q p with
  | false => rfl
  | true =>
    have := ltC_trans h g
    rw [ltC_irr] at this
    cases this
theorem swo_cells {α : Type} (k : α → Cell) : SrtO.Swo fun v u => ltC (k v) (k u) := by
  refine ⟨fun x y h => ltC_asym h, fun x y z h1 h2 => ?_⟩
  cases g : ltC (k z) (k x) with
  | false => rfl
  | true =>
    rcases ltC_tri (k x) (k y) with a | a | a
    · have := ltC_trans g a
      rw [h2] at this
      cases this
    · rw [← a, g] at h2
      cases h2
    · rw [h1] at a
      cases a

/-- the value is a tuple of a text and an int -/
def IsCl (h : Heap) (v : Value) (c : Cell) : Prop := ∃ (a : Addr) (t u : Tok), v = .ref a ∧ IsTup h a #[.str c.1 t, .int c.2 u]
section
variable {prog : Program} {w : World} {A : Around} {E : Value → Shared → Prop} {s : Shared}
theorem cell_cmp {vs : List Value} {k : Value → Cell} (hp : ∀ v ∈ vs, IsCl s.heap v (k v)) :
    SrtO.Cmp prog w A s (tuples' true) (fun p => p.1 ∈ vs) (SrtO.lt2 fun v u => ltC (k v) (k u)) := by
  intro p q hm hm'
  have h1 := hp _ hm
  have h2 := hp _ hm'
  show wpAny (model prog w) A (keyLt' (tuples' true) p.1 q.1) (fun r s' => s' = s ∧ r = ltC (k p.1) (k q.1)) (fun _ _ => False) s
  generalize k p.1 = c at h1 ⊢
  generalize k q.1 = d at h2 ⊢
  obtain ⟨a, t, u, e, o, ho, hc, n, hd⟩ := h1
  obtain ⟨a', t', u', e', o', ho', hc', n', hd'⟩ := h2
  rw [e, e']
  refine PySem.W.kat_lt ho hd ho' hd' ?_
  show PySem.W.KatLex prog w A true (decide (2 < 2)) _ [(.str c.1 t, .str d.1 t'), (.int c.2 u, .int d.2 u')] 0 s
  refine PySem.W.kat_cons (SeqAt.EqAt.str_str c.1 t d.1 t' prog w _ _ ?_)
  refine PySem.W.kat_go (fun e1 => ?_) (fun e1 => ?_)
  · have ex : c.1 = d.1 := by simpa using e1
    refine PySem.W.kat_yes (PySem.W.kat_cons (SeqAt.EqAt.int_int c.2 u d.2 u' prog w _ _ ?_))
    refine PySem.W.kat_go (fun e2 => ?_) (fun e2 => ?_)
    · have ey : c.2 = d.2 := by simpa using e2
      have e3 : ltC c d = false := by
        rw [show c = d from Prod.ext ex ey]
        exact ltC_irr d
      exact PySem.W.kat_yes (PySem.W.kat_nil ⟨rfl, e3.symm⟩)
    · have e3 : ltC c d = decide (c.2 < d.2) := if_pos ex
      refine PySem.W.kat_no (PySem.W.kat_one _ _ (PyProof.Rows.lt_int ?_))
      exact (show s = s ∧ decide (c.2 < d.2) = ltC c d from ⟨rfl, e3.symm⟩)
  · have ex : ¬ c.1 = d.1 := by simpa using e1
    have e3 : ltC c d = decide (c.1.cps.toList < d.1.cps.toList) := if_neg ex
    exact PySem.W.kat_no (oneLt_str ⟨rfl, e3.symm⟩)
theorem cell_firsts {h : Heap} : ∀ {vs : List Value}, (∀ v ∈ vs, ∃ c, IsCl h v c) →
    ∃ fs : List Value, PySem.W.KatTups h vs fs ∧ fs.length = vs.length ∧ ∀ f ∈ fs, ∃ x t, f = Value.str x t
  | [], _ => ⟨[], .nil, rfl, fun f hf => absurd hf (by simp)⟩
  | v :: vs, x => by
    obtain ⟨fs, k, hl, hi⟩ := cell_firsts (vs := vs) fun u hu => x u (List.mem_cons_of_mem _ hu)
    obtain ⟨c, a, t, u, rfl, o, ho, hc, n, hd⟩ := x v List.mem_cons_self
    refine ⟨.str c.1 t :: fs, .cons ho hc hd rfl k, congrArg (· + 1) hl, fun f hf => ?_⟩
    rcases List.mem_cons.mp hf with rfl | hf
    · exact ⟨_, _, rfl⟩
    · exact hi f hf
theorem IsCl.keeps {h h' : Heap} {v : Value} {c : Cell} (x : IsCl h v c) (k : ∀ b o, h.get? b = some o → o.cls = .type "tuple" → h'.get? b = some o) : IsCl h' v c := by
  obtain ⟨a, t, u, e, o, ho, hc, r⟩ := x
  exact ⟨a, t, u, e, o, k _ _ ho hc, hc, r⟩
theorem cells_sortable {a : Addr} {vs : List Value} {k : Value → Cell} (h0 : 0 < vs.length) (hp : ∀ v ∈ vs, IsCl s.heap v (k v))
    (ha : ∀ o, s.heap.get? a = some o → o.cls ≠ .type "tuple") : SrtO.SortableO prog w A s a vs fun v u => ltC (k v) (k u) := by
  intro h' keep
  have hp' : ∀ v ∈ vs, IsCl h' v (k v) := fun v hm => (hp v hm).keeps fun b o e c => keep b o (fun z => by subst z; exact ha o e c) e
  obtain ⟨fs, h1, h2, h3⟩ := cell_firsts fun v hm => ⟨_, hp' v hm⟩
  refine ⟨tuples' true, fun Q E hq => ?_, cell_cmp hp'⟩
  refine PySem.W.kat_kind (T := .type "str") h1 (by omega) (fun f hm => ?_) (by rfl) ?_
  · obtain ⟨x, t, rfl⟩ := h3 f hm
    exact PySem.W.Looks.now
  · have e : (Value.type "str" != Value.type "tuple") = true := by first | decide +kernel | rfl | decide
    rw [e]
    exact hq
end
end AskG
/-! sorted(d), dict(pairs) of dicts whose keys are cells. -/
namespace AskG
open PySem PySem.Spec PyProof.Rows L2

/-- a tracked tuple of a text and an int -/
def CellAt (H : Hp) (b : Addr) (c : Cell) : Prop := H b = some (.tup [.str c.1, .int c.2])
/-- the cell that stands behind a value -/
def cellOf (H : Hp) : Value → Cell
  | .ref a => match H a with
    | some (.tup [.str x, .int y]) => (x, y)
    | _ => (⟨#[]⟩, 0)
  | _ => (⟨#[]⟩, 0)
theorem cellOf_at {H : Hp} {b : Addr} {c : Cell} (h : CellAt H b c) : cellOf H (.ref b) = c := by
  unfold CellAt at h
  show (match H b with
    | some (.tup [.str x, .int y]) => (x, y)
    | _ => ((⟨#[]⟩, 0) : Cell)) = c
  rw [h]
theorem isCl_of {P : Program} {w : World} {H : Hp} {h : Heap} {b : Addr} {c : Cell} (ok : HOk P w H h) (e : CellAt H b c) : IsCl h (.ref b) c := by
  obtain ⟨_, its, r, ht⟩ := (show ObjOk P w H h b (.tup [.str c.1, .int c.2]) from ok b _ e)
  obtain ⟨x, y, ei, rx, ry⟩ := vals2 r
  obtain ⟨t, rfl⟩ := rx
  obtain ⟨u, rfl⟩ := ry
  subst ei
  exact ⟨b, t, u, rfl, ht⟩
theorem ck_inj {c d : Cell} (h : ck c = ck d) : c = d := by
  injection h with h1 h2
  injection h1 with h1
  injection h2 with h2 _
  injection h2 with h2
  exact Prod.ext h1 h2

/-- sorted(d), d a dict whose keys are the cells cs -/
def rSortT : List V → Hp → VK → Prop := fun xs H Q => ∃ (d : Addr) (kvs : List (List Key × V)) (cs : List Cell),
  xs = [.ref d] ∧ Rd H d (.dT kvs) ∧ kvs.map (·.1) = cs.map ck ∧
  ∀ (ys : List Cell) (bs : List Addr) (p : Addr), ys.Perm cs → ys.Pairwise (fun a b => ltC a b = true) →
    Paired (CellAt H) bs ys → H p = none → Q (.ref p) (upd H p (.lst (bs.map V.ref)))
theorem paired_of {α β : Type} {R : α → β → Prop} (f : α → β) : ∀ {l : List α}, (∀ x ∈ l, R x (f x)) → Paired R l (l.map f)
  | [], _ => .nil
  | x :: l, h => .cons (h x List.mem_cons_self) (paired_of f fun y hy => h y (List.mem_cons_of_mem _ hy))
theorem strict_of : ∀ {ys : List Cell}, ys.Pairwise (fun a b => ltC b a = false) → ys.Nodup → ys.Pairwise (fun a b => ltC a b = true) := by
  intro ys h n
  refine (h.and n).imp ?_
  rintro a b ⟨h1, h2⟩
  rcases ltC_tri a b with g | g | g
  · exact g
  · exact absurd g h2
  · rw [h1] at g
    cases g
section
variable {X : Cx}
theorem cr_sortT (hc : X.calm = true) : CallR X (.builtin "sorted") rSortT := by
  intro pins s σ H xs us Q I r q
  obtain ⟨d, kvs, cs, ex, hd, hks, q⟩ := q
  subst ex
  obtain ⟨u, eu, rx⟩ := vals1 r
  subst eu
  cases rx
  obtain ⟨z, hs, ks, pr, o, es, ep, ho, hx, hdt, he, hn⟩ :=
    (show ObjOk X.prog X.w H s.heap d (.dT kvs) from hd.ok I.hok)
  have l1 : es.size = ks.length := size_of_entries he
  have l2 : kvs.length = ks.length := Paired.length pr
  have hkk : ks.map (·.1) = cs.map ck := by
    rw [← hks]
    clear q he hn hd l1 l2 hks z
    induction pr with
    | nil => rfl
    | cons h t ih => rw [List.map_cons, List.map_cons, ih, h.1]
  have atK : ∀ x ∈ ks, H x.2.1 = some (.tup (x.1.map kV)) := by
    clear q he hn hd l1 l2 hks z hkk
    induction pr with
    | nil => exact fun x hx => absurd hx (by simp)
    | cons h t ih =>
      intro x hx
      rcases List.mem_cons.mp hx with e | hx
      · subst e
        rw [← h.1]
        exact h.2.1
      · exact ih x hx
  have atC : ∀ x ∈ ks, ∃ c, x.1 = ck c ∧ CellAt H x.2.1 c := by
    intro x hx
    have : x.1 ∈ cs.map ck := by
      rw [← hkk]
      exact List.mem_map_of_mem hx
    obtain ⟨c, _, ec⟩ := List.mem_map.mp this
    refine ⟨c, ec.symm, ?_⟩
    have := atK x hx
    rw [← ec] at this
    exact this
  refine Calls.call_function_entry PyProof.Rows.kind_sorted PyProof.Rows.plain_sorted
    PyProof.Rows.entry_sorted (PyProof.Rows.args_sorted1 _) ?_
  unfold Builtin.«sorted»
  refine wpAny_bind (m := checkCount "sorted" 1 1 _) (wpAny_pure ?_)
  refine wpAny_bind (PySem.W.kdu_collect (A := X.A.in1) (kdl_raw hs hx hdt) (I.ok.hd hc) ho (by omega) ?_)
  intro h' tk acc hk it
  have ea : acc.toList = ks.map fun x => Value.ref x.2.1 := by
    have hl : acc.toList.length = ks.length := by
      rw [Array.length_toList, it.1]
      exact l1
    apply List.ext_getElem?
    intro j
    rw [List.getElem?_map]
    cases hj : acc.toList[j]? with
    | none =>
      have h1 := List.getElem?_eq_none_iff.mp hj
      rw [List.getElem?_eq_none (by omega)]
      all_goals rfl
    | some v =>
      obtain ⟨en, hen, hv⟩ := it.2 j v (by rw [← Array.getElem?_toList]; exact hj)
      have qe := entry_at he j
      rw [hen] at qe
      cases hb : ks[j]? with
      | none =>
        rw [hb] at qe
        exact nomatch (show some en = none from qe)
      | some b =>
        rw [hb] at qe
        have e2 : en = entryOfKey (tupleKind (mixKind X.prog X.w)) b := Option.some.inj qe
        rw [hv, e2]
        all_goals rfl
  generalize acc.toList = vs at ea ⊢
  subst ea
  have hz : (ks.map fun x => Value.ref x.2.1).length ≤ sizeLine := by
    rw [List.length_map]
    omega
  have I1 : Inv X pins σ H { s with heap := h', toks := tk } := I.kept hk
  refine wpAny_bind (wpAny_newList ?_ hz)
  generalize hvs : (ks.map fun x => Value.ref x.2.1) = vs at hz ⊢
  have hoL : (h'.push (seqObj "list" vs.toArray 0)).get? h'.objs.size = some (seqObj "list" vs.toArray 0) :=
    Heap.get?_push_size _ rfl
  have hcl : ∀ v ∈ vs, ∃ b c, v = .ref b ∧ CellAt H b c := by
    intro v hv
    rw [← hvs] at hv
    obtain ⟨x, hx, rfl⟩ := List.mem_map.mp hv
    obtain ⟨c, _, hc⟩ := atC x hx
    exact ⟨_, c, rfl, hc⟩
  show wpAny _ _ _ _ _ { s with heap := h'.push (seqObj "list" vs.toArray 0), toks := tk }
  refine wpAny_bind (wpAny_holding (wpAny_call_entry PyProof.Rows.slot_list_sort ⟨_, hoL, rfl⟩ PyProof.Rows.entry_list_sort
    (SrtO.list_sort_ord (ltv := fun v u => ltC (cellOf H v) (cellOf H u)) (swo_cells _) hoL hz (fun h2 => ?_) (fun out hs hb => ⟨_, rfl, ?_⟩))
    (PyProof.Rows.args_list_sort _)))
  · refine cells_sortable (by omega) (fun v hv => ?_) fun o' eo => ?_
    · obtain ⟨b, c, rfl, hc⟩ := hcl v hv
      rw [cellOf_at hc]
      exact (isCl_of I1.hok hc).keeps fun b o e _ => Heap.get?_push_of_some _ e
    · have e' : some o' = some (seqObj "list" vs.toArray 0) := eo.symm.trans hoL
      cases e'
      intro c
      exact absurd (Value.type.inj c) (by decide)
  · obtain ⟨e', he'⟩ := PyProof.Rows.sortedHeap_at (vs := vs) (out := out.toArray) hoL
    have hout : ∀ v ∈ out, ∃ b c, v = .ref b ∧ CellAt H b c := fun v hv => hcl v (hb.perm.mem_iff.mp hv)
    have hbs : ∃ bs : List Addr, out = bs.map Value.ref := by
      clear hb hs he'
      induction out with
      | nil => exact ⟨[], rfl⟩
      | cons v l ih =>
        obtain ⟨bs, rfl⟩ := ih fun u hu => hout u (List.mem_cons_of_mem _ hu)
        obtain ⟨b, c, rfl, _⟩ := hout v List.mem_cons_self
        exact ⟨b :: bs, rfl⟩
    obtain ⟨bs, rfl⟩ := hbs
    have hcs : (vs.map (cellOf H)) = cs := by
      rw [← hvs, List.map_map]
      have inj : ∀ {a b : List Cell}, a.map ck = b.map ck → a = b := by
        intro a
        induction a with
        | nil =>
          intro b h
          cases b with
          | nil => rfl
          | cons _ _ => cases h
        | cons x a ih =>
          intro b h
          cases b with
          | nil => cases h
          | cons y b =>
            rw [List.map_cons, List.map_cons] at h
            injection h with h1 h2
            rw [ck_inj h1, ih h2]
      refine inj ?_
      rw [List.map_map, ← hkk]
      refine List.map_congr_left fun x hx => ?_
      obtain ⟨c, ec, hc⟩ := atC x hx
      show ck (cellOf H (.ref x.2.1)) = x.1
      rw [cellOf_at hc, ec]
    have perm : ((bs.map Value.ref).map (cellOf H)).Perm cs := by
      rw [← hcs]
      exact hb.perm.map _
    have hcn : cs.Nodup := by
      have := hn
      rw [hkk] at this
      exact (List.pairwise_map.mp this).imp fun h e => h (congrArg ck e)
    have hst := strict_of (List.pairwise_map.mpr hs) (perm.nodup_iff.mpr hcn)
    have hlen : (bs.map V.ref).length ≤ sizeLine := by
      have := hb.perm.length_eq
      rw [List.length_map] at this ⊢
      omega
    refine wpAny_pure ⟨_, rfl, .ref h'.objs.size, upd H h'.objs.size (.lst (bs.map V.ref)), I1.laid (t' := tk) (fun b u e => ?_) (Nat.le_refl _)
      (show ObjOk X.prog X.w _ _ _ (.lst (bs.map V.ref)) from ⟨hlen, bs.map Value.ref, e', vals_refs _, he'⟩), rfl,
      q _ bs _ perm hst ?_ (I1.hok.fresh (Nat.le_refl _))⟩
    · have hb : b < h'.objs.size := Heap.lt_size e
      rw [PyProof.Rows.sortedHeap_old (Nat.ne_of_lt hb) (by rw [size_push']; exact Nat.lt_succ_of_lt hb)]
      exact Heap.get?_push_of_some _ e
    · rw [List.map_map]
      refine paired_of _ fun b hb' => ?_
      obtain ⟨b2, c, e2, hc⟩ := hout (.ref b) (List.mem_map_of_mem hb')
      cases e2
      show CellAt H b (cellOf H (.ref b))
      rw [cellOf_at hc]
      exact hc

/-! ### dict(pairs) -/
/-- one after another, later ones win -/
def putAll (kvs more : List (List Key × V)) : List (List Key × V) := more.foldl (fun acc kv => putK acc kv.1 kv.2) kvs
theorem length_putAll : ∀ (more kvs : List (List Key × V)), (putAll kvs more).length ≤ kvs.length + more.length
  | [], kvs => Nat.le_refl _
  | m :: more, kvs => by
    have h1 := length_putAll more (putK kvs m.1 m.2)
    have h2 := length_putK kvs m.1 m.2
    rw [List.length_cons]
    show (putAll (putK kvs m.1 m.2) more).length ≤ _
    omega
theorem ktAll {H : Hp} {more : List (List Key × V)} {ms : List (List Key × Addr × Value)} (r : KT H more ms) :
    ∀ {kvs : List (List Key × V)} {xs : List (List Key × Addr × Value)}, KT H kvs xs → KT H (putAll kvs more) (storedAllH xs ms) := by
  induction r with
  | nil => exact fun h => h
  | @cons p q _ _ h t ih =>
    intro kvs xs g
    show KT H (putAll (putK kvs p.1 p.2) _) (storedAllH (storedH xs q.1 q.2.1 q.2.2) _)
    refine ih ?_
    have := KT.put g p.1 (b := q.2.1) h.2.1 h.2.2
    rw [h.1] at this ⊢
    exact this
/-- a tracked pair: a key tuple and a value -/
def PairAt' (K : PySem.W.Frag) (H : Hp) (p : Addr) (kv : List Key × V) : Prop := ∃ b, SqT K H p [.ref b, kv.2] ∧ H b = some (.tup (kv.1.map kV))
theorem pairsT_of {pins : List (Addr × Obj)} {σ : L2.St} {H : Hp} {s : Shared} (I : Inv X pins σ H s) : ∀ {ps : List Addr} {kvs : List (List Key × V)}, Paired (PairAt' X.K H) ps kvs →
    ∃ ms : List (List Key × Addr × Value), KT H kvs ms ∧ ms.length = ps.length ∧ ∀ (j : Nat) (q : List Key × Addr × Value), ms[j]? = some q → ∃ b : Addr, ps[j]? = some b ∧ IsTup s.heap b #[.ref q.2.1, q.2.2]
  | _, _, .nil => ⟨[], .nil, rfl, fun j q e => by simp at e⟩
  | _, _, .cons (a := p) (b := kv) h t => by
    obtain ⟨ms, r, hl, hp⟩ := pairsT_of I t
    obtain ⟨b, hb, hk⟩ := h
    obtain ⟨its, rv, ht, _⟩ := I.tuple hb
    obtain ⟨u, y, ei, ru, ry⟩ := vals2 rv
    subst ei
    cases ru
    refine ⟨(kv.1, b, y) :: ms, .cons ⟨rfl, hk, ry⟩ r, congrArg (· + 1) hl, fun j q e => ?_⟩
    cases j with
    | zero =>
      have e' : (kv.1, b, y) = q := Option.some.inj e
      subst e'
      exact ⟨p, rfl, ht⟩
    | succ j =>
      obtain ⟨b', e1, e2⟩ := hp j q (by simpa using e)
      exact ⟨b', by simpa using e1, e2⟩
/-- dict(xs), xs a list of pairs whose keys are tuples -/
theorem call_dictT {k : Nat} (hc : X.calm = true) (hr : Room k X.A) : CallR X (.type "dict") (fun xs H Q => ∃ (a : Addr) (ps : List Addr) (kvs : List (List Key × V)), xs = [.ref a] ∧ SqL X.K H a (ps.map V.ref) ∧ Paired (PairAt' X.K H) ps kvs ∧
    ∀ p, H p = none → Q (.ref p) (upd H p (.dT (putAll [] kvs)))) := by
  intro pins s σ H xs us Q I r q
  obtain ⟨a, ps, kvs, ex, hq, hp, q⟩ := q
  subst ex
  obtain ⟨u, eu, rx⟩ := vals1 r
  subst eu
  cases rx
  obtain ⟨its, rv, pl, hz⟩ := I.list hq
  have ei := refs_at rv
  subst ei
  rw [List.length_map] at hz
  obtain ⟨ms, rel, hl, hpr⟩ := pairsT_of I hp
  obtain ⟨o, n, ho, hcl, hd, hdat⟩ := pl
  have hu := hr.units
  have isK : ∀ (h' : Heap), (∀ b o, s.heap.get? b = some o → h'.get? b = some o) → ∀ x ∈ ms, (tupleKind (mixKind X.prog X.w)).is h' x.1 x.2.1 := by
    intro h' kp x hx
    have ok' : HOk X.prog X.w H h' := (I.kept (t' := s.toks) kp).hok
    have all : ∀ {l : List (List Key × V)} {m : List (List Key × Addr × Value)}, KT H l m → ∀ x ∈ m, H x.2.1 = some (.tup (x.1.map kV)) := by
      intro l m q
      induction q with
      | nil => exact fun x hx => absurd hx (by simp)
      | cons h t ih =>
        intro x hx
        rcases List.mem_cons.mp hx with e | hx
        · subst e
          rw [← h.1]
          exact h.2.1
        · exact ih x hx
    exact key_of ok' (all rel x hx)
  have pit : PairItems s.heap (ps.map Value.ref).toArray (fun j => ps.getD j 0) (ms.map fun q => (Value.ref q.2.1, q.2.2)) := by
    refine ⟨by simp [hl], fun j k' v e => ?_⟩
    rw [List.getElem?_map] at e
    cases em : ms[j]? with
    | none =>
      rw [em] at e
      cases e
    | some q' =>
      rw [em] at e
      obtain ⟨b, e1, e2⟩ := hpr j q' em
      have e3 : (Value.ref q'.2.1, q'.2.2) = (k', v) := Option.some.inj e
      injection e3 with e4 e5
      have eg : ps.getD j 0 = b := by rw [List.getD_eq_getElem?_getD, e1]; rfl
      refine ⟨?_, ?_⟩
      · show _ = some (Value.ref (ps.getD j 0))
        rw [eg]
        simp [e1]
      · show PairAt s.heap (ps.getD j 0) k' v
        rw [eg, ← e4, ← e5]
        exact .inl e2
  have hsz : ms.length ≤ sizeLine := by rw [hl]; exact hz
  have P := PairArg.list (prog := X.prog) (w := X.w) a (ps.map Value.ref).toArray (fun j => ps.getD j 0) (ms.map fun q => (Value.ref q.2.1, q.2.2))
  refine call_dict_pairsH (knd := tupleKind (mixKind X.prog X.w)) (ps := ms) P (I.ok.hd hc) (tupleKind_room_in1 (A := X.A.in1) (by show X.A.units + 1 + 1 < _; omega)) ⟨⟨o, n, ho, hcl, hd, hdat⟩, pit⟩ ⟨by rw [List.length_map], fun i key v e => ?_⟩ (fun h' hk' x hx => ?_) (by rw [List.length_map]; exact hsz) fun h' tk hd' kp => ?_
  · have e : (ms.map fun q => (Value.ref q.2.1, q.2.2))[i]? = some (key, v) := e
    rw [List.getElem?_map] at e
    cases em : ms[i]? with
    | none =>
      rw [em] at e
      cases e
    | some q' =>
      rw [em] at e
      have e3 : (Value.ref q'.2.1, q'.2.2) = (key, v) := Option.some.inj e
      injection e3 with e4 e5
      exact ⟨q'.1, q'.2.1, by rw [← e5], e4.symm⟩
  · exact isK h' (fun b o e => hk' b o (Nat.ne_of_lt (Heap.lt_size e)) (by simp) e) x hx
  · have kp' : ∀ b o, s.heap.get? b = some o → h'.get? b = some o := fun b o e => kp b o (by simp) e
    have hm : (s.heap.objs.size == sysModules) = false := beq_eq_false_iff_ne.mpr (Nat.ne_of_gt I.big)
    have hfr : H s.heap.objs.size = none := I.hok.fresh (Nat.le_refl _)
    have hlen : (putAll [] kvs).length ≤ sizeLine := by
      refine Nat.le_trans (length_putAll kvs []) ?_
      rw [List.length_nil, Nat.zero_add, Paired.length rel]
      exact hsz
    obtain ⟨q1, es, ep, h1, h2, h3, h4, _, h5⟩ := hd'
    refine ⟨.ref s.heap.objs.size, upd H s.heap.objs.size (.dT (putAll [] kvs)), I.laid (t' := tk) kp' (Nat.le_refl _)
      (show ObjOk X.prog X.w _ _ _ (.dT (putAll [] kvs)) from ⟨hlen, hm, storedAllH [] ms, (ktAll rel .nil).keeps fun c ys ec => ?_, q1, es, ep, h1, h2, h3, h4, h5⟩), rfl, q _ hfr⟩
    rw [upd_ne (ne_of_none ec hfr)]
    exact ec
end
end AskG
/-! {k: v for .. in ..}, the keys tuples. -/
namespace AskG
open PySem PySem.Spec PyProof.Rows L2

theorem setT {X : Cx} {pins : List (Addr × Obj)} {σ : L2.St} {H : Hp} {s : Shared} {E : Value → Shared → Prop} {D b : Addr}
    {kvs : List (List Key × V)} {k : List Key} {v : V} {r : Value} {Q : Unit → Shared → Prop} (hu : X.A.units + 1 < cLine)
    (I : Inv X pins σ H s) (hD : H D = some (.dT kvs)) (hb : H b = some (.tup (k.map kV))) (hz : kvs.length < sizeLine)
    (rv : RelV v r) (h : ∀ s', Inv X pins σ (upd H D (.dT (putK kvs k v))) s' → Q () s') :
    wpAny (model X.prog X.w) X.A (dictSet D (.ref b) r) Q E s := by
  obtain ⟨z, hd, xs, rel, dd⟩ := dt_of I.hok hD
  have hx : xs.length ≤ sizeLine := by
    rw [← Paired.length rel]
    exact z
  have hl : (putK kvs k v).length ≤ sizeLine := by
    have := length_putK kvs k v
    omega
  refine wpAny_dictSet_heap (hsz := hx) (knd := tupleKind (mixKind X.prog X.w)) (show X.A.units < cLine by omega)
    (key_of I.hok hb) dd fun h' dd' hs => h _ ?_
  obtain ⟨q, es, ep, hq, h2, h3, h4, _, h5⟩ := dd'
  refine d_write I (by rw [hD]; exact True.intro) hs ⟨q, hq⟩
    ⟨hl, hd, _, (rel.put k hb rv).keeps fun c ys ec => ?_, q, es, ep, hq, h2, h3, h4, h5⟩
  rw [upd_ne (ne_of ec hD (fun z => nomatch z))]
  exact ec

/-- the reading: D the new dict -/
def tDcT (wi : TI) (g : TG) (tk tv : TE) (vs : List Nat) : TE := fun σ H Q => wi σ H fun J H1 => ∀ D, H1 D = none →
  ∃ W : Nat → Nat → Hp → Prop, (∃ m, W 0 m (upd H1 D (.dT []))) ∧ ∀ i m H, W i m H →
    (J.stop i H ∧ Q (.ref D) H) ∨ (J.go i H ∧ ∃ Nx : Hp → Prop, (∀ H', Nx H' → ∃ m', m' < m ∧ W (i + 1) m' H') ∧
      ∀ x H', J.yld i H x H' → g x (wipe σ vs) H' fun σ2 H2 => wipe σ2 vs = wipe σ vs ∧
        tk σ2 H2 fun y H4 => tv σ2 H4 fun z H5 => ∃ b kvs k, y = .ref b ∧ H5 b = some (.tup (k.map kV)) ∧
          H5 D = some (.dT kvs) ∧ kvs.length < sizeLine ∧ Nx (upd H5 D (.dT (putK kvs k z))))

section
variable {X : Cx}
theorem pe_dcT {kx vx tg iter : Expr} {scope : Scope} {own : List (Str × Nat)} {pos : Pos} {wi : TI} {g : TG} {tk tv : TE}
    (hu : X.A.units + 1 < cLine) (hc : X.calm = true) (hN : X.N.Nodup) (hi : PI X tg iter wi) (ok : BlkOk X.N X.env.scope scope own)
    (hg : ∀ (s : Shared) (H : Hp) (C : Addr) (cl : List (Str × Addr)) (fp : List Addr),
      PG (X.blk s H scope (compEnvC scope cl C X.env) fp) tg g)
    (hk : ∀ (s : Shared) (H : Hp) (C : Addr) (cl : List (Str × Addr)) (fp : List Addr),
      PE (X.blk s H scope (compEnvC scope cl C X.env) fp) kx tk)
    (he : ∀ (s : Shared) (H : Hp) (C : Addr) (cl : List (Str × Addr)) (fp : List Addr),
      PE (X.blk s H scope (compEnvC scope cl C X.env) fp) vx tv)
    (hs : ∀ x, foldedSetIterable iter X.env x = pure x := by intro _; rfl) :
    PE X (.DictComp kx vx [⟨tg, iter, [], 0⟩] scope pos) (tDcT wi g tk tv (own.map (·.2))) := by
  constructor
  intro pins s σ H Q I h
  rw [arm_eval_DictComp]
  have hfree : ∀ y ∈ scope.names, y.2 = .free → ∃ c, X.env.cells.lookup y.1 = some c := by
    intro y hy e
    exact (ok.free y hy e).elim (fun k => I.ok.has _ (.inl k)) fun k => I.ok.has _ (.inr k)
  refine wpAny_comprehension_free rfl hs (closure_ok hfree) ok.kind (fun y hy e => by rw [ok.uniq y hy, e])
    (thn (hi.run pins s σ H _ I h) fun xv s1 hx => thn hx ?_)
  rintro itv s2 ⟨it, fp, tn, J, H2, e, I2, T, st2, f2, q⟩
  subst e
  refine wpAny_newObj_type (newEnv_comp ?_)
  generalize hD : s2.heap.objs.size = D
  have hDn : H2 D = none := I2.hok.fresh (Nat.le_of_eq hD)
  obtain ⟨W, ⟨m0, w0⟩, turn⟩ := q D hDn
  generalize hs3 : ({ s2 with heap := s2.heap.push { cls := .type "dict", data := .dict #[] } } : Shared) = s3
  have I3 : Inv X pins σ (upd H2 D (.dT [])) s3 := by
    rw [← hs3]
    refine I2.laid (t' := s2.toks) (fun b o e => Heap.get?_push_of_some _ e) (Nat.le_of_eq hD) ?_
    rw [← hD]
    exact dt_empty s2.heap I2.big
  have h3 : s3.heap = s2.heap.push { cls := .type "dict", data := .dict #[] } := by rw [← hs3]
  have sz : ∀ b ∈ fp, b < s2.heap.objs.size := fun b hb => (T.obj _ _ st2 b hb).elim fun o e => Heap.lt_size e.1
  have f3 : ∀ b ∈ fp, FpOk X pins (upd H2 D (.dT [])) b ∧ b < s3.heap.objs.size := by
    intro b hb
    have hlt := sz b hb
    refine ⟨⟨?_, (f2 b hb).2⟩, by rw [h3, Heap.size_push]; exact Nat.lt_succ_of_lt hlt⟩
    rw [upd_ne (by rw [← hD]; exact Nat.ne_of_lt hlt)]
    exact (f2 b hb).1
  have st3 : tn 0 s3.heap := T.keep _ _ _ st2 fun b _ o e => by
    rw [h3]
    exact Heap.get?_push_of_some _ e
  have I4 := block_start I3 ok hN f3
  have pg := hg s3 (upd H2 D (.dT [])) s3.heap.objs.size
    (cellsFrom (s3.heap.objs.size + 1) scope.names (cloFrom X.env.cells scope.names [])) fp
  have pk := hk s3 (upd H2 D (.dT [])) s3.heap.objs.size
    (cellsFrom (s3.heap.objs.size + 1) scope.names (cloFrom X.env.cells scope.names [])) fp
  have pe := he s3 (upd H2 D (.dT [])) s3.heap.objs.size
    (cellsFrom (s3.heap.objs.size + 1) scope.names (cloFrom X.env.cells scope.names [])) fp
  have nfp : ∀ b ∈ fp, (upd H2 D (.dT [])) b = none := fun b hb => (f3 b hb).1.1
  show codeAny _ _ (.compStart (.DictComp kx vx [⟨tg, iter, [], 0⟩] scope pos) 0 (.ref it) (.ref D)
    (compEnvC scope (cellsFrom (s3.heap.objs.size + 1) scope.names (cloFrom X.env.cells scope.names [])) s3.heap.objs.size X.env)) _
    { s3 with heap := pushCells (s3.heap.push { cls := .type "dict", data := .dict #[] }) scope.names }
  generalize hce : compEnvC scope (cellsFrom (s3.heap.objs.size + 1) scope.names (cloFrom X.env.cells scope.names [])) s3.heap.objs.size X.env = ce at I4 pg pk pe ⊢
  have cL : ce.locals = s3.heap.objs.size := by
    subst hce
    rfl
  generalize hH3 : upd H2 D (.dT []) = H3 at I3 I4 pg pk pe w0 nfp f3
  generalize hs4 : ({ s3 with heap := pushCells (s3.heap.push { cls := .type "dict", data := .dict #[] }) scope.names } : Shared) = s4 at I4 ⊢
  have st4 : tn 0 s4.heap := T.keep _ _ _ st3 fun b _ o e => by
    rw [← hs4]
    exact pushCells_keeps _ _ _ _ (Heap.get?_push_of_some _ e)
  have stat : ∀ {σ' : L2.St} {H' : Hp} {s' : Shared}, Inv (X.blk s3 H3 scope ce fp) [] σ' H' s' → (∀ b ∈ fp, H' b = none) →
      ∀ b ∈ fp, FpOk (X.blk s3 H3 scope ce fp) [] H' b := by
    intro σ' H' s' I' hn b hb
    exact ⟨hn b hb, (I'.ok.exf b hb).1, I'.ok.exfs b hb, .inl hb, fun x c e => (I'.ok.exf b hb).2 x c e,
      fun p hp => absurd (show p ∈ ([] : List (Addr × Obj)) ++ [] from hp) (by simp)⟩
  refine codeAny_compStart_dict ?loop (T.self X.A 0 _ _ _ st4 ?loop)
  refine compLoop_anyD (fun n s' => ∃ i H', Inv (X.blk s3 H3 scope ce fp) [] (wipe σ (own.map (·.2))) H' s' ∧ tn i s'.heap ∧
    (∀ b ∈ fp, H' b = none) ∧ W i n H') ?_ m0 ⟨0, H3, I4, st4, nfp, w0⟩
  rintro n s5 ⟨i, H5, I5, st5, n5, w5⟩
  rcases turn i n H5 w5 with ⟨stop, qq⟩ | ⟨go, Nx, hNx, step⟩
  · have td := T.done (X.blk s3 H3 scope ce fp) rfl rfl rfl hc i [] s5 _ H5 (fun _ _ => False) I5 (stat I5 n5) st5 stop
    refine thnF td ?_
    rintro r s6 ⟨hr, I6⟩
    subst hr
    have I7 : Inv X pins σ H5 s6 := I3.call' (ch := fp) I6.os I6.base I6.hok I6.bare fun b hb =>
      ⟨(f3 b hb).1.2.2.2.1, (f3 b hb).1.2.1, (f3 b hb).1.2.2.2.2.1, (f3 b hb).1.2.2.2.2.2⟩
    have nC : H5 s3.heap.objs.size = none := by
      have z : H5 ce.locals = none := I6.free
      rw [cL] at z
      exact z
    obtain ⟨m, hn, _⟩ := I6.loc
    have hn : s6.heap.Ns ce.locals m := hn
    rw [cL] at hn
    obtain ⟨f0, f1, f2, f3, f4, f5⟩ := I3.fpOk (Nat.le_refl _) nC
    refine ⟨m, hn, fun h'' sb => ?_⟩
    exact ⟨.ref D, H5, I7.turned (t' := s6.toks) (fun b o hb e => (sb.2 b hb).trans e) f0 f1 f3 f4 f5, rfl, qq⟩
  · have ti := T.item (X.blk s3 H3 scope ce fp) rfl rfl rfl hc i [] s5 _ H5 (fun _ _ => False) I5 (stat I5 n5) st5 go
    refine thnF ti ?_
    rintro r s6 ⟨u, hr, h6⟩
    subst hr
    refine thnF h6 ?_
    rintro _ s7 ⟨x, H7, I7, r7, y7, st7, n7⟩
    have I7' := I7.pinned (stat I7 n7) (T.obj _ _ st7)
    refine thnF (pg.run _ s7 _ H7 x u _ I7' r7 (step x H7 y7)) ?_
    rintro _ s8 ⟨σ8, H8, I8, hw8, q8⟩
    refine wpAny_pure ?_
    have fin : ∀ {s' : Shared} {H' : Hp}, Inv (X.blk s3 H3 scope ce fp) ([] ++ pinsAt fp s7.heap) σ8 H' s' → Nx H' →
        ∃ m, m < n ∧ ∃ i H', Inv (X.blk s3 H3 scope ce fp) [] (wipe σ (own.map (·.2))) H' s' ∧ tn i s'.heap ∧ (∀ b ∈ fp, H' b = none) ∧ W i m H' := by
      intro s' H' I' nx
      obtain ⟨m', hm, w'⟩ := hNx H' nx
      have pin' : ∀ b ∈ fp, ∀ o, s7.heap.get? b = some o → s'.heap.get? b = some o ∧ H' b = none := by
        intro b hb o e
        have z := I'.pin (b, o) (List.mem_append_right _ (List.mem_append_right _ (mem_pinsAt hb e)))
        exact ⟨z.1, z.2.1⟩
      have hl : (wipe σ (own.map (·.2))).length = σ8.length := by rw [← hw8, wipe_length]
      refine ⟨m', hm, i + 1, H', (I'.unpinned (pins := [])).weak hl (fun j v e => ?_),
        T.keep _ _ _ st7 fun b hb o e => (pin' b hb o e).1, fun b hb => ?_, w'⟩
      · rw [← hw8] at e
        exact (wipe_some e).1
      · obtain ⟨o, e, _⟩ := T.obj _ _ st7 b hb
        exact (pin' b hb o e).2
    show wpAny _ _ (eval kx ce) _ _ _
    refine thnF (pk.run _ s8 σ8 H8 _ I8 q8) ?_
    rintro z s10 ⟨yk, H10, I10, r10, q10⟩
    refine thnF (pe.run _ s10 σ8 H10 _ I10 q10) ?_
    rintro z2 s11 ⟨yv, H11, I11, r11, b, kvs, k, ek, hb, hD11, hz11, nx⟩
    subst ek
    cases r10
    exact setT (X := X.blk s3 H3 scope ce fp) hu I11 hD11 hb hz11 r11 fun s12 I12 => fin I12 nx
end
end AskG
/-! The mathematics of rows: sums, multiples, parts, effects. -/
namespace AskG
open PySem PySem.Spec PyProof.Rows L2

abbrev RowD := List (Cell × Int)
def getO (m : RowD) (c : Cell) : Option Int := (m.find? fun x => decide (x.1 = c)).map (·.2)
def get0 (m : RowD) (c : Cell) : Int := (getO m c).getD 0
def putC (m : RowD) (c : Cell) (w : Int) : RowD :=
  if m.any (fun x => decide (x.1 = c)) then m.map (fun x => if x.1 = c then (x.1, w) else x) else m ++ [(c, w)]
def keys (m : RowD) : List Cell := m.map (·.1)
/-- as the dict holds it -/
def dk (m : RowD) : List (List Key × V) := m.map fun x => (ck x.1, .int x.2)

theorem dk_keys (m : RowD) : (dk m).map (·.1) = (keys m).map ck := by
  unfold dk keys
  rw [List.map_map, List.map_map]
  rfl
theorem dk_length (m : RowD) : (dk m).length = m.length := List.length_map _
theorem getO_cons (x : Cell × Int) (m : RowD) (c : Cell) : getO (x :: m) c = if x.1 = c then some x.2 else getO m c := by
  unfold getO
  rw [List.find?_cons]
  by_cases h : x.1 = c <;> simp [h]
theorem get0_cons (x : Cell × Int) (m : RowD) (c : Cell) : get0 (x :: m) c = if x.1 = c then x.2 else get0 m c := by
  unfold get0
  rw [getO_cons]
  by_cases h : x.1 = c <;> simp [h]
theorem get0_nil (c : Cell) : get0 [] c = 0 := rfl
theorem dk_val : ∀ (m : RowD) (c : Cell), valV (dk m) (ck c) = (getO m c).map V.int
  | [], _ => rfl
  | x :: m, c => by
    rw [getO_cons]
    by_cases h : x.1 = c
    · rw [if_pos h]
      exact valV_pos (p := (ck x.1, V.int x.2)) (congrArg ck h)
    · rw [if_neg h]
      exact (valV_neg (p := (ck x.1, V.int x.2)) (fun e => h (ck_inj e))).trans (dk_val m c)
theorem dk_any (m : RowD) (c : Cell) : ((dk m).any fun kv => decide (kv.1 = ck c)) = m.any fun x => decide (x.1 = c) := by
  unfold dk
  rw [List.any_map]
  congr 1
  funext x
  show decide (ck x.1 = ck c) = decide (x.1 = c)
  by_cases h : x.1 = c
  · rw [h, decide_eq_true rfl, decide_eq_true rfl]
  · rw [decide_eq_false h, decide_eq_false fun e => h (ck_inj e)]
theorem dk_put (m : RowD) (c : Cell) (w : Int) : putK (dk m) (ck c) (.int w) = dk (putC m c w) := by
  unfold putK putC
  rw [dk_any]
  by_cases h : (m.any fun x => decide (x.1 = c)) = true
  · rw [if_pos h, if_pos h]
    unfold dk
    rw [List.map_map, List.map_map]
    refine List.map_congr_left fun x _ => ?_
    show (if ck x.1 = ck c then (ck x.1, V.int w) else (ck x.1, V.int x.2)) = _
    by_cases g : x.1 = c
    · rw [if_pos (congrArg ck g)]
      show _ = (fun x : Cell × Int => (ck x.1, V.int x.2)) (if x.1 = c then (x.1, w) else x)
      rw [if_pos g]
    · rw [if_neg fun e => g (ck_inj e)]
      show _ = (fun x : Cell × Int => (ck x.1, V.int x.2)) (if x.1 = c then (x.1, w) else x)
      rw [if_neg g]
  · rw [if_neg h, if_neg h]
    unfold dk
    rw [List.map_append]
    rfl
theorem mem_any {m : RowD} {c : Cell} : (m.any fun x => decide (x.1 = c)) = true ↔ c ∈ keys m := by
  rw [List.any_eq_true]
  unfold keys
  constructor
  · rintro ⟨x, hx, e⟩
    exact List.mem_map.mpr ⟨x, hx, of_decide_eq_true e⟩
  · intro h
    obtain ⟨x, hx, e⟩ := List.mem_map.mp h
    exact ⟨x, hx, decide_eq_true e⟩
theorem keys_put (m : RowD) (c : Cell) (w : Int) : keys (putC m c w) = if c ∈ keys m then keys m else keys m ++ [c] := by
  unfold putC
  by_cases h : (m.any fun x => decide (x.1 = c)) = true
  · rw [if_pos h, if_pos (mem_any.mp h)]
    unfold keys
    rw [List.map_map]
    refine List.map_congr_left fun x _ => ?_
    show (if x.1 = c then (x.1, w) else x).1 = x.1
    by_cases g : x.1 = c
    · rw [if_pos g]
    · rw [if_neg g]
  · rw [if_neg h, if_neg fun z => h (mem_any.mpr z)]
    unfold keys
    rw [List.map_append]
    rfl
theorem nodup_put {m : RowD} (n : (keys m).Nodup) (c : Cell) (w : Int) : (keys (putC m c w)).Nodup := by
  rw [keys_put]
  by_cases h : c ∈ keys m
  · rw [if_pos h]
    exact n
  · rw [if_neg h]
    refine List.nodup_append.mpr ⟨n, List.nodup_cons.mpr ⟨by simp, List.nodup_nil⟩, fun a ha b hb e => ?_⟩
    rw [List.mem_singleton.mp hb] at e
    exact h (e ▸ ha)
theorem length_put (m : RowD) (c : Cell) (w : Int) : (putC m c w).length ≤ m.length + 1 := by
  unfold putC
  split
  · rw [List.length_map]
    omega
  · rw [List.length_append]
    exact Nat.le_refl _
theorem mem_put {m : RowD} {c : Cell} {w : Int} {x : Cell × Int} (h : x ∈ putC m c w) : x ∈ m ∨ x = (c, w) := by
  unfold putC at h
  split at h
  · obtain ⟨y, hy, e⟩ := List.mem_map.mp h
    by_cases g : y.1 = c
    · rw [if_pos g] at e
      rw [← e, g]
      exact Or.inr rfl
    · rw [if_neg g] at e
      rw [← e]
      exact Or.inl hy
  · rcases List.mem_append.mp h with h | h
    · exact Or.inl h
    · exact Or.inr (List.mem_singleton.mp h)
theorem put_new {m : RowD} {c : Cell} {w : Int} (h : c ∉ keys m) : putC m c w = m ++ [(c, w)] := by
  unfold putC
  rw [if_neg fun z => h (mem_any.mp z)]
theorem getO_none {m : RowD} {c : Cell} (h : c ∉ keys m) : getO m c = none := by
  induction m with
  | nil => rfl
  | cons x m ih =>
    rw [getO_cons, if_neg fun e => h (by rw [← e]; exact List.mem_cons_self)]
    exact ih fun z => h (List.mem_cons_of_mem _ z)
theorem get0_none {m : RowD} {c : Cell} (h : c ∉ keys m) : get0 m c = 0 := by
  unfold get0
  rw [getO_none h]
  rfl
theorem getO_some {m : RowD} {c : Cell} (h : c ∈ keys m) : ∃ w, getO m c = some w ∧ (c, w) ∈ m := by
  induction m with
  | nil => cases h
  | cons x m ih =>
    rw [getO_cons]
    by_cases e : x.1 = c
    · rw [if_pos e]
      exact ⟨x.2, rfl, by rw [← e]; exact List.mem_cons_self⟩
    · rw [if_neg e]
      rcases List.mem_cons.mp h with g | g
      · exact absurd g.symm e
      · obtain ⟨w, h1, h2⟩ := ih g
        exact ⟨w, h1, List.mem_cons_of_mem _ h2⟩
theorem getO_mem {m : RowD} (n : (keys m).Nodup) {x : Cell × Int} (h : x ∈ m) : getO m x.1 = some x.2 := by
  induction m with
  | nil => cases h
  | cons y m ih =>
    rw [getO_cons]
    have n' := List.nodup_cons.mp n
    rcases List.mem_cons.mp h with e | h
    · rw [e, if_pos rfl]
    · rw [if_neg, ih n'.2 h]
      intro e
      refine n'.1 ?_
      show y.1 ∈ keys m
      rw [e]
      exact List.mem_map_of_mem h
theorem get0_mem {m : RowD} (n : (keys m).Nodup) {x : Cell × Int} (h : x ∈ m) : get0 m x.1 = x.2 := by
  unfold get0
  rw [getO_mem n h]
  rfl

/-! ### the dicts that are made -/
def ofRow (r : RowD) : RowD := r.foldl (fun m x => putC m x.1 x.2) []
def addF (m : RowD) (r : RowD) (t : Int) : RowD := r.foldl (fun m x => putC m x.1 (get0 m x.1 + t * x.2)) m
theorem nodup_fold (f : RowD → Cell × Int → Int) : ∀ (r m : RowD), (keys m).Nodup → (keys (r.foldl (fun m x => putC m x.1 (f m x)) m)).Nodup
  | [], _, h => h
  | x :: r, m, h => nodup_fold f r _ (nodup_put h _ _)
theorem length_fold (f : RowD → Cell × Int → Int) : ∀ (r m : RowD), (r.foldl (fun m x => putC m x.1 (f m x)) m).length ≤ m.length + r.length
  | [], m => Nat.le_refl _
  | x :: r, m => by
    have h1 := length_fold f r (putC m x.1 (f m x))
    have h2 := length_put m x.1 (f m x)
    rw [List.length_cons]
    show (r.foldl (fun m x => putC m x.1 (f m x)) (putC m x.1 (f m x))).length ≤ _
    omega
theorem ofRow_nodup (r : RowD) : (keys (ofRow r)).Nodup := nodup_fold (fun _ x => x.2) r [] List.nodup_nil
theorem addF_nodup {m : RowD} (h : (keys m).Nodup) (r : RowD) (t : Int) : (keys (addF m r t)).Nodup := nodup_fold (fun m x => get0 m x.1 + t * x.2) r m h
theorem ofRow_length (r : RowD) : (ofRow r).length ≤ r.length := by
  have := length_fold (fun _ x => x.2) r []
  rw [List.length_nil, Nat.zero_add] at this
  exact this
theorem addF_length (m r : RowD) (t : Int) : (addF m r t).length ≤ m.length + r.length := length_fold (fun m x => get0 m x.1 + t * x.2) r m
theorem fold_app : ∀ (r m : RowD), (keys (m ++ r)).Nodup → r.foldl (fun m x => putC m x.1 x.2) m = m ++ r
  | [], m, _ => (List.append_nil m).symm
  | x :: r, m, h => by
    have e : m ++ x :: r = (m ++ [x]) ++ r := by simp
    have hx : x.1 ∉ keys m := by
      unfold keys at h ⊢
      rw [List.map_append, List.map_cons] at h
      intro hm
      exact (List.nodup_append.mp h).2.2 _ hm _ List.mem_cons_self rfl
    show r.foldl _ (putC m x.1 x.2) = _
    rw [put_new hx, e]
    rw [e] at h
    exact fold_app r _ h
theorem ofRow_self {r : RowD} (h : (keys r).Nodup) : ofRow r = r := fold_app r [] h
theorem addF_app (t : Int) : ∀ (r m : RowD), (keys (m ++ r)).Nodup → addF m r t = m ++ r.map fun x => (x.1, t * x.2)
  | [], m, _ => (List.append_nil m).symm
  | x :: r, m, h => by
    have hx : x.1 ∉ keys m := by
      unfold keys at h ⊢
      rw [List.map_append, List.map_cons] at h
      intro hm
      exact (List.nodup_append.mp h).2.2 _ hm _ List.mem_cons_self rfl
    show addF (putC m x.1 (get0 m x.1 + t * x.2)) r t = _
    rw [put_new hx, get0_none hx, Int.zero_add]
    have e : (m ++ [(x.1, t * x.2)]) ++ r.map (fun x => (x.1, t * x.2)) = m ++ (x :: r).map fun x => (x.1, t * x.2) := by simp
    rw [← e]
    refine addF_app t r _ ?_
    unfold keys at h ⊢
    rw [show (m ++ [(x.1, t * x.2)] ++ r).map (·.1) = (m ++ x :: r).map (·.1) by simp]
    exact h

/-! ### sorted cells -/
def insC (c : Cell) : List Cell → List Cell
  | [] => [c]
  | d :: l => if ltC c d = true then c :: d :: l else d :: insC c l
def sortC (l : List Cell) : List Cell := l.foldr insC []
theorem insC_perm (c : Cell) : ∀ l, (insC c l).Perm (c :: l)
  | [] => List.Perm.refl _
  | d :: l => by
    unfold insC
    split
    · exact List.Perm.refl _
    · exact ((insC_perm c l).cons d).trans (List.Perm.swap c d l)
theorem sortC_perm : ∀ l, (sortC l).Perm l
  | [] => List.Perm.refl _
  | c :: l => (insC_perm c (sortC l)).trans ((sortC_perm l).cons c)
abbrev Rising (l : List Cell) : Prop := l.Pairwise fun a b => ltC a b = true
theorem insC_rising {c : Cell} : ∀ {l : List Cell}, Rising l → c ∉ l → Rising (insC c l)
  | [], _, _ => List.pairwise_singleton _ _
  | d :: l, h, n => by
    have hd := List.pairwise_cons.mp h
    unfold insC
    split
    · rename_i hc
      refine List.pairwise_cons.mpr ⟨fun a ha => ?_, h⟩
      rcases List.mem_cons.mp ha with e | ha
      · rw [e]
        exact hc
      · exact ltC_trans hc (hd.1 a ha)
    · rename_i hc
      have hdc : ltC d c = true := by
        rcases ltC_tri d c with g | g | g
        · exact g
        · exact absurd (g ▸ List.mem_cons_self) n
        · exact absurd g hc
      refine List.pairwise_cons.mpr ⟨fun a ha => ?_, insC_rising hd.2 fun z => n (List.mem_cons_of_mem _ z)⟩
      rcases List.mem_cons.mp ((insC_perm c l).mem_iff.mp ha) with e | ha
      · rw [e]
        exact hdc
      · exact hd.1 a ha
theorem sortC_rising : ∀ {l : List Cell}, l.Nodup → Rising (sortC l)
  | [], _ => List.Pairwise.nil
  | c :: l, n => insC_rising (sortC_rising (List.nodup_cons.mp n).2) fun z => (List.nodup_cons.mp n).1 ((sortC_perm l).mem_iff.mp z)
theorem rising_uniq : ∀ {a b : List Cell}, a.Perm b → Rising a → Rising b → a = b
  | [], b, p, _, _ => by
    cases b with
    | nil => rfl
    | cons y b => exact absurd (p.mem_iff.mpr List.mem_cons_self) (by simp)
  | x :: a, [], p, _, _ => absurd (p.mem_iff.mp List.mem_cons_self) (by simp)
  | x :: a, y :: b, p, ha, hb => by
    have hx := List.pairwise_cons.mp ha
    have hy := List.pairwise_cons.mp hb
    have e : x = y := by
      rcases List.mem_cons.mp (p.mem_iff.mp List.mem_cons_self) with e | h1
      · exact e
      · rcases List.mem_cons.mp (p.mem_iff.mpr List.mem_cons_self) with e | h2
        · exact e.symm
        · have := ltC_trans (hx.1 _ h2) (hy.1 _ h1)
          rw [ltC_irr] at this
          cases this
    subst e
    rw [rising_uniq (List.Perm.cons_inv p) hx.2 hy.2]
theorem rising_nodup {l : List Cell} (h : Rising l) : l.Nodup := h.imp fun h e => by
  rw [e, ltC_irr] at h
  cases h
theorem sortC_self {l : List Cell} (h : Rising l) : sortC l = l := rising_uniq (sortC_perm l) (sortC_rising (rising_nodup h)) h

/-! ### tidy rows -/
def pick (m : RowD) (ys : List Cell) : RowD := (ys.map fun c => (c, get0 m c)).filter fun x => decide (x.2 ≠ 0)
def tidy (m : RowD) : RowD := pick m (sortC (keys m))
structure OkRow (r : RowD) : Prop where
  up : Rising (keys r)
  nz : ∀ x ∈ r, x.2 ≠ 0
theorem keys_pick (m : RowD) (ys : List Cell) : (keys (pick m ys)).Sublist ys := by
  unfold pick keys
  have h := (List.filter_sublist (l := ys.map fun c => (c, get0 m c)) (p := fun x => decide (x.2 ≠ 0))).map (·.1)
  rw [List.map_map] at h
  have e : ys.map ((fun x : Cell × Int => x.1) ∘ fun c => (c, get0 m c)) = ys := by
    rw [show ((fun x : Cell × Int => x.1) ∘ fun c => (c, get0 m c)) = id from rfl]
    exact List.map_id _
  rw [e] at h
  exact h
theorem ok_tidy {m : RowD} (n : (keys m).Nodup) : OkRow (tidy m) :=
  ⟨(sortC_rising n).sublist (keys_pick m _), fun x hx => of_decide_eq_true (List.mem_filter.mp hx).2⟩
theorem tidy_length (m : RowD) : (tidy m).length ≤ m.length := by
  have h := (keys_pick m (sortC (keys m))).length_le
  rw [(sortC_perm (keys m)).length_eq] at h
  unfold keys at h
  rw [List.length_map, List.length_map] at h
  exact h
theorem tidy_mem {m : RowD} (n : (keys m).Nodup) {x : Cell × Int} (h : x ∈ tidy m) : x ∈ m := by
  have h := (List.mem_filter.mp h).1
  obtain ⟨c, hc, e⟩ := List.mem_map.mp h
  obtain ⟨w, h1, h2⟩ := getO_some ((sortC_perm (keys m)).mem_iff.mp hc)
  rw [← e]
  have : get0 m c = w := by
    unfold get0
    rw [h1]
    rfl
  rw [this]
  exact h2
def addR (a b : RowD) (t : Int) : RowD := tidy (addF (ofRow a) b t)
def scaleR (r : RowD) (t : Int) : RowD := if t = 0 then [] else r.map fun x => (x.1, x.2 * t)
theorem tidy_self {r : RowD} (h : Rising (keys r)) : tidy r = r.filter fun x => decide (x.2 ≠ 0) := by
  unfold tidy pick
  rw [sortC_self h]
  have n := rising_nodup h
  have e : (keys r).map (fun c => (c, get0 r c)) = r := by
    unfold keys
    rw [List.map_map]
    have : ∀ x ∈ r, ((fun c => (c, get0 r c)) ∘ fun x : Cell × Int => x.1) x = id x := by
      intro x hx
      show (x.1, get0 r x.1) = x
      rw [get0_mem n hx]
    rw [List.map_congr_left this]
    exact List.map_id _
  rw [e]
theorem addR_nil {r : RowD} (h : OkRow r) (t : Int) : addR [] r t = scaleR r t := by
  unfold addR
  have e0 : ofRow [] = [] := rfl
  rw [e0, addF_app t r [] (rising_nodup h.up), List.nil_append]
  have hk : keys (r.map fun x => (x.1, t * x.2)) = keys r := by
    unfold keys
    rw [List.map_map]
    rfl
  rw [tidy_self (by rw [hk]; exact h.up)]
  unfold scaleR
  by_cases ht : t = 0
  · rw [if_pos ht]
    refine List.filter_eq_nil_iff.mpr fun x hx => ?_
    obtain ⟨y, _, e⟩ := List.mem_map.mp hx
    rw [← e, ht]
    simp
  · rw [if_neg ht, List.filter_eq_self.mpr fun x hx => ?_]
    · refine List.map_congr_left fun x _ => ?_
      rw [Int.mul_comm]
    · obtain ⟨y, hy, e⟩ := List.mem_map.mp hx
      rw [← e]
      exact decide_eq_true (Int.mul_ne_zero ht (h.nz y hy))

/-! ### effects -/
def effR (a b : RowD) : Int := (a.map fun x => x.2 * get0 (ofRow b) x.1).sum
theorem sum_at (c : Cell) (v : Int) : ∀ {b : RowD}, (keys b).Nodup → (b.map fun y => y.2 * (if c = y.1 then v else 0)).sum = v * get0 b c
  | [], _ => by simp [get0_nil]
  | y :: b, n => by
    have n' := List.nodup_cons.mp n
    rw [List.map_cons, List.sum_cons, sum_at c v n'.2, get0_cons]
    by_cases e : c = y.1
    · rw [if_pos e, if_pos e.symm, get0_none (by rw [e]; exact n'.1)]
      rw [Int.mul_comm]
      omega
    · rw [if_neg e, if_neg fun z => e z.symm]
      omega
theorem sum_split (f g h : Cell × Int → Int) : ∀ b : RowD, (∀ y ∈ b, f y = g y + h y) → (b.map f).sum = (b.map g).sum + (b.map h).sum
  | [], _ => rfl
  | y :: b, e => by
    rw [List.map_cons, List.map_cons, List.map_cons, List.sum_cons, List.sum_cons, List.sum_cons,
      sum_split f g h b fun z hz => e z (List.mem_cons_of_mem _ hz), e y List.mem_cons_self]
    omega
theorem sum_sym : ∀ {a b : RowD}, (keys a).Nodup → (keys b).Nodup →
    (a.map fun x => x.2 * get0 b x.1).sum = (b.map fun y => y.2 * get0 a y.1).sum
  | [], b, _, _ => by
    have : ∀ b : RowD, (b.map fun y : Cell × Int => y.2 * get0 [] y.1).sum = 0 := by
      intro b
      induction b with
      | nil => rfl
      | cons y b ih =>
        rw [List.map_cons, List.sum_cons, ih, get0_nil]
        omega
    rw [this]
    rfl
  | x :: a, b, na, nb => by
    have n' := List.nodup_cons.mp na
    rw [List.map_cons, List.sum_cons, sum_sym n'.2 nb]
    rw [sum_split (fun y => y.2 * get0 (x :: a) y.1) (fun y => y.2 * (if x.1 = y.1 then x.2 else 0)) (fun y => y.2 * get0 a y.1) b]
    · rw [sum_at x.1 x.2 nb]
    · intro y _
      show y.2 * get0 (x :: a) y.1 = y.2 * (if x.1 = y.1 then x.2 else 0) + y.2 * get0 a y.1
      rw [get0_cons]
      by_cases e : x.1 = y.1
      · rw [if_pos e, if_pos e, get0_none (by rw [← e]; exact n'.1)]
        omega
      · rw [if_neg e, if_neg e]
        omega
theorem effR_sym {a b : RowD} (ha : OkRow a) (hb : OkRow b) : effR a b = effR b a := by
  unfold effR
  rw [ofRow_self (rising_nodup ha.up), ofRow_self (rising_nodup hb.up)]
  exact sum_sym (rising_nodup ha.up) (rising_nodup hb.up)

/-! ### what a sum holds -/
theorem getO_map {m : RowD} {c d : Cell} {w : Int} : getO (m.map fun x => if x.1 = c then (x.1, w) else x) d = if d = c then (getO m d).map (fun _ => w) else getO m d := by
  induction m with
  | nil => by_cases h : d = c <;> simp [getO, h]
  | cons x m ih =>
    rw [List.map_cons, getO_cons, getO_cons, ih]
    by_cases h1 : x.1 = c
    · rw [if_pos h1]
      by_cases h2 : d = c
      · simp [h1, h2]
      · have h3 : ¬ c = d := fun e => h2 e.symm
        simp [h1, h2, h3]
    · rw [if_neg h1]
      by_cases h2 : d = c
      · have h3 : ¬ x.1 = d := fun e => h1 (e.trans h2)
        simp [h1, h2]
      · simp [h2]
theorem getO_app {m : RowD} {x : Cell × Int} {d : Cell} : getO (m ++ [x]) d = (getO m d).or (if x.1 = d then some x.2 else none) := by
  induction m with
  | nil =>
    rw [List.nil_append, getO_cons]
    rfl
  | cons y m ih =>
    rw [List.cons_append, getO_cons, getO_cons, ih]
    by_cases h : y.1 = d <;> simp [h]
theorem get0_put (m : RowD) (c d : Cell) (w : Int) : get0 (putC m c w) d = if d = c then w else get0 m d := by
  unfold putC get0
  by_cases h : (m.any fun x => decide (x.1 = c)) = true
  · rw [if_pos h, getO_map]
    by_cases e : d = c
    · rw [if_pos e, if_pos e]
      obtain ⟨v, hv, _⟩ := getO_some (mem_any.mp h)
      rw [e, hv]
      rfl
    · rw [if_neg e, if_neg e]
  · rw [if_neg h, getO_app]
    by_cases e : d = c
    · rw [if_pos e, if_pos e.symm, e, getO_none fun z => h (mem_any.mpr z)]
      rfl
    · rw [if_neg e, if_neg fun z => e z.symm]
      cases getO m d <;> rfl
theorem addF_get (t : Int) (d : Cell) : ∀ (r m : RowD), (keys r).Nodup → get0 (addF m r t) d = get0 m d + t * get0 r d
  | [], m, _ => by
    rw [get0_nil, Int.mul_zero, Int.add_zero]
    rfl
  | x :: r, m, n => by
    have n' := List.nodup_cons.mp n
    show get0 (addF (putC m x.1 (get0 m x.1 + t * x.2)) r t) d = _
    rw [addF_get t d r _ n'.2, get0_put, get0_cons]
    by_cases e : d = x.1
    · rw [if_pos e, if_pos e.symm, e, get0_none n'.1, Int.mul_zero, Int.add_zero]
    · rw [if_neg e, if_neg fun z => e z.symm]
theorem addF_keys (t : Int) (d : Cell) : ∀ (r m : RowD), d ∈ keys (addF m r t) → d ∈ keys m ∨ d ∈ keys r
  | [], m, h => Or.inl h
  | x :: r, m, h => by
    rcases addF_keys t d r _ h with h | h
    · rw [keys_put] at h
      by_cases e : x.1 ∈ keys m
      · rw [if_pos e] at h
        exact Or.inl h
      · rw [if_neg e] at h
        rcases List.mem_append.mp h with h | h
        · exact Or.inl h
        · rw [List.mem_singleton.mp h]
          exact Or.inr List.mem_cons_self
    · exact Or.inr (List.mem_cons_of_mem _ h)
theorem sub_length : ∀ {l m : List Cell}, l.Nodup → (∀ x ∈ l, x ∈ m) → l.length ≤ m.length
  | [], _, _, _ => Nat.zero_le _
  | x :: l, m, n, h => by
    have n' := List.nodup_cons.mp n
    have hx := h x List.mem_cons_self
    have := sub_length (l := l) (m := m.erase x) n'.2 fun y hy => (List.mem_erase_of_ne (a := y) (b := x) fun e => n'.1 (by rw [← e]; exact hy)).mpr (h y (List.mem_cons_of_mem _ hy))
    rw [List.length_erase_of_mem hx] at this
    have : 0 < m.length := List.length_pos_of_mem hx
    rw [List.length_cons]
    omega
/-- rows on some cells, with bounded weights -/
structure DrawnR (cs : List Cell) (B : Int) (r : RowD) : Prop where
  ok : OkRow r
  on : ∀ c ∈ keys r, c ∈ cs
  lit : ∀ c, -B ≤ get0 r c ∧ get0 r c ≤ B
theorem DrawnR.mono {cs : List Cell} {B C : Int} {r : RowD} (h : DrawnR cs B r) (e : B ≤ C) : DrawnR cs C r := ⟨h.ok, h.on, fun c => by have := h.lit c; omega⟩
theorem DrawnR.many {cs : List Cell} {B : Int} {r : RowD} (h : DrawnR cs B r) : r.length ≤ cs.length := by
  have := sub_length (rising_nodup h.ok.up) h.on
  unfold keys at this
  rw [List.length_map] at this
  exact this
theorem DrawnR.at' {cs : List Cell} {B : Int} {r : RowD} (h : DrawnR cs B r) {x : Cell × Int} (hx : x ∈ r) : -B ≤ x.2 ∧ x.2 ≤ B := by
  have := h.lit x.1
  rw [get0_mem (rising_nodup h.ok.up) hx] at this
  exact this
theorem get0_tidy {m : RowD} (n : (keys m).Nodup) (c : Cell) : get0 (tidy m) c = get0 m c := by
  by_cases h : c ∈ keys (tidy m)
  · obtain ⟨w, h1, h2⟩ := getO_some h
    have e1 : get0 (tidy m) c = w := by
      unfold get0
      rw [h1]
      rfl
    have e2 := get0_mem n (tidy_mem n h2)
    rw [e1]
    exact e2.symm
  · rw [get0_none h]
    by_cases hm : c ∈ keys m
    · by_cases h0 : get0 m c = 0
      · exact h0.symm
      · exfalso
        refine h ?_
        have : (c, get0 m c) ∈ tidy m := List.mem_filter.mpr ⟨List.mem_map.mpr ⟨c, (sortC_perm (keys m)).mem_iff.mpr hm, rfl⟩, decide_eq_true h0⟩
        exact List.mem_map_of_mem (f := fun x : Cell × Int => x.1) this
    · exact (get0_none hm).symm
theorem get0_ofRow {a : RowD} (h : OkRow a) (c : Cell) : get0 (ofRow a) c = get0 a c := by rw [ofRow_self (rising_nodup h.up)]
theorem get0_addR {a b : RowD} (ha : OkRow a) (hb : OkRow b) (t : Int) (c : Cell) : get0 (addR a b t) c = get0 a c + t * get0 b c := by
  unfold addR
  rw [get0_tidy (addF_nodup (ofRow_nodup a) b t), addF_get t c b _ (rising_nodup hb.up), get0_ofRow ha]
theorem DrawnR.sum {cs : List Cell} {B C : Int} {a b : RowD} (ha : DrawnR cs B a) (hb : DrawnR cs C b) : DrawnR cs (B + C) (addR a b 1) := by
  have n := addF_nodup (ofRow_nodup a) b 1
  refine ⟨ok_tidy n, fun c hc => ?_, fun c => ?_⟩
  · have h1 : c ∈ keys (addF (ofRow a) b 1) := by
      obtain ⟨x, hx, e⟩ := List.mem_map.mp hc
      rw [← e]
      exact List.mem_map_of_mem (tidy_mem n hx)
    rcases addF_keys 1 c b _ h1 with h | h
    · rw [ofRow_self (rising_nodup ha.ok.up)] at h
      exact ha.on c h
    · exact hb.on c h
  · rw [get0_addR ha.ok hb.ok, Int.one_mul]
    have h1 := ha.lit c
    have h2 := hb.lit c
    omega
theorem ok_nil : OkRow [] := ⟨List.Pairwise.nil, fun x hx => absurd hx (by simp)⟩
theorem drawn_nil {cs : List Cell} {B : Int} (h : 0 ≤ B) : DrawnR cs B [] := ⟨ok_nil, fun c hc => absurd hc (by simp [keys]), fun c => by rw [get0_nil]; omega⟩
theorem drawn_tidy {m : RowD} {cs : List Cell} {B : Int} (hm : keys m = cs) (n : cs.Nodup) (h0 : 0 ≤ B) (hB : ∀ x ∈ m, -B ≤ x.2 ∧ x.2 ≤ B) : DrawnR cs B (tidy m) := by
  have nm : (keys m).Nodup := by
    rw [hm]
    exact n
  refine ⟨ok_tidy nm, fun c hc => ?_, fun c => ?_⟩
  · rw [← hm]
    obtain ⟨x, hx, e⟩ := List.mem_map.mp hc
    rw [← e]
    exact List.mem_map_of_mem (tidy_mem nm hx)
  · rw [get0_tidy nm]
    by_cases h : c ∈ keys m
    · obtain ⟨w, h1, h2⟩ := getO_some h
      have : get0 m c = w := by
        unfold get0
        rw [h1]
        rfl
      rw [this]
      exact hB _ h2
    · rw [get0_none h]
      omega
end AskG
/-! Rows in the heap. -/
namespace AskG
open PySem PySem.Spec PyProof.Rows L2

def PairRow (H : Hp) (p : Addr) (x : Cell × Int) : Prop := ∃ b, H p = some (.tup [.ref b, .int x.2]) ∧ CellAt H b x.1
def RowAt (H : Hp) (r : Addr) (ρ : RowD) : Prop := ∃ ps : List Addr, H r = some (.tup (ps.map V.ref)) ∧ Paired (PairRow H) ps ρ
/-- the tuples stay -/
def KeepT (H H' : Hp) : Prop := ∀ b xs, H b = some (.tup xs) → H' b = some (.tup xs)
theorem KeepT.of {H H' : Hp} (h : Same H H') : KeepT H H' := fun b xs e => h b _ e
theorem KeepT.trans {H H1 H2 : Hp} (h : KeepT H H1) (g : KeepT H1 H2) : KeepT H H2 := fun b xs e => g b xs (h b xs e)
theorem KeepT.refl (H : Hp) : KeepT H H := fun _ _ e => e
theorem KeepT.new {H : Hp} {p : Addr} {o : HO} (h : H p = none) : KeepT H (upd H p o) := fun b xs e => by
  rw [upd_ne (ne_of_none e h)]
  exact e
theorem KeepT.put {H : Hp} {p : Addr} {o u : HO} (h : H p = some u) (n : ∀ xs, u ≠ .tup xs) : KeepT H (upd H p o) := fun b xs e => by
  rw [upd_ne (ne_of e h fun z => n xs z.symm)]
  exact e
theorem CellAt.keep {H H' : Hp} {b : Addr} {c : Cell} (h : CellAt H b c) (k : KeepT H H') : CellAt H' b c := k _ _ h
theorem PairRow.keep {H H' : Hp} {p : Addr} {x : Cell × Int} (h : PairRow H p x) (k : KeepT H H') : PairRow H' p x := by
  obtain ⟨b, h1, h2⟩ := h
  exact ⟨b, k _ _ h1, h2.keep k⟩
theorem RowAt.keep {H H' : Hp} {r : Addr} {ρ : RowD} (h : RowAt H r ρ) (k : KeepT H H') : RowAt H' r ρ := by
  obtain ⟨ps, h1, h2⟩ := h
  exact ⟨ps, k _ _ h1, Paired.mapP h2 fun _ _ z => z.keep k⟩
theorem same_new {H : Hp} {p : Addr} {o : HO} (h : H p = none) : Same H (upd H p o) := fun b x e => by
  rw [upd_ne (ne_of_none e h)]
  exact e
theorem paired_at {α β : Type} {R : α → β → Prop} : ∀ {l : List α} {m : List β}, Paired R l m → ∀ {i : Nat} {y : β}, m[i]? = some y → ∃ x, l[i]? = some x ∧ R x y
  | _, _, .nil, i, y, e => by simp at e
  | _, _, .cons (a := a) h t, 0, y, e => ⟨a, rfl, by rw [← Option.some.inj e]; exact h⟩
  | _, _, .cons h t, i + 1, y, e => by
    obtain ⟨x, h1, h2⟩ := paired_at t (i := i) (by simpa using e)
    exact ⟨x, by simpa using h1, h2⟩
theorem paired_at' {α β : Type} {R : α → β → Prop} : ∀ {l : List α} {m : List β}, Paired R l m → ∀ {i : Nat} {x : α}, l[i]? = some x → ∃ y, m[i]? = some y ∧ R x y
  | _, _, .nil, i, y, e => by simp at e
  | _, _, .cons (b := b) h t, 0, y, e => ⟨b, rfl, by rw [← Option.some.inj e]; exact h⟩
  | _, _, .cons h t, i + 1, y, e => by
    obtain ⟨x, h1, h2⟩ := paired_at' t (i := i) (by simpa using e)
    exact ⟨x, by simpa using h1, h2⟩
theorem sqT {K : PySem.W.Frag} {H : Hp} {a : Addr} {xs : List V} (h : H a = some (.tup xs)) : SqT K H a xs := .inl (.inl h)
theorem sqL {K : PySem.W.Frag} {H : Hp} {a : Addr} {xs : List V} (h : H a = some (.lst xs)) : SqL K H a xs := .inl (.inl h)

/-! ### comprehensions of dicts over a tuple -/
theorem dcT_tup {K : PySem.W.Frag} {a : Addr} {xs : List V} {g : TG} {tk tv : TE} {vs : List Nat} {σ : L2.St} {H1 : Hp} {D : Addr} {Qd : Hp → Prop}
    (Pv : Nat → Hp → Prop) (h0 : Pv 0 (upd H1 D (.dT []))) (hl : ∀ i H, i ≤ xs.length → Pv i H → SqT K H a xs)
    (hs : ∀ i x H, xs[i]? = some x → Pv i H → g x (wipe σ vs) H fun σ2 H2 => wipe σ2 vs = wipe σ vs ∧ tk σ2 H2 fun y H4 => tv σ2 H4 fun z H5 =>
      ∃ b kvs k, y = .ref b ∧ H5 b = some (.tup (k.map kV)) ∧ H5 D = some (.dT kvs) ∧ kvs.length < sizeLine ∧ Pv (i + 1) (upd H5 D (.dT (putK kvs k z))))
    (hd : ∀ H, Pv xs.length H → Qd H) :
    ∃ W : Nat → Nat → Hp → Prop, (∃ m, W 0 m (upd H1 D (.dT []))) ∧ ∀ i m H, W i m H →
      ((Itt K a).stop i H ∧ Qd H) ∨ ((Itt K a).go i H ∧ ∃ Nx : Hp → Prop, (∀ H', Nx H' → ∃ m', m' < m ∧ W (i + 1) m' H') ∧
        ∀ x H', (Itt K a).yld i H x H' → g x (wipe σ vs) H' fun σ2 H2 => wipe σ2 vs = wipe σ vs ∧ tk σ2 H2 fun y H4 => tv σ2 H4 fun z H5 =>
          ∃ b kvs k, y = .ref b ∧ H5 b = some (.tup (k.map kV)) ∧ H5 D = some (.dT kvs) ∧ kvs.length < sizeLine ∧ Nx (upd H5 D (.dT (putK kvs k z)))) := by
  refine ⟨fun i m H => m = xs.length - i ∧ i ≤ xs.length ∧ Pv i H, ⟨xs.length, by simp, Nat.zero_le _, h0⟩, ?_⟩
  rintro i m H ⟨rfl, hi, p⟩
  have q := hl i H hi p
  by_cases hlt : i < xs.length
  · refine .inr ⟨⟨xs, xs[i], q, by simp [hlt]⟩, Pv (i + 1), fun H' p' => ⟨xs.length - (i + 1), by omega, rfl, hlt, p'⟩, ?_⟩
    rintro x H' ⟨e, y⟩
    subst e
    exact hs i x _ (y xs q) p
  · obtain rfl : i = xs.length := by omega
    exact .inl ⟨⟨xs, q, Nat.le_refl _⟩, hd H p⟩

theorem set2 {σ : L2.St} {a b : Nat} {v w : V} (ha : a < σ.length) (hb : b < σ.length) (hab : a ≠ b) :
    ((σ.set a (some v)).set b (some w))[a]? = some (some v) ∧ ((σ.set a (some v)).set b (some w))[b]? = some (some w) := by
  constructor
  · rw [List.getElem?_set_ne (fun e => hab e.symm), List.getElem?_set_self ha]
  · rw [List.getElem?_set_self (by rw [List.length_set]; exact hb)]
theorem set_over {σ : L2.St} (i : Nat) (x : Option V) : (σ.set i x).set i none = σ.set i none := List.set_set ..
theorem wipe2 {σ : L2.St} {a b : Nat} {v w : V} (hab : a ≠ b) : wipe (((wipe σ [a, b]).set a (some v)).set b (some w)) [a, b] = wipe σ [a, b] := by
  show ((((((σ.set b none).set a none)).set a (some v)).set b (some w)).set b none).set a none = (σ.set b none).set a none
  rw [List.set_set, List.set_set, List.set_comm _ _ hab, List.set_set, List.set_set]
theorem sizeBig : 100000 < sizeLine := by decide

/-- {cell: weight for cell, weight in row} -/
theorem dc_row {K : PySem.W.Frag} {i a b : Nat} {σ : L2.St} {H : Hp} {Q : VK} {r : Addr} {ρ : RowD} (hi : σ[i]? = some (some (.ref r))) (R : RowAt H r ρ)
    (ha : a < σ.length) (hb : b < σ.length) (hab : a ≠ b) (hz : ρ.length ≤ 1000)
    (q : ∀ D, H D = none → Q (.ref D) (upd H D (.dT (dk (ofRow ρ))))) :
    tDcT (iTup K (tVar i)) (gTup K 2 (gCons (gName a) (gCons (gName b) gNil))) (tVar a) (tVar b) [a, b] σ H Q := by
  obtain ⟨ps, hr, hp⟩ := R
  refine ⟨.ref r, hi, r, rfl, ⟨_, sqT hr⟩, fun D hD => ?_⟩
  refine dcT_tup (xs := ps.map V.ref) (fun i H' => H' = upd H D (.dT (dk (ofRow (ρ.take i))))) rfl (fun i H' _ e => ?_) (fun i x H' hx e => ?_) (fun H' e => ?_)
  · rw [e]
    refine sqT ?_
    rw [upd_ne (ne_of_none hr hD)]
    exact hr
  · subst e
    rw [List.getElem?_map] at hx
    cases hpi : ps[i]? with
    | none =>
      rw [hpi] at hx
      cases hx
    | some p =>
      rw [hpi] at hx
      have ex : V.ref p = x := Option.some.inj hx
      subst ex
      obtain ⟨y, hy, bb, h1, h2⟩ := paired_at' hp hpi
      have kp : KeepT H (upd H D (.dT (dk (ofRow (ρ.take i))))) := KeepT.new hD
      refine ⟨p, [.ref bb, .int y.2], rfl, sqT (kp _ _ h1), rfl, .ref bb, [.int y.2], rfl, .int y.2, [], rfl, rfl, ?_⟩
      refine ⟨wipe2 hab, .ref bb, (set2 (by rw [wipe_length]; exact ha) (by rw [wipe_length]; exact hb) hab).1, .int y.2, (set2 (by rw [wipe_length]; exact ha) (by rw [wipe_length]; exact hb) hab).2, bb, dk (ofRow (ρ.take i)), ck y.1, rfl, kp _ _ h2, upd_same, ?_, ?_⟩
      · rw [dk_length]
        have h1 := ofRow_length (ρ.take i)
        have h2 := List.length_take_le i ρ
        have := sizeBig
        have h3 : (ρ.take i).length ≤ ρ.length := by
          rw [List.length_take]
          omega
        omega
      · rw [upd_upd, dk_put, List.take_add_one, hy]
        show _ = upd H D (.dT (dk ((ρ.take i ++ [y]).foldl _ [])))
        rw [List.foldl_append]
        rfl
  · have : (ps.map V.ref).length = ρ.length := by rw [List.length_map, Paired.length hp]
    rw [e, this, List.take_length]
    exact q D hD

theorem ck_kV (c : Cell) : (ck c).map kV = [V.str c.1, V.int c.2] := rfl
theorem wipe1 {σ : L2.St} {a : Nat} {v : V} : wipe ((wipe σ [a]).set a (some v)) [a] = wipe σ [a] := by
  show (((σ.set a none).set a (some v)).set a none) = σ.set a none
  rw [List.set_set, List.set_set]
theorem wipe_at {σ : L2.St} {a i : Nat} (h : i ≠ a) : (wipe σ [a])[i]? = σ[i]? := by
  show (σ.set a none)[i]? = σ[i]?
  exact List.getElem?_set_ne (fun e => h e.symm)
theorem dget_of {H : Hp} {D b : Addr} {m : RowD} {c : Cell} (hD : H D = some (.dT (dk m))) (hb : CellAt H b c) : DGet H D (.ref b) ((getO m c).map V.int) := by
  have := DGet.t (k := ck c) hD (by rw [ck_kV]; exact hb)
  rw [dk_val] at this
  exact this
/-- [(cell, weights[cell]) for cell in sorted(weights) if weights[cell] != 0] -/
theorem lc_tidy {K : PySem.W.Frag} {iw ic : Nat} {σ : L2.St} {H : Hp} {Q : VK} {D : Addr} {m : RowD} (hw : σ[iw]? = some (some (.ref D))) (hne : iw ≠ ic) (hic : ic < σ.length)
    (hD : H D = some (.dT (dk m))) (n : (keys m).Nodup) (hz : m.length ≤ 1000)
    (q : ∀ H' L ps, Same H H' → H L = none → H' L = some (.lst (ps.map V.ref)) → Paired (PairRow H') ps (tidy m) → Q (.ref L) H') :
    tLc (iList K (tCB rSortT (tCons (tVar iw) tNil))) (gName ic) (tTest (tOp rNe (tDGet (tVar iw) (tVar ic)) (tC (V.int 0))))
      (tTup (tCons (tVar ic) (tCons (tDGet (tVar iw) (tVar ic)) tNil))) [ic] σ H Q := by
  refine ⟨.ref D, hw, D, dk m, keys m, rfl, .inl hD, dk_keys m, fun ys bs p hp hup hbs hpn => ?_⟩
  have ey : ys = sortC (keys m) := rising_uniq (hp.trans (sortC_perm (keys m)).symm) hup (sortC_rising n)
  have s1 : Same H (upd H p (.lst (bs.map V.ref))) := same_new hpn
  refine ⟨p, rfl, ⟨_, sqL upd_same⟩, fun L hL => ?_⟩
  have hLH : H L = none := s1.free hL
  refine lc_list (xs := bs.map V.ref) (fun i H' => Same (upd H p (.lst (bs.map V.ref))) H' ∧ ∃ ps, H' L = some (.lst (ps.map V.ref)) ∧ Paired (PairRow H') ps (pick m (ys.take i)) ∧ ps.length ≤ i)
    ⟨same_new hL, [], upd_same, .nil, Nat.le_refl _⟩ (fun i H' _ h => sqL (h.1 _ _ upd_same)) (fun i x H' hx h => ?_) (fun H' h => ?_)
  · obtain ⟨sm, ps, hps, hpp, hpl⟩ := h
    have smH : Same H H' := s1.trans sm
    rw [List.getElem?_map] at hx
    cases hbi : bs[i]? with
    | none =>
      rw [hbi] at hx
      cases hx
    | some b =>
      rw [hbi] at hx
      have ex : V.ref b = x := Option.some.inj hx
      subst ex
      obtain ⟨c, hc, hcb⟩ := paired_at' hbs hbi
      have hcm : c ∈ keys m := hp.mem_iff.mp (List.mem_of_getElem? hc)
      obtain ⟨w, hw1, hw2⟩ := getO_some hcm
      have hcb' : CellAt H' b c := hcb.keep (KeepT.of smH)
      have dg : DGet H' D (.ref b) (some (.int w)) := by
        have := dget_of (smH _ _ hD) hcb'
        rw [hw1] at this
        exact this
      have g0 : get0 m c = w := by
        unfold get0
        rw [hw1]
        rfl
      have bl : i < bs.length := (List.getElem?_eq_some_iff.mp hbi).1
      have ysl : bs.length = ys.length := Paired.length hbs
      have yml : ys.length = m.length := by
        rw [hp.length_eq]
        exact List.length_map _
      have big := sizeBig
      have aw : ((wipe σ [ic]).set ic (some (.ref b)))[iw]? = some (some (.ref D)) := by
        rw [List.getElem?_set_ne (fun e => hne e.symm), wipe_at hne]
        exact hw
      have ac : ((wipe σ [ic]).set ic (some (.ref b)))[ic]? = some (some (.ref b)) := List.getElem?_set_self (by rw [wipe_length]; exact hic)
      have pk : pick m (ys.take (i + 1)) = pick m (ys.take i) ++ (if w ≠ 0 then [(c, w)] else []) := by
        rw [List.take_add_one, hc]
        unfold pick
        rw [List.map_append, List.filter_append]
        congr 1
        show List.filter _ [(c, get0 m c)] = _
        rw [g0]
        by_cases h0 : w = 0
        · simp [h0]
        · simp [h0]
      refine ⟨wipe1, .ref D, aw, .ref b, ac, D, .int w, rfl, dg, rfl, _, rfl, ?_⟩
      by_cases h0 : w = 0
      · rw [h0]
        refine iteF ?_
        refine ⟨sm, ps, hps, ?_, by omega⟩
        rw [pk, if_neg (by simp [h0]), List.append_nil]
        exact hpp
      · have e0 : (!decide (V.int w = V.int 0)) = true := by
          rw [decide_eq_false fun z => h0 (V.int.inj z)]
          rfl
        rw [e0]
        refine iteT ?_
        refine ⟨.ref b, ac, .ref D, aw, .ref b, ac, D, .int w, rfl, dg, by show 2 ≤ sizeLine; decide, fun t ht => ?_⟩
        have nLt : L ≠ t := ne_of_none hps ht
        refine ⟨ps.map V.ref, by rw [upd_ne nLt]; exact hps, by rw [List.length_map]; omega, ?_, ps ++ [t], ?_, ?_, ?_⟩
        · intro b' o' e'
          have nb : b' ≠ L := ne_of_none e' hL
          rw [upd_ne nb, upd_ne (ne_of_none (sm _ _ e') ht)]
          exact sm _ _ e'
        · rw [upd_same, List.map_append]
          rfl
        · have kp : KeepT H' (upd (upd H' t (.tup [.ref b, .int w])) L (.lst (ps.map V.ref ++ [.ref t]))) :=
            (KeepT.new ht).trans (KeepT.put (u := .lst (ps.map V.ref)) (by rw [upd_ne nLt]; exact hps) (fun _ z => nomatch z))
          rw [pk, if_pos h0]
          refine Paired.snoc (Paired.mapP hpp fun _ _ z => z.keep kp) ⟨b, ?_, hcb'.keep kp⟩
          rw [upd_ne nLt.symm, upd_same]
        · rw [List.length_append]
          show ps.length + 1 ≤ i + 1
          omega
  · obtain ⟨sm, ps, hps, hpp, _⟩ := h
    have e : ys.take (bs.map V.ref).length = ys := List.take_of_length_le (by rw [List.length_map, Paired.length hbs]; exact Nat.le_refl _)
    rw [e, ey] at hpp
    exact q H' L ps (s1.trans sm) hLH hps hpp

/-- the row of a made list of pairs -/
theorem row_of_list {H : Hp} {L p : Addr} {ps : List Addr} {ρ : RowD} (hp : H p = none) (h : Paired (PairRow H) ps ρ) : RowAt (upd H p (.tup (ps.map V.ref))) p ρ :=
  ⟨ps, upd_same, Paired.mapP h fun _ _ z => z.keep (KeepT.new hp)⟩

/-- for cell, weight in row: weights[cell] = weights.get(cell, 0) + t * weight -/
theorem for_add {K : PySem.W.Frag} {io iw a b : Nat} {σ : L2.St} {H : Hp} {Dn : Ends} {Dd r : Addr} {π m : RowD} {t : Int} {tv : TE}
    (hio : σ[io]? = some (some (.ref r))) (hiw : σ[iw]? = some (some (.ref Dd))) (wa : iw ≠ a) (wb : iw ≠ b) (ha : a < σ.length) (hb : b < σ.length) (hab : a ≠ b)
    (R : RowAt H r π) (hD : H Dd = some (.dT (dk m))) (hz : m.length + π.length ≤ 1000)
    (htv : ∀ (σ' : L2.St) (H' : Hp) (c : Cell) (w : Int) (m' : RowD) (bb : Addr) (Q : VK), (c, w) ∈ π → (∀ j, j ≠ a → j ≠ b → σ'[j]? = σ[j]?) → σ'[a]? = some (some (.ref bb)) → σ'[b]? = some (some (.int w)) →
      H' Dd = some (.dT (dk m')) → CellAt H' bb c → Q (.int (get0 m' c + t * w)) H' → tv σ' H' Q)
    (q : ∀ σ', (∀ j, j ≠ a → j ≠ b → σ'[j]? = σ[j]?) → σ'.length = σ.length → Dn.nx σ' (upd H Dd (.dT (dk (addF m π t))))) :
    tFor (iTup K (tVar io)) (gTup K 2 (gCons (gName a) (gCons (gName b) gNil))) (sDPut (tVar iw) (tVar a) tv) Dn σ H := by
  obtain ⟨ps, hr, hp⟩ := R
  refine ⟨.ref r, hio, r, rfl, ⟨_, sqT hr⟩, ?_⟩
  refine for_tup (xs := ps.map V.ref) (fun i σ' H' => (∀ j, j ≠ a → j ≠ b → σ'[j]? = σ[j]?) ∧ σ'.length = σ.length ∧ H' = upd H Dd (.dT (dk (addF m (π.take i) t))))
    ⟨fun _ _ _ => rfl, rfl, ?_⟩ (fun i σ' H' _ h => ?_) (fun i x σ' H' hx h => ?_) (fun σ' H' h => ?_)
  · funext c
    show H c = upd H Dd (.dT (dk m)) c
    by_cases e : c = Dd
    · rw [e, upd_same, hD]
    · rw [upd_ne e]
  · rw [h.2.2]
    refine sqT ?_
    rw [upd_ne (ne_of hr hD fun z => nomatch z)]
    exact hr
  · obtain ⟨hj, hl, rfl⟩ := h
    rw [List.getElem?_map] at hx
    cases hpi : ps[i]? with
    | none =>
      rw [hpi] at hx
      cases hx
    | some p =>
      rw [hpi] at hx
      have ex : V.ref p = x := Option.some.inj hx
      subst ex
      obtain ⟨y, hy, bb, h1, h2⟩ := paired_at' hp hpi
      have kp : KeepT H (upd H Dd (.dT (dk (addF m (π.take i) t)))) := KeepT.put hD fun _ z => nomatch z
      have s2 := set2 (v := .ref bb) (w := .int y.2) (by rw [hl]; exact ha) (by rw [hl]; exact hb) hab
      have hj' : ∀ j, j ≠ a → j ≠ b → ((σ'.set a (some (.ref bb))).set b (some (.int y.2)))[j]? = σ[j]? := fun j h1 h2 => by
        rw [List.getElem?_set_ne (fun e => h2 e.symm), List.getElem?_set_ne (fun e => h1 e.symm)]
        exact hj j h1 h2
      refine ⟨p, [.ref bb, .int y.2], rfl, sqT (kp _ _ h1), rfl, .ref bb, [.int y.2], rfl, .int y.2, [], rfl, rfl, ?_⟩
      refine htv _ _ y.1 y.2 (addF m (π.take i) t) bb _ (List.mem_of_getElem? hy) hj' s2.1 s2.2 upd_same (kp _ _ h2) ?_
      have pl : (π.take i).length ≤ π.length := by
        rw [List.length_take]
        omega
      have al := addF_length m (π.take i) t
      have big := sizeBig
      refine ⟨.ref Dd, by rw [hj' iw wa wb]; exact hiw, .ref bb, s2.1, Dd, _, rfl, DPut.t (k := ck y.1) upd_same (by rw [ck_kV]; exact kp _ _ h2) (by rw [dk_length]; omega), ?_⟩
      refine ⟨hj', by rw [List.length_set, List.length_set]; exact hl, ?_⟩
      rw [upd_upd, dk_put, List.take_add_one, hy]
      show _ = upd H Dd (.dT (dk ((π.take i ++ [y]).foldl _ m)))
      rw [List.foldl_append]
      rfl
  · obtain ⟨hj, hl, rfl⟩ := h
    have e : π.take (ps.map V.ref).length = π := List.take_of_length_le (by rw [List.length_map, Paired.length hp]; exact Nat.le_refl _)
    rw [e]
    exact q σ' hj hl

/-! ### readings, opened one at a time -/
theorem iSeq {t u : TS} {D : Ends} {σ : L2.St} {H : Hp} (h : t { D with nx := u D } σ H) : tSeq t u D σ H := h
theorem iAsg {te : TE} {g : TG} {D : Ends} {σ : L2.St} {H : Hp} (h : te σ H fun x H1 => g x σ H1 D.nx) : tAsg te g D σ H := h
theorem iRet {te : TE} {D : Ends} {σ : L2.St} {H : Hp} (h : te σ H D.rt) : tRet te D σ H := h
theorem iCB {r : List V → Hp → VK → Prop} {t : TA} {σ : L2.St} {H : Hp} {Q : VK} (h : t σ H fun vs H1 => r vs H1 Q) : tCB r t σ H Q := h
theorem iCons {ta : TE} {tr : TA} {σ : L2.St} {H : Hp} {Q : List V → Hp → Prop} (h : ta σ H fun x H1 => tr σ H1 fun xs H2 => Q (x :: xs) H2) : tCons ta tr σ H Q := h
theorem iOp {r : R2} {ta tb : TE} {σ : L2.St} {H : Hp} {Q : VK} (h : ta σ H fun x H1 => tb σ H1 fun y H2 => r x y H2 Q) : tOp r ta tb σ H Q := h
theorem iTest {t : TE} {σ : L2.St} {H : Hp} {Q : Bool → Hp → Prop} (h : t σ H fun x H' => ∃ k, x = .bl k ∧ Q k H') : tTest t σ H Q := h
theorem iNext {D : Ends} {σ : L2.St} {H : Hp} (h : D.nx σ H) : tNext D σ H := h
theorem iName {i : Nat} {v : V} {σ : L2.St} {H : Hp} {Q : L2.St → Hp → Prop} (h : Q (σ.set i (some v)) H) : gName i v σ H Q := h
/-- a value by what holds of it -/
theorem split_k {t : TE} {σ : L2.St} {H : Hp} {Q : VK} (R : V → Hp → Prop) (h1 : ∀ Q' : VK, (∀ v H', R v H' → Q' v H') → t σ H Q') (h2 : ∀ v H', R v H' → Q v H') : t σ H Q := h1 Q h2
/-- a block by what holds behind it -/
theorem split_s {t : TS} {D : Ends} {σ : L2.St} {H : Hp} (R : L2.St → Hp → Prop) (h1 : ∀ nx : L2.St → Hp → Prop, (∀ σ' H', R σ' H' → nx σ' H') → t { D with nx := nx } σ H) (h2 : ∀ σ' H', R σ' H' → D.nx σ' H') : t D σ H := h1 D.nx h2
theorem iNil {σ : L2.St} {H : Hp} {Q : List V → Hp → Prop} (h : Q [] H) : tNil σ H Q := h
end AskG
/-! Comprehensions over rows. -/
namespace AskG
open PySem PySem.Spec PyProof.Rows L2
abbrev g2 (K : PySem.W.Frag) (a b : Nat) : TG := gTup K 2 (gCons (gName a) (gCons (gName b) gNil))
/-- the slots at a turn: the two targets, all else as it was -/
structure Turn2 (σ σ' : L2.St) (a b : Nat) (v w : V) : Prop where
  fst : σ'[a]? = some (some v)
  snd : σ'[b]? = some (some w)
  old : ∀ j, j ≠ a → j ≠ b → σ'[j]? = σ[j]?
theorem turn2 {σ : L2.St} {a b : Nat} {v w : V} (ha : a < σ.length) (hb : b < σ.length) (hab : a ≠ b) :
    Turn2 σ (((wipe σ [a, b]).set a (some v)).set b (some w)) a b v w := by
  have s2 := set2 (σ := wipe σ [a, b]) (v := v) (w := w) (by rw [wipe_length]; exact ha) (by rw [wipe_length]; exact hb) hab
  refine ⟨s2.1, s2.2, fun j h1 h2 => ?_⟩
  rw [List.getElem?_set_ne (fun e => h2 e.symm), List.getElem?_set_ne (fun e => h1 e.symm)]
  show ((σ.set b none).set a none)[j]? = _
  rw [List.getElem?_set_ne (fun e => h1 e.symm), List.getElem?_set_ne (fun e => h2 e.symm)]

/-- [(cell, g weight) for cell, weight in row if ..] -/
theorem lc_rows {K : PySem.W.Frag} {i a b : Nat} {σ : L2.St} {H : Hp} {Q : VK} {r : Addr} {ρ : RowD} {tt : TT} {tw : TE} (keep : Cell × Int → Bool) (g : Cell × Int → Int)
    (hi : σ[i]? = some (some (.ref r))) (R : RowAt H r ρ) (ha : a < σ.length) (hb : b < σ.length) (hab : a ≠ b) (hz : ρ.length ≤ 1000)
    (htt : ∀ σ' H' bb x (Q : Bool → Hp → Prop), x ∈ ρ → Same H H' → Turn2 σ σ' a b (.ref bb) (.int x.2) → CellAt H' bb x.1 → (∀ H'', Same H' H'' → Q (keep x) H'') → tt σ' H' Q)
    (htw : ∀ σ' H' bb x (Q : VK), x ∈ ρ → Same H H' → Turn2 σ σ' a b (.ref bb) (.int x.2) → CellAt H' bb x.1 → Q (.int (g x)) H' → tw σ' H' Q)
    (q : ∀ H' L ps, Same H H' → H L = none → H' L = some (.lst (ps.map V.ref)) → Paired (PairRow H') ps ((ρ.filter keep).map fun x => (x.1, g x)) → Q (.ref L) H') :
    tLc (iTup K (tVar i)) (g2 K a b) tt (tTup (tCons (tVar a) (tCons tw tNil))) [a, b] σ H Q := by
  obtain ⟨qs, hr, hp⟩ := R
  refine ⟨.ref r, hi, r, rfl, ⟨_, sqT hr⟩, fun L hL => ?_⟩
  refine lc_tup (xs := qs.map V.ref) (fun i H' => Same H H' ∧ ∃ ps, H' L = some (.lst (ps.map V.ref)) ∧ Paired (PairRow H') ps (((ρ.take i).filter keep).map fun x => (x.1, g x)) ∧ ps.length ≤ i)
    ⟨same_new hL, [], upd_same, .nil, Nat.le_refl _⟩ (fun i H' _ h => sqT (h.1 _ _ hr)) (fun i x H' hx h => ?_) (fun H' h => ?_)
  · obtain ⟨sm, ps, hps, hpp, hpl⟩ := h
    rw [List.getElem?_map] at hx
    cases hqi : qs[i]? with
    | none =>
      rw [hqi] at hx
      cases hx
    | some p =>
      rw [hqi] at hx
      have ex : V.ref p = x := Option.some.inj hx
      subst ex
      obtain ⟨y, hy, bb, h1, h2⟩ := paired_at' hp hqi
      have hym := List.mem_of_getElem? hy
      have kp := KeepT.of sm
      have il : i < qs.length := (List.getElem?_eq_some_iff.mp hqi).1
      have ql : qs.length = ρ.length := Paired.length hp
      have big := sizeBig
      have T := turn2 (v := .ref bb) (w := .int y.2) ha hb hab
      refine ⟨p, [.ref bb, .int y.2], rfl, sqT (kp _ _ h1), rfl, .ref bb, [.int y.2], rfl, .int y.2, [], rfl, rfl, ?_⟩
      refine ⟨wipe2 hab, htt _ _ bb y _ hym sm T (h2.keep kp) fun H2 sm2 => ?_⟩
      have kp2 := KeepT.of sm2
      have pk : ((ρ.take (i + 1)).filter keep).map (fun x => (x.1, g x)) = ((ρ.take i).filter keep).map (fun x => (x.1, g x)) ++ (if keep y = true then [(y.1, g y)] else []) := by
        rw [List.take_add_one, hy, List.filter_append, List.map_append]
        congr 1
        show List.map _ (List.filter keep [y]) = _
        cases hk : keep y with
        | true => simp [hk]
        | false => simp [hk]
      cases hk : keep y with
      | false =>
        refine iteF ⟨sm.trans sm2, ps, sm2 _ _ hps, ?_, by omega⟩
        rw [pk, hk, if_neg (by decide), List.append_nil]
        exact Paired.mapP hpp fun _ _ z => z.keep kp2
      | true =>
        refine iteT ⟨.ref bb, T.fst, htw _ _ bb y _ hym (sm.trans sm2) T ((h2.keep kp).keep kp2) ⟨by show 2 ≤ sizeLine; decide, fun t ht => ?_⟩⟩
        have hps2 := sm2 _ _ hps
        have nLt : L ≠ t := ne_of_none hps2 ht
        refine ⟨ps.map V.ref, by rw [upd_ne nLt]; exact hps2, by rw [List.length_map]; omega, ?_, ps ++ [t], ?_, ?_, ?_⟩
        · intro b' o' e'
          have e2 := sm2 _ _ (sm _ _ e')
          rw [upd_ne (ne_of_none e' hL), upd_ne (ne_of_none e2 ht)]
          exact e2
        · rw [upd_same, List.map_append]
          rfl
        · have kp3 : KeepT H2 (upd (upd H2 t (.tup [.ref bb, .int (g y)])) L (.lst (ps.map V.ref ++ [.ref t]))) :=
            (KeepT.new ht).trans (KeepT.put (u := .lst (ps.map V.ref)) (by rw [upd_ne nLt]; exact hps2) (fun _ z => nomatch z))
          rw [pk, hk, if_pos rfl]
          refine Paired.snoc (Paired.mapP hpp fun _ _ z => (z.keep kp2).keep kp3) ⟨bb, ?_, ((h2.keep kp).keep kp2).keep kp3⟩
          rw [upd_ne nLt.symm, upd_same]
        · rw [List.length_append]
          show ps.length + 1 ≤ i + 1
          omega
  · obtain ⟨sm, ps, hps, hpp, _⟩ := h
    have e : ρ.take (qs.map V.ref).length = ρ := List.take_of_length_le (by rw [List.length_map, Paired.length hp]; exact Nat.le_refl _)
    rw [e] at hpp
    exact q H' L ps sm hL hps hpp

theorem iYes {σ : L2.St} {H : Hp} {Q : Bool → Hp → Prop} (h : Q true H) : tYes σ H Q := h
/-- [g of cell, weight for cell, weight in row] -/
theorem lc_ints {K : PySem.W.Frag} {i a b : Nat} {σ : L2.St} {H : Hp} {Q : VK} {r : Addr} {ρ : RowD} {tw : TE} (g : Cell × Int → Int)
    (hi : σ[i]? = some (some (.ref r))) (R : RowAt H r ρ) (ha : a < σ.length) (hb : b < σ.length) (hab : a ≠ b) (hz : ρ.length ≤ 1000)
    (htw : ∀ σ' H' bb x (Q : VK), x ∈ ρ → Same H H' → Turn2 σ σ' a b (.ref bb) (.int x.2) → CellAt H' bb x.1 → Q (.int (g x)) H' → tw σ' H' Q)
    (q : ∀ H' L, Same H H' → H L = none → H' L = some (.lst ((ρ.map g).map V.int)) → Q (.ref L) H') :
    tLc (iTup K (tVar i)) (g2 K a b) tYes tw [a, b] σ H Q := by
  obtain ⟨qs, hr, hp⟩ := R
  refine ⟨.ref r, hi, r, rfl, ⟨_, sqT hr⟩, fun L hL => ?_⟩
  refine lc_tup (xs := qs.map V.ref) (fun i H' => Same H H' ∧ H' L = some (.lst (((ρ.take i).map g).map V.int)))
    ⟨same_new hL, upd_same⟩ (fun i H' _ h => sqT (h.1 _ _ hr)) (fun i x H' hx h => ?_) (fun H' h => ?_)
  · obtain ⟨sm, hps⟩ := h
    rw [List.getElem?_map] at hx
    cases hqi : qs[i]? with
    | none =>
      rw [hqi] at hx
      cases hx
    | some p =>
      rw [hqi] at hx
      have ex : V.ref p = x := Option.some.inj hx
      subst ex
      obtain ⟨y, hy, bb, h1, h2⟩ := paired_at' hp hqi
      have kp := KeepT.of sm
      have big := sizeBig
      have T := turn2 (v := .ref bb) (w := .int y.2) ha hb hab
      refine ⟨p, [.ref bb, .int y.2], rfl, sqT (kp _ _ h1), rfl, .ref bb, [.int y.2], rfl, .int y.2, [], rfl, rfl, ?_⟩
      refine ⟨wipe2 hab, iYes (iteT (htw _ _ bb y _ (List.mem_of_getElem? hy) sm T (h2.keep kp) ⟨_, hps, ?_, ?_, ?_⟩))⟩
      · rw [List.length_map, List.length_map, List.length_take]
        omega
      · intro b' o' e'
        rw [upd_ne (ne_of_none e' hL)]
        exact sm _ _ e'
      · rw [upd_same, List.take_add_one, hy]
        show _ = some (HO.lst (((ρ.take i ++ [y]).map g).map V.int))
        rw [List.map_append, List.map_append]
        rfl
  · obtain ⟨sm, hps⟩ := h
    have e : ρ.take (qs.map V.ref).length = ρ := List.take_of_length_le (by rw [List.length_map, Paired.length hp]; exact Nat.le_refl _)
    rw [e] at hps
    exact q H' L sm hL hps

theorem set1_at {σ : L2.St} {a : Nat} {v : V} (ha : a < σ.length) : ((wipe σ [a]).set a (some v))[a]? = some (some v) := List.getElem?_set_self (by rw [wipe_length]; exact ha)
theorem set1_old {σ : L2.St} {a j : Nat} {v : V} (h : j ≠ a) : ((wipe σ [a]).set a (some v))[j]? = σ[j]? := by
  rw [List.getElem?_set_ne (fun e => h e.symm), wipe_at h]
/-- one turn of [pair for pair in pairs if ..] -/
theorem pairs_turn {a : Nat} {σ : L2.St} {H H' : Hp} {L : Addr} {qs : List Addr} {ρ : RowD} {tt : TT} (keep : Cell × Int → Bool)
    (ha : a < σ.length) (hp : Paired (PairRow H) qs ρ) (hz : ρ.length ≤ 1000) (hL : H L = none)
    (htt : ∀ σ' H' p x (Q : Bool → Hp → Prop), x ∈ ρ → Same H H' → σ'[a]? = some (some (.ref p)) → (∀ j, j ≠ a → σ'[j]? = σ[j]?) → PairRow H' p x → (∀ H'', Same H' H'' → Q (keep x) H'') → tt σ' H' Q)
    {i : Nat} {x : V} (hx : (qs.map V.ref)[i]? = some x) (h : Same H H' ∧ ∃ ps, H' L = some (.lst (ps.map V.ref)) ∧ Paired (PairRow H') ps ((ρ.take i).filter keep) ∧ ps.length ≤ i) :
    gName a x (wipe σ [a]) H' fun σ2 H2 => wipe σ2 [a] = wipe σ [a] ∧ tt σ2 H2 fun b H3 => if b = true then tVar a σ2 H3 fun y H4 => ∃ acc, H4 L = some (.lst acc) ∧ acc.length < sizeLine ∧
      (Same H (upd H4 L (.lst (acc ++ [y]))) ∧ ∃ ps, (upd H4 L (.lst (acc ++ [y]))) L = some (.lst (ps.map V.ref)) ∧ Paired (PairRow (upd H4 L (.lst (acc ++ [y])))) ps ((ρ.take (i + 1)).filter keep) ∧ ps.length ≤ i + 1)
      else (Same H H3 ∧ ∃ ps, H3 L = some (.lst (ps.map V.ref)) ∧ Paired (PairRow H3) ps ((ρ.take (i + 1)).filter keep) ∧ ps.length ≤ i + 1) := by
  obtain ⟨sm, ps, hps, hpp, hpl⟩ := h
  rw [List.getElem?_map] at hx
  cases hqi : qs[i]? with
  | none =>
    rw [hqi] at hx
    cases hx
  | some p =>
    rw [hqi] at hx
    have ex : V.ref p = x := Option.some.inj hx
    subst ex
    obtain ⟨y, hy, hpy⟩ := paired_at' hp hqi
    have kp := KeepT.of sm
    have il : i < qs.length := (List.getElem?_eq_some_iff.mp hqi).1
    have ql : qs.length = ρ.length := Paired.length hp
    have big := sizeBig
    refine ⟨wipe1, htt _ _ p y _ (List.mem_of_getElem? hy) sm (set1_at ha) (fun j hj => set1_old hj) (hpy.keep kp) fun H2 sm2 => ?_⟩
    have kp2 := KeepT.of sm2
    have pk : (ρ.take (i + 1)).filter keep = (ρ.take i).filter keep ++ (if keep y = true then [y] else []) := by
      rw [List.take_add_one, hy, List.filter_append]
      congr 1
      show List.filter keep [y] = _
      cases hk : keep y with
      | true => simp [hk]
      | false => simp [hk]
    cases hk : keep y with
    | false =>
      refine iteF ⟨sm.trans sm2, ps, sm2 _ _ hps, ?_, by omega⟩
      rw [pk, hk, if_neg (by decide), List.append_nil]
      exact Paired.mapP hpp fun _ _ z => z.keep kp2
    | true =>
      have hps2 := sm2 _ _ hps
      refine iteT ⟨.ref p, set1_at ha, ps.map V.ref, hps2, by rw [List.length_map]; omega, ?_, ps ++ [p], ?_, ?_, ?_⟩
      · intro b' o' e'
        rw [upd_ne (ne_of_none e' hL)]
        exact sm2 _ _ (sm _ _ e')
      · rw [upd_same, List.map_append]
        rfl
      · have kp3 : KeepT H2 (upd H2 L (.lst (ps.map V.ref ++ [.ref p]))) := KeepT.put (u := .lst (ps.map V.ref)) hps2 (fun _ z => nomatch z)
        rw [pk, hk, if_pos rfl]
        exact Paired.snoc (Paired.mapP hpp fun _ _ z => (z.keep kp2).keep kp3) (((hpy.keep kp).keep kp2).keep kp3)
      · rw [List.length_append]
        show ps.length + 1 ≤ i + 1
        omega
/-- [pair for pair in row if ..] -/
theorem lc_pairsT {K : PySem.W.Frag} {i a : Nat} {σ : L2.St} {H : Hp} {Q : VK} {r : Addr} {qs : List Addr} {ρ : RowD} {tt : TT} (keep : Cell × Int → Bool)
    (hi : σ[i]? = some (some (.ref r))) (hr : H r = some (.tup (qs.map V.ref))) (hp : Paired (PairRow H) qs ρ) (ha : a < σ.length) (hz : ρ.length ≤ 1000)
    (htt : ∀ σ' H' p x (Q : Bool → Hp → Prop), x ∈ ρ → Same H H' → σ'[a]? = some (some (.ref p)) → (∀ j, j ≠ a → σ'[j]? = σ[j]?) → PairRow H' p x → (∀ H'', Same H' H'' → Q (keep x) H'') → tt σ' H' Q)
    (q : ∀ H' L ps, Same H H' → H L = none → H' L = some (.lst (ps.map V.ref)) → Paired (PairRow H') ps (ρ.filter keep) → Q (.ref L) H') :
    tLc (iTup K (tVar i)) (gName a) tt (tVar a) [a] σ H Q := by
  refine ⟨.ref r, hi, r, rfl, ⟨_, sqT hr⟩, fun L hL => ?_⟩
  refine lc_tup (xs := qs.map V.ref) (fun i H' => Same H H' ∧ ∃ ps, H' L = some (.lst (ps.map V.ref)) ∧ Paired (PairRow H') ps ((ρ.take i).filter keep) ∧ ps.length ≤ i)
    ⟨same_new hL, [], upd_same, .nil, Nat.le_refl _⟩ (fun i H' _ h => sqT (h.1 _ _ hr)) (fun i x H' hx h => pairs_turn keep ha hp hz hL htt hx h) (fun H' h => ?_)
  obtain ⟨sm, ps, hps, hpp, _⟩ := h
  have e : ρ.take (qs.map V.ref).length = ρ := List.take_of_length_le (by rw [List.length_map, Paired.length hp]; exact Nat.le_refl _)
  rw [e] at hpp
  exact q H' L ps sm hL hps hpp
theorem lc_pairsL {K : PySem.W.Frag} {i a : Nat} {σ : L2.St} {H : Hp} {Q : VK} {r : Addr} {qs : List Addr} {ρ : RowD} {tt : TT} (keep : Cell × Int → Bool)
    (hi : σ[i]? = some (some (.ref r))) (hr : H r = some (.lst (qs.map V.ref))) (hp : Paired (PairRow H) qs ρ) (ha : a < σ.length) (hz : ρ.length ≤ 1000)
    (htt : ∀ σ' H' p x (Q : Bool → Hp → Prop), x ∈ ρ → Same H H' → σ'[a]? = some (some (.ref p)) → (∀ j, j ≠ a → σ'[j]? = σ[j]?) → PairRow H' p x → (∀ H'', Same H' H'' → Q (keep x) H'') → tt σ' H' Q)
    (q : ∀ H' L ps, Same H H' → H L = none → H' L = some (.lst (ps.map V.ref)) → Paired (PairRow H') ps (ρ.filter keep) → Q (.ref L) H') :
    tLc (iList K (tVar i)) (gName a) tt (tVar a) [a] σ H Q := by
  refine ⟨.ref r, hi, r, rfl, ⟨_, sqL hr⟩, fun L hL => ?_⟩
  refine lc_list (xs := qs.map V.ref) (fun i H' => Same H H' ∧ ∃ ps, H' L = some (.lst (ps.map V.ref)) ∧ Paired (PairRow H') ps ((ρ.take i).filter keep) ∧ ps.length ≤ i)
    ⟨same_new hL, [], upd_same, .nil, Nat.le_refl _⟩ (fun i H' _ h => sqL (h.1 _ _ hr)) (fun i x H' hx h => pairs_turn keep ha hp hz hL htt hx h) (fun H' h => ?_)
  obtain ⟨sm, ps, hps, hpp, _⟩ := h
  have e : ρ.take (qs.map V.ref).length = ρ := List.take_of_length_le (by rw [List.length_map, Paired.length hp]; exact Nat.le_refl _)
  rw [e] at hpp
  exact q H' L ps sm hL hps hpp
end AskG
/-! Calls with keywords. -/
namespace AskG
open PySem PySem.Spec PyProof.Rows L2
section
variable {P : Program} {w : World} {K : PySem.W.Frag} {mg : Str → Option Value} {base : Heap}
theorem okGD {x qual : Str} {params : Arguments} {body : List Stmt} {scope : Scope} {dvs : List V} {kws : List (Str × V)} {f : Addr} {fd : FuncData} {N ps : List Str} {k : Nat} {pr : Pr}
    (F : FunD K x qual params body scope dvs kws f fd) (S : FnScope N ps scope) (many : ∀ vs H Q, pr vs H Q → vs.length = ps.length)
    (body_ok : ∀ (cdv : Value) (A : Around) (outer : List Env) (s : Shared) (H : Hp) (vs : List V) (Q : VK),
      RG k (A.deeper (envOfC qual scope s.heap.objs.size f cdv)) → pr vs H Q →
      ∃ t, PSs (cxOf CX0 P w K mg base N qual scope f cdv A outer s H E0).nox body t ∧
        t { nx := fun _ H' => Q .non H', rt := Q } (start N vs) H) : FnG P w K mg base (k + 1) f fd ps pr := by
  obtain ⟨oc, od, dV, kV, doc, pm, an, cdv, ct, osl, rfl, lk, hcd, _, _⟩ := F.ex
  exact fnG_of lk hcd S many fun A outer s H vs Q hr hp => body_ok cdv A outer s H vs Q hr hp
end
def tCallNG (n m : Nat) (pr : Pr) (gV : List V → List V → List V) (t tk : TA) : TE := fun σ H Q =>
  t σ H fun vs H1 => tk σ H1 fun zs H2 => vs.length = n ∧ zs.length = m ∧ pr (gV vs zs) H2 Q
section
variable {X : Cx} {k n : Nat} {f : Addr} {fd : FuncData} {ps ks : List Str} {pr : Pr} {x : Str} {p pos : Pos} {e : Expr} {es : List Expr} {kws : List Keyword}
  {t tk : TA} {g : List Value → List Value → List Value} {gV : List V → List V → List V}
theorem goN {pins : List (Addr × Obj)} {σ : L2.St} {H : Hp} {s : Shared} {Q : VK} {us ws : List Value} {vs zs : List V}
    (F : FnG X.prog X.w X.K X.mg X.base k f fd ps pr) (hr : RG k X.A) (hb : KBn X.K fd ps n ks g gV)
    (I : Inv X pins σ H s) (r : Vals vs us) (rz : Vals zs ws) (l1 : vs.length = n) (l2 : zs.length = ks.length) (h : pr (gV vs zs) H Q) :
    wpAny (model X.prog X.w) X.A (call (.ref f) us (ks.zip ws)) (EP X pins σ Q) X.xe s :=
  goG (args := ⟨us, ks.zip ws⟩) F hr I (hb.to s us ws I.kIn (r.length.symm.trans l1) (rz.length.symm.trans l2)) (hb.rel r rz) h
/-- f(e, .., k = v, ..) -/
theorem pe_gn (F : FnG X.prog X.w X.K X.mg X.base k f fd ps pr) (hr : RG k X.A) (hg : Gl X x)
    (hm : X.mg x = some (.ref f)) (hk : PySem.W.keepIn X.K (.ref f) = true) (hb : KBn X.K fd ps n ks g gV)
    (ha : PA X (e :: es) t) (hkw : PK X kws tk)
    (hall : (backToKw pos (keywordEach kws X.env)).all (·.1.isSome) = true := by rfl)
    (hks : (backToKw pos (keywordEach kws X.env)).filterMap (·.1) = ks := by rfl)
    (hdb : (x == ("__debug__" : Str)) = false := by decide)
    (he : starEach (e :: es) X.env = (false, eval e X.env) :: starEach es X.env := by rfl)
    (hpl : ((backTo pos (starEach (e :: es) X.env)).any (·.1) || (backToKw pos (keywordEach kws X.env)).any (·.1.isNone)) = false := by rfl) :
    PE X (.Call (.Name x p) (e :: es) kws pos) (tCallNG n ks.length pr gV t tk) := by
  constructor
  intro pins s σ H Q I h
  refine wpAny_Call_Name_kw (ld_glob I hg hm ?_ hdb)
  refine PySem.W.callWith_KW (h₀ := X.base) I.ok.mod.kin hk hall (thn (ha.run pos pins s σ H _ I h) ?_) hpl he
  rintro us s1 ⟨vs, H1, I1, r, q⟩
  refine thn (hkw.run pos pins s1 σ H1 _ I1 q) ?_
  rintro ws s2 ⟨zs, H2, I2, rz, l1, l2, q2⟩
  refine ⟨I2.kIn, ?_⟩
  rw [hks]
  exact goN F hr hb I2 r rz l1 l2 q2
/-- f(k = v, ..) -/
theorem pe_gn0 (F : FnG X.prog X.w X.K X.mg X.base k f fd ps pr) (hr : RG k X.A) (hg : Gl X x)
    (hm : X.mg x = some (.ref f)) (hk : PySem.W.keepIn X.K (.ref f) = true) (hb : KBn X.K fd ps 0 ks g gV)
    (hkw : PK X kws tk)
    (hall : (backToKw pos (keywordEach kws X.env)).all (·.1.isSome) = true := by rfl)
    (hks : (backToKw pos (keywordEach kws X.env)).filterMap (·.1) = ks := by rfl)
    (hdb : (x == ("__debug__" : Str)) = false := by decide)
    (hpl : ((backTo pos (starEach [] X.env)).any (·.1) || (backToKw pos (keywordEach kws X.env)).any (·.1.isNone)) = false := by rfl) :
    PE X (.Call (.Name x p) [] kws pos) (tCallNG 0 ks.length pr gV tNil tk) := by
  constructor
  intro pins s σ H Q I h
  refine wpAny_Call_Name_kw (ld_glob I hg hm ?_ hdb)
  refine PySem.W.callWith_KW0 (h₀ := X.base) I.ok.mod.kin hk hall ?_ hpl
  refine thn (hkw.run pos pins s σ H _ I h) ?_
  rintro ws s2 ⟨zs, H2, I2, rz, l1, l2, q2⟩
  refine ⟨I2.kIn, ?_⟩
  rw [hks]
  exact goN (us := []) F hr hb I2 .nil rz l1 l2 q2
end
end AskG
/-! Rows as data: what repr shows of them, == with []. -/
namespace AskG
open PySem PySem.Spec PyProof.Rows L2
/-- data that repr shows in at most n signs -/
structure Fine (k n : Nat) (d : PyData) : Prop where
  shw : d.showable = true
  nod : d.hasDict = false
  dep : d.depth ≤ k
  len : d.shown.length ≤ n
theorem Fine.mono {k n k' n' : Nat} {d : PyData} (h : Fine k n d) (hk : k ≤ k') (hn : n ≤ n') : Fine k' n' d :=
  ⟨h.shw, h.nod, Nat.le_trans h.dep hk, Nat.le_trans h.len hn⟩
theorem all_fine {k n : Nat} : ∀ {ds : List PyData}, (∀ d ∈ ds, Fine k n d) →
    PyData.showableAll ds = true ∧ PyData.hasDictAll ds = false ∧ PyData.depthAll ds ≤ k ∧ ((PyData.shownAll ds).map (·.length)).sum ≤ ds.length * n ∧ (PyData.shownAll ds).length = ds.length
  | [], _ => ⟨rfl, rfl, Nat.zero_le _, Nat.zero_le _, rfl⟩
  | d :: ds, h => by
    obtain ⟨h1, h2, h3, h4, h5⟩ := all_fine (ds := ds) fun e he => h e (List.mem_cons_of_mem _ he)
    have f := h d List.mem_cons_self
    refine ⟨?_, ?_, ?_, ?_, ?_⟩
    · show (d.showable && PyData.showableAll ds) = true
      rw [f.shw, h1]
      rfl
    · show (d.hasDict || PyData.hasDictAll ds) = false
      rw [f.nod, h2]
      rfl
    · show max d.depth (PyData.depthAll ds) ≤ k
      exact Nat.max_le.mpr ⟨f.dep, h3⟩
    · show ((d.shown :: PyData.shownAll ds).map (·.length)).sum ≤ _
      rw [List.map_cons, List.sum_cons, List.length_cons, Nat.succ_mul]
      have := f.len
      omega
    · show (d.shown :: PyData.shownAll ds).length = _
      rw [List.length_cons, List.length_cons, h5]
theorem Fine.tup {k n m : Nat} {ds : List PyData} (h : ∀ d ∈ ds, Fine k n d) (hm : ds.length ≤ m) : Fine (k + 1) (m * (n + 2) + 3) (.tuple ds) := by
  obtain ⟨h1, h2, h3, h4, h5⟩ := all_fine h
  refine ⟨h1, h2, Nat.succ_le_succ h3, ?_⟩
  have := tupleText_len_le (PyData.shownAll ds)
  show (tupleText (PyData.shownAll ds)).length ≤ _
  have e : ds.length * (n + 2) ≤ m * (n + 2) := Nat.mul_le_mul_right _ hm
  have e2 : ds.length * (n + 2) = ds.length * n + 2 * ds.length := by rw [Nat.mul_add, Nat.mul_comm ds.length 2]
  rw [h5] at this
  omega
theorem Fine.lst {k n m : Nat} {ds : List PyData} (h : ∀ d ∈ ds, Fine k n d) (hm : ds.length ≤ m) : Fine (k + 1) (m * (n + 2) + 3) (.list ds) := by
  obtain ⟨h1, h2, h3, h4, h5⟩ := all_fine h
  refine ⟨h1, h2, Nat.succ_le_succ h3, ?_⟩
  have := listText_len_le (PyData.shownAll ds)
  show (listText (PyData.shownAll ds)).length ≤ _
  have e : ds.length * (n + 2) ≤ m * (n + 2) := Nat.mul_le_mul_right _ hm
  have e2 : ds.length * (n + 2) = ds.length * n + 2 * ds.length := by rw [Nat.mul_add, Nat.mul_comm ds.length 2]
  rw [h5] at this
  omega
theorem fine_int {i : Int} (h : i.natAbs.log2 < 1920) : Fine 0 1921 (.int i) :=
  ⟨decide_eq_true h, rfl, Nat.le_refl _, int_text_len_1921 h⟩
theorem fine_str {x : Str} (h : x.length ≤ 8) (hx : ∀ c ∈ x.cps.toList, c < 16 ^ 8) : Fine 0 1921 (.str x) :=
  ⟨rfl, rfl, Nat.le_refl _, by
    have := StrLaws.reprText_len x hx
    show (reprText x).length ≤ _
    omega⟩

/-- sizes of what rows hold -/
structure CellOk (c : Cell) : Prop where
  short : c.1.length ≤ 8
  plain : ∀ n ∈ c.1.cps.toList, n < 16 ^ 8
  ok : PyData.strOk c.1 = true
  lit : c.2.natAbs.log2 < 1920
def cellD (c : Cell) : PyData := .tuple [.str c.1, .int c.2]
def pairD (x : Cell × Int) : PyData := .tuple [cellD x.1, .int x.2]
def rowPD (ρ : RowD) : PyData := .tuple (ρ.map pairD)
structure RowOk (ρ : RowD) : Prop where
  many : ρ.length ≤ 100
  cells : ∀ x ∈ ρ, CellOk x.1
  lit : ∀ x ∈ ρ, x.2.natAbs.log2 < 1920
theorem fine_cell {c : Cell} (h : CellOk c) : Fine 1 3849 (cellD c) := by
  refine Fine.tup (k := 0) (n := 1921) (m := 2) (fun d hd => ?_) (Nat.le_refl _)
  rcases List.mem_cons.mp hd with e | hd
  · rw [e]
    exact fine_str h.short h.plain
  · rw [List.mem_singleton.mp hd]
    exact fine_int h.lit
theorem fine_pair {x : Cell × Int} (h : CellOk x.1) (hw : x.2.natAbs.log2 < 1920) : Fine 2 7705 (pairD x) := by
  refine Fine.tup (k := 1) (n := 3849) (m := 2) (fun d hd => ?_) (Nat.le_refl _)
  rcases List.mem_cons.mp hd with e | hd
  · rw [e]
    exact fine_cell h
  · rw [List.mem_singleton.mp hd]
    exact (fine_int hw).mono (by decide) (by decide)
theorem fine_row {ρ : RowD} (h : RowOk ρ) : Fine 3 770703 (rowPD ρ) := by
  refine Fine.tup (k := 2) (n := 7705) (m := 100) (fun d hd => ?_) (by rw [List.length_map]; exact h.many)
  obtain ⟨x, hx, rfl⟩ := List.mem_map.mp hd
  exact fine_pair (h.cells x hx) (h.lit x hx)

section
variable {K : PySem.W.Frag} {H : Hp}
theorem dp_cell {b : Addr} {c : Cell} (h : CellAt H b c) : Dp K H (.ref b) (cellD c) := .tup (sqT h) (.cons (.str _) (.cons (.int _) .nil))
theorem dp_pair {p : Addr} {x : Cell × Int} (h : PairRow H p x) : Dp K H (.ref p) (pairD x) := by
  obtain ⟨b, h1, h2⟩ := h
  exact .tup (sqT h1) (.cons (dp_cell h2) (.cons (.int _) .nil))
theorem dp_all {R : Addr → α → Prop} {f : α → PyData} (h : ∀ p x, R p x → Dp K H (.ref p) (f x)) : ∀ {ps : List Addr} {l : List α}, Paired R ps l → DpAll K H (ps.map V.ref) (l.map f)
  | _, _, .nil => .nil
  | _, _, .cons h1 t => .cons (h _ _ h1) (dp_all h t)
theorem dp_row {r : Addr} {ρ : RowD} (h : RowAt H r ρ) : Dp K H (.ref r) (rowPD ρ) := by
  obtain ⟨ps, h1, h2⟩ := h
  exact .tup (sqT h1) (dp_all (f := pairD) (R := PairRow H) (fun _ _ z => dp_pair z) h2)
end
/-! ### == of lists -/
theorem shaped_nil : SeqAt.shaped (.list []) = true := by decide
theorem can_all {f : α → PyData} : ∀ {l : List α}, (∀ x ∈ l, (f x).canLay0 = true) → PyData.canLayAll0 (l.map f) = true
  | [], _ => rfl
  | x :: l, h => by
    show ((f x).canLay0 && PyData.canLayAll0 (l.map f)) = true
    rw [h x List.mem_cons_self, can_all fun y hy => h y (List.mem_cons_of_mem _ hy)]
    rfl
theorem depth_all {f : α → PyData} {k : Nat} : ∀ {l : List α}, (∀ x ∈ l, (f x).depth ≤ k) → PyData.depthAll (l.map f) ≤ k
  | [], _ => Nat.zero_le _
  | x :: l, h => by
    show max (f x).depth (PyData.depthAll (l.map f)) ≤ k
    exact Nat.max_le.mpr ⟨h x List.mem_cons_self, depth_all fun y hy => h y (List.mem_cons_of_mem _ hy)⟩
theorem shaped_ints (ns : List Int) : SeqAt.shaped (.list (ns.map PyData.int)) = true := by
  have h1 : PyData.canLayAll0 (ns.map PyData.int) = true := can_all fun _ _ => rfl
  have h2 : PyData.depthAll (ns.map PyData.int) ≤ 0 := depth_all fun _ _ => Nat.le_refl _
  show (PyData.canLayAll0 (ns.map PyData.int) && decide (PyData.depthAll (ns.map PyData.int) + 1 ≤ 64)) = true
  rw [h1, decide_eq_true (by omega)]
  rfl
theorem shaped_pairs {ρ : RowD} (h : ∀ x ∈ ρ, CellOk x.1) : SeqAt.shaped (.list (ρ.map pairD)) = true := by
  have h1 : PyData.canLayAll0 (ρ.map pairD) = true := can_all fun x hx => by
    show (((PyData.strOk x.1.1) && (true && true)) && (true && true)) = true
    rw [(h x hx).ok]
    rfl
  have h2 : PyData.depthAll (ρ.map pairD) ≤ 2 := depth_all fun x _ => by
    show max (max 0 (max 0 0) + 1) (max 0 0) + 1 ≤ 2
    decide
  show (PyData.canLayAll0 (ρ.map pairD) && decide (PyData.depthAll (ρ.map pairD) + 1 ≤ 64)) = true
  rw [h1, decide_eq_true (by omega)]
  rfl
theorem dp_ints {K : PySem.W.Frag} {H : Hp} : ∀ ns : List Int, DpAll K H (ns.map V.int) (ns.map PyData.int)
  | [] => .nil
  | n :: ns => .cons (.int n) (dp_ints ns)
/-- the same by computation -/
def cellB (c : Cell) : Bool := decide (c.1.length ≤ 8) && c.1.cps.toList.all (fun n => decide (n < 16 ^ 8)) && PyData.strOk c.1 && decide (c.2.natAbs.log2 < 1920)
theorem cellOk_of {c : Cell} (h : cellB c = true) : CellOk c := by
  unfold cellB at h
  rw [Bool.and_eq_true, Bool.and_eq_true, Bool.and_eq_true] at h
  obtain ⟨⟨⟨h1, h2⟩, h3⟩, h4⟩ := h
  exact ⟨of_decide_eq_true h1, fun n hn => of_decide_eq_true (List.all_eq_true.mp h2 n hn), h3, of_decide_eq_true h4⟩
end AskG
/-! The end of a law's row, by a promise of its def that holds where nothing is being shown. -/
namespace AskG
open PySem PySem.Spec PyProof.Rows L2
/-- from an abstract heap that tracks at most the script -/
theorem lawG_core {P : Program} {w : World} {K : PySem.W.Frag} {mg mb : Str → Option Value} {k : Nat} {fa a : Addr} {fd : FuncData} {x : Str} {pr : Pr}
    {s₁ : Shared} {vs : List Value} {H : Hp}
    (inK : K.In s₁.heap) (ns1 : s₁.heap.Ns mainGlobals mg) (ns2 : s₁.heap.Ns builtinsNs mb)
    (bb : ∀ x : Str, x ≠ "__name__" → mb x = bootBuiltins x) (lim : s₁.heap.NoLimit) (gn : s₁.gens = #[])
    (ha : s₁.heap.get? a = some { cls := .type "list", data := .seq vs.toArray }) (hr : RG k callerA)
    (F : ∀ base : Heap, K.In base → base.Ns mainGlobals mg → FnG P w K mg base k fa fd [x] pr)
    (bind : ∀ (s : Shared) (u : Value), BindsTo s fd ⟨[u], []⟩ [(x, u)])
    (only : Only H) (hok : HOk P w H s₁.heap) (at_a : ∀ b, H b ≠ none → b = a) (noK : H a ≠ none → K.lookup a = none)
    (hp : pr [.ref a] H fun v _ => v = .bl true) :
    codeAny (model P w) callerA (.call (.ref fa) ⟨[.ref a], []⟩)
      (fun r s' => r = .ok (.ret (.bool true)) ∧ OldK s₁.heap s'.heap ∧ s'.os = s₁.os ∧ AllBare s'.gens) s₁ := by
  have hid : ∀ {b : Addr} {o : Obj}, s₁.heap.get? b = some o → H b = none → (hidT s₁.heap H).get? b = some o :=
    fun e n => hidT_get e n
  have notA : ∀ {b : Addr} {o : Obj} {es : Array DictEntry} {ep : Nat}, s₁.heap.get? b = some o → o.data = .dict es ep → H b = none := by
    intro b o es ep e d
    cases q : H b with
    | none => rfl
    | some u =>
      have eb : b = a := at_a b (by rw [q]; simp)
      rw [eb, ha] at e
      cases e
      cases (show Data.seq vs.toArray _ = Data.dict es ep from d)
  have nsH : ∀ {b : Addr} {m : Str → Option Value}, s₁.heap.Ns b m → (hidT s₁.heap H).Ns b m := by
    rintro b m ⟨o, es, ep, e, d, r⟩
    exact ⟨o, es, ep, hid e (notA e d), d, r⟩
  have inH : K.In (hidT s₁.heap H) := by
    intro b o e
    refine hid (inK b o e) ?_
    cases q : H b with
    | none => rfl
    | some u =>
      have eb : b = a := at_a b (by rw [q]; simp)
      rw [eb, noK (by rw [← eb, q]; simp)] at e
      cases e
  have M : Mod K mg (hidT s₁.heap H) :=
    ⟨inH, nsH ns1, ⟨mb, nsH ns2, bb⟩, lim.elim fun mc h => ⟨mc, nsH h.1, h.2⟩⟩
  have e0 : Env0 P w K mg (hidT s₁.heap H) callerA [] s₁ H :=
    ⟨rfl, M, fun b o e => of_hidT e, Nat.le_of_eq (hidT_size _ _), trivial,
      fun b hb => absurd (show b ∈ ([] : List Addr) from hb) (by simp), hok, .of_eq gn⟩
  refine codeAny_mono ((F _ inH (nsH ns1)).goes callerA [] s₁ H ⟨[.ref a], []⟩ [.ref a] [.ref a] _ hr e0
    (bind s₁ (.ref a)) (.cons rfl .nil) hp) fun r s' h => ?_
  match r, h with
  | .error e, h => exact h.elim
  | .ok .next, h => exact h.elim
  | .ok .brk, h => exact h.elim
  | .ok .cont, h => exact h.elim
  | .ok (.ret u), h =>
    obtain ⟨v, H', os, bare, un, hok', r', q⟩ := h
    have q : v = .bl true := q
    subst q
    obtain rfl : u = Value.bool true := r'
    refine ⟨rfl, OldK.of_keep fun b o e => ?_, os, bare⟩
    cases hb : H b with
    | none =>
      exact un.keep b o e hb (fun z => absurd (show b ∈ ([] : List Addr) from z) (by simp)) (by simp)
    | some u =>
      rcases only b with z | ⟨ob, xs, z⟩
      · rw [hb] at z
        cases z
      · obtain ⟨e1, _⟩ := hok b _ z
        obtain ⟨e2, _⟩ := hok' b _ (un.frzs b ob _ z)
        rw [e] at e1
        cases e1
        exact e2
theorem lawG {P : Program} {w : World} {K : PySem.W.Frag} {mg mb : Str → Option Value} {k : Nat} {fa a : Addr} {fd : FuncData} {x : Str} {pr : Pr}
    {s₁ : Shared} {vs : List Value} {ns : List Int}
    (inK : K.In s₁.heap) (ns1 : s₁.heap.Ns mainGlobals mg) (ns2 : s₁.heap.Ns builtinsNs mb)
    (bb : ∀ x : Str, x ≠ "__name__" → mb x = bootBuiltins x) (lim : s₁.heap.NoLimit) (gn : s₁.gens = #[])
    (ha : s₁.heap.get? a = some { cls := .type "list", data := .seq vs.toArray }) (hi : IntsAre vs ns) (hl : ns.length ≤ sizeLine) (hr : RG k callerA)
    (F : ∀ base : Heap, K.In base → base.Ns mainGlobals mg → FnG P w K mg base k fa fd [x] pr)
    (bind : ∀ (s : Shared) (u : Value), BindsTo s fd ⟨[u], []⟩ [(x, u)])
    (hp : ∀ H : Hp, Only H → SqL K H a (ns.map V.int) → pr [.ref a] H fun v _ => v = .bl true) :
    codeAny (model P w) callerA (.call (.ref fa) ⟨[.ref a], []⟩)
      (fun r s' => r = .ok (.ret (.bool true)) ∧ OldK s₁.heap s'.heap ∧ s'.os = s₁.os ∧ AllBare s'.gens) s₁ := by
  have rv := vals_ints hi
  cases hk : K.lookup a with
  | some o =>
    have e := inK a o hk
    rw [ha] at e
    cases e
    refine lawG_core (H := fun _ => none) inK ns1 ns2 bb lim gn ha hr F bind (fun _ => .inl rfl)
      (fun b u z => nomatch (show (none : Option HO) = some u from z)) (fun b z => absurd rfl z) (fun z => absurd rfl z) ?_
    refine hp _ (fun _ => .inl rfl) (.inr ⟨_, vs.toArray, _, hk, rfl, rfl, rfl, ?_, by simpa using rv⟩)
    rw [List.size_toArray, hi.length]
    exact hl
  | none =>
    have at1 : (fun b => if b = a then some (HO.frz { cls := .type "list", data := .seq vs.toArray } (.lst (ns.map V.int))) else none : Hp) a =
        some (.frz { cls := .type "list", data := .seq vs.toArray } (.lst (ns.map V.int))) := if_pos rfl
    have else1 : ∀ b, b ≠ a → (fun b => if b = a then some (HO.frz { cls := .type "list", data := .seq vs.toArray } (.lst (ns.map V.int))) else none : Hp) b = none :=
      fun b h => if_neg h
    generalize (fun b => if b = a then some (HO.frz { cls := .type "list", data := .seq vs.toArray } (.lst (ns.map V.int))) else none : Hp) = H at at1 else1
    have only : Only H := fun b => by
      by_cases h : b = a
      · rw [h]
        exact .inr ⟨_, _, at1⟩
      · exact .inl (else1 b h)
    refine lawG_core (H := H) inK ns1 ns2 bb lim gn ha hr F bind only (fun b u z => ?_) (fun b z => ?_) (fun _ => hk) (hp H only (.inl (.inr ⟨_, at1⟩)))
    · by_cases h : b = a
      · subst h
        rw [at1] at z
        cases z
        exact ⟨ha, by rw [List.length_map]; exact hl, vs, _, rv, ha⟩
      · rw [else1 b h] at z
        cases z
    · by_cases h : b = a
      · exact h
      · exact absurd (else1 b h) z
/-- the goal behind the head -/
theorem walkG {l : PySem.W.OpenLaw} {n k : Nat} {q : Program} {loose : List Str} {XP : (Str → Option Value) → Heap → Prop} {YP : World → Heap → Prop} {d : DefRec}
    {K : Params → PySem.W.Frag} {pr : PySem.W.Frag → Pr} {x : Str}
    (hn : l.most = some n) (hn2 : n ≤ sizeLine) (hdf : d.params.defaults = []) (hr : RG k callerA)
    (hY : ∀ (w : World) (h : Heap), YP w h → (K w.params).In h)
    (F : ∀ (w : World) (mg : Str → Option Value) (fa : Addr) (h : Heap), (K w.params).In h → h.Ns mainGlobals mg → mg d.name = some (.ref fa) →
      ∃ fd : FuncData, (∀ (s : Shared) (u : Value), BindsTo s fd ⟨[u], []⟩ [(x, u)]) ∧
        ∀ base : Heap, (K w.params).In base → base.Ns mainGlobals mg → FnG l.prog w (K w.params) mg base k fa fd [x] (pr (K w.params)))
    (hp : ∀ (K : PySem.W.Frag) (H : Hp) (a : Addr) (ns : List Int), ns.length ≤ n → SqL K H a (ns.map V.int) → pr K [.ref a] H fun v _ => v = .bl true) :
    PySem.W.WalkO q loose XP YP l.row.toRowW d [] (fun f vs => PySem.call f vs) := by
  refine Att.attach_call hn hdf ?_
  intro w s₀ s₁ mg mb fa o pm cd doc a vs ns G Y ho hd hcd hmg hobj hints hlen hg
  have inK := hY w _ Y
  obtain ⟨fd, hb, hF⟩ := F w mg fa _ inK G.T.g hmg
  exact lawG inK G.T.g G.T.b G.T.builtins G.T.nolimit hg hobj hints (Nat.le_trans hlen hn2) hr hF hb fun H _ hS => hp _ H a ns hlen hS
end AskG
namespace P02
open PySem PySem.Spec PyProof.Rows L2 AskG
def topS (i : Nat) : Stmt := PySem.Challenge.pw_askrights_k02_row_sums.main.body.getD i (.Pass ⟨0, 0, 0, 0⟩)
abbrev sAdd : Stmt := topS 1
theorem scAdd : FnScope ["one", "other", "weights", "cell", "weight"] ["one", "other"] (defScope sAdd) := ⟨rfl, rfl, rfl, by decide +kernel, rfl, by decide +kernel, by decide +kernel⟩
abbrev sScale : Stmt := topS 2
theorem scScale : FnScope ["row", "factor", "cell", "weight"] ["row", "factor"] (defScope sScale) := ⟨rfl, rfl, rfl, by decide +kernel, rfl, by decide +kernel, by decide +kernel⟩
abbrev sInside : Stmt := topS 3
theorem scInside : FnScope ["cell", "last_day", "accounts", "account", "day"] ["cell", "last_day", "accounts"] (defScope sInside) := ⟨rfl, rfl, rfl, by decide +kernel, rfl, by decide +kernel, by decide +kernel⟩
abbrev sPart : Stmt := topS 4
theorem scPart : FnScope ["row", "last_day", "accounts", "cell", "weight"] ["row", "last_day", "accounts"] (defScope sPart) := ⟨rfl, rfl, rfl, by decide +kernel, rfl, by decide +kernel, by decide +kernel⟩
abbrev sEff : Stmt := topS 5
theorem scEff : FnScope ["change", "row", "weights", "cell", "weight"] ["change", "row"] (defScope sEff) := ⟨rfl, rfl, rfl, by decide +kernel, rfl, by decide +kernel, by decide +kernel⟩
abbrev sVal : Stmt := topS 6
theorem scVal : FnScope ["row", "data"] ["row", "data"] (defScope sVal) := ⟨rfl, rfl, rfl, by decide +kernel, rfl, by decide +kernel, by decide +kernel⟩
section
variable {P : Program} {w : World} {K : PySem.W.Frag} {mg : Str → Option Value} {base : Heap}
def prAdd : Pr := fun vs H Q => ∃ (a b : Addr) (ρ π : RowD), vs = [.ref a, .ref b] ∧ RowAt H a ρ ∧ RowAt H b π ∧ ρ.length ≤ 100 ∧ π.length ≤ 100 ∧
  ∀ H' p, Same H H' → RowAt H' p (addR ρ π 1) → Q (.ref p) H'
theorem ok_add {f : Addr} {fd : FuncData} {k : Nat} (F : Fun K "add_rows" "add_rows" sAdd f fd) (ms : mg "sorted" = none) (mt : mg "tuple" = none) : FnG P w K mg base (k + 1) f fd ["one", "other"] prAdd := by
  refine okG F scAdd (fun vs H Q h => ?_) (fun cdv A outer s H vs Q hr h => ?_)
  · obtain ⟨a, b, _, _, rfl, _⟩ := h
    rfl
  · obtain ⟨a, b, ρ, π, rfl, hA, hB, lA, lB, q⟩ := h
    have hu := hu_of hr.room
    refine ⟨_, pss_cons (ps_set (i := 2) scAdd.nd rfl (.inr rfl) (pe_dcT (own := [("cell", 3), ("weight", 4)]) (g := gTup K 2 (gCons (gName 3) (gCons (gName 4) gNil))) hu rfl scAdd.nd (pi_tup (pv 0)) (blkOk_by (N := ["one", "other", "weights", "cell", "weight"]) (sc := defScope sAdd) (by decide +kernel))
        (fun _ _ _ _ _ => pg_tup rfl (pgs_cons (pg_name (i := 3) scAdd.nd rfl (.inl rfl)) (pgs_cons (pg_name (i := 4) scAdd.nd rfl (.inl rfl)) pgs_nil)))
        (fun _ _ _ _ _ => pv 3) (fun _ _ _ _ _ => pv 4)))
      (pss_cons (ps_for PassesOwn.never rfl (pi_tup (pv 1)) (pg_tup rfl (pgs_cons (pg_name (i := 3) scAdd.nd rfl (.inl rfl)) (pgs_cons (pg_name (i := 4) scAdd.nd rfl (.inl rfl)) pgs_nil)))
        (pss_one (ps_dput hu (pv 2) (pv 3) (pe_op op_add (pe_dget2 hu (pv 2) (pv 3) pe_int ⟨rfl, rfl, rfl, rfl⟩) (pv 4)) rfl)))
      (pss_one (ps_ret (pe_callTy call_tuple_of (by rfl) mt (by decide +kernel) (pa_cons (pe_lc (own := [("cell", 3)]) (g := gName 3) rfl scAdd.nd
          (pi_list (pe_callB (cr_sortT rfl) (by rfl) ms (by decide +kernel) (pa_cons (pv 2) pa_nil)))
          (blkOk_by (N := ["one", "other", "weights", "cell", "weight"]) (sc := defScope sAdd) (by decide +kernel)) (fun _ _ _ _ _ => pg_name (i := 3) scAdd.nd rfl (.inl rfl))
          (fun _ _ _ _ _ => pts_one (pt_cmpR op_ne (pe_dget hu (pv 2) (pv 3) (fun _ _ => rfl)) pe_int (nomark _)))
          (fun _ _ _ _ _ => pe_tup (pa_cons (pv 3) (pa_cons (pe_dget hu (pv 2) (pv 3) (fun _ _ => rfl)) pa_nil)))) pa_nil))))), ?_⟩
    refine iSeq (iAsg ?_)
    refine dc_row (K := K) (i := 0) (a := 3) (b := 4) (σ := [some (.ref a), some (.ref b), none, none, none]) (r := a) (ρ := ρ) rfl hA (by simp) (by simp) (by decide) (by omega) fun D hD => ?_
    have s1 : Same H (upd H D (.dT (dk (ofRow ρ)))) := same_new hD
    have lo := ofRow_length ρ
    refine iSeq ?_
    refine for_add (K := K) (σ := [some (.ref a), some (.ref b), some (.ref D), none, none]) (io := 1) (iw := 2) (a := 3) (b := 4) (r := b) (Dd := D) (π := π) (m := ofRow ρ) (t := 1) rfl rfl (by decide) (by decide) (by simp) (by simp) (by decide) (hB.keep (KeepT.of s1)) upd_same (by omega)
      (fun σ' H' c w m' bb Q hmem hj ha hb hD' hc hq => ?_) (fun σ' hj hl => ?_)
    · refine ⟨.ref D, hj 2 (by decide) (by decide), D, rfl, .inr ⟨_, .inl hD'⟩, .ref bb, ha, _, dget_of hD' hc, .int w, hb, get0 m' c, w, ?_, rfl, ?_⟩
      · show ((getO m' c).map V.int).getD (.int 0) = .int (get0 m' c)
        unfold get0
        cases getO m' c <;> rfl
      · rw [Int.one_mul] at hq
        exact hq
    · rw [upd_upd]
      have n := addF_nodup (ofRow_nodup ρ) π 1
      have al := addF_length (ofRow ρ) π 1
      dsimp only
      refine iRet (iCB (iCons ?_))
      refine lc_tidy (K := K) (iw := 2) (ic := 3) (D := D) (m := addF (ofRow ρ) π 1) (hj 2 (by decide) (by decide)) (by decide) (by rw [hl]; simp) upd_same n (by omega) fun H' L ps sm hL hps hpp => ?_
      refine ⟨L, _, rfl, .inl ⟨sqL hps, fun p hp => ?_⟩⟩
      refine q _ p (fun c o e => ?_) (row_of_list (L := L) hp hpp)
      have e1 : upd H D (.dT (dk (addF (ofRow ρ) π 1))) c = some o := by
        rw [upd_ne (ne_of_none e hD)]
        exact e
      rw [upd_ne (ne_of_none (sm _ _ e1) hp)]
      exact sm _ _ e1

/-! ### scale_row -/
def prScale : Pr := fun vs H Q => ∃ (a : Addr) (ρ : RowD) (t : Int), vs = [.ref a, .int t] ∧ RowAt H a ρ ∧ ρ.length ≤ 100 ∧ -(2 ^ 64) < t ∧ t < 2 ^ 64 ∧
  ∀ H' p, Same H H' → RowAt H' p (scaleR ρ t) → Q (.ref p) H'
theorem ok_scale {f : Addr} {fd : FuncData} {k : Nat} (F : Fun K "scale_row" "scale_row" sScale f fd) (mt : mg "tuple" = none) : FnG P w K mg base (k + 1) f fd ["row", "factor"] prScale := by
  refine okG F scScale (fun vs H Q h => ?_) (fun cdv A outer s H vs Q hr h => ?_)
  · obtain ⟨a, _, _, rfl, _⟩ := h
    rfl
  · obtain ⟨a, ρ, t, rfl, hA, lA, t1, t2, q⟩ := h
    refine ⟨_, pss_cons (ps_if (pt_cmpR op_eq (pv 1) pe_int (nomark _)) (pss_one (ps_ret (pe_tup pa_nil))) pss_nil)
      (pss_one (ps_ret (pe_callTy call_tuple_of (by rfl) mt (by decide +kernel) (pa_cons (pe_lc (own := [("cell", 2), ("weight", 3)]) (g := g2 K 2 3) (tt := tYes) rfl scScale.nd
          (pi_tup (pv 0)) (blkOk_by (N := ["row", "factor", "cell", "weight"]) (sc := defScope sScale) (by decide +kernel))
          (fun _ _ _ _ _ => pg_tup rfl (pgs_cons (pg_name (i := 2) scScale.nd rfl (.inl rfl)) (pgs_cons (pg_name (i := 3) scScale.nd rfl (.inl rfl)) pgs_nil)))
          (fun _ _ _ _ _ => pts_nil)
          (fun _ _ _ _ _ => pe_tup (pa_cons (pv 2) (pa_cons (pe_op op_mul (pv 3) (pv 1)) pa_nil)))) pa_nil)))), ?_⟩
    refine iSeq ?_
    refine ⟨.int t, rfl, rfl, _, rfl, ite2 (fun e => ?_) (fun e => ?_)⟩
    · have e0 : t = 0 := V.int.inj (of_decide_eq_true e)
      refine iRet ⟨Nat.zero_le _, fun p hp => ?_⟩
      refine q _ p (same_new hp) ⟨[], upd_same, ?_⟩
      unfold scaleR
      rw [if_pos e0]
      exact .nil
    · have e0 : t ≠ 0 := fun z => e (by rw [z]; rfl)
      refine iNext ?_
      dsimp only
      refine iRet (iCB (iCons ?_))
      refine lc_rows (K := K) (i := 0) (a := 2) (b := 3) (σ := [some (.ref a), some (.int t), none, none]) (fun _ => true) (fun x => x.2 * t) rfl hA (by simp) (by simp) (by decide) (by omega)
        (fun σ' H' bb x Q _ _ _ _ hq => iYes (hq H' (Same.refl _))) (fun σ' H' bb x Q _ _ T _ hq => ?_) (fun H' L ps sm hL hps hpp => ?_)
      · exact ⟨.int x.2, T.snd, .int t, T.old 1 (by decide) (by decide), x.2, t, rfl, rfl, .inr ⟨t1, t2⟩, hq⟩
      · refine ⟨L, _, rfl, .inl ⟨sqL hps, fun p hp => ?_⟩⟩
        refine q _ p (sm.trans (same_new hp)) ?_
        have e1 : scaleR ρ t = (ρ.filter fun _ => true).map fun x => (x.1, x.2 * t) := by
          unfold scaleR
          rw [if_neg e0, List.filter_eq_self.mpr fun _ _ => rfl]
        rw [e1]
        exact row_of_list (L := L) hp hpp

/-! ### is_inside, part_of -/
def vLast : Option Int → V
  | none => .non
  | some t => .int t
/-- the accounts that are asked: None, or a tuple of texts -/
def AccAt (K : PySem.W.Frag) (H : Hp) (v : V) : Option (List Str) → Prop
  | none => v = .non
  | some l => ∃ a, v = .ref a ∧ H a = some (.tup (l.map V.str))
theorem AccAt.keep {H H' : Hp} {v : V} {o : Option (List Str)} (h : AccAt K H v o) (k : KeepT H H') : AccAt K H' v o := by
  cases o with
  | none => exact h
  | some l =>
    obtain ⟨a, e, h⟩ := h
    exact ⟨a, e, k _ _ h⟩
def inLast (c : Cell) : Option Int → Bool
  | none => true
  | some t => decide (c.2 ≤ t)
def inAcc (c : Cell) : Option (List Str) → Bool
  | none => true
  | some l => inV (.str c.1) (l.map V.str)
def prInside (K : PySem.W.Frag) : Pr := fun vs H Q => ∃ (b : Addr) (c : Cell) (last : Option Int) (v : V) (acc : Option (List Str)), vs = [.ref b, vLast last, v] ∧ CellAt H b c ∧ AccAt K H v acc ∧
  ∀ H', Same H H' → Q (.bl (inLast c last && inAcc c acc)) H'
theorem all_flat (l : List Str) : (l.map V.str).all flatV = true := by
  rw [List.all_eq_true]
  intro x hx
  obtain ⟨y, _, rfl⟩ := List.mem_map.mp hx
  rfl
theorem ok_inside {f : Addr} {fd : FuncData} {k : Nat} (F : Fun K "is_inside" "is_inside" sInside f fd) : FnG P w K mg base (k + 1) f fd ["cell", "last_day", "accounts"] (prInside K) := by
  refine okG F scInside (fun vs H Q h => ?_) (fun cdv A outer s H vs Q hr h => ?_)
  · obtain ⟨_, _, _, _, _, rfl, _⟩ := h
    rfl
  · obtain ⟨b, c, last, v, acc, rfl, hC, hA, q⟩ := h
    refine ⟨_, pss_cons (ps_asg (pv 0) (pg_tup (by rfl) (pgs_cons (pg_name (i := 3) scInside.nd rfl (.inl rfl)) (pgs_cons (pg_name (i := 4) scInside.nd rfl (.inl rfl)) pgs_nil))))
      (pss_one (ps_ret (pe_and (pe_or (pe_cmpR op_isN (pv 1) pe_non (nomark _)) (pe_one (pe_cmpR op_le (pv 4) (pv 1) (nomark _))))
        (pe_one (pe_or (pe_cmpR op_isN (pv 2) pe_non (nomark _)) (pe_one (pe_cmpR op_in_seq (pv 3) (pv 2) (by rfl)))))))), ?_⟩
    refine ⟨.ref b, rfl, b, [.str c.1, .int c.2], rfl, sqT hC, rfl, .str c.1, [.int c.2], rfl, .int c.2, [], rfl, rfl, ?_⟩
    have second : ∀ (Q : VK), (∀ H', Same H H' → Q (.bl (inAcc c acc)) H') → tOrV (tOp (fun x y H Q => y = V.non ∧ Q (V.bl (decide (x = V.non))) H) (tVar 2) (tC V.non)) (tOp (rIn K false) (tVar 3) (tVar 2))
        [some (.ref b), some (vLast last), some v, some (.str c.1), some (.int c.2)] H Q := by
      intro Q hq
      cases acc with
      | none =>
        have hv : v = .non := hA
        subst hv
        exact ⟨.non, rfl, rfl, true, rfl, iteT (hq H (Same.refl _))⟩
      | some l =>
        obtain ⟨a, rfl, ha⟩ := hA
        exact ⟨.ref a, rfl, rfl, false, rfl, iteF ⟨.str c.1, rfl, .ref a, rfl, a, l.map V.str, rfl, .inr (sqT ha), rfl, all_flat l, hq H (Same.refl _)⟩⟩
    cases last with
    | none =>
      refine ⟨.non, rfl, rfl, true, rfl, iteT ⟨true, rfl, iteT (second _ fun H' sm => ?_)⟩⟩
      exact q H' sm
    | some t =>
      refine ⟨.int t, rfl, rfl, false, rfl, iteF ⟨.int c.2, rfl, .int t, rfl, c.2, t, rfl, rfl, decide (c.2 ≤ t), rfl, ?_⟩⟩
      refine ite2 (fun e => second _ fun H' sm => ?_) (fun e => ?_)
      · have := q H' sm
        have e1 : inLast c (some t) = true := e
        rw [e1, Bool.true_and] at this
        exact this
      · have := q H (Same.refl _)
        have e1 : inLast c (some t) = false := by
          cases h : inLast c (some t) with
          | false => rfl
          | true => exact absurd h e
        rw [e1, Bool.false_and] at this
        exact this

def insideR (last : Option Int) (acc : Option (List Str)) (x : Cell × Int) : Bool := inLast x.1 last && inAcc x.1 acc
def prPart (K : PySem.W.Frag) : Pr := fun vs H Q => ∃ (a : Addr) (ρ : RowD) (last : Option Int) (v : V) (acc : Option (List Str)), vs = [.ref a, vLast last, v] ∧ RowAt H a ρ ∧ ρ.length ≤ 100 ∧ AccAt K H v acc ∧
  ∀ H' p, Same H H' → RowAt H' p (ρ.filter (insideR last acc)) → Q (.ref p) H'
theorem ok_part {f fI : Addr} {fd fdI : FuncData} {k : Nat} (F : FunD K "part_of" "part_of" (defArgs sPart) (defBody sPart) (defScope sPart) [] [("last_day", .non), ("accounts", .non)] f fd) (FI : Fun K "is_inside" "is_inside" sInside fI fdI)
    (bI : Binds K fdI ["cell", "last_day", "accounts"] []) (gI : mg "is_inside" = some (.ref fI)) (mt : mg "tuple" = none) : FnG P w K mg base (k + 2) f fd ["row", "last_day", "accounts"] (prPart K) := by
  have GI : FnG P w K mg base (k + 1) fI fdI ["cell", "last_day", "accounts"] (prInside K) := ok_inside FI
  refine okGD F scPart (fun vs H Q h => ?_) (fun cdv A outer s H vs Q hr h => ?_)
  · obtain ⟨_, _, _, _, _, rfl, _⟩ := h
    rfl
  · obtain ⟨a, ρ, last, v, acc, rfl, hA, lA, hAc, q⟩ := h
    refine ⟨_, pss_one (ps_ret (pe_callTy call_tuple_of (by rfl) mt (by decide +kernel) (pa_cons (pe_lc (own := [("cell", 3), ("weight", 4)]) (g := g2 K 3 4) rfl scPart.nd
          (pi_tup (pv 0)) (blkOk_by (N := ["row", "last_day", "accounts", "cell", "weight"]) (sc := defScope sPart) (by decide +kernel))
          (fun _ _ _ _ _ => pg_tup rfl (pgs_cons (pg_name (i := 3) scPart.nd rfl (.inl rfl)) (pgs_cons (pg_name (i := 4) scPart.nd rfl (.inl rfl)) pgs_nil)))
          (fun _ _ _ _ _ => pts_one (pt_val (pe_g GI hr (by rfl) gI FI.kp bI .nil (pa_cons (pv 3) (pa_cons (pv 1) (pa_cons (pv 2) pa_nil))))))
          (fun _ _ _ _ _ => pe_tup (pa_cons (pv 3) (pa_cons (pv 4) pa_nil)))) pa_nil))), ?_⟩
    refine iRet (iCB (iCons ?_))
    refine lc_rows (K := K) (i := 0) (a := 3) (b := 4) (σ := [some (.ref a), some (vLast last), some v, none, none]) (insideR last acc) (fun x => x.2) rfl hA (by simp) (by simp) (by decide) (by omega)
        (fun σ' H' bb x Q _ sm T hc hq => ?_) (fun σ' H' bb x Q _ _ T _ hq => ⟨_, T.snd, hq⟩) (fun H' L ps sm hL hps hpp => ?_)
    · refine ⟨.ref bb, T.fst, vLast last, T.old 1 (by decide) (by decide), v, T.old 2 (by decide) (by decide), bb, x.1, last, v, acc, rfl, hc, hAc.keep (KeepT.of sm), fun H'' sm' => ⟨_, rfl, hq H'' sm'⟩⟩
    · refine ⟨L, _, rfl, .inl ⟨sqL hps, fun p hp => ?_⟩⟩
      refine q _ p (sm.trans (same_new hp)) ?_
      have e1 : (ρ.filter (insideR last acc)).map (fun x => (x.1, x.2)) = ρ.filter (insideR last acc) := List.map_id _
      rw [e1] at hpp
      exact row_of_list (L := L) hp hpp

/-! ### effect_of, row_value -/
def prEff : Pr := fun vs H Q => ∃ (a b : Addr) (ρ π : RowD), vs = [.ref a, .ref b] ∧ RowAt H a ρ ∧ RowAt H b π ∧ ρ.length ≤ 100 ∧ π.length ≤ 100 ∧ (∀ x ∈ ρ, -(2 ^ 64) < x.2 ∧ x.2 < 2 ^ 64) ∧
  ∀ H', Same H H' → Q (.int (effR ρ π)) H'
theorem ok_eff {f : Addr} {fd : FuncData} {k : Nat} (F : Fun K "effect_of" "effect_of" sEff f fd) (ms : mg "sum" = none) : FnG P w K mg base (k + 1) f fd ["change", "row"] prEff := by
  refine okG F scEff (fun vs H Q h => ?_) (fun cdv A outer s H vs Q hr h => ?_)
  · obtain ⟨_, _, _, _, rfl, _⟩ := h
    rfl
  · obtain ⟨a, b, ρ, π, rfl, hA, hB, lA, lB, hw, q⟩ := h
    have hu := hu_of hr.room
    refine ⟨_, pss_cons (ps_set (i := 2) scEff.nd rfl (.inr rfl) (pe_dcT (own := [("cell", 3), ("weight", 4)]) (g := gTup K 2 (gCons (gName 3) (gCons (gName 4) gNil))) hu rfl scEff.nd (pi_tup (pv 1)) (blkOk_by (N := ["change", "row", "weights", "cell", "weight"]) (sc := defScope sEff) (by decide +kernel))
        (fun _ _ _ _ _ => pg_tup rfl (pgs_cons (pg_name (i := 3) scEff.nd rfl (.inl rfl)) (pgs_cons (pg_name (i := 4) scEff.nd rfl (.inl rfl)) pgs_nil)))
        (fun _ _ _ _ _ => pv 3) (fun _ _ _ _ _ => pv 4)))
      (pss_one (ps_ret (pe_callB (cr_sum rfl) (by rfl) ms (by decide +kernel) (pa_cons (pe_lc (own := [("cell", 3), ("weight", 4)]) (g := g2 K 3 4) (tt := tYes) rfl scEff.nd
          (pi_tup (pv 0)) (blkOk_by (N := ["change", "row", "weights", "cell", "weight"]) (sc := defScope sEff) (by decide +kernel))
          (fun _ _ _ _ _ => pg_tup rfl (pgs_cons (pg_name (i := 3) scEff.nd rfl (.inl rfl)) (pgs_cons (pg_name (i := 4) scEff.nd rfl (.inl rfl)) pgs_nil)))
          (fun _ _ _ _ _ => pts_nil)
          (fun _ _ _ _ _ => pe_op op_mul (pv 4) (pe_dget2 hu (pv 2) (pv 3) pe_int ⟨rfl, rfl, rfl, rfl⟩))) pa_nil)))), ?_⟩
    refine iSeq (iAsg ?_)
    refine dc_row (K := K) (i := 1) (a := 3) (b := 4) (σ := [some (.ref a), some (.ref b), none, none, none]) (r := b) (ρ := π) rfl hB (by simp) (by simp) (by decide) (by omega) fun D hD => ?_
    have s1 : Same H (upd H D (.dT (dk (ofRow π)))) := same_new hD
    refine iName ?_
    dsimp only
    refine iRet (iCB (iCons ?_))
    refine lc_ints (K := K) (i := 0) (a := 3) (b := 4) (σ := [some (.ref a), some (.ref b), some (.ref D), none, none]) (fun x => x.2 * get0 (ofRow π) x.1) rfl (hA.keep (KeepT.of s1)) (by simp) (by simp) (by decide) (by omega)
      (fun σ' H' bb x Q hx sm T hc hq => ?_) (fun H' L sm hL hps => ?_)
    · refine ⟨.int x.2, T.snd, .ref D, T.old 2 (by decide) (by decide), D, rfl, .inr ⟨_, .inl (sm _ _ upd_same)⟩, .ref bb, T.fst, _, dget_of (sm _ _ upd_same) hc, x.2, get0 (ofRow π) x.1, rfl, ?_, .inl (hw x hx), hq⟩
      show ((getO (ofRow π) x.1).map V.int).getD (.int 0) = .int (get0 (ofRow π) x.1)
      unfold get0
      cases getO (ofRow π) x.1 <;> rfl
    · exact ⟨L, _, rfl, sqL hps, q H' (s1.trans sm)⟩
def prVal : Pr := fun vs H Q => ∃ (a b : Addr) (ρ π : RowD), vs = [.ref a, .ref b] ∧ RowAt H a ρ ∧ RowAt H b π ∧ ρ.length ≤ 100 ∧ π.length ≤ 100 ∧ (∀ x ∈ π, -(2 ^ 64) < x.2 ∧ x.2 < 2 ^ 64) ∧
  ∀ H', Same H H' → Q (.int (effR π ρ)) H'
theorem ok_val {f fE : Addr} {fd fdE : FuncData} {k : Nat} (F : Fun K "row_value" "row_value" sVal f fd) (FE : Fun K "effect_of" "effect_of" sEff fE fdE) (bE : Binds K fdE ["change", "row"] []) (gE : mg "effect_of" = some (.ref fE)) (ms : mg "sum" = none) : FnG P w K mg base (k + 2) f fd ["row", "data"] prVal := by
  have GE : FnG P w K mg base (k + 1) fE fdE ["change", "row"] prEff := ok_eff FE ms
  refine okG F scVal (fun vs H Q h => ?_) (fun cdv A outer s H vs Q hr h => ?_)
  · obtain ⟨_, _, _, _, rfl, _⟩ := h
    rfl
  · obtain ⟨a, b, ρ, π, rfl, hA, hB, lA, lB, hw, q⟩ := h
    refine ⟨_, pss_one (ps_ret (pe_g GE hr (by rfl) gE FE.kp bE .nil (pa_cons (pv 1) (pa_cons (pv 0) pa_nil)))), ?_⟩
    exact ⟨.ref b, rfl, .ref a, rfl, b, a, π, ρ, rfl, hB, hA, lB, lA, hw, q⟩
end
end P02
namespace P02
open PySem PySem.Spec PyProof.Rows L2 AskG
abbrev sFeed : Stmt := topS 8
theorem scFeed : FnScope ["_law_script"] ["_law_script"] (defScope sFeed) := ⟨rfl, rfl, rfl, by decide +kernel, rfl, by decide +kernel, by decide +kernel⟩
abbrev sDraw : Stmt := topS 9
theorem scDraw : FnScope ["_law_feed_here", "_law_many", "_law_digit", "_law_at", "_law_cell", "_law_mixed"] ["_law_feed_here", "_law_many"] (defScope sDraw) := ⟨rfl, rfl, rfl, by decide +kernel, rfl, by decide +kernel, by decide +kernel⟩
def feedKvs (L : Addr) (at' left n : Int) : List (Key × V) := [(Sum.inr "cells", .ref L), (Sum.inr "at", .int at'), (Sum.inr "left", .int left), (Sum.inr "count", .int n)]
def FeedAt (H : Hp) (F L : Addr) : Prop := ∃ (ns : List Int) (at' left n : Int), H F = some (.dK (feedKvs L at' left n)) ∧ H L = some (.lst (ns.map V.int))
/-- all but the feed stays -/
def KeepF (F : Addr) (H H' : Hp) : Prop := ∀ b o, b ≠ F → H b = some o → H' b = some o
theorem KeepF.refl (F : Addr) (H : Hp) : KeepF F H H := fun _ _ _ e => e
theorem KeepF.trans {F : Addr} {H H1 H2 : Hp} (h : KeepF F H H1) (g : KeepF F H1 H2) : KeepF F H H2 := fun b o n e => g b o n (h b o n e)
theorem KeepF.of {F : Addr} {H H' : Hp} (h : Same H H') : KeepF F H H' := fun b o _ e => h b o e
theorem KeepF.tup {F L : Addr} {H H' : Hp} (h : KeepF F H H') (f : FeedAt H F L) : KeepT H H' := fun b xs e => by
  obtain ⟨_, _, _, _, hF, _⟩ := f
  exact h b _ (ne_of e hF fun z => nomatch z) e
theorem FeedAt.same {F L : Addr} {H H' : Hp} (f : FeedAt H F L) (h : Same H H') : FeedAt H' F L := by
  obtain ⟨ns, a, l, n, h1, h2⟩ := f
  exact ⟨ns, a, l, n, h _ _ h1, h _ _ h2⟩
section
variable (L : Addr) (a l n x : Int)
theorem g_count : valV (feedKvs L a l n) (Sum.inr "count") = some (.int n) := rfl
theorem g_left : valV (feedKvs L a l n) (Sum.inr "left") = some (.int l) := rfl
theorem g_at : valV (feedKvs L a l n) (Sum.inr "at") = some (.int a) := rfl
theorem g_cells : valV (feedKvs L a l n) (Sum.inr "cells") = some (.ref L) := rfl
theorem p_count : putK (feedKvs L a l n) (Sum.inr "count") (.int x) = feedKvs L a l x := rfl
theorem p_left : putK (feedKvs L a l n) (Sum.inr "left") (.int x) = feedKvs L a x n := rfl
theorem p_at : putK (feedKvs L a l n) (Sum.inr "at") (.int x) = feedKvs L x l n := rfl
end
theorem dg_count {H : Hp} {F L : Addr} {a l n : Int} (h : H F = some (.dK (feedKvs L a l n))) : DGet H F (.str "count") (some (.int n)) := DGet.k (k := Sum.inr "count") h
theorem dg_left {H : Hp} {F L : Addr} {a l n : Int} (h : H F = some (.dK (feedKvs L a l n))) : DGet H F (.str "left") (some (.int l)) := DGet.k (k := Sum.inr "left") h
theorem dg_at {H : Hp} {F L : Addr} {a l n : Int} (h : H F = some (.dK (feedKvs L a l n))) : DGet H F (.str "at") (some (.int a)) := DGet.k (k := Sum.inr "at") h
theorem dg_cells {H : Hp} {F L : Addr} {a l n : Int} (h : H F = some (.dK (feedKvs L a l n))) : DGet H F (.str "cells") (some (.ref L)) := DGet.k (k := Sum.inr "cells") h
theorem four : (feedKvs 0 0 0 0).length < sizeLine := by
  show 4 < sizeLine
  decide
theorem dp_count {H : Hp} {F L : Addr} {a l n x : Int} (h : H F = some (.dK (feedKvs L a l n))) : DPut H F (.str "count") (.int x) (upd H F (.dK (feedKvs L a l x))) := DPut.k (k := Sum.inr "count") h four
theorem dp_left {H : Hp} {F L : Addr} {a l n x : Int} (h : H F = some (.dK (feedKvs L a l n))) : DPut H F (.str "left") (.int x) (upd H F (.dK (feedKvs L a x n))) := DPut.k (k := Sum.inr "left") h four
theorem dp_at {H : Hp} {F L : Addr} {a l n x : Int} (h : H F = some (.dK (feedKvs L a l n))) : DPut H F (.str "at") (.int x) (upd H F (.dK (feedKvs L x l n))) := DPut.k (k := Sum.inr "at") h four
section
variable {P : Program} {w : World} {K : PySem.W.Frag} {mg : Str → Option Value} {base : Heap}
def prFeed (K : PySem.W.Frag) : Pr := fun vs H Q => ∃ (a : Addr) (ns : List Int), vs = [.ref a] ∧ SqL K H a (ns.map V.int) ∧ ∀ H' F L, Same H H' → FeedAt H' F L → Q (.ref F) H'
theorem cut63 (ns : List Int) : ∃ ms : List Int, cutV (ns.map V.int) none (some 63) = ms.map V.int := by
  unfold cutV
  rw [← List.map_drop, ← List.map_take]
  exact ⟨_, rfl⟩
theorem ok_feed {f : Addr} {fd : FuncData} {k : Nat} (F : Fun K "_law_feed" "_law_feed" sFeed f fd) (ml : mg "list" = none) : FnG P w K mg base (k + 1) f fd ["_law_script"] (prFeed K) := by
  refine okG F scFeed (fun vs H Q h => ?_) (fun cdv A outer s H vs Q hr h => ?_)
  · obtain ⟨_, _, rfl, _⟩ := h
    rfl
  · obtain ⟨a, ns, rfl, hS, q⟩ := h
    refine ⟨_, pss_one (ps_ret (pe_disp (pps_cons pe_str (pe_callTy call_list_of (by rfl) ml (by decide +kernel) (pa_cons (pe_slice sl_list (pv 0) po_none (po_some pe_int)) pa_nil))
      (pps_cons pe_str pe_int (pps_cons pe_str pe_int (pps_cons pe_str pe_int pps_nil)))) (by rfl) (by rfl) (fun z => by cases z) (by decide))), ?_⟩
    obtain ⟨ms, hms⟩ := cut63 ns
    refine iRet (fun p hp => ?_)
    have s1 : Same H (upd H p (.dK [])) := same_new hp
    refine ⟨.ref a, rfl, 63, rfl, a, ns.map V.int, rfl, s1.seq hS, fun c hc => ?_⟩
    rw [hms]
    have s2 : Same (upd H p (.dK [])) (upd (upd H p (.dK [])) c (.lst (ms.map V.int))) := same_new hc
    refine ⟨c, ms.map V.int, rfl, .inl (sqL upd_same), fun l hl => ?_⟩
    have s3 : Same (upd (upd H p (.dK [])) c (.lst (ms.map V.int))) (upd (upd (upd H p (.dK [])) c (.lst (ms.map V.int))) l (.lst (ms.map V.int))) := same_new hl
    have hpp : (upd (upd (upd H p (.dK [])) c (.lst (ms.map V.int))) l (.lst (ms.map V.int))) p = some (.dK []) := s3 _ _ (s2 _ _ upd_same)
    refine ⟨hpp, feedKvs l 0 0 0, rfl, by show 4 ≤ 15; decide, ?_⟩
    have npl : l ≠ p := fun e => by
      rw [e, s2 _ _ upd_same] at hl
      cases hl
    refine q _ p l (fun b o e => ?_) ⟨ms, 0, 0, 0, upd_same, ?_⟩
    · rw [upd_ne (ne_of_none e hp)]
      exact s3 _ _ (s2 _ _ (s1 _ _ e))
    · rw [upd_ne npl, upd_same]
end
end P02
namespace P02
open PySem PySem.Spec PyProof.Rows L2 AskG
section
variable {P : Program} {w : World} {K : PySem.W.Frag} {mg : Str → Option Value} {base : Heap}
def prDraw : Pr := fun vs H Q => ∃ (F L : Addr) (m : Int), vs = [.ref F, .int m] ∧ FeedAt H F L ∧ 0 < m ∧ m < 1000 ∧
  ∀ d H', 0 ≤ d → d < m → KeepF F H H' → FeedAt H' F L → Q (.int d) H'
theorem ok_draw {f : Addr} {fd : FuncData} {k : Nat} (F : Fun K "_law_draw" "_law_draw" sDraw f fd) (ml : mg "len" = none) : FnG P w K mg base (k + 1) f fd ["_law_feed_here", "_law_many"] prDraw := by
  refine okG F scDraw (fun vs H Q h => ?_) (fun cdv A outer s H vs Q hr h => ?_)
  · obtain ⟨_, _, _, rfl, _⟩ := h
    rfl
  · obtain ⟨F, L, m, rfl, ⟨ns, a, l, n, hF, hL⟩, m1, m2, q⟩ := h
    have hu := hu_of hr.room
    refine ⟨_, pss_cons (ps_dput hu (pv 0) pe_str (pe_op op_add (pe_dget hu (pv 0) pe_str (fun _ _ => rfl)) pe_int) rfl)
      (pss_cons (ps_if (pt_cmpR op_gt (pe_dget hu (pv 0) pe_str (fun _ _ => rfl)) pe_int (nomark _))
        (pss_cons (ps_set (i := 2) scDraw.nd rfl (.inl rfl) (pe_op op_mod (pe_dget hu (pv 0) pe_str (fun _ _ => rfl)) (pv 1)))
          (pss_cons (ps_dput hu (pv 0) pe_str (pe_op op_fdiv (pe_dget hu (pv 0) pe_str (fun _ _ => rfl)) (pv 1)) rfl)
          (pss_one (ps_ret (pv 2))))) pss_nil)
      (pss_cons (ps_set (i := 3) scDraw.nd rfl (.inl rfl) (pe_dget hu (pv 0) pe_str (fun _ _ => rfl)))
      (pss_cons (ps_dput hu (pv 0) pe_str (pe_op op_add (pv 3) pe_int) rfl)
      (pss_cons (ps_set (i := 4) scDraw.nd rfl (.inl rfl) (pe_ifExp (pt_cmpR (op_neD hr.room.units) (pe_dget hu (pv 0) pe_str (fun _ _ => rfl)) (pe_lst pa_nil) (nomark _))
        (pe_ix ix_list (pe_dget hu (pv 0) pe_str (fun _ _ => rfl)) (pe_op op_mod (pv 3) (pe_callB call_len_seq (by rfl) ml PySem.boot_len (pa_cons (pe_dget hu (pv 0) pe_str (fun _ _ => rfl)) pa_nil))) (fun _ _ => rfl)) pe_int))
      (pss_cons (ps_if (PW.pt (pw_and (pt_cmpR op_ge (pv 4) (pe_op op_pow pe_int pe_int) (nomark _)) (pw_and1 (pt_cmpR op_lt (pv 3) (pe_callB call_len_seq (by rfl) ml PySem.boot_len (pa_cons (pe_dget hu (pv 0) pe_str (fun _ _ => rfl)) pa_nil)) (nomark _)))))
        (pss_cons (ps_dput hu (pv 0) pe_str (pe_op op_fdiv (pv 4) (pv 1)) rfl) (pss_one (ps_ret (pe_op op_mod (pv 4) (pv 1))))) pss_nil)
      (pss_cons (ps_set (i := 5) scDraw.nd rfl (.inl rfl) (pe_op op_mod (pe_op op_add (pe_op op_add (pe_op op_mod (pv 4) pe_int) (pe_op op_mul pe_int (pe_dget hu (pv 0) pe_str (fun _ _ => rfl)))) pe_int) pe_int))
      (pss_cons (ps_set (i := 5) scDraw.nd rfl (.inl rfl) (pe_op op_mod (pe_op op_add (pe_op op_add (pe_op op_mul (pv 5) (pv 5)) (pe_op op_mul pe_int (pe_dget hu (pv 0) pe_str (fun _ _ => rfl)))) pe_int) pe_int))
      (pss_one (ps_ret (pe_op op_mod (pe_op op_fdiv (pe_op op_mod (pe_op op_add (pe_op op_mul (pv 5) (pv 5)) (pe_op op_mul pe_int (pv 5))) pe_int) pe_int) (pv 1))))))))))), ?_⟩
    have nLF : L ≠ F := ne_of hL hF fun z => nomatch z
    -- count
    refine ⟨.ref F, rfl, F, .int n, rfl, dg_count hF, n, 1, rfl, rfl, .ref F, rfl, F, _, rfl, dp_count hF, ?_⟩
    have hF1 : (upd H F (.dK (feedKvs L a l (n + 1)))) F = some (.dK (feedKvs L a l (n + 1))) := upd_same
    have hL1 : (upd H F (.dK (feedKvs L a l (n + 1)))) L = some (.lst (ns.map V.int)) := by
      rw [upd_ne nLF]
      exact hL
    have k1 : KeepF F H (upd H F (.dK (feedKvs L a l (n + 1)))) := fun b o h e => by
      rw [upd_ne h]
      exact e
    generalize upd H F (.dK (feedKvs L a l (n + 1))) = H1 at hF1 hL1 k1 ⊢
    -- left
    refine ⟨.ref F, rfl, F, .int l, rfl, dg_left hF1, l, 0, rfl, rfl, _, rfl, ite2 (fun e => ?_) (fun e => ?_)⟩
    · refine ⟨.ref F, rfl, F, .int l, rfl, dg_left hF1, .int m, rfl, l, m, rfl, rfl, m1, ?_⟩
      refine ⟨.ref F, rfl, F, .int l, rfl, dg_left hF1, .int m, rfl, l, m, rfl, rfl, ⟨m1, by omega⟩, .ref F, rfl, F, _, rfl, dp_left hF1, ?_⟩
      refine ⟨.int (l % m), rfl, q _ _ (Int.emod_nonneg _ (by omega)) (Int.emod_lt_of_pos _ m1) (k1.trans fun b o h e => ?_) ⟨ns, a, l / m, n + 1, upd_same, ?_⟩⟩
      · rw [upd_ne h]
        exact e
      · rw [upd_ne nLF]
        exact hL1
    · -- at
      refine ⟨.ref F, rfl, F, .int a, rfl, dg_at hF1, ?_⟩
      refine ⟨.int a, rfl, a, 1, rfl, rfl, .ref F, rfl, F, _, rfl, dp_at hF1, ?_⟩
      have hF2 : (upd H1 F (.dK (feedKvs L (a + 1) l (n + 1)))) F = some (.dK (feedKvs L (a + 1) l (n + 1))) := upd_same
      have hL2 : (upd H1 F (.dK (feedKvs L (a + 1) l (n + 1)))) L = some (.lst (ns.map V.int)) := by
        rw [upd_ne nLF]
        exact hL1
      have k2 : KeepF F H (upd H1 F (.dK (feedKvs L (a + 1) l (n + 1)))) := k1.trans fun b o h e => by
        rw [upd_ne h]
        exact e
      generalize upd H1 F (.dK (feedKvs L (a + 1) l (n + 1))) = H2 at hF2 hL2 k2 ⊢
      -- the cell
      dsimp only
      refine iSeq (iAsg ?_)
      refine split_k (fun v H3 => ∃ c, v = .int c ∧ H3 F = some (.dK (feedKvs L (a + 1) l (n + 1))) ∧ H3 L = some (.lst (ns.map V.int)) ∧ KeepF F H H3) (fun Q' hQ' => ?_) (fun v H3 hv => ?_)
      · refine ⟨.ref F, rfl, F, .ref L, rfl, dg_cells hF2, Nat.zero_le _, fun p hp => ?_⟩
        have s3 : Same H2 (upd H2 p (.lst [])) := same_new hp
        have k3 : KeepF F H (upd H2 p (.lst [])) := k2.trans (KeepF.of s3)
        refine ⟨.list (ns.map PyData.int), .list [], .lst (sqL (s3 _ _ hL2)) (dp_ints ns), .lst (sqL upd_same) .nil, shaped_ints ns, shaped_nil, _, rfl, ?_⟩
        cases ns with
        | nil => exact iteF (hQ' _ _ ⟨47, rfl, s3 _ _ hF2, s3 _ _ hL2, k3⟩)
        | cons x ns =>
          refine iteT ?_
          refine ⟨.ref F, rfl, F, .ref L, rfl, dg_cells (s3 _ _ hF2), .int a, rfl, .ref F, rfl, F, .ref L, rfl, dg_cells (s3 _ _ hF2), L, _, rfl, .inl (sqL (s3 _ _ hL2)), a, (((x :: ns).map V.int).length : Int), rfl, rfl, ?_, ?_⟩
          · rw [List.length_map, List.length_cons]
            show (0 : Int) < ((ns.length + 1 : Nat) : Int)
            omega
          · have hlen : (0 : Int) < (((x :: ns).map V.int).length : Int) := by
              rw [List.length_map, List.length_cons]
              omega
            have h0 := Int.emod_nonneg a (show (((x :: ns).map V.int).length : Int) ≠ 0 by omega)
            have h1 := Int.emod_lt_of_pos a hlen
            obtain ⟨jn, ej⟩ : ∃ jn : Nat, a % (((x :: ns).map V.int).length : Int) = (jn : Int) := ⟨(a % (((x :: ns).map V.int).length : Int)).toNat, by omega⟩
            have hj : jn < ((x :: ns).map V.int).length := by omega
            have hjn : jn < (x :: ns).length := by rw [List.length_map] at hj; exact hj
            refine ⟨L, _, _, .int (x :: ns)[jn], rfl, rfl, sqL (s3 _ _ hL2), (by rw [ej]; exact atI_nat (j := jn) (by rw [List.getElem?_map, List.getElem?_eq_getElem hjn]; rfl)), hQ' _ _ ⟨_, rfl, s3 _ _ hF2, s3 _ _ hL2, k3⟩⟩
      · obtain ⟨c, rfl, hF3, hL3, k3⟩ := hv
        -- if cell >= 10 ** 18 and at < len(cells)
        refine iName ?_
        dsimp only
        refine iSeq ?_
        refine split_s (fun σ' H' => σ' = [some (.ref F), some (.int m), none, some (.int a), some (.int c), none] ∧ H' = H3) (fun nx hnx => ?_) (fun σ' H' hx => ?_)
        · refine ⟨.int c, rfl, 10, 18, rfl, rfl, ⟨by decide, by decide, by decide⟩, c, _, rfl, rfl, _, rfl, ite2 (fun e1 => ?_) (fun e1 => ?_)⟩
          · refine ⟨.int a, rfl, .ref F, rfl, F, .ref L, rfl, dg_cells hF3, L, _, rfl, .inl (sqL hL3), a, _, rfl, rfl, _, rfl, ite2 (fun e2 => ?_) (fun e2 => ?_)⟩
            · refine ⟨.int c, rfl, .int m, rfl, c, m, rfl, rfl, ⟨m1, by omega⟩, .ref F, rfl, F, _, rfl, dp_left hF3, ?_⟩
              refine ⟨.int c, rfl, .int m, rfl, c, m, rfl, rfl, m1, q _ _ (Int.emod_nonneg _ (by omega)) (Int.emod_lt_of_pos _ m1) (k3.trans fun b o h e => ?_) ⟨ns, a + 1, c / m, n + 1, upd_same, ?_⟩⟩
              · rw [upd_ne h]
                exact e
              · rw [upd_ne nLF]
                exact hL3
            · exact hnx _ _ ⟨rfl, rfl⟩
          · exact iteF (hnx _ _ ⟨rfl, rfl⟩)
        · obtain ⟨rfl, rfl⟩ := hx
          dsimp only
          -- mixed
          refine ⟨.int c, rfl, c, 1000000447, rfl, rfl, (by decide : (0 : Int) < 1000000447), .ref F, rfl, F, .int (n + 1), rfl, dg_count hF3, 140009, n + 1, rfl, rfl, .inl ⟨by decide, by decide⟩, _, _, rfl, rfl, _, 89, rfl, rfl, _, 2147483423, rfl, rfl, (by decide : (0 : Int) < 2147483423), ?_⟩
          dsimp only
          have b0 := Int.emod_nonneg (c % 1000000447 + 140009 * (n + 1) + 89) (show (2147483423 : Int) ≠ 0 by decide)
          have b1 := Int.emod_lt_of_pos (c % 1000000447 + 140009 * (n + 1) + 89) (show (0 : Int) < 2147483423 by decide)
          generalize (c % 1000000447 + 140009 * (n + 1) + 89) % 2147483423 = x at b0 b1 ⊢
          refine ⟨.int x, rfl, .int x, rfl, x, x, rfl, rfl, .inl ⟨by omega, by omega⟩, .ref F, rfl, F, .int (n + 1), rfl, dg_count hF3, 3600091, n + 1, rfl, rfl, .inl ⟨by decide, by decide⟩, _, _, rfl, rfl, _, 61, rfl, rfl, _, 2147483399, rfl, rfl, (by decide : (0 : Int) < 2147483399), ?_⟩
          dsimp only
          have d0 := Int.emod_nonneg (x * x + 3600091 * (n + 1) + 61) (show (2147483399 : Int) ≠ 0 by decide)
          have d1 := Int.emod_lt_of_pos (x * x + 3600091 * (n + 1) + 61) (show (0 : Int) < 2147483399 by decide)
          generalize (x * x + 3600091 * (n + 1) + 61) % 2147483399 = y at d0 d1 ⊢
          refine ⟨.int y, rfl, .int y, rfl, y, y, rfl, rfl, .inl ⟨by omega, by omega⟩, .int y, rfl, 73, y, rfl, rfl, .inl ⟨by decide, by decide⟩, _, _, rfl, rfl, _, 2147483353, rfl, rfl, (by decide : (0 : Int) < 2147483353), _, 16, rfl, rfl, ⟨by decide, by decide⟩, .int m, rfl, _, m, rfl, rfl, m1, ?_⟩
          exact q _ _ (Int.emod_nonneg _ (by omega)) (Int.emod_lt_of_pos _ m1) k3 ⟨ns, a + 1, l, n + 1, hF3, hL3⟩
end
end P02
namespace P02
open PySem PySem.Spec PyProof.Rows L2 AskG
abbrev sPlaces : Stmt := topS 10
theorem scPlaces : FnScope [] [] (defScope sPlaces) := ⟨rfl, rfl, rfl, by decide +kernel, rfl, by decide +kernel, by decide +kernel⟩
abbrev sTidy : Stmt := topS 11
theorem scTidy : FnScope ["_law_weights", "_law_cell"] ["_law_weights"] (defScope sTidy) := ⟨rfl, rfl, rfl, by decide +kernel, rfl, by decide +kernel, by decide +kernel⟩
abbrev sPlus : Stmt := topS 12
theorem scPlus : FnScope ["_law_one_in", "_law_other_in", "_law_times", "_law_weights", "_law_cell", "_law_weight"] ["_law_one_in", "_law_other_in", "_law_times"] (defScope sPlus) := ⟨rfl, rfl, rfl, by decide +kernel, rfl, by decide +kernel, by decide +kernel⟩
abbrev sSmall : Stmt := topS 13
theorem scSmall : FnScope ["_law_line_here", "_law_pair"] ["_law_line_here"] (defScope sSmall) := ⟨rfl, rfl, rfl, by decide +kernel, rfl, by decide +kernel, by decide +kernel⟩
def places : List Cell := [("a", 0), ("a", 1), ("a", 9), ("b", 0), ("b", 7), ("zzzzzzzz", 9)]
def places7 : List Cell := places ++ [((("b" : Str), 8) : Cell)]
theorem cells_ok : ∀ c ∈ places7, CellOk c := by
  have h : places7.all cellB = true := by decide +kernel
  exact fun c hc => cellOk_of (List.all_eq_true.mp h c hc)
/-- a list of cells, made new -/
def CellsAt (H : Hp) (p : Addr) (cs : List Cell) : Prop := ∃ bs : List Addr, H p = some (.lst (bs.map V.ref)) ∧ Paired (CellAt H) bs cs
section
variable {P : Program} {w : World} {K : PySem.W.Frag} {mg : Str → Option Value} {base : Heap}
def prPlaces : Pr := fun vs H Q => vs = [] ∧ ∀ H' p, Same H H' → H p = none → CellsAt H' p places → Q (.ref p) H'
/-- one cell written out -/
abbrev tCell (x : Str) (n : Int) : TE := tTup (tCons (tC (.str x)) (tCons (tC (.int n)) tNil))
theorem pe_cell {X : Cx} {x : Str} {n : Int} {k1 k2 p1 p2 p3 j} : PE X (.Tuple [.Constant (.str x) k1 p1, .Constant (.int n) k2 p2] j p3) (tCell x n) := pe_tup (pa_cons pe_str (pa_cons pe_int pa_nil))
def tCells : List Cell → TA
  | [] => tNil
  | c :: cs => tCons (tCell c.1 c.2) (tCells cs)
theorem cells_made {σ : L2.St} : ∀ (cs : List Cell) {H : Hp} {Q : List V → Hp → Prop}, (∀ H' bs, Same H H' → Paired (CellAt H') bs cs → Q (bs.map V.ref) H') → tCells cs σ H Q
  | [], H, Q, h => h H [] (Same.refl _) .nil
  | c :: cs, H, Q, h => by
    refine ⟨by show 2 ≤ sizeLine; decide, fun p hp => ?_⟩
    have s1 : Same H (upd H p (.tup [.str c.1, .int c.2])) := same_new hp
    refine cells_made cs fun H' bs sm hb => h H' (p :: bs) (s1.trans sm) (.cons (sm _ _ upd_same) hb)
theorem ok_places {f : Addr} {fd : FuncData} {k : Nat} (F : Fun K "_law_places" "_law_places" sPlaces f fd) : FnG P w K mg base (k + 1) f fd [] prPlaces := by
  refine okG F scPlaces (fun vs H Q h => ?_) (fun cdv A outer s H vs Q hr h => ?_)
  · rw [h.1]
    rfl
  · obtain ⟨rfl, q⟩ := h
    refine ⟨_, pss_one (ps_ret (pe_lst (pa_cons pe_cell (pa_cons pe_cell (pa_cons pe_cell (pa_cons pe_cell (pa_cons pe_cell (pa_cons pe_cell pa_nil)))))))), ?_⟩
    refine cells_made (σ := start [] []) places fun H' bs sm hb => ?_
    refine ⟨by rw [List.length_map, Paired.length hb]; show 6 ≤ sizeLine; decide, fun p hp => ?_⟩
    refine q _ p (sm.trans (same_new hp)) (sm.free hp) ⟨bs, upd_same, Paired.mapP hb fun _ _ z => z.keep (KeepT.new hp)⟩
/-! ### tidy -/
def prTidy : Pr := fun vs H Q => ∃ (D : Addr) (m : RowD), vs = [.ref D] ∧ H D = some (.dT (dk m)) ∧ (keys m).Nodup ∧ m.length ≤ 1000 ∧ ∀ H' p, Same H H' → RowAt H' p (tidy m) → Q (.ref p) H'
theorem ok_tidyF {f : Addr} {fd : FuncData} {k : Nat} (F : Fun K "_law_tidy" "_law_tidy" sTidy f fd) (ms : mg "sorted" = none) (mt : mg "tuple" = none) : FnG P w K mg base (k + 1) f fd ["_law_weights"] prTidy := by
  refine okG F scTidy (fun vs H Q h => ?_) (fun cdv A outer s H vs Q hr h => ?_)
  · obtain ⟨_, _, rfl, _⟩ := h
    rfl
  · obtain ⟨D, m, rfl, hD, n, hz, q⟩ := h
    have hu := hu_of hr.room
    refine ⟨_, pss_one (ps_ret (pe_callTy call_tuple_of (by rfl) mt (by decide +kernel) (pa_cons (pe_lc (own := [("_law_cell", 1)]) (g := gName 1) rfl scTidy.nd
          (pi_list (pe_callB (cr_sortT rfl) (by rfl) ms (by decide +kernel) (pa_cons (pv 0) pa_nil)))
          (blkOk_by (N := ["_law_weights", "_law_cell"]) (sc := defScope sTidy) (by decide +kernel)) (fun _ _ _ _ _ => pg_name (i := 1) scTidy.nd rfl (.inl rfl))
          (fun _ _ _ _ _ => pts_one (pt_cmpR op_ne (pe_dget hu (pv 0) (pv 1) (fun _ _ => rfl)) pe_int (nomark _)))
          (fun _ _ _ _ _ => pe_tup (pa_cons (pv 1) (pa_cons (pe_dget hu (pv 0) (pv 1) (fun _ _ => rfl)) pa_nil)))) pa_nil))), ?_⟩
    refine iRet (iCB (iCons ?_))
    refine lc_tidy (K := K) (iw := 0) (ic := 1) (D := D) (m := m) rfl (by decide) (by show 1 < 2; decide) hD n hz fun H' L ps sm hL hps hpp => ?_
    exact ⟨L, _, rfl, .inl ⟨sqL hps, fun p hp => q _ p (sm.trans (same_new hp)) (row_of_list (L := L) hp hpp)⟩⟩
/-! ### plus -/
def prPlus : Pr := fun vs H Q => ∃ (a b : Addr) (ρ π : RowD) (t : Int), vs = [.ref a, .ref b, .int t] ∧ RowAt H a ρ ∧ RowAt H b π ∧ ρ.length ≤ 100 ∧ π.length ≤ 100 ∧ -(2 ^ 64) < t ∧ t < 2 ^ 64 ∧
  ∀ H' p, Same H H' → RowAt H' p (addR ρ π t) → Q (.ref p) H'
theorem pairs_dict {H : Hp} : ∀ {ps : List Addr} {ρ : RowD}, Paired (PairRow H) ps ρ → Paired (PairAt' K H) ps (dk ρ)
  | _, _, .nil => .nil
  | _, _, .cons h t => by
    obtain ⟨b, h1, h2⟩ := h
    exact .cons ⟨b, sqT h1, h2⟩ (pairs_dict t)
theorem putAll_dk : ∀ (ρ m : RowD), putAll (dk m) (dk ρ) = dk (ρ.foldl (fun m x => putC m x.1 x.2) m)
  | [], _ => rfl
  | x :: ρ, m => by
    show putAll (putK (dk m) (ck x.1) (.int x.2)) (dk ρ) = _
    rw [dk_put]
    exact putAll_dk ρ _
theorem ok_plus {f fT : Addr} {fd fdT : FuncData} {k : Nat} (F : Fun K "_law_plus" "_law_plus" sPlus f fd) (FT : Fun K "_law_tidy" "_law_tidy" sTidy fT fdT) (bT : Binds K fdT ["_law_weights"] []) (gT : mg "_law_tidy" = some (.ref fT))
    (ms : mg "sorted" = none) (mt : mg "tuple" = none) (md : mg "dict" = none) (ml : mg "list" = none) : FnG P w K mg base (k + 2) f fd ["_law_one_in", "_law_other_in", "_law_times"] prPlus := by
  have GT : FnG P w K mg base (k + 1) fT fdT ["_law_weights"] prTidy := ok_tidyF FT ms mt
  refine okG F scPlus (fun vs H Q h => ?_) (fun cdv A outer s H vs Q hr h => ?_)
  · obtain ⟨_, _, _, _, _, rfl, _⟩ := h
    rfl
  · obtain ⟨a, b, ρ, π, t, rfl, hA, hB, lA, lB, t1, t2, q⟩ := h
    have hu := hu_of hr.room
    refine ⟨_, pss_cons (ps_set (i := 3) scPlus.nd rfl (.inl rfl) (pe_callTy (call_dictT rfl hr.room) (by rfl) md (by decide +kernel) (pa_cons (pe_callTy call_list_of (by rfl) ml (by decide +kernel) (pa_cons (pv 0) pa_nil)) pa_nil)))
      (pss_cons (ps_for PassesOwn.never rfl (pi_tup (pv 1)) (pg_tup rfl (pgs_cons (pg_name (i := 4) scPlus.nd rfl (.inl rfl)) (pgs_cons (pg_name (i := 5) scPlus.nd rfl (.inl rfl)) pgs_nil)))
        (pss_one (ps_dput hu (pv 3) (pv 4) (pe_op op_add (pe_dget2 hu (pv 3) (pv 4) pe_int ⟨rfl, rfl, rfl, rfl⟩) (pe_op op_mul (pv 2) (pv 5))) rfl)))
      (pss_one (ps_ret (pe_g GT hr (by rfl) gT FT.kp bT .nil (pa_cons (pv 3) pa_nil))))), ?_⟩
    obtain ⟨ps, hr1, hp⟩ := hA
    refine ⟨.ref a, rfl, a, _, rfl, .inr (sqT hr1), fun l hl => ?_⟩
    have s1 : Same H (upd H l (.lst (ps.map V.ref))) := same_new hl
    refine ⟨l, ps, dk ρ, rfl, sqL upd_same, pairs_dict (Paired.mapP hp fun _ _ z => z.keep (KeepT.of s1)), fun D hD => ?_⟩
    have ed : putAll [] (dk ρ) = dk (ofRow ρ) := putAll_dk ρ []
    rw [ed]
    have s2 : Same (upd H l (.lst (ps.map V.ref))) (upd (upd H l (.lst (ps.map V.ref))) D (.dT (dk (ofRow ρ)))) := same_new hD
    have lo := ofRow_length ρ
    refine iName ?_
    dsimp only
    refine iSeq ?_
    refine for_add (K := K) (σ := [some (.ref a), some (.ref b), some (.int t), some (.ref D), none, none]) (io := 1) (iw := 3) (a := 4) (b := 5) (r := b) (Dd := D) (π := π) (m := ofRow ρ) (t := t) rfl rfl (by decide) (by decide) (by simp) (by simp) (by decide) (hB.keep (KeepT.of (s1.trans s2))) upd_same (by omega)
      (fun σ' H' c w m' bb Q hmem hj ha hb hD' hc hq => ?_) (fun σ' hj hl => ?_)
    · refine ⟨.ref D, hj 3 (by decide) (by decide), D, rfl, .inr ⟨_, .inl hD'⟩, .ref bb, ha, _, dget_of hD' hc, .int t, hj 2 (by decide) (by decide), .int w, hb, t, w, rfl, rfl, .inl ⟨t1, t2⟩, get0 m' c, t * w, ?_, rfl, hq⟩
      show ((getO m' c).map V.int).getD (.int 0) = .int (get0 m' c)
      unfold get0
      cases getO m' c <;> rfl
    · rw [upd_upd]
      have n := addF_nodup (ofRow_nodup ρ) π t
      have al := addF_length (ofRow ρ) π t
      refine ⟨.ref D, hj 3 (by decide) (by decide), D, addF (ofRow ρ) π t, rfl, upd_same, n, by omega, fun H' p sm hp => q H' p (fun c o e => ?_) hp⟩
      refine sm _ _ ?_
      have e1 := s1 _ _ e
      rw [upd_ne (ne_of_none e1 hD)]
      exact e1
end
end P02
namespace P02
open PySem PySem.Spec PyProof.Rows L2 AskG
abbrev sLine : Stmt := topS 14
theorem scLine : FnScope ["_law_feed_here", "_law_weights", "_law_cell"] ["_law_feed_here"] (defScope sLine) := ⟨rfl, rfl, rfl, by decide +kernel, rfl, by decide +kernel, by decide +kernel⟩
abbrev sFacts : Stmt := topS 18
theorem scFacts : FnScope ["_law_feed_here", "_law_weights", "_law_cell"] ["_law_feed_here"] (defScope sFacts) := ⟨rfl, rfl, rfl, by decide +kernel, rfl, by decide +kernel, by decide +kernel⟩
theorem log_small {x : Int} (h1 : -(2 ^ 200) < x) (h2 : x < 2 ^ 200) : x.natAbs.log2 < 1920 := by
  by_cases e : x.natAbs = 0
  · rw [e]
    decide
  · have : x.natAbs < 2 ^ 200 := by omega
    have := (Nat.log2_lt e).mpr this
    omega
theorem DrawnR.row {cs : List Cell} {B : Int} {ρ : RowD} (h : DrawnR cs B ρ) (hl : cs.length ≤ 40) (hc : ∀ c ∈ cs, CellOk c) (e : B ≤ 2 ^ 64) : RowOk ρ :=
  ⟨by have := h.many; omega, fun x hx => hc _ (h.on _ (List.mem_map_of_mem hx)), fun x hx => by
    have := h.at' hx
    have b : (2 : Int) ^ 64 < 2 ^ 200 := by decide
    exact log_small (by omega) (by omega)⟩
section
variable {P : Program} {w : World} {K : PySem.W.Frag} {mg : Str → Option Value} {base : Heap}
def prSmall : Pr := fun vs H Q => ∃ (a : Addr) (ρ : RowD), vs = [.ref a] ∧ RowAt H a ρ ∧ ρ.length ≤ 100 ∧ (∀ x ∈ ρ, CellOk x.1) ∧ ∀ b H', Same H H' → Q (.bl b) H'
theorem ok_small {f : Addr} {fd : FuncData} {k : Nat} (F : Fun K "_law_small" "_law_small" sSmall f fd) : FnG P w K mg base (k + 1) f fd ["_law_line_here"] prSmall := by
  refine okG F scSmall (fun vs H Q h => ?_) (fun cdv A outer s H vs Q hr h => ?_)
  · obtain ⟨_, _, rfl, _⟩ := h
    rfl
  · obtain ⟨a, ρ, rfl, ⟨qs, hr1, hp⟩, lA, hc, q⟩ := h
    refine ⟨_, pss_one (ps_ret (pe_cmpR (op_eqD hr.room.units) (pe_lc (own := [("_law_pair", 1)]) (g := gName 1) rfl scSmall.nd (pi_tup (pv 0))
      (blkOk_by (N := ["_law_line_here", "_law_pair"]) (sc := defScope sSmall) (by decide +kernel)) (fun _ _ _ _ _ => pg_name (i := 1) scSmall.nd rfl (.inl rfl))
      (fun _ _ _ _ _ => pts_one (pt_not (pt_chain op_lt op_lt (pe_un un_neg pe_int) (pe_ix (ix_tup : IxR _ (rIxT K)) (pv 1) pe_int (fun _ _ => rfl)) pe_int)))
      (fun _ _ _ _ _ => pv 1)) (pe_lst pa_nil) (nomark _))), ?_⟩
    refine iRet (iOp ?_)
    refine lc_pairsT (K := K) (i := 0) (a := 1) (σ := [some (.ref a), none]) (fun x => !(decide (-4 < x.2) && decide (x.2 < 4))) rfl hr1 hp (by show 1 < 2; decide) (by omega) (fun σ' H' p x Q _ sm hp hj hx hq => ?_) (fun H' L ps sm hL hps hpp => ?_)
    · obtain ⟨b, h1, h2⟩ := hx
      refine ⟨4, rfl, .ref p, hp, p, _, 1, .int x.2, rfl, rfl, sqT h1, atI_nat (j := 1) rfl, -4, x.2, rfl, rfl, decide (-4 < x.2), rfl, ?_⟩
      by_cases e : -4 < x.2
      · rw [decide_eq_true e]
        refine iteT ⟨x.2, 4, rfl, rfl, _, rfl, ?_⟩
        have := hq H' (Same.refl _)
        rw [decide_eq_true e, Bool.true_and] at this
        exact this
      · rw [decide_eq_false e]
        refine iteF ⟨_, rfl, ?_⟩
        have := hq H' (Same.refl _)
        rw [decide_eq_false e, Bool.false_and] at this
        exact this
    · refine ⟨Nat.zero_le _, fun p hp => ?_⟩
      have s2 : Same H' (upd H' p (.lst [])) := same_new hp
      refine ⟨.list ((ρ.filter fun x => !(decide (-4 < x.2) && decide (x.2 < 4))).map AskG.pairD), .list [], .lst (sqL (s2 _ _ hps)) (dp_all (f := AskG.pairD) (R := PairRow _) (fun _ _ z => dp_pair z) (Paired.mapP hpp fun _ _ z => z.keep (KeepT.of s2))), .lst (sqL upd_same) .nil, shaped_pairs fun x hx => hc x (List.mem_filter.mp hx).1, shaped_nil, q _ _ (sm.trans s2)⟩
/-! ### dicts filled by draws -/
theorem for_fill {iw ic : Nat} {σ : L2.St} {H : Hp} {Dn : Ends} {Dd F L p : Addr} {cs : List Cell} {B : Int} {tv : TE}
    (hiw : σ[iw]? = some (some (.ref Dd))) (wc : iw ≠ ic) (hc : ic < σ.length) (C : CellsAt H p cs) (n : cs.Nodup) (hz : cs.length ≤ 100) (hD : H Dd = some (.dT [])) (hF : FeedAt H F L)
    (htv : ∀ (σ' : L2.St) (H' : Hp) (Q : VK), (∀ j, j ≠ ic → σ'[j]? = σ[j]?) → FeedAt H' F L → (∀ x H'', -B ≤ x → x ≤ B → KeepF F H' H'' → FeedAt H'' F L → Q (.int x) H'') → tv σ' H' Q)
    (q : ∀ σ' H' m, (∀ j, j ≠ ic → σ'[j]? = σ[j]?) → (∀ b o, b ≠ F → b ≠ Dd → H b = some o → H' b = some o) → FeedAt H' F L → H' Dd = some (.dT (dk m)) → keys m = cs → (∀ x ∈ m, -B ≤ x.2 ∧ x.2 ≤ B) → Dn.nx σ' H') :
    ∃ W : Nat → Nat → L2.St → Hp → Prop, (∃ m, W 0 m σ H) ∧ ∀ i m σ H, W i m σ H →
      ((Itl K p).stop i H ∧ Dn.nx σ H) ∨ ((Itl K p).go i H ∧ ∃ N : L2.St → Hp → Prop, (∀ σ' H', N σ' H' → ∃ m', m' < m ∧ W (i + 1) m' σ' H') ∧ ∀ x H', (Itl K p).yld i H x H' → gName ic x σ H' fun σ2 H2 => sDPut (tVar iw) (tVar ic) tv { Dn with nx := N, ct := N, bk := Dn.nx } σ2 H2) := by
  obtain ⟨bs, hp, hb⟩ := C
  have nDF : Dd ≠ F := by
    obtain ⟨_, _, _, _, h, _⟩ := hF
    exact ne_of hD h fun z => nomatch z
  have npF : p ≠ F := by
    obtain ⟨_, _, _, _, h, _⟩ := hF
    exact ne_of hp h fun z => nomatch z
  have npD : p ≠ Dd := ne_of hp hD fun z => nomatch z
  refine for_list (K := K) (a := p) (xs := bs.map V.ref) (fun i σ' H' => (∀ j, j ≠ ic → σ'[j]? = σ[j]?) ∧ σ'.length = σ.length ∧ (∀ b o, b ≠ F → b ≠ Dd → H b = some o → H' b = some o) ∧ FeedAt H' F L ∧
      ∃ m, H' Dd = some (.dT (dk m)) ∧ keys m = cs.take i ∧ ∀ x ∈ m, -B ≤ x.2 ∧ x.2 ≤ B)
    ⟨fun _ _ => rfl, rfl, fun _ _ _ _ e => e, hF, [], hD, rfl, fun x hx => absurd hx (by simp)⟩ (fun i σ' H' _ h => sqL (h.2.2.1 _ _ npF npD hp)) (fun i x σ' H' hx h => ?_) (fun σ' H' h => ?_)
  · obtain ⟨hj, hl, kp, hF', m, hD', hm, hB⟩ := h
    rw [List.getElem?_map] at hx
    cases hbi : bs[i]? with
    | none =>
      rw [hbi] at hx
      cases hx
    | some b =>
      rw [hbi] at hx
      have ex : V.ref b = x := Option.some.inj hx
      subst ex
      obtain ⟨c, hci, hcb⟩ := paired_at' hb hbi
      have hj' : ∀ j, j ≠ ic → (σ'.set ic (some (.ref b)))[j]? = σ[j]? := fun j h => by
        rw [List.getElem?_set_ne (fun e => h e.symm)]
        exact hj j h
      refine htv _ _ _ hj' hF' fun y H2 y1 y2 k2 hF2 => ?_
      have kt2 : KeepT H' H2 := k2.tup hF'
      have hcb2 : CellAt H2 b c := by
        have nbF : b ≠ F := by
          obtain ⟨_, _, _, _, h, _⟩ := hF
          exact ne_of hcb h fun z => nomatch z
        exact kt2 _ _ (kp _ _ nbF (ne_of hcb hD fun z => nomatch z) hcb)
      have hD2 : H2 Dd = some (.dT (dk m)) := k2 _ _ nDF hD'
      have nc : c ∉ keys m := by
        rw [hm]
        intro hc'
        have i1 : i < cs.length := (List.getElem?_eq_some_iff.mp hci).1
        have n2 := n
        rw [← List.take_append_drop i cs, List.drop_eq_getElem_cons i1] at n2
        have e2 : cs[i] = c := (List.getElem?_eq_some_iff.mp hci).2
        exact (List.nodup_append.mp n2).2.2 c hc' c (by rw [e2]; exact List.mem_cons_self) rfl
      have ml : m.length ≤ 100 := by
        have := congrArg List.length hm
        unfold keys at this
        rw [List.length_map, List.length_take] at this
        omega
      have big := sizeBig
      refine ⟨.ref Dd, by rw [hj' iw wc]; exact hiw, .ref b, List.getElem?_set_self (by rw [hl]; exact hc), Dd, _, rfl, DPut.t (k := ck c) hD2 (by rw [ck_kV]; exact hcb2) (by rw [dk_length]; omega), ?_⟩
      refine ⟨hj', by rw [List.length_set]; exact hl, fun b' o' h1 h2 e => ?_, ?_, putC m c y, ?_, ?_, fun x hx => ?_⟩
      · rw [upd_ne h2]
        exact k2 _ _ h1 (kp _ _ h1 h2 e)
      · obtain ⟨ns, a, l, n', h1, h2⟩ := hF2
        refine ⟨ns, a, l, n', ?_, ?_⟩
        · rw [upd_ne nDF.symm]
          exact h1
        · rw [upd_ne (ne_of h2 hD2 fun z => nomatch z)]
          exact h2
      · rw [upd_same, dk_put]
      · rw [keys_put, if_neg nc, hm, List.take_add_one, hci]
        rfl
      · rcases mem_put hx with h | h
        · exact hB x h
        · rw [h]
          exact ⟨y1, y2⟩
  · obtain ⟨hj, hl, kp, hF', m, hD', hm, hB⟩ := h
    have e : cs.take (bs.map V.ref).length = cs := List.take_of_length_le (by rw [List.length_map, Paired.length hb]; exact Nat.le_refl _)
    rw [e] at hm
    exact q σ' H' m hj kp hF' hD' hm hB

theorem cells_nodup : places.Nodup := by decide +kernel
theorem cells7_nodup : places7.Nodup := by decide +kernel
def prLine (cs : List Cell) (B : Int) : Pr := fun vs H Q => ∃ F L, vs = [.ref F] ∧ FeedAt H F L ∧ ∀ H' p ρ, KeepF F H H' → FeedAt H' F L → RowAt H' p ρ → DrawnR cs B ρ → Q (.ref p) H'
theorem at_int (l : List Int) {d : Int} (h0 : 0 ≤ d) (h1 : d < (l.length : Int)) : ∃ x, x ∈ l ∧ atI (l.map V.int) d = some (.int x) := by
  obtain ⟨n, rfl⟩ : ∃ n : Nat, d = (n : Int) := ⟨d.toNat, by omega⟩
  have hn : n < l.length := by omega
  refine ⟨l[n], List.getElem_mem hn, atI_nat (j := n) ?_⟩
  rw [List.getElem?_map, List.getElem?_eq_getElem hn]
  rfl
section
variable {fP fD fT : Addr} {fdP fdD fdT : FuncData}
theorem ok_line {f : Addr} {fd : FuncData} {k : Nat} (F : Fun K "_law_line" "_law_line" sLine f fd)
    (FP : Fun K "_law_places" "_law_places" sPlaces fP fdP) (bP : Binds K fdP [] []) (gP : mg "_law_places" = some (.ref fP))
    (FD : Fun K "_law_draw" "_law_draw" sDraw fD fdD) (bD : Binds K fdD ["_law_feed_here", "_law_many"] []) (gD : mg "_law_draw" = some (.ref fD))
    (FT : Fun K "_law_tidy" "_law_tidy" sTidy fT fdT) (bT : Binds K fdT ["_law_weights"] []) (gT : mg "_law_tidy" = some (.ref fT))
    (ms : mg "sorted" = none) (mt : mg "tuple" = none) (ml : mg "len" = none) : FnG P w K mg base (k + 2) f fd ["_law_feed_here"] (prLine places 3) := by
  have GP : FnG P w K mg base (k + 1) fP fdP [] prPlaces := ok_places FP
  have GD : FnG P w K mg base (k + 1) fD fdD ["_law_feed_here", "_law_many"] prDraw := ok_draw FD ml
  have GT : FnG P w K mg base (k + 1) fT fdT ["_law_weights"] prTidy := ok_tidyF FT ms mt
  refine okG F scLine (fun vs H Q h => ?_) (fun cdv A outer s H vs Q hr h => ?_)
  · obtain ⟨_, _, rfl, _⟩ := h
    rfl
  · obtain ⟨F, L, rfl, hF, q⟩ := h
    have hu := hu_of hr.room
    refine ⟨_, pss_cons (ps_set (i := 1) scLine.nd rfl (.inl rfl) pe_dnewT)
      (pss_cons (ps_for PassesOwn.never rfl (pi_list (pe_g0 GP hr (by rfl) gP FP.kp bP .nil)) (pg_name (i := 2) scLine.nd rfl (.inl rfl))
        (pss_one (ps_dput hu (pv 1) (pv 2) (pe_ix ix_list (pe_lst (pa_cons pe_int (pa_cons pe_int (pa_cons pe_int (pa_cons pe_int (pa_cons pe_int (pa_cons pe_int (pa_cons (pe_un un_neg pe_int) (pa_cons pe_int (pa_cons (pe_un un_neg pe_int) (pa_cons pe_int (pa_cons (pe_un un_neg pe_int) pa_nil))))))))))))
          (pe_g GD hr (by rfl) gD FD.kp bD .nil (pa_cons (pv 0) (pa_cons pe_int pa_nil))) (fun _ _ => rfl)) rfl)))
      (pss_one (ps_ret (pe_g GT hr (by rfl) gT FT.kp bT .nil (pa_cons (pv 1) pa_nil))))), ?_⟩
    refine iSeq (iAsg (fun D hD => ?_))
    have s1 : Same H (upd H D (.dT [])) := same_new hD
    refine iName ?_
    dsimp only
    refine iSeq ?_
    refine ⟨rfl, fun H2 p s2 hp hC => ⟨p, rfl, ⟨_, sqL hC.choose_spec.1⟩, ?_⟩⟩
    have hF2 : FeedAt H2 F L := (hF.same s1).same s2
    refine for_fill (K := K) (iw := 1) (ic := 2) (σ := [some (.ref F), some (.ref D), none]) (H := H2) (Dd := D) (F := F) (B := 3) rfl (by decide) (by show 2 < 3; decide) hC cells_nodup (by decide) (s2 _ _ upd_same) hF2 (fun σ' H' Q' hj hF' hq => ?_) (fun σ' H' m hj kp hF' hD' hm hB => ?_)
    · refine ⟨1, rfl, 2, rfl, 3, rfl, by show 11 ≤ sizeLine; decide, fun t ht => ?_⟩
      have s3 : Same H' (upd H' t (.lst ([0, 0, 0, 0, 1, 1, -1, 2, -2, 3, -3].map V.int))) := same_new ht
      refine ⟨.ref F, hj 0 (by decide), F, L, 11, rfl, hF'.same s3, by decide, by decide, fun d H4 d0 d1 k4 hF4 => ?_⟩
      obtain ⟨x, hx, hat⟩ := at_int [0, 0, 0, 0, 1, 1, -1, 2, -2, 3, -3] d0 d1
      have ntF : t ≠ F := by
        obtain ⟨_, _, _, _, h, _⟩ := hF'
        exact (ne_of_none h ht).symm
      refine ⟨t, _, d, .int x, rfl, rfl, sqL (k4 _ _ ntF upd_same), hat, hq x H4 ?_ ?_ ((KeepF.of s3).trans k4) hF4⟩
      · simp at hx
        omega
      · simp at hx
        omega
    · refine ⟨.ref D, hj 1 (by decide), D, m, rfl, hD', by rw [hm]; exact cells_nodup, ?_, fun H5 r sm hr => q H5 r _ (fun b o hb e => ?_) (hF'.same sm) hr (drawn_tidy hm cells_nodup (by decide) hB)⟩
      · have := congrArg List.length hm
        unfold keys at this
        rw [List.length_map] at this
        rw [this]
        decide
      · exact sm _ _ (kp _ _ hb (ne_of_none e hD) (s2 _ _ (s1 _ _ e)))
theorem ok_facts {f : Addr} {fd : FuncData} {k : Nat} (F : Fun K "_law_facts" "_law_facts" sFacts f fd)
    (FP : Fun K "_law_places" "_law_places" sPlaces fP fdP) (bP : Binds K fdP [] []) (gP : mg "_law_places" = some (.ref fP))
    (FD : Fun K "_law_draw" "_law_draw" sDraw fD fdD) (bD : Binds K fdD ["_law_feed_here", "_law_many"] []) (gD : mg "_law_draw" = some (.ref fD))
    (FT : Fun K "_law_tidy" "_law_tidy" sTidy fT fdT) (bT : Binds K fdT ["_law_weights"] []) (gT : mg "_law_tidy" = some (.ref fT))
    (ms : mg "sorted" = none) (mt : mg "tuple" = none) (ml : mg "len" = none) : FnG P w K mg base (k + 2) f fd ["_law_feed_here"] (prLine places7 1000000) := by
  have GP : FnG P w K mg base (k + 1) fP fdP [] prPlaces := ok_places FP
  have GD : FnG P w K mg base (k + 1) fD fdD ["_law_feed_here", "_law_many"] prDraw := ok_draw FD ml
  have GT : FnG P w K mg base (k + 1) fT fdT ["_law_weights"] prTidy := ok_tidyF FT ms mt
  refine okG F scFacts (fun vs H Q h => ?_) (fun cdv A outer s H vs Q hr h => ?_)
  · obtain ⟨_, _, rfl, _⟩ := h
    rfl
  · obtain ⟨F, L, rfl, hF, q⟩ := h
    have hu := hu_of hr.room
    refine ⟨_, pss_cons (ps_set (i := 1) scFacts.nd rfl (.inl rfl) pe_dnewT)
      (pss_cons (ps_for PassesOwn.never rfl (pi_list (pe_op op_cat (pe_g0 GP hr (by rfl) gP FP.kp bP .nil) (pe_lst (pa_cons pe_cell pa_nil)))) (pg_name (i := 2) scFacts.nd rfl (.inl rfl))
        (pss_one (ps_dput hu (pv 1) (pv 2) (pe_ix ix_list (pe_lst (pa_cons pe_int (pa_cons pe_int (pa_cons pe_int (pa_cons (pe_un un_neg pe_int) (pa_cons pe_int (pa_cons (pe_un un_neg pe_int) (pa_cons pe_int (pa_cons (pe_un un_neg pe_int) pa_nil)))))))))
          (pe_g GD hr (by rfl) gD FD.kp bD .nil (pa_cons (pv 0) (pa_cons pe_int pa_nil))) (fun _ _ => rfl)) rfl)))
      (pss_one (ps_ret (pe_g GT hr (by rfl) gT FT.kp bT .nil (pa_cons (pv 1) pa_nil))))), ?_⟩
    refine iSeq (iAsg (fun D hD => ?_))
    have s1 : Same H (upd H D (.dT [])) := same_new hD
    refine iName ?_
    dsimp only
    refine iSeq ?_
    refine ⟨rfl, fun H2 p s2 hp hC => ?_⟩
    obtain ⟨bs, hbs, hbp⟩ := hC
    refine ⟨by show 2 ≤ sizeLine; decide, fun b hb => ⟨by show 1 ≤ sizeLine; decide, fun r hr' => ?_⟩⟩
    have s3 : Same H2 (upd H2 b (.tup [.str "b", .int 8])) := same_new hb
    have s4 : Same (upd H2 b (.tup [.str "b", .int 8])) (upd (upd H2 b (.tup [.str "b", .int 8])) r (.lst [.ref b])) := same_new hr'
    have hl6 : bs.length = 6 := Paired.length hbp
    refine ⟨p, r, _, _, rfl, rfl, s4 _ _ (s3 _ _ hbs), upd_same, ?_, fun t ht => ?_⟩
    · rw [List.length_map, hl6]
      show 6 + 1 ≤ sizeLine
      decide
    have s5 : Same (upd (upd H2 b (.tup [.str "b", .int 8])) r (.lst [.ref b])) (upd (upd (upd H2 b (.tup [.str "b", .int 8])) r (.lst [.ref b])) t (.lst (bs.map V.ref ++ [.ref b]))) := same_new ht
    have s25 := (s3.trans s4).trans s5
    have hC : CellsAt (upd (upd (upd H2 b (.tup [.str "b", .int 8])) r (.lst [.ref b])) t (.lst (bs.map V.ref ++ [.ref b]))) t places7 := by
      refine ⟨bs ++ [b], ?_, Paired.snoc (Paired.mapP hbp fun _ _ z => z.keep (KeepT.of s25)) ?_⟩
      · rw [upd_same, List.map_append]
        rfl
      · exact s5 _ _ (s4 _ _ upd_same)
    generalize upd (upd (upd H2 b (.tup [.str "b", .int 8])) r (.lst [.ref b])) t (.lst (bs.map V.ref ++ [.ref b])) = H3 at s25 hC ⊢
    refine ⟨t, rfl, ⟨_, sqL hC.choose_spec.1⟩, ?_⟩
    have hF2 : FeedAt H3 F L := ((hF.same s1).same s2).same s25
    refine for_fill (K := K) (iw := 1) (ic := 2) (σ := [some (.ref F), some (.ref D), none]) (H := H3) (Dd := D) (F := F) (B := 1000000) rfl (by decide) (by show 2 < 3; decide) hC cells7_nodup (by decide) (s25 _ _ (s2 _ _ upd_same)) hF2 (fun σ' H' Q' hj hF' hq => ?_) (fun σ' H' m hj kp hF' hD' hm hB => ?_)
    · refine ⟨1, rfl, 7, rfl, 1000000, rfl, by show 8 ≤ sizeLine; decide, fun t ht => ?_⟩
      have s3 : Same H' (upd H' t (.lst ([0, 0, 1, -1, 5, -7, 999999, -1000000].map V.int))) := same_new ht
      refine ⟨.ref F, hj 0 (by decide), F, L, 8, rfl, hF'.same s3, by decide, by decide, fun d H4 d0 d1 k4 hF4 => ?_⟩
      obtain ⟨x, hx, hat⟩ := at_int [0, 0, 1, -1, 5, -7, 999999, -1000000] d0 d1
      have ntF : t ≠ F := by
        obtain ⟨_, _, _, _, h, _⟩ := hF'
        exact (ne_of_none h ht).symm
      refine ⟨t, _, d, .int x, rfl, rfl, sqL (k4 _ _ ntF upd_same), hat, hq x H4 ?_ ?_ ((KeepF.of s3).trans k4) hF4⟩
      · simp at hx
        omega
      · simp at hx
        omega
    · refine ⟨.ref D, hj 1 (by decide), D, m, rfl, hD', by rw [hm]; exact cells7_nodup, ?_, fun H5 r sm hr => q H5 r _ (fun b o hb e => ?_) (hF'.same sm) hr (drawn_tidy hm cells7_nodup (by decide) hB)⟩
      · have := congrArg List.length hm
        unfold keys at this
        rw [List.length_map] at this
        rw [this]
        decide
      · exact sm _ _ (kp _ _ hb (ne_of_none e hD) (s25 _ _ (s2 _ _ (s1 _ _ e))))
end
end
end P02
namespace P02
open PySem PySem.Spec PyProof.Rows L2 AskG
abbrev sSys : Stmt := topS 15
theorem scSys : FnScope ["_law_feed_here", "_law_most", "_law_found", "_law_k", "_law_way", "_law_fresh"] ["_law_feed_here", "_law_most"] (defScope sSys) := ⟨rfl, rfl, rfl, by decide +kernel, rfl, by decide +kernel, by decide +kernel⟩
theorem shaped_rows {ρs : List RowD} (h : ∀ ρ ∈ ρs, ∀ x ∈ ρ, CellOk x.1) : SeqAt.shaped (.list (ρs.map rowPD)) = true := by
  have h1 : PyData.canLayAll0 (ρs.map rowPD) = true := can_all fun ρ hρ => by
    show PyData.canLayAll0 (ρ.map AskG.pairD) = true
    refine can_all fun x hx => ?_
    show (((PyData.strOk x.1.1) && (true && true)) && (true && true)) = true
    rw [(h ρ hρ x hx).ok]
    rfl
  have h2 : PyData.depthAll (ρs.map rowPD) ≤ 3 := depth_all fun ρ _ => by
    show PyData.depthAll (ρ.map AskG.pairD) + 1 ≤ 3
    have : PyData.depthAll (ρ.map AskG.pairD) ≤ 2 := depth_all fun x _ => by
      show max (max 0 (max 0 0) + 1) (max 0 0) + 1 ≤ 2
      decide
    omega
  show (PyData.canLayAll0 (ρs.map rowPD) && decide (PyData.depthAll (ρs.map rowPD) + 1 ≤ 64)) = true
  rw [h1, decide_eq_true (by omega)]
  rfl
theorem atI_neg {α : Type} {xs : List α} {k : Nat} {v : α} (h1 : 1 ≤ k) (h2 : k ≤ xs.length) (h : xs[xs.length - k]? = some v) : atI xs (-(k : Int)) = some v := by
  unfold atI
  have e : ixN xs.length (-(k : Int)) = some (xs.length - k) := by
    unfold ixN
    rw [if_neg (by omega), if_pos (by omega)]
    congr 1
    omega
  rw [e]
  exact h
/-- the state within a turn: all but the feed stays, the found rows stand -/
structure Mid (H0 : Hp) (F L Lf : Addr) (rs : List Addr) (ρs : List RowD) (H : Hp) : Prop where
  keep : KeepF F H0 H
  feed : FeedAt H F L
  apart : L ≠ Lf
  list : H Lf = some (.lst (rs.map V.ref))
  rows : Paired (RowAt H) rs ρs
theorem Mid.step {H0 H H' : Hp} {F L Lf : Addr} {rs : List Addr} {ρs : List RowD} (h : Mid H0 F L Lf rs ρs H) (k : KeepF F H H') (f : FeedAt H' F L) : Mid H0 F L Lf rs ρs H' := by
  have nLF : Lf ≠ F := by
    obtain ⟨_, _, _, _, e, _⟩ := h.feed
    exact ne_of h.list e fun z => nomatch z
  exact ⟨h.keep.trans k, f, h.apart, k _ _ nLF h.list, Paired.mapP h.rows fun _ _ z => z.keep (k.tup h.feed)⟩
theorem Mid.same {H0 H H' : Hp} {F L Lf : Addr} {rs : List Addr} {ρs : List RowD} (h : Mid H0 F L Lf rs ρs H) (k : Same H H') : Mid H0 F L Lf rs ρs H' := h.step (KeepF.of k) (h.feed.same k)
def SysAt (H : Hp) (s : Addr) (ρs : List RowD) : Prop := ∃ rs : List Addr, H s = some (.tup (rs.map V.ref)) ∧ Paired (RowAt H) rs ρs
theorem SysAt.keep {H H' : Hp} {s : Addr} {ρs : List RowD} (h : SysAt H s ρs) (k : KeepT H H') : SysAt H' s ρs := by
  obtain ⟨rs, h1, h2⟩ := h
  exact ⟨rs, k _ _ h1, Paired.mapP h2 fun _ _ z => z.keep k⟩
section
variable {P : Program} {w : World} {K : PySem.W.Frag} {mg : Str → Option Value} {base : Heap}
def prSys : Pr := fun vs H Q => ∃ (F L : Addr) (m : Int), vs = [.ref F, .int m] ∧ FeedAt H F L ∧ 0 ≤ m ∧ m ≤ 6 ∧
  ∀ H' s ρs, KeepF F H H' → FeedAt H' F L → SysAt H' s ρs → ρs.length ≤ 6 → (∀ ρ ∈ ρs, DrawnR places 200 ρ) → Q (.ref s) H'
variable {fP fD fT fL fS fU : Addr} {fdP fdD fdT fdL fdS fdU : FuncData}
theorem ok_sys {f : Addr} {fd : FuncData} {k : Nat} (F : Fun K "_law_system" "_law_system" sSys f fd)
    (FP : Fun K "_law_places" "_law_places" sPlaces fP fdP) (bP : Binds K fdP [] []) (gP : mg "_law_places" = some (.ref fP))
    (FD : Fun K "_law_draw" "_law_draw" sDraw fD fdD) (bD : Binds K fdD ["_law_feed_here", "_law_many"] []) (gD : mg "_law_draw" = some (.ref fD))
    (FT : Fun K "_law_tidy" "_law_tidy" sTidy fT fdT) (bT : Binds K fdT ["_law_weights"] []) (gT : mg "_law_tidy" = some (.ref fT))
    (FL : Fun K "_law_line" "_law_line" sLine fL fdL) (bL : Binds K fdL ["_law_feed_here"] []) (gL : mg "_law_line" = some (.ref fL))
    (FS : Fun K "_law_small" "_law_small" sSmall fS fdS) (bS : Binds K fdS ["_law_line_here"] []) (gS : mg "_law_small" = some (.ref fS))
    (FU : Fun K "_law_plus" "_law_plus" sPlus fU fdU) (bU : Binds K fdU ["_law_one_in", "_law_other_in", "_law_times"] []) (gU : mg "_law_plus" = some (.ref fU))
    (ms : mg "sorted" = none) (mt : mg "tuple" = none) (ml : mg "len" = none) (md : mg "dict" = none) (mls : mg "list" = none) (mr : mg "range" = none) : FnG P w K mg base (k + 3) f fd ["_law_feed_here", "_law_most"] prSys := by
  have GD : FnG P w K mg base (k + 1) fD fdD ["_law_feed_here", "_law_many"] prDraw := ok_draw FD ml
  have GL : FnG P w K mg base (k + 2) fL fdL ["_law_feed_here"] (prLine places 3) := ok_line FL FP bP gP FD bD gD FT bT gT ms mt ml
  have GS : FnG P w K mg base (k + 1) fS fdS ["_law_line_here"] prSmall := ok_small FS
  have GU : FnG P w K mg base (k + 2) fU fdU ["_law_one_in", "_law_other_in", "_law_times"] prPlus := ok_plus FU FT bT gT ms mt md mls
  refine okG F scSys (fun vs H Q h => ?_) (fun cdv A outer s H vs Q hr h => ?_)
  · obtain ⟨_, _, _, rfl, _⟩ := h
    rfl
  · obtain ⟨F, L, m, rfl, hF, m1, m2, q⟩ := h
    have hu := hu_of hr.room
    have hr1 : RG (k + 1) (A.deeper (envOfC "_law_system" (defScope sSys) s.heap.objs.size f cdv)) := hr.mono (by omega)
    refine ⟨_, pss_cons (ps_set (i := 2) scSys.nd rfl (.inl rfl) (pe_lst pa_nil))
      (pss_cons (ps_for PassesOwn.never rfl (pi_range1 rfl mr (pa_cons (pe_g GD hr1 (by rfl) gD FD.kp bD .nil (pa_cons (pv 0) (pa_cons (pe_op op_add (pv 1) pe_int) pa_nil))) pa_nil)) (pg_name (i := 3) scSys.nd rfl (.inl rfl))
        (pss_cons (ps_par (by rfl) scSys.nd (i := 4) (j := 5) rfl rfl (by decide) rfl rfl (pa_cons (pe_g GD hr1 (by rfl) gD FD.kp bD .nil (pa_cons (pv 0) (pa_cons pe_int pa_nil))) (pa_cons (pe_g GL hr (by rfl) gL FL.kp bL .nil (pa_cons (pv 0) pa_nil)) pa_nil)) (by rfl))
        (pss_cons (ps_if (PW.pt (pw_and (pt_cmpR op_eq (pv 4) pe_int (nomark _)) (pw_and1 (pt_cmpR (op_neD hr.room.units) (pv 2) (pe_lst pa_nil) (nomark _)))))
          (pss_one (ps_set (i := 5) scSys.nd rfl (.inl rfl) (pe_ix ix_list (pv 2) (pe_g GD hr1 (by rfl) gD FD.kp bD .nil (pa_cons (pv 0) (pa_cons (pe_callB call_len_seq (by rfl) ml PySem.boot_len (pa_cons (pv 2) pa_nil)) pa_nil))) (fun _ _ => rfl)))) pss_nil)
        (pss_cons (ps_if (pt_cmpR op_eq (pv 4) pe_int (nomark _)) (pss_one (ps_set (i := 5) scSys.nd rfl (.inl rfl) (pe_tup pa_nil))) pss_nil)
        (pss_cons (ps_if (PW.pt (pw_and (pt_cmpR op_eq (pv 4) pe_int (nomark _)) (pw_and (pt_cmpR op_gt (pe_callB call_len_seq (by rfl) ml PySem.boot_len (pa_cons (pv 2) pa_nil)) pe_int (nomark _))
            (pw_and1 (pt_val (pe_g GS hr1 (by rfl) gS FS.kp bS .nil (pa_cons (pe_g GU hr (by rfl) gU FU.kp bU .nil (pa_cons (pe_ix ix_list (pv 2) (pe_un un_neg pe_int) (fun _ _ => rfl)) (pa_cons (pe_ix ix_list (pv 2) (pe_un un_neg pe_int) (fun _ _ => rfl)) (pa_cons pe_int pa_nil)))) pa_nil)))))))
          (pss_one (ps_set (i := 5) scSys.nd rfl (.inl rfl) (pe_g GU hr (by rfl) gU FU.kp bU .nil (pa_cons (pe_ix ix_list (pv 2) (pe_un un_neg pe_int) (fun _ _ => rfl)) (pa_cons (pe_ix ix_list (pv 2) (pe_un un_neg pe_int) (fun _ _ => rfl)) (pa_cons pe_int pa_nil)))))) pss_nil)
        (pss_one (ps_expr (pe_bm PySem.F.plainAttrs_list PySem.F.slot_list_append PySem.F.type_list_append mt_append (pv 2) (pa_cons (pv 5) pa_nil)))))))))
      (pss_one (ps_ret (pe_callTy call_tuple_of (by rfl) mt (by decide +kernel) (pa_cons (pv 2) pa_nil))))), ?_⟩
    refine iSeq (iAsg ⟨Nat.zero_le _, fun Lf hLf => ?_⟩)
    have s1 : Same H (upd H Lf (.lst [])) := same_new hLf
    refine iName ?_
    dsimp only
    refine iSeq ?_
    refine ⟨.ref F, rfl, .int m, rfl, m, 1, rfl, rfl, F, L, m + 1, rfl, hF.same s1, by omega, by omega, fun d H2 d0 d1 k2 hF2 => ?_⟩
    have nLF : Lf ≠ F := by
      obtain ⟨_, _, _, _, h, _⟩ := hF
      exact (ne_of_none h hLf).symm
    have nLL : L ≠ Lf := by
      obtain ⟨_, _, _, _, _, h⟩ := hF
      exact ne_of_none h hLf
    refine ⟨d, rfl, by omega, by omega, ?_⟩
    refine for_range (lo := 0) (n := d.toNat) (fun i σ' H' => (∃ v3 v4 v5, σ' = [some (.ref F), some (.int m), some (.ref Lf), v3, v4, v5]) ∧ ∃ rs ρs, Mid H F L Lf rs ρs H' ∧ ρs.length = i ∧ ∀ ρ ∈ ρs, DrawnR places (3 * 2 ^ i) ρ)
      ⟨⟨none, none, none, rfl⟩, [], [], ⟨(KeepF.of s1).trans k2, hF2, nLL, k2 _ _ nLF upd_same, .nil⟩, rfl, fun _ h => absurd h (by simp)⟩ (fun i σ' H' hi h => ?_) (fun σ' H' h => ?_)
    · obtain ⟨⟨v3, v4, v5, rfl⟩, rs, ρs, M, hl, hD⟩ := h
      have i6 : i < 6 := by omega
      have p6 : (3 * 2 ^ i : Int) + 3 * 2 ^ i = 3 * 2 ^ (i + 1) := by
        rw [Int.pow_succ]
        omega
      have pp : (3 : Int) ≤ 3 * 2 ^ i ∧ (3 * 2 ^ i : Int) ≤ 3 * 2 ^ (i + 1) := by
        have h1 : ∀ i : Nat, (1 : Int) ≤ 2 ^ i := by
          intro i
          induction i with
          | zero => decide
          | succ j ih =>
            rw [Int.pow_succ]
            omega
        have := h1 i
        constructor
        · omega
        · rw [← p6]
          omega
      have hrl : rs.length = i := by rw [← hl]; exact Paired.length M.rows
      have hcell : ∀ ρ ∈ ρs, ∀ x ∈ ρ, CellOk x.1 := fun ρ hρ x hx => cells_ok _ (List.mem_append_left _ ((hD ρ hρ).on _ (List.mem_map_of_mem hx)))
      refine iName ?_
      refine iSeq ?_
      -- way, fresh
      refine ⟨.ref F, rfl, F, L, 8, rfl, M.feed, by decide, by decide, fun wy H3 w0 w1 k3 hF3 => ?_⟩
      have M3 := M.step k3 hF3
      refine ⟨.ref F, rfl, F, L, rfl, hF3, fun H4 r ρ k4 hF4 hr4 hd4 => ?_⟩
      have M4 := M3.step k4 hF4
      refine ⟨.int wy, .ref r, rfl, ?_⟩
      dsimp only
      -- a found one
      refine iSeq ?_
      refine split_s (fun σ' H' => ∃ r ρ, σ' = [some (.ref F), some (.int m), some (.ref Lf), some (.int (0 + i)), some (.int wy), some (.ref r)] ∧ Mid H F L Lf rs ρs H' ∧ RowAt H' r ρ ∧ DrawnR places (3 * 2 ^ i) ρ) (fun nx hnx => ?_) (fun σ' H' hx => ?_)
      · refine ⟨.int wy, rfl, rfl, _, rfl, ite2 (fun e => ?_) (fun e => ?_)⟩
        · refine ⟨.ref Lf, rfl, Nat.zero_le _, fun p hp => ?_⟩
          have s5 : Same H4 (upd H4 p (.lst [])) := same_new hp
          have M5 := M4.same s5
          refine ⟨.list (ρs.map rowPD), .list [], .lst (sqL M5.list) (dp_all (f := rowPD) (R := RowAt _) (fun _ _ z => dp_row z) M5.rows), .lst (sqL upd_same) .nil, shaped_rows hcell, shaped_nil, _, rfl, ?_⟩
          cases hρ : ρs with
          | nil => exact iteF (hnx _ _ ⟨r, ρ, rfl, M5, hr4.keep (KeepT.of s5), hd4.mono pp.1⟩)
          | cons ρ1 ρr =>
            have hne : 0 < rs.length := by
              rw [hrl, ← hl, hρ, List.length_cons]
              omega
            refine iteT ?_
            refine ⟨.ref Lf, rfl, .ref F, rfl, .ref Lf, rfl, Lf, _, rfl, .inl (sqL M5.list), F, L, ((rs.map V.ref).length : Int), rfl, M5.feed, by rw [List.length_map]; omega, by rw [List.length_map]; omega, fun j H6 j0 j1 k6 hF6 => ?_⟩
            have M6 := M5.step k6 hF6
            rw [List.length_map] at j1
            obtain ⟨jn, rfl⟩ : ∃ jn : Nat, j = (jn : Int) := ⟨j.toNat, by omega⟩
            have hjn : jn < rs.length := by omega
            obtain ⟨ρj, hj1, hj2⟩ := paired_at' M6.rows (List.getElem?_eq_getElem hjn)
            refine ⟨Lf, _, _, .ref rs[jn], rfl, rfl, sqL M6.list, atI_nat (j := jn) (by rw [List.getElem?_map, List.getElem?_eq_getElem hjn]; rfl), ?_⟩
            exact hnx _ _ ⟨rs[jn], ρj, rfl, M6, hj2, hD ρj (List.mem_of_getElem? hj1)⟩
        · exact iteF (hnx _ _ ⟨r, ρ, rfl, M4, hr4, hd4.mono pp.1⟩)
      · clear hr4 hd4 M4 M3
        obtain ⟨r, ρ, rfl, M4, hr4, hd4⟩ := hx
        dsimp only
        -- ()
        refine iSeq ?_
        refine split_s (fun σ' H' => ∃ r ρ, σ' = [some (.ref F), some (.int m), some (.ref Lf), some (.int (0 + i)), some (.int wy), some (.ref r)] ∧ Mid H F L Lf rs ρs H' ∧ RowAt H' r ρ ∧ DrawnR places (3 * 2 ^ i) ρ) (fun nx hnx => ?_) (fun σ' H' hx => ?_)
        · refine ⟨.int wy, rfl, rfl, _, rfl, ite2 (fun e => ?_) (fun e => ?_)⟩
          · refine ⟨Nat.zero_le _, fun p hp => ?_⟩
            exact hnx _ _ ⟨p, [], rfl, M4.same (same_new hp), ⟨[], upd_same, .nil⟩, drawn_nil (by omega)⟩
          · exact hnx _ _ ⟨r, ρ, rfl, M4, hr4, hd4⟩
        · clear hr4 hd4 M4
          obtain ⟨r, ρ, rfl, M4, hr4, hd4⟩ := hx
          dsimp only
          -- a sum
          have sums : ∀ (H5 : Hp), Mid H F L Lf rs ρs H5 → 1 < rs.length → ∀ (Q' : VK), (∀ H6 p π, Same H5 H6 → RowAt H6 p π → DrawnR places (3 * 2 ^ (i + 1)) π → Q' (.ref p) H6) →
              tCallG prPlus [] (tCons (tOp (rIxL K) (tVar 2) (tUn (rU fun i => V.int (-i)) (tC (.int 1)))) (tCons (tOp (rIxL K) (tVar 2) (tUn (rU fun i => V.int (-i)) (tC (.int 2)))) (tCons (tC (.int 1)) tNil)))
                [some (.ref F), some (.int m), some (.ref Lf), some (.int (0 + i)), some (.int wy), some (.ref r)] H5 Q' := by
            intro H5 M5 h2 Q' hq
            have e1 : rs.length - 1 < rs.length := by omega
            have e2 : rs.length - 2 < rs.length := by omega
            obtain ⟨ρ1, h11, h12⟩ := paired_at' M5.rows (List.getElem?_eq_getElem e1)
            obtain ⟨ρ2, h21, h22⟩ := paired_at' M5.rows (List.getElem?_eq_getElem e2)
            have d1 := hD ρ1 (List.mem_of_getElem? h11)
            have d2 := hD ρ2 (List.mem_of_getElem? h21)
            have a1 : atI (rs.map V.ref) (-1) = some (.ref rs[rs.length - 1]) := atI_neg (k := 1) (by decide) (by rw [List.length_map]; omega) (by rw [List.length_map, List.getElem?_map, List.getElem?_eq_getElem e1]; rfl)
            have a2 : atI (rs.map V.ref) (-2) = some (.ref rs[rs.length - 2]) := atI_neg (k := 2) (by decide) (by rw [List.length_map]; omega) (by rw [List.length_map, List.getElem?_map, List.getElem?_eq_getElem e2]; rfl)
            have l1 := d1.many
            have l2 := d2.many
            have lp : places.length = 6 := rfl
            refine ⟨.ref Lf, rfl, 1, rfl, Lf, _, _, _, rfl, rfl, sqL M5.list, a1, .ref Lf, rfl, 2, rfl, Lf, _, _, _, rfl, rfl, sqL M5.list, a2, _, _, ρ1, ρ2, 1, rfl, h12, h22, by omega, by omega, by decide, by decide, fun H6 p sm hp => ?_⟩
            refine hq H6 p _ sm hp ?_
            have := d1.sum d2
            rw [p6] at this
            exact this
          refine iSeq ?_
          refine split_s (fun σ' H' => ∃ r ρ, σ' = [some (.ref F), some (.int m), some (.ref Lf), some (.int (0 + i)), some (.int wy), some (.ref r)] ∧ Mid H F L Lf rs ρs H' ∧ RowAt H' r ρ ∧ DrawnR places (3 * 2 ^ (i + 1)) ρ) (fun nx hnx => ?_) (fun σ' H' hx => ?_)
          · refine ⟨.int wy, rfl, rfl, _, rfl, ite2 (fun e => ?_) (fun e => ?_)⟩
            · refine ⟨.ref Lf, rfl, Lf, _, rfl, .inl (sqL M4.list), _, 1, rfl, rfl, _, rfl, ite2 (fun e2 => ?_) (fun e2 => ?_)⟩
              · have h2 : 1 < rs.length := by
                  have := of_decide_eq_true e2
                  rw [List.length_map] at this
                  omega
                refine sums _ M4 h2 _ fun H6 p π sm hp hd => ?_
                have M6 := M4.same sm
                have lp : places.length = 6 := rfl
                have := hd.many
                refine ⟨p, π, rfl, hp, by omega, fun x hx => cells_ok _ (List.mem_append_left _ (hd.on _ (List.mem_map_of_mem hx))), fun b H7 sm7 => ⟨b, rfl, ?_⟩⟩
                have M7 := M6.same sm7
                refine ite2 (fun e3 => ?_) (fun e3 => ?_)
                · refine sums H7 M7 h2 _ fun H8 p8 π8 sm8 hp8 hd8 => ?_
                  exact hnx _ _ ⟨p8, π8, rfl, M7.same sm8, hp8, hd8⟩
                · exact hnx _ _ ⟨r, ρ, rfl, M7, (hr4.keep (KeepT.of sm)).keep (KeepT.of sm7), hd4.mono pp.2⟩
              · exact iteF (hnx _ _ ⟨r, ρ, rfl, M4, hr4, hd4.mono pp.2⟩)
            · exact iteF (hnx _ _ ⟨r, ρ, rfl, M4, hr4, hd4.mono pp.2⟩)
          · clear hr4 hd4 M4
            obtain ⟨r, ρ, rfl, M4, hr4, hd4⟩ := hx
            dsimp only
            -- append
            have big := sizeBig
            refine ⟨.ref Lf, rfl, .inl ⟨rfl, _, sqL M4.list⟩, .ref r, rfl, Lf, _, _, rfl, rfl, M4.list, by rw [List.length_map]; omega, ?_⟩
            refine ⟨⟨_, _, _, rfl⟩, rs ++ [r], ρs ++ [ρ], ?_, by rw [List.length_append, hl]; rfl, fun π hπ => ?_⟩
            · have kp : KeepT _ (upd _ Lf (.lst (rs.map V.ref ++ [.ref r]))) := KeepT.put M4.list fun _ z => nomatch z
              refine ⟨fun b o hb e => ?_, ?_, nLL, ?_, Paired.snoc (Paired.mapP M4.rows fun _ _ z => z.keep kp) (hr4.keep kp)⟩
              · rw [upd_ne (ne_of_none e hLf)]
                exact M4.keep b o hb e
              · obtain ⟨ns, a, l, n, h1, h2⟩ := M4.feed
                refine ⟨ns, a, l, n, ?_, ?_⟩
                · rw [upd_ne nLF.symm]
                  exact h1
                · rw [upd_ne nLL]
                  exact h2
              · rw [upd_same, List.map_append]
                rfl
            · rcases List.mem_append.mp hπ with h | h
              · exact (hD π h).mono pp.2
              · rw [List.mem_singleton.mp h]
                exact hd4
    · obtain ⟨⟨v3, v4, v5, rfl⟩, rs, ρs, M, hl, hD⟩ := h
      dsimp only
      refine ⟨.ref Lf, rfl, Lf, _, rfl, .inl ⟨sqL M.list, fun p hp => ?_⟩⟩
      have s5 : Same _ (upd _ p (.tup (rs.map V.ref))) := same_new hp
      refine q _ p ρs (M.keep.trans (KeepF.of s5)) (M.feed.same s5) ⟨rs, upd_same, Paired.mapP M.rows fun _ _ z => z.keep (KeepT.of s5)⟩ (by omega) fun ρ hρ => (hD ρ hρ).mono ?_
      have : d.toNat ≤ 6 := by omega
      have mono : ∀ n : Nat, n ≤ 6 → (3 * 2 ^ n : Int) ≤ 200 := by decide
      exact mono _ this
end
end P02
namespace P02
open PySem PySem.Spec PyProof.Rows L2 AskG
abbrev sEffL : Stmt := topS 16
theorem scEffL : FnScope ["_law_one_in", "_law_other_in", "_law_weights", "_law_cell", "_law_weight"] ["_law_one_in", "_law_other_in"] (defScope sEffL) := ⟨rfl, rfl, rfl, by decide +kernel, rfl, by decide +kernel, by decide +kernel⟩
abbrev sPartL : Stmt := topS 17
theorem scPartL : FnScope ["_law_line_here", "_law_last", "_law_some", "_law_found", "_law_pair"] ["_law_line_here", "_law_last", "_law_some"] (defScope sPartL) := ⟨rfl, rfl, rfl, by decide +kernel, rfl, by decide +kernel, by decide +kernel⟩
section
variable {P : Program} {w : World} {K : PySem.W.Frag} {mg : Str → Option Value} {base : Heap}
theorem ok_effL {f : Addr} {fd : FuncData} {k : Nat} (F : Fun K "_law_effect" "_law_effect" sEffL f fd) (ms : mg "sum" = none) (md : mg "dict" = none) (ml : mg "list" = none) : FnG P w K mg base (k + 1) f fd ["_law_one_in", "_law_other_in"] prEff := by
  refine okG F scEffL (fun vs H Q h => ?_) (fun cdv A outer s H vs Q hr h => ?_)
  · obtain ⟨_, _, _, _, rfl, _⟩ := h
    rfl
  · obtain ⟨a, b, ρ, π, rfl, hA, hB, lA, lB, hw, q⟩ := h
    have hu := hu_of hr.room
    refine ⟨_, pss_cons (ps_set (i := 2) scEffL.nd rfl (.inr rfl) (pe_callTy (call_dictT rfl hr.room) (by rfl) md (by decide +kernel) (pa_cons (pe_callTy call_list_of (by rfl) ml (by decide +kernel) (pa_cons (pv 1) pa_nil)) pa_nil)))
      (pss_one (ps_ret (pe_callB (cr_sum rfl) (by rfl) ms (by decide +kernel) (pa_cons (pe_lc (own := [("_law_cell", 3), ("_law_weight", 4)]) (g := g2 K 3 4) (tt := tYes) rfl scEffL.nd
          (pi_tup (pv 0)) (blkOk_by (N := ["_law_one_in", "_law_other_in", "_law_weights", "_law_cell", "_law_weight"]) (sc := defScope sEffL) (by decide +kernel))
          (fun _ _ _ _ _ => pg_tup rfl (pgs_cons (pg_name (i := 3) scEffL.nd rfl (.inl rfl)) (pgs_cons (pg_name (i := 4) scEffL.nd rfl (.inl rfl)) pgs_nil)))
          (fun _ _ _ _ _ => pts_nil)
          (fun _ _ _ _ _ => pe_op op_mul (pv 4) (pe_dget2 hu (pv 2) (pv 3) pe_int ⟨rfl, rfl, rfl, rfl⟩))) pa_nil)))), ?_⟩
    obtain ⟨ps, hr1, hp⟩ := hB
    refine ⟨.ref b, rfl, b, _, rfl, .inr (sqT hr1), fun l hl => ?_⟩
    have s1 : Same H (upd H l (.lst (ps.map V.ref))) := same_new hl
    refine ⟨l, ps, dk π, rfl, sqL upd_same, pairs_dict (Paired.mapP hp fun _ _ z => z.keep (KeepT.of s1)), fun D hD => ?_⟩
    have ed : putAll [] (dk π) = dk (ofRow π) := putAll_dk π []
    rw [ed]
    have s2 : Same (upd H l (.lst (ps.map V.ref))) (upd (upd H l (.lst (ps.map V.ref))) D (.dT (dk (ofRow π)))) := same_new hD
    refine iName ?_
    dsimp only
    refine iRet (iCB (iCons ?_))
    refine lc_ints (K := K) (i := 0) (a := 3) (b := 4) (σ := [some (.ref a), some (.ref b), some (.ref D), none, none]) (fun x => x.2 * get0 (ofRow π) x.1) rfl (hA.keep (KeepT.of (s1.trans s2))) (by simp) (by simp) (by decide) (by omega)
      (fun σ' H' bb x Q hx sm T hc hq => ?_) (fun H' L sm hL hps => ?_)
    · refine ⟨.int x.2, T.snd, .ref D, T.old 2 (by decide) (by decide), D, rfl, .inr ⟨_, .inl (sm _ _ upd_same)⟩, .ref bb, T.fst, _, dget_of (sm _ _ upd_same) hc, x.2, get0 (ofRow π) x.1, rfl, ?_, .inl (hw x hx), hq⟩
      show ((getO (ofRow π) x.1).map V.int).getD (.int 0) = .int (get0 (ofRow π) x.1)
      unfold get0
      cases getO (ofRow π) x.1 <;> rfl
    · exact ⟨L, _, rfl, sqL hps, q H' ((s1.trans s2).trans sm)⟩
theorem ok_partL {f : Addr} {fd : FuncData} {k : Nat} (F : Fun K "_law_part" "_law_part" sPartL f fd) (mt : mg "tuple" = none) : FnG P w K mg base (k + 1) f fd ["_law_line_here", "_law_last", "_law_some"] (prPart K) := by
  refine okG F scPartL (fun vs H Q h => ?_) (fun cdv A outer s H vs Q hr h => ?_)
  · obtain ⟨_, _, _, _, _, rfl, _⟩ := h
    rfl
  · obtain ⟨a, ρ, last, v, acc, rfl, ⟨qs, hr1, hp⟩, lA, hAc, q⟩ := h
    refine ⟨_, pss_cons (ps_setLc (i := 3) (own := [("_law_pair", 4)]) (g := gName 4) rfl scPartL.nd rfl rfl (sw_true rfl rfl rfl (by decide +kernel)) (pi_tup (pv 0))
        (blkOk_by (N := ["_law_line_here", "_law_last", "_law_some", "_law_found", "_law_pair"]) (sc := defScope sPartL) (by decide +kernel)) (fun _ _ _ _ _ => pg_name (i := 4) scPartL.nd rfl (.inl rfl))
        (fun _ _ _ _ _ => pts_one (PW.pt (pw_or (pt_cmpR op_isN (pv 1) pe_non (nomark _)) (pw_or1 (pt_cmpR op_le (pe_ix (ix_tup : IxR _ (rIxT K)) (pe_ix (ix_tup : IxR _ (rIxT K)) (pv 4) pe_int (fun _ _ => rfl)) pe_int (fun _ _ => rfl)) (pv 1) (nomark _))))))
        (fun _ _ _ _ _ => pv 4))
      (pss_one (ps_ret (pe_callTy call_tuple_of (by rfl) mt (by decide +kernel) (pa_cons (pe_lc (own := [("_law_pair", 4)]) (g := gName 4) rfl scPartL.nd (pi_list (pv 3))
        (blkOk_by (N := ["_law_line_here", "_law_last", "_law_some", "_law_found", "_law_pair"]) (sc := defScope sPartL) (by decide +kernel)) (fun _ _ _ _ _ => pg_name (i := 4) scPartL.nd rfl (.inl rfl))
        (fun _ _ _ _ _ => pts_one (PW.pt (pw_or (pt_cmpR op_isN (pv 2) pe_non (nomark _)) (pw_or1 (pt_cmpR (op_in_seq : OpR _ _ (rIn K false)) (pe_ix (ix_tup : IxR _ (rIxT K)) (pe_ix (ix_tup : IxR _ (rIxT K)) (pv 4) pe_int (fun _ _ => rfl)) pe_int (fun _ _ => rfl)) (pv 2) (by rfl))))))
        (fun _ _ _ _ _ => pv 4)) pa_nil)))), ?_⟩
    refine iSeq (iAsg ?_)
    refine lc_pairsT (K := K) (i := 0) (a := 4) (σ := [some (.ref a), some (vLast last), some v, none, none]) (fun x => inLast x.1 last) rfl hr1 hp (by show 4 < 5; decide) (by omega) (fun σ' H' p x Q _ sm hp hj hx hq => ?_) (fun H1 L ps s1 hL hps hpp => ?_)
    · obtain ⟨b, h1, h2⟩ := hx
      cases last with
      | none => exact ⟨.non, hj 1 (by decide), rfl, true, rfl, iteT (hq H' (Same.refl _))⟩
      | some t => exact ⟨.int t, hj 1 (by decide), rfl, false, rfl, iteF ⟨.ref p, hp, p, _, 0, .ref b, rfl, rfl, sqT h1, atI_nat (j := 0) rfl, b, _, 1, .int x.1.2, rfl, rfl, sqT h2, atI_nat (j := 1) rfl, .int t, hj 1 (by decide), x.1.2, t, rfl, rfl, _, rfl, hq H' (Same.refl _)⟩⟩
    · refine iName ?_
      dsimp only
      refine iRet (iCB (iCons ?_))
      have lf : (ρ.filter fun x => inLast x.1 last).length ≤ ρ.length := List.length_filter_le _ _
      have hAc1 := hAc.keep (KeepT.of s1)
      refine lc_pairsL (K := K) (i := 3) (a := 4) (σ := [some (.ref a), some (vLast last), some v, some (.ref L), none]) (fun x => inAcc x.1 acc) rfl hps hpp (by show 4 < 5; decide) (by omega) (fun σ' H' p x Q _ sm hp hj hx hq => ?_) (fun H2 L2 ps2 s2 hL2 hps2 hpp2 => ?_)
      · obtain ⟨b, h1, h2⟩ := hx
        cases acc with
        | none =>
          have hv : v = .non := hAc
          subst hv
          exact ⟨.non, hj 2 (by decide), rfl, true, rfl, iteT (hq H' (Same.refl _))⟩
        | some l =>
          obtain ⟨t, rfl, ht⟩ := hAc1
          exact ⟨.ref t, hj 2 (by decide), rfl, false, rfl, iteF ⟨.ref p, hp, p, _, 0, .ref b, rfl, rfl, sqT h1, atI_nat (j := 0) rfl, b, _, 0, .str x.1.1, rfl, rfl, sqT h2, atI_nat (j := 0) rfl, .ref t, hj 2 (by decide), t, _, rfl, .inr (sqT (sm _ _ ht)), rfl, all_flat l, _, rfl, hq H' (Same.refl _)⟩⟩
      · refine ⟨L2, _, rfl, .inl ⟨sqL hps2, fun p hp => ?_⟩⟩
        refine q _ p ((s1.trans s2).trans (same_new hp)) ?_
        have e1 : ρ.filter (insideR last acc) = (ρ.filter fun x => inLast x.1 last).filter fun x => inAcc x.1 acc := by
          rw [List.filter_filter]
          refine List.filter_congr fun x _ => ?_
          show (inLast x.1 last && inAcc x.1 acc) = _
          exact Bool.and_comm _ _
        rw [e1]
        exact row_of_list (L := L2) hp hpp2
end
end P02
namespace P02
open PySem PySem.Spec PyProof.Rows L2 AskG
section
variable {P : Program} {w : World} {K : PySem.W.Frag} {mg : Str → Option Value} {base : Heap}
/-! ### keywords -/
theorem vals_getD {zs : List V} {ws : List Value} (r : Vals zs ws) : ∀ i, RelV (zs.getD i .non) (ws.getD i .none) := by
  induction r with
  | nil =>
    intro i
    cases i <;> rfl
  | cons h t ih =>
    intro i
    cases i with
    | zero => exact h
    | succ j => exact ih j
abbrev swapL {α : Type} (d : α) (_ ws : List α) : List α := [ws.getD 1 d, ws.getD 0 d]
theorem kb_swap {x qual : Str} {st : Stmt} {f : Addr} {fd : FuncData} {p1 p2 : Str} (F : Fun K x qual st f fd)
    (h : ∀ (kV doc pm : Value) (an : Option Addr) (cdv ct a b : Value), bindArgs (PySem.W.fnOf x qual (defArgs st) (defBody st) (defScope st) .none kV doc pm an cdv ct) ⟨[], [(p2, a), (p1, b)]⟩ = pure [(p1, b), (p2, a)]) :
    KBn K fd [p1, p2] 0 [p2, p1] (swapL .none) (swapL .non) := by
  obtain ⟨oc, od, kV, doc, pm, an, cdv, ct, osl, rfl, lk, hcd⟩ := F.ex
  refine ⟨fun s us ws _ hu hw => ?_, fun r rz => .cons (vals_getD rz 1) (.cons (vals_getD rz 0) .nil)⟩
  match us, ws, hu, hw with
  | [], [a, b], _, _ => exact .of_eq (h kV doc pm an cdv ct a b)
abbrev FPart (K : PySem.W.Frag) (f : Addr) (fd : FuncData) : Prop := FunD K "part_of" "part_of" (defArgs sPart) (defBody sPart) (defScope sPart) [] [("last_day", .non), ("accounts", .non)] f fd
/-- part_of(e, last_day=.., accounts=..) -/
theorem kb_part {f : Addr} {fd : FuncData} (F : FPart K f fd) : KBn K fd ["row", "last_day", "accounts"] 1 ["last_day", "accounts"] (fun us ws => us ++ ws) (fun vs zs => vs ++ zs) := by
  obtain ⟨oc, od, dV, kV, doc, pm, an, cdv, ct, osl, rfl, lk, hcd, hD, hK⟩ := F.ex
  rcases hD with ⟨_, rfl⟩ | ⟨e, _⟩
  · rcases hK with e | ⟨D, rfl, hq⟩
    · cases e
    · refine ⟨fun s us ws _ hu hw => ?_, fun r rz => r.append rz⟩
      match us, ws, hu, hw with
      | [a], [b, c], _, _ => exact .of_eq rfl
  · exact absurd rfl e
/-- part_of(e) -/
theorem b_part {f : Addr} {fd : FuncData} (F : FPart K f fd) : ∃ ds, Vals [.non, .non] ds ∧ Binds K fd ["row", "last_day", "accounts"] ds := by
  refine FunD.binds0 F 1 (by simp) rfl fun D doc pm an cdv ct us ks hu hk => ?_
  match us, ks, hu, hk with
  | [a], [b, c], _, _ => exact ⟨_, _, _, _, _, _, rfl, rfl, _, _, _, _, _, _, rfl, rfl, rfl⟩
/-- part_of(row=.., last_day=..) -/
theorem kb_part0 {f : Addr} {fd : FuncData} (F : FPart K f fd) : ∃ mv, KBn K fd ["row", "last_day", "accounts"] 0 ["row", "last_day"] (fun us ws => ws ++ mv) (fun vs zs => zs ++ [.non]) := by
  refine FunD.kbinds0 F 0 ["row", "last_day"] [("accounts", .non)] (fun _ mv ws => ws ++ mv) (by simp) (by simp) (fun _ r1 r2 => r2.append r1) fun D doc pm an cdv ct us mv ws hu hm hw => ?_
  match us, mv, ws, hu, hm, hw with
  | [], [c], [a, b], _, _, _ => exact ⟨_, _, _, _, _, _, rfl, rfl, rfl⟩
/-- part_of(e, accounts=..) -/
theorem kb_part1 {f : Addr} {fd : FuncData} (F : FPart K f fd) : ∃ mv, KBn K fd ["row", "last_day", "accounts"] 1 ["accounts"] (fun us ws => us ++ mv ++ ws) (fun vs zs => vs ++ [.non] ++ zs) := by
  refine FunD.kbinds0 F 1 ["accounts"] [("last_day", .non)] (fun us mv ws => us ++ mv ++ ws) (by simp) (by simp) (fun r0 r1 r2 => (r0.append r1).append r2) fun D doc pm an cdv ct us mv ws hu hm hw => ?_
  match us, mv, ws, hu, hm, hw with
  | [a], [b], [c], _, _, _ => exact ⟨_, _, _, _, _, _, rfl, rfl, rfl⟩
end
end P02
namespace P02
open PySem PySem.Spec PyProof.Rows L2 AskG
/-! ### sizes -/
structure NiceR (ρ : RowD) : Prop where
  ok : OkRow ρ
  many : ρ.length ≤ 40
  cells : ∀ x ∈ ρ, CellOk x.1
  lit : ∀ c, -1000000 ≤ get0 ρ c ∧ get0 ρ c ≤ 1000000
theorem nice_of {cs : List Cell} {B : Int} {ρ : RowD} (h : DrawnR cs B ρ) (hl : cs.length ≤ 40) (hc : ∀ c ∈ cs, CellOk c) (e : B ≤ 1000000) : NiceR ρ :=
  ⟨h.ok, by have := h.many; omega, fun x hx => hc _ (h.on _ (List.mem_map_of_mem hx)), fun c => by have := h.lit c; omega⟩
theorem nice_nil : NiceR [] := ⟨ok_nil, by decide, fun x hx => absurd hx (by simp), fun c => by rw [get0_nil]; omega⟩
theorem NiceR.at' {ρ : RowD} (h : NiceR ρ) {x : Cell × Int} (hx : x ∈ ρ) : -1000000 ≤ x.2 ∧ x.2 ≤ 1000000 := by
  have := h.lit x.1
  rw [get0_mem (rising_nodup h.ok.up) hx] at this
  exact this
theorem pow200 : (10000000000000000 : Int) < 2 ^ 200 := by decide
theorem NiceR.row {ρ : RowD} (h : NiceR ρ) : RowOk ρ := ⟨by have := h.many; omega, h.cells, fun x hx => by
  have := h.at' hx
  have := pow200
  exact log_small (by omega) (by omega)⟩
theorem NiceR.wide {ρ : RowD} (h : NiceR ρ) : ∀ x ∈ ρ, -(2 ^ 64) < x.2 ∧ x.2 < 2 ^ 64 := fun x hx => by
  have := h.at' hx
  have : (1000000 : Int) < 2 ^ 64 := by decide
  omega
theorem add_row {ρ π : RowD} (h : NiceR ρ) (g : NiceR π) : RowOk (addR ρ π 1) := by
  have n := addF_nodup (ofRow_nodup ρ) π 1
  have ok : OkRow (addR ρ π 1) := ok_tidy n
  refine ⟨?_, fun x hx => ?_, fun x hx => ?_⟩
  · have h1 := tidy_length (addF (ofRow ρ) π 1)
    have h2 := addF_length (ofRow ρ) π 1
    have h3 := ofRow_length ρ
    have h4 := h.many
    have h5 := g.many
    show (tidy (addF (ofRow ρ) π 1)).length ≤ 100
    omega
  · have h1 : x.1 ∈ keys (addF (ofRow ρ) π 1) := List.mem_map_of_mem (tidy_mem n hx)
    rcases addF_keys 1 x.1 π _ h1 with e | e
    · rw [ofRow_self (rising_nodup h.ok.up)] at e
      obtain ⟨y, hy, e⟩ := List.mem_map.mp e
      rw [← e]
      exact h.cells y hy
    · obtain ⟨y, hy, e⟩ := List.mem_map.mp e
      rw [← e]
      exact g.cells y hy
  · have e := get0_addR h.ok g.ok 1 x.1
    rw [get0_mem (rising_nodup ok.up) hx] at e
    have h1 := h.lit x.1
    have h2 := g.lit x.1
    have := pow200
    exact log_small (by omega) (by omega)
theorem mul_small {x t : Int} (h : -1000000 ≤ x ∧ x ≤ 1000000) (g : -1000000 ≤ t ∧ t ≤ 1000000) : -1000000000000 ≤ x * t ∧ x * t ≤ 1000000000000 := by
  have h1 : x.natAbs ≤ 1000000 := by omega
  have h2 : t.natAbs ≤ 1000000 := by omega
  have h3 : (x * t).natAbs ≤ 1000000 * 1000000 := by
    rw [Int.natAbs_mul]
    exact Nat.mul_le_mul h1 h2
  omega
theorem scale_row {ρ : RowD} (h : NiceR ρ) {t : Int} (g : -1000000 ≤ t ∧ t ≤ 1000000) : RowOk (scaleR ρ t) := by
  unfold scaleR
  by_cases e : t = 0
  · rw [if_pos e]
    exact nice_nil.row
  · rw [if_neg e]
    refine ⟨by rw [List.length_map]; have := h.many; omega, fun x hx => ?_, fun x hx => ?_⟩
    · obtain ⟨y, hy, rfl⟩ := List.mem_map.mp hx
      exact h.cells y hy
    · obtain ⟨y, hy, rfl⟩ := List.mem_map.mp hx
      have := mul_small (h.at' hy) g
      have := pow200
      exact log_small (x := y.2 * t) (by omega) (by omega)
theorem filter_row {ρ : RowD} (h : NiceR ρ) (p : Cell × Int → Bool) : RowOk (ρ.filter p) := by
  have hr := h.row
  exact ⟨Nat.le_trans (List.length_filter_le _ _) hr.many, fun x hx => hr.cells x (List.mem_filter.mp hx).1, fun x hx => hr.lit x (List.mem_filter.mp hx).1⟩
theorem sum_small (f : Cell × Int → Int) {B : Int} (h0 : 0 ≤ B) : ∀ {ρ : RowD}, (∀ x ∈ ρ, -B ≤ f x ∧ f x ≤ B) → -(B * ρ.length) ≤ (ρ.map f).sum ∧ (ρ.map f).sum ≤ B * ρ.length
  | [], _ => by simp
  | x :: ρ, h => by
    have h1 := sum_small f h0 (ρ := ρ) fun y hy => h y (List.mem_cons_of_mem _ hy)
    have h2 := h x List.mem_cons_self
    rw [List.map_cons, List.sum_cons, List.length_cons]
    have e : B * ((ρ.length + 1 : Nat) : Int) = B * (ρ.length : Int) + B := by
      rw [Int.natCast_add, Int.mul_add]
      show B * (ρ.length : Int) + B * 1 = _
      rw [Int.mul_one]
    rw [e]
    omega
theorem eff_small {ρ π : RowD} (h : NiceR ρ) (g : NiceR π) : (effR ρ π).natAbs.log2 < 1920 := by
  have h1 := sum_small (fun x => x.2 * get0 (ofRow π) x.1) (B := 1000000000000) (by decide) (ρ := ρ) fun x hx => by
    rw [get0_ofRow g.ok]
    exact mul_small (h.at' hx) (g.lit x.1)
  have h2 := h.many
  have h3 : (1000000000000 : Int) * (ρ.length : Int) ≤ 1000000000000 * 40 := by omega
  have := pow200
  unfold effR
  exact log_small (by omega) (by omega)
theorem size16 : sizeLine = 16777216 := sizeLine_eq
/-- the text that repr gives of fine data -/
theorem repr_at {K : PySem.W.Frag} {H : Hp} {a : Addr} {d : PyData} {Q : VK} {k n : Nat} (h : Dp K H (.ref a) d) (f : Fine k n d) (hk : k ≤ 60) (hn : n ≤ 16777216) (q : Q (.str d.shown) H) : rRepr K [.ref a] H Q :=
  ⟨a, d, rfl, h, f.shw, f.nod, Nat.le_trans f.dep hk, by rw [size16]; exact Nat.le_trans f.len hn, q⟩
theorem fine2 {d e : PyData} (h : Fine 3 770703 d) (g : Fine 3 770703 e) : Fine 4 1541413 (.list [d, e]) :=
  Fine.lst (k := 3) (n := 770703) (m := 2) (fun x hx => by
    rcases List.mem_cons.mp hx with e | hx
    · rw [e]
      exact h
    · rw [List.mem_singleton.mp hx]
      exact g) (Nat.le_refl _)
theorem fine3 {d e f : PyData} (h : Fine 3 770703 d) (g : Fine 3 770703 e) (j : Fine 3 770703 f) : Fine 4 2312118 (.list [d, e, f]) :=
  Fine.lst (k := 3) (n := 770703) (m := 3) (fun x hx => by
    rcases List.mem_cons.mp hx with e | hx
    · rw [e]
      exact h
    · rcases List.mem_cons.mp hx with e | hx
      · rw [e]
        exact g
      · rw [List.mem_singleton.mp hx]
        exact j) (Nat.le_refl _)
theorem fineI {i j : Int} (h : i.natAbs.log2 < 1920) (g : j.natAbs.log2 < 1920) : Fine 1 3849 (.list [.int i, .int j]) :=
  Fine.lst (k := 0) (n := 1921) (m := 2) (fun x hx => by
    rcases List.mem_cons.mp hx with e | hx
    · rw [e]
      exact fine_int h
    · rw [List.mem_singleton.mp hx]
      exact fine_int g) (Nat.le_refl _)
abbrev sTwo : Stmt := topS 19
theorem scTwo : FnScope ["_law_one_line", "_law_other_line", "_law_due", "_law_told"] ["_law_one_line", "_law_other_line"] (defScope sTwo) := ⟨rfl, rfl, rfl, by decide +kernel, rfl, by decide +kernel, by decide +kernel⟩
section
variable {P : Program} {w : World} {K : PySem.W.Frag} {mg : Str → Option Value} {base : Heap}
def prTwo : Pr := fun vs H Q => ∃ (a b : Addr) (ρ π : RowD), vs = [.ref a, .ref b] ∧ RowAt H a ρ ∧ RowAt H b π ∧ NiceR ρ ∧ NiceR π ∧ ∀ H', Same H H' → Q (.bl true) H'
variable {fA fE fU fX fT : Addr} {fdA fdE fdU fdX fdT : FuncData}
theorem ok_two {f : Addr} {fd : FuncData} {k : Nat} (F : Fun K "_law_two_right" "_law_two_right" sTwo f fd)
    (FA : Fun K "add_rows" "add_rows" sAdd fA fdA) (bA : Binds K fdA ["one", "other"] []) (gA : mg "add_rows" = some (.ref fA))
    (FE : Fun K "effect_of" "effect_of" sEff fE fdE) (bE : Binds K fdE ["change", "row"] []) (gE : mg "effect_of" = some (.ref fE))
    (FU : Fun K "_law_plus" "_law_plus" sPlus fU fdU) (bU : Binds K fdU ["_law_one_in", "_law_other_in", "_law_times"] []) (gU : mg "_law_plus" = some (.ref fU))
    (FT : Fun K "_law_tidy" "_law_tidy" sTidy fT fdT) (bT : Binds K fdT ["_law_weights"] []) (gT : mg "_law_tidy" = some (.ref fT))
    (FX : Fun K "_law_effect" "_law_effect" sEffL fX fdX) (bX : Binds K fdX ["_law_one_in", "_law_other_in"] []) (gX : mg "_law_effect" = some (.ref fX))
    (ms : mg "sorted" = none) (mt : mg "tuple" = none) (md : mg "dict" = none) (ml : mg "list" = none) (mu : mg "sum" = none) (mp : mg "repr" = none) : FnG P w K mg base (k + 3) f fd ["_law_one_line", "_law_other_line"] prTwo := by
  have GA : FnG P w K mg base (k + 1) fA fdA ["one", "other"] prAdd := ok_add FA ms mt
  have GE : FnG P w K mg base (k + 1) fE fdE ["change", "row"] prEff := ok_eff FE mu
  have GX : FnG P w K mg base (k + 1) fX fdX ["_law_one_in", "_law_other_in"] prEff := ok_effL FX mu md ml
  have GU : FnG P w K mg base (k + 2) fU fdU ["_law_one_in", "_law_other_in", "_law_times"] prPlus := ok_plus FU FT bT gT ms mt md ml
  have kA : KBn K fdA ["one", "other"] 0 ["other", "one"] (swapL .none) (swapL .non) := kb_swap FA fun _ _ _ _ _ _ _ _ => rfl
  have kE : KBn K fdE ["change", "row"] 0 ["row", "change"] (swapL .none) (swapL .non) := kb_swap FE fun _ _ _ _ _ _ _ _ => rfl
  refine okG F scTwo (fun vs H Q h => ?_) (fun cdv A outer s H vs Q hr h => ?_)
  · obtain ⟨_, _, _, _, rfl, _⟩ := h
    rfl
  · obtain ⟨a, b, ρ, π, rfl, hA, hB, nA, nB, q⟩ := h
    have hr1 : RG (k + 1) (A.deeper (envOfC "_law_two_right" (defScope sTwo) s.heap.objs.size f cdv)) := hr.mono (by omega)
    refine ⟨_, pss_cons (ps_set (i := 2) scTwo.nd rfl (.inl rfl) (pe_g GU hr (by rfl) gU FU.kp bU .nil (pa_cons (pv 0) (pa_cons (pv 1) (pa_cons pe_int pa_nil)))))
      (pss_cons (ps_if (pt_cmpR op_ne (pe_callB (call_repr hr) (by rfl) mp (by decide +kernel) (pa_cons (pe_lst (pa_cons (pe_g GA hr1 (by rfl) gA FA.kp bA .nil (pa_cons (pv 0) (pa_cons (pv 1) pa_nil))) (pa_cons (pe_gn0 GA hr1 (by rfl) gA FA.kp kA (pk_cons (pv 1) (pk_cons (pv 0) pk_nil))) pa_nil))) pa_nil))
          (pe_callB (call_repr hr) (by rfl) mp (by decide +kernel) (pa_cons (pe_lst (pa_cons (pv 2) (pa_cons (pv 2) pa_nil))) pa_nil)) (nomark _)) (pss_one (ps_ret pe_bl)) pss_nil)
      (pss_cons (ps_set (i := 3) scTwo.nd rfl (.inl rfl) (pe_lst (pa_cons (pe_g GE hr1 (by rfl) gE FE.kp bE .nil (pa_cons (pv 0) (pa_cons (pv 1) pa_nil))) (pa_cons (pe_gn0 GE hr1 (by rfl) gE FE.kp kE (pk_cons (pv 1) (pk_cons (pv 0) pk_nil))) pa_nil))))
      (pss_one (ps_ret (pe_cmpR op_eq (pe_callB (call_repr hr) (by rfl) mp (by decide +kernel) (pa_cons (pv 3) pa_nil))
        (pe_callB (call_repr hr) (by rfl) mp (by decide +kernel) (pa_cons (pe_op op_rep (pe_lst (pa_cons (pe_g GX hr1 (by rfl) gX FX.kp bX .nil (pa_cons (pv 0) (pa_cons (pv 1) pa_nil))) pa_nil)) pe_int) pa_nil)) (nomark _)))))), ?_⟩
    have l1 := nA.many
    have l2 := nB.many
    have sz : (2 : Nat) ≤ sizeLine := by decide
    refine ⟨.ref a, rfl, .ref b, rfl, a, b, ρ, π, 1, rfl, hA, hB, by omega, by omega, by decide, by decide, fun H1 p1 s1 h1 => ?_⟩
    refine iName ?_
    dsimp only
    refine iSeq ?_
    have hA1 := hA.keep (KeepT.of s1)
    have hB1 := hB.keep (KeepT.of s1)
    refine ⟨.ref a, rfl, .ref b, rfl, a, b, ρ, π, rfl, hA1, hB1, by omega, by omega, fun H2 p2 s2 h2 => ?_⟩
    refine ⟨.ref b, rfl, .ref a, rfl, rfl, rfl, a, b, ρ, π, rfl, hA1.keep (KeepT.of s2), hB1.keep (KeepT.of s2), by omega, by omega, fun H3 p3 s3 h3 => ?_⟩
    refine ⟨sz, fun t ht => ?_⟩
    have s4 : Same H3 (upd H3 t (.lst [.ref p2, .ref p3])) := same_new ht
    have fr := fine_row (add_row nA nB)
    try dsimp only
    refine iNil ?_
    try dsimp only
    refine repr_at (.lst (sqL upd_same) (.cons (dp_row ((h2.keep (KeepT.of s3)).keep (KeepT.of s4))) (.cons (dp_row (h3.keep (KeepT.of s4))) .nil))) (fine2 fr fr) (by decide) (by decide) ?_
    refine ⟨.ref p1, rfl, .ref p1, rfl, sz, fun u hu => ?_⟩
    have s5 : Same (upd H3 t (.lst [.ref p2, .ref p3])) (upd (upd H3 t (.lst [.ref p2, .ref p3])) u (.lst [.ref p1, .ref p1])) := same_new hu
    have s15 := ((s2.trans s3).trans s4).trans s5
    have h15 := h1.keep (KeepT.of s15)
    try dsimp only
    refine iNil ?_
    try dsimp only
    refine repr_at (.lst (sqL upd_same) (.cons (dp_row h15) (.cons (dp_row h15) .nil))) (fine2 fr fr) (by decide) (by decide) ?_
    refine ⟨rfl, _, rfl, ?_⟩
    rw [decide_eq_true rfl]
    refine iteF ?_
    refine iNext ?_
    dsimp only
    have s05 := s1.trans s15
    generalize upd (upd H3 t (.lst [.ref p2, .ref p3])) u (.lst [.ref p1, .ref p1]) = H5 at s05
    refine iSeq (iAsg ?_)
    refine ⟨.ref a, rfl, .ref b, rfl, a, b, ρ, π, rfl, hA.keep (KeepT.of s05), hB.keep (KeepT.of s05), by omega, by omega, nA.wide, fun H6 s6 => ?_⟩
    have s06 := s05.trans s6
    refine ⟨.ref b, rfl, .ref a, rfl, rfl, rfl, a, b, ρ, π, rfl, hA.keep (KeepT.of s06), hB.keep (KeepT.of s06), by omega, by omega, nA.wide, fun H7 s7 => ⟨sz, fun v hv => ?_⟩⟩
    have s8 : Same H7 (upd H7 v (.lst [.int (effR ρ π), .int (effR ρ π)])) := same_new hv
    have s08 := (s06.trans s7).trans s8
    have es := eff_small nA nB
    refine iName ?_
    dsimp only
    refine iRet (iOp ?_)
    refine ⟨.ref v, rfl, ?_⟩
    try dsimp only
    refine iNil ?_
    try dsimp only
    refine repr_at (.lst (sqL upd_same) (.cons (.int _) (.cons (.int _) .nil))) (fineI es es) (by decide) (by decide) ?_
    refine ⟨.ref a, rfl, .ref b, rfl, a, b, ρ, π, rfl, hA.keep (KeepT.of s08), hB.keep (KeepT.of s08), by omega, by omega, nA.wide, fun H9 s9 => ⟨by show 1 ≤ sizeLine; decide, fun x hx => ?_⟩⟩
    refine ⟨x, 2, _, rfl, rfl, upd_same, by decide, by decide, by show 1 * 2 ≤ sizeLine; decide, fun y hy => ?_⟩
    try dsimp only
    refine iNil ?_
    try dsimp only
    refine repr_at (.lst (sqL upd_same) (.cons (.int _) (.cons (.int _) .nil))) (fineI es es) (by decide) (by decide) ?_
    refine ⟨rfl, ?_⟩
    rw [decide_eq_true rfl]
    exact q _ (((s08.trans s9).trans (same_new hx)).trans (same_new hy))
end
end P02
namespace P02
open PySem PySem.Spec PyProof.Rows L2 AskG
abbrev sOne : Stmt := topS 20
theorem scOne : FnScope ["_law_line_here", "_law_facts_here", "_law_times", "_law_due", "_law_last", "_law_some", "_law_told"] ["_law_line_here", "_law_facts_here"] (defScope sOne) := ⟨rfl, rfl, rfl, by decide +kernel, rfl, by decide +kernel, by decide +kernel⟩
def timesL : List Int := [0, 1, -1, 3, -3, 1000000]
def lastL : List (Option Int) := [none, some 0, some 1, some 7, some 9]
theorem times_small : ∀ t ∈ timesL, -1000000 ≤ t ∧ t ≤ 1000000 := by decide
section
variable {P : Program} {w : World} {K : PySem.W.Frag} {mg : Str → Option Value} {base : Heap}
theorem map_at {α : Type} {f : α → V} {l : List α} {i : Nat} {x : V} (h : (l.map f)[i]? = some x) : ∃ y ∈ l, f y = x := by
  rw [List.getElem?_map] at h
  cases e : l[i]? with
  | none =>
    rw [e] at h
    cases h
  | some y =>
    rw [e] at h
    exact ⟨y, List.mem_of_getElem? e, Option.some.inj h⟩
/-- the tuple of accounts' tuples -/
abbrev tAcc (l : List Str) : TE := tTup (l.foldr (fun x t => tCons (tC (.str x)) t) tNil)
theorem acc_made {l : List Str} {σ : L2.St} {H : Hp} {Q : VK} (hl : l.length ≤ sizeLine) (h : ∀ p, H p = none → Q (.ref p) (upd H p (.tup (l.map V.str)))) : tAcc l σ H Q := by
  have go : ∀ (l : List Str) (Q' : List V → Hp → Prop), Q' (l.map V.str) H → (l.foldr (fun x t => tCons (tC (.str x)) t) tNil : TA) σ H Q' := by
    intro l
    induction l with
    | nil => exact fun Q' h => h
    | cons x l ih => exact fun Q' h => ih (fun xs H2 => Q' (.str x :: xs) H2) h
  exact go l _ ⟨by rw [List.length_map]; exact hl, h⟩
def prOne : Pr := fun vs H Q => ∃ (a b : Addr) (ρ π : RowD), vs = [.ref a, .ref b] ∧ RowAt H a ρ ∧ RowAt H b π ∧ NiceR ρ ∧ NiceR π ∧ ∀ H', Same H H' → Q (.bl true) H'
variable {fS fV fE fU fX fT fP fI fQ : Addr} {fdS fdV fdE fdU fdX fdT fdP fdI fdQ : FuncData}
theorem ok_one {f : Addr} {fd : FuncData} {k : Nat} (F : Fun K "_law_one_right" "_law_one_right" sOne f fd)
    (FS : Fun K "scale_row" "scale_row" sScale fS fdS) (bS : Binds K fdS ["row", "factor"] []) (gS : mg "scale_row" = some (.ref fS))
    (FP : FPart K fP fdP) (gP : mg "part_of" = some (.ref fP))
    (FI : Fun K "is_inside" "is_inside" sInside fI fdI) (bI : Binds K fdI ["cell", "last_day", "accounts"] []) (gI : mg "is_inside" = some (.ref fI))
    (FV : Fun K "row_value" "row_value" sVal fV fdV) (bV : Binds K fdV ["row", "data"] []) (gV : mg "row_value" = some (.ref fV))
    (FE : Fun K "effect_of" "effect_of" sEff fE fdE) (bE : Binds K fdE ["change", "row"] []) (gE : mg "effect_of" = some (.ref fE))
    (FU : Fun K "_law_plus" "_law_plus" sPlus fU fdU) (bU : Binds K fdU ["_law_one_in", "_law_other_in", "_law_times"] []) (gU : mg "_law_plus" = some (.ref fU))
    (FT : Fun K "_law_tidy" "_law_tidy" sTidy fT fdT) (bT : Binds K fdT ["_law_weights"] []) (gT : mg "_law_tidy" = some (.ref fT))
    (FX : Fun K "_law_effect" "_law_effect" sEffL fX fdX) (bX : Binds K fdX ["_law_one_in", "_law_other_in"] []) (gX : mg "_law_effect" = some (.ref fX))
    (FQ : Fun K "_law_part" "_law_part" sPartL fQ fdQ) (bQ : Binds K fdQ ["_law_line_here", "_law_last", "_law_some"] []) (gQ : mg "_law_part" = some (.ref fQ))
    (ms : mg "sorted" = none) (mt : mg "tuple" = none) (md : mg "dict" = none) (ml : mg "list" = none) (mu : mg "sum" = none) (mp : mg "repr" = none) : FnG P w K mg base (k + 3) f fd ["_law_line_here", "_law_facts_here"] prOne := by
  have GS : FnG P w K mg base (k + 1) fS fdS ["row", "factor"] prScale := ok_scale FS mt
  have GP : FnG P w K mg base (k + 2) fP fdP ["row", "last_day", "accounts"] (prPart K) := ok_part FP FI bI gI mt
  have GV : FnG P w K mg base (k + 2) fV fdV ["row", "data"] prVal := ok_val FV FE bE gE mu
  have GX : FnG P w K mg base (k + 1) fX fdX ["_law_one_in", "_law_other_in"] prEff := ok_effL FX mu md ml
  have GQ : FnG P w K mg base (k + 1) fQ fdQ ["_law_line_here", "_law_last", "_law_some"] (prPart K) := ok_partL FQ mt
  have GU : FnG P w K mg base (k + 2) fU fdU ["_law_one_in", "_law_other_in", "_law_times"] prPlus := ok_plus FU FT bT gT ms mt md ml
  have kS : KBn K fdS ["row", "factor"] 0 ["factor", "row"] (swapL .none) (swapL .non) := kb_swap FS fun _ _ _ _ _ _ _ _ => rfl
  have kV : KBn K fdV ["row", "data"] 0 ["data", "row"] (swapL .none) (swapL .non) := kb_swap FV fun _ _ _ _ _ _ _ _ => rfl
  have kP := kb_part FP
  obtain ⟨ds, vds, bP⟩ := b_part FP
  obtain ⟨mv0, kP0⟩ := kb_part0 FP
  obtain ⟨mv1, kP1⟩ := kb_part1 FP
  refine okG F scOne (fun vs H Q h => ?_) (fun cdv A outer s H vs Q hr h => ?_)
  · obtain ⟨_, _, _, _, rfl, _⟩ := h
    rfl
  · obtain ⟨a, b, ρ, π, rfl, hA, hB, nA, nB, q⟩ := h
    have hr1 : RG (k + 1) (A.deeper (envOfC "_law_one_right" (defScope sOne) s.heap.objs.size f cdv)) := hr.mono (by omega)
    refine ⟨_, pss_cons (ps_for PassesOwn.never rfl (pi_tup (pe_tup (pa_cons pe_int (pa_cons pe_int (pa_cons (pe_un un_neg pe_int) (pa_cons pe_int (pa_cons (pe_un un_neg pe_int) (pa_cons (pe_op op_pow pe_int pe_int) pa_nil)))))))) (pg_name (i := 2) scOne.nd rfl (.inl rfl))
        (pss_cons (ps_set (i := 3) scOne.nd rfl (.inl rfl) (pe_g GU hr (by rfl) gU FU.kp bU .nil (pa_cons (pe_tup pa_nil) (pa_cons (pv 0) (pa_cons (pv 2) pa_nil)))))
        (pss_one (ps_if (pt_cmpR op_ne (pe_callB (call_repr hr) (by rfl) mp (by decide +kernel) (pa_cons (pe_lst (pa_cons (pe_g GS hr1 (by rfl) gS FS.kp bS .nil (pa_cons (pv 0) (pa_cons (pv 2) pa_nil))) (pa_cons (pe_gn0 GS hr1 (by rfl) gS FS.kp kS (pk_cons (pv 2) (pk_cons (pv 0) pk_nil))) pa_nil))) pa_nil))
          (pe_callB (call_repr hr) (by rfl) mp (by decide +kernel) (pa_cons (pe_lst (pa_cons (pv 3) (pa_cons (pv 3) pa_nil))) pa_nil)) (nomark _)) (pss_one (ps_ret pe_bl)) pss_nil))))
      (pss_cons (ps_for PassesOwn.never rfl (pi_tup (pe_tup (pa_cons pe_non (pa_cons pe_int (pa_cons pe_int (pa_cons pe_int (pa_cons pe_int pa_nil))))))) (pg_name (i := 4) scOne.nd rfl (.inl rfl))
        (pss_one (ps_for PassesOwn.never rfl (pi_tup (pe_tup (pa_cons pe_non (pa_cons (pe_tup pa_nil) (pa_cons (pe_tup (pa_cons pe_str pa_nil)) (pa_cons (pe_tup (pa_cons pe_str (pa_cons pe_str pa_nil))) (pa_cons (pe_tup (pa_cons pe_str pa_nil)) (pa_cons (pe_tup (pa_cons pe_str (pa_cons pe_str (pa_cons pe_str pa_nil)))) pa_nil)))))))) (pg_name (i := 5) scOne.nd rfl (.inl rfl))
          (pss_cons (ps_set (i := 6) scOne.nd rfl (.inl rfl) (pe_gn GP hr (by rfl) gP FP.kp kP (pa_cons (pv 0) pa_nil) (pk_cons (pv 4) (pk_cons (pv 5) pk_nil))))
          (pss_one (ps_if (pt_cmpR op_ne (pe_callB (call_repr hr) (by rfl) mp (by decide +kernel) (pa_cons (pv 6) pa_nil)) (pe_callB (call_repr hr) (by rfl) mp (by decide +kernel) (pa_cons (pe_g GQ hr1 (by rfl) gQ FQ.kp bQ .nil (pa_cons (pv 0) (pa_cons (pv 4) (pa_cons (pv 5) pa_nil)))) pa_nil)) (nomark _)) (pss_one (ps_ret pe_bl)) pss_nil))))))
      (pss_cons (ps_set (i := 6) scOne.nd rfl (.inl rfl) (pe_lst (pa_cons (pe_g GP hr (by rfl) gP FP.kp bP vds (pa_cons (pv 0) pa_nil)) (pa_cons (pe_gn0 GP hr (by rfl) gP FP.kp kP0 (pk_cons (pv 0) (pk_cons pe_int pk_nil))) (pa_cons (pe_gn GP hr (by rfl) gP FP.kp kP1 (pa_cons (pv 0) pa_nil) (pk_cons (pe_tup (pa_cons pe_str pa_nil)) pk_nil)) pa_nil)))))
      (pss_cons (ps_if (pt_cmpR op_ne (pe_callB (call_repr hr) (by rfl) mp (by decide +kernel) (pa_cons (pv 6) pa_nil)) (pe_callB (call_repr hr) (by rfl) mp (by decide +kernel) (pa_cons (pe_lst (pa_cons (pv 0) (pa_cons (pe_g GQ hr1 (by rfl) gQ FQ.kp bQ .nil (pa_cons (pv 0) (pa_cons pe_int (pa_cons pe_non pa_nil)))) (pa_cons (pe_g GQ hr1 (by rfl) gQ FQ.kp bQ .nil (pa_cons (pv 0) (pa_cons pe_non (pa_cons (pe_tup (pa_cons pe_str pa_nil)) pa_nil)))) pa_nil)))) pa_nil)) (nomark _)) (pss_one (ps_ret pe_bl)) pss_nil)
      (pss_cons (ps_set (i := 3) scOne.nd rfl (.inl rfl) (pe_g GX hr1 (by rfl) gX FX.kp bX .nil (pa_cons (pv 0) (pa_cons (pv 1) pa_nil))))
      (pss_one (ps_ret (pe_cmpR op_eq (pe_callB (call_repr hr) (by rfl) mp (by decide +kernel) (pa_cons (pe_lst (pa_cons (pe_g GV hr (by rfl) gV FV.kp bV .nil (pa_cons (pv 0) (pa_cons (pv 1) pa_nil))) (pa_cons (pe_gn0 GV hr (by rfl) gV FV.kp kV (pk_cons (pv 1) (pk_cons (pv 0) pk_nil))) pa_nil))) pa_nil))
        (pe_callB (call_repr hr) (by rfl) mp (by decide +kernel) (pa_cons (pe_lst (pa_cons (pv 3) (pa_cons (pv 3) pa_nil))) pa_nil)) (nomark _)))))))), ?_⟩
    have l1 := nA.many
    have l2 := nB.many
    have sz : (2 : Nat) ≤ sizeLine := by decide
    have sz3 : (3 : Nat) ≤ sizeLine := by decide
    refine iSeq ?_
    refine split_s (fun σ' H' => (∃ v2 v3, σ' = [some (.ref a), some (.ref b), v2, v3, none, none, none]) ∧ Same H H') (fun nx hnx => ?_) (fun σ' H1 hx => ?_)
    · refine ⟨1, rfl, 3, rfl, 10, 6, rfl, rfl, ⟨by decide, by decide, by decide⟩, by show 6 ≤ sizeLine; decide, fun t ht => ?_⟩
      have s0 : Same H (upd H t (.tup (timesL.map V.int))) := same_new ht
      refine ⟨t, rfl, ⟨_, sqT upd_same⟩, ?_⟩
      refine for_tup (K := K) (xs := timesL.map V.int) (fun i σ' H' => (∃ v2 v3, σ' = [some (.ref a), some (.ref b), v2, v3, none, none, none]) ∧ Same (upd H t (.tup (timesL.map V.int))) H') ⟨⟨none, none, rfl⟩, Same.refl _⟩ (fun i σ' H' _ h => sqT (h.2 _ _ upd_same)) (fun i x σ' H' hx h => ?_) (fun σ' H' h => hnx σ' H' ⟨h.1, s0.trans h.2⟩)
      obtain ⟨y, hy, rfl⟩ := map_at hx
      obtain ⟨⟨v2, v3, rfl⟩, sm⟩ := h
      have yb := times_small y hy
      have yw : -(2 ^ 64) < y ∧ y < 2 ^ 64 := by
        have : (1000000 : Int) < 2 ^ 64 := by decide
        omega
      have s01 := s0.trans sm
      refine iName ?_
      refine iSeq ?_
      refine ⟨Nat.zero_le _, fun e he => ?_⟩
      have s2 : Same H' (upd H' e (.tup [])) := same_new he
      have s02 := s01.trans s2
      refine ⟨.ref a, rfl, .int y, rfl, e, a, [], ρ, y, rfl, ⟨[], upd_same, .nil⟩, hA.keep (KeepT.of s02), by decide, by omega, yw.1, yw.2, fun H3 p3 s3 h3 => ?_⟩
      rw [addR_nil nA.ok] at h3
      refine iName ?_
      dsimp only
      have s03 := s02.trans s3
      refine ⟨.ref a, rfl, .int y, rfl, a, ρ, y, rfl, hA.keep (KeepT.of s03), by omega, yw.1, yw.2, fun H4 p4 s4 h4 => ?_⟩
      have s04 := s03.trans s4
      refine ⟨.int y, rfl, .ref a, rfl, rfl, rfl, a, ρ, y, rfl, hA.keep (KeepT.of s04), by omega, yw.1, yw.2, fun H5 p5 s5 h5 => ⟨sz, fun t6 ht6 => ?_⟩⟩
      have s6 : Same H5 (upd H5 t6 (.lst [.ref p4, .ref p5])) := same_new ht6
      have fr := fine_row (scale_row nA yb)
      try dsimp only
      refine iNil ?_
      try dsimp only
      refine repr_at (.lst (sqL upd_same) (.cons (dp_row ((h4.keep (KeepT.of s5)).keep (KeepT.of s6))) (.cons (dp_row (h5.keep (KeepT.of s6))) .nil))) (fine2 fr fr) (by decide) (by decide) ?_
      refine ⟨.ref p3, rfl, .ref p3, rfl, sz, fun t7 ht7 => ?_⟩
      have s7 : Same (upd H5 t6 (.lst [.ref p4, .ref p5])) (upd (upd H5 t6 (.lst [.ref p4, .ref p5])) t7 (.lst [.ref p3, .ref p3])) := same_new ht7
      have s37 := ((s4.trans s5).trans s6).trans s7
      have h37 := h3.keep (KeepT.of s37)
      try dsimp only
      refine iNil ?_
      try dsimp only
      refine repr_at (.lst (sqL upd_same) (.cons (dp_row h37) (.cons (dp_row h37) .nil))) (fine2 fr fr) (by decide) (by decide) ?_
      refine ⟨rfl, _, rfl, ?_⟩
      rw [decide_eq_true rfl]
      refine iteF ?_
      exact ⟨⟨_, _, rfl⟩, ((sm.trans s2).trans s3).trans s37⟩
    · obtain ⟨⟨v2, v3, rfl⟩, s1⟩ := hx
      dsimp only
      refine iSeq ?_
      refine split_s (fun σ' H' => (∃ v4 v5 v6, σ' = [some (.ref a), some (.ref b), v2, v3, v4, v5, v6]) ∧ Same H H') (fun nx hnx => ?_) (fun σ' H2 hx => ?_)
      · refine ⟨by show 5 ≤ sizeLine; decide, fun t ht => ?_⟩
        have s0 : Same H1 (upd H1 t (.tup (lastL.map vLast))) := same_new ht
        refine ⟨t, rfl, ⟨_, sqT upd_same⟩, ?_⟩
        refine for_tup (K := K) (xs := lastL.map vLast) (fun i σ' H' => (∃ v4 v5 v6, σ' = [some (.ref a), some (.ref b), v2, v3, v4, v5, v6]) ∧ Same (upd H1 t (.tup (lastL.map vLast))) H') ⟨⟨none, none, none, rfl⟩, Same.refl _⟩ (fun i σ' H' _ h => sqT (h.2 _ _ upd_same)) (fun i x σ' H' hx h => ?_) (fun σ' H' h => hnx σ' H' ⟨h.1, (s1.trans s0).trans h.2⟩)
        obtain ⟨last, _, rfl⟩ := map_at hx
        obtain ⟨⟨v4, v5, v6, rfl⟩, sm⟩ := h
        refine iName ?_
        -- the inner tuple
        refine ⟨Nat.zero_le _, fun q1 hq1 => ⟨by show 1 ≤ sizeLine; decide, fun q2 hq2 => ⟨sz, fun q3 hq3 => ⟨by show 1 ≤ sizeLine; decide, fun q4 hq4 => ⟨sz3, fun q5 hq5 => ⟨by show 6 ≤ sizeLine; decide, fun q6 hq6 => ?_⟩⟩⟩⟩⟩⟩
        have e1 := same_new (o := .tup []) hq1
        have e2 := same_new (o := .tup [.str "a"]) hq2
        have e3 := same_new (o := .tup [.str "a", .str "b"]) hq3
        have e4 := same_new (o := .tup [.str "zzzzzzzz"]) hq4
        have e5 := same_new (o := .tup [.str "a", .str "b", .str "zzzzzzzz"]) hq5
        have e6 := same_new (o := .tup [.non, .ref q1, .ref q2, .ref q3, .ref q4, .ref q5]) hq6
        have hacc : ∀ x ∈ [V.non, .ref q1, .ref q2, .ref q3, .ref q4, .ref q5], ∃ acc, AccAt K (upd (upd (upd (upd (upd (upd H' q1 (.tup [])) q2 (.tup [.str "a"])) q3 (.tup [.str "a", .str "b"])) q4 (.tup [.str "zzzzzzzz"])) q5 (.tup [.str "a", .str "b", .str "zzzzzzzz"])) q6 (.tup [.non, .ref q1, .ref q2, .ref q3, .ref q4, .ref q5])) x acc := by
          intro x hx
          simp only [List.mem_cons, List.not_mem_nil, or_false] at hx
          rcases hx with rfl | rfl | rfl | rfl | rfl | rfl
          · exact ⟨none, rfl⟩
          · exact ⟨some [], q1, rfl, e6 _ _ (e5 _ _ (e4 _ _ (e3 _ _ (e2 _ _ upd_same))))⟩
          · exact ⟨some ["a"], q2, rfl, e6 _ _ (e5 _ _ (e4 _ _ (e3 _ _ upd_same)))⟩
          · exact ⟨some ["a", "b"], q3, rfl, e6 _ _ (e5 _ _ (e4 _ _ upd_same))⟩
          · exact ⟨some ["zzzzzzzz"], q4, rfl, e6 _ _ (e5 _ _ upd_same)⟩
          · exact ⟨some ["a", "b", "zzzzzzzz"], q5, rfl, e6 _ _ upd_same⟩
        have e06 := ((((e1.trans e2).trans e3).trans e4).trans e5).trans e6
        have hq : (upd (upd (upd (upd (upd (upd H' q1 (.tup [])) q2 (.tup [.str "a"])) q3 (.tup [.str "a", .str "b"])) q4 (.tup [.str "zzzzzzzz"])) q5 (.tup [.str "a", .str "b", .str "zzzzzzzz"])) q6 (.tup [.non, .ref q1, .ref q2, .ref q3, .ref q4, .ref q5])) q6 = some (.tup [.non, .ref q1, .ref q2, .ref q3, .ref q4, .ref q5]) := upd_same
        generalize upd (upd (upd (upd (upd (upd H' q1 (.tup [])) q2 (.tup [.str "a"])) q3 (.tup [.str "a", .str "b"])) q4 (.tup [.str "zzzzzzzz"])) q5 (.tup [.str "a", .str "b", .str "zzzzzzzz"])) q6 (.tup [.non, .ref q1, .ref q2, .ref q3, .ref q4, .ref q5]) = H6 at hacc e06 hq ⊢
        refine ⟨q6, rfl, ⟨_, sqT hq⟩, ?_⟩
        refine for_tup (K := K) (xs := [.non, .ref q1, .ref q2, .ref q3, .ref q4, .ref q5]) (fun i σ' H' => (∃ v5 v6, σ' = [some (.ref a), some (.ref b), v2, v3, some (vLast last), v5, v6]) ∧ Same H6 H') ⟨⟨v5, v6, rfl⟩, Same.refl _⟩ (fun i σ' H' _ h => sqT (h.2 _ _ hq)) (fun i x σ' H7 hx h => ?_) (fun σ' H7 h => ?_)
        · obtain ⟨acc, hac⟩ := hacc x (List.mem_of_getElem? hx)
          obtain ⟨⟨v5, v6, rfl⟩, sm7⟩ := h
          have s07 := (((s1.trans s0).trans sm).trans e06).trans sm7
          refine iName ?_
          refine iSeq ?_
          refine ⟨.ref a, rfl, vLast last, rfl, x, rfl, rfl, rfl, a, ρ, last, x, acc, rfl, hA.keep (KeepT.of s07), by omega, hac.keep (KeepT.of sm7), fun H8 p8 s8 h8 => ?_⟩
          refine iName ?_
          dsimp only
          have fr := fine_row (filter_row nA (insideR last acc))
          refine ⟨.ref p8, rfl, ?_⟩
          try dsimp only
          refine iNil ?_
          try dsimp only
          refine repr_at (dp_row h8) fr (by decide) (by decide) ?_
          refine ⟨.ref a, rfl, vLast last, rfl, x, rfl, a, ρ, last, x, acc, rfl, hA.keep (KeepT.of (s07.trans s8)), by omega, (hac.keep (KeepT.of sm7)).keep (KeepT.of s8), fun H9 p9 s9 h9 => ?_⟩
          try dsimp only
          refine iNil ?_
          try dsimp only
          refine repr_at (dp_row h9) fr (by decide) (by decide) ?_
          refine ⟨rfl, _, rfl, ?_⟩
          rw [decide_eq_true rfl]
          refine iteF ?_
          exact ⟨⟨_, _, rfl⟩, (sm7.trans s8).trans s9⟩
        · obtain ⟨⟨v5, v6, rfl⟩, sm7⟩ := h
          exact ⟨⟨_, _, _, rfl⟩, (sm.trans e06).trans sm7⟩
      · obtain ⟨⟨v4, v5, v6, rfl⟩, s2⟩ := hx
        dsimp only
        refine iSeq (iAsg ?_)
        refine ⟨.ref a, rfl, a, ρ, none, .non, none, rfl, hA.keep (KeepT.of s2), by omega, rfl, fun H3 p3 s3 h3 => ?_⟩
        have s03 := s2.trans s3
        refine ⟨.ref a, rfl, rfl, rfl, a, ρ, some 1, .non, none, rfl, hA.keep (KeepT.of s03), by omega, rfl, fun H4 p4 s4 h4 => ?_⟩
        have s04 := s03.trans s4
        refine ⟨.ref a, rfl, by show 1 ≤ sizeLine; decide, fun q1 hq1 => ⟨rfl, rfl, a, ρ, none, .ref q1, some ["a"], rfl, hA.keep (KeepT.of (s04.trans (same_new hq1))), by omega, ⟨q1, rfl, upd_same⟩, fun H5 p5 s5 h5 => ⟨sz3, fun t6 ht6 => ?_⟩⟩⟩
        have s05 := (s04.trans (same_new hq1)).trans s5
        have s6 : Same H5 (upd H5 t6 (.lst [.ref p3, .ref p4, .ref p5])) := same_new ht6
        have s06 := s05.trans s6
        have s36 := ((s4.trans (same_new hq1)).trans s5).trans s6
        have s46 := ((same_new hq1).trans s5).trans s6
        refine iName ?_
        dsimp only
        refine iSeq ?_
        have f0 := fine_row (filter_row nA (insideR none none))
        have f1 := fine_row (filter_row nA (insideR (some 1) none))
        have f2 := fine_row (filter_row nA (insideR none (some ["a"])))
        have e0 : ρ.filter (insideR none none) = ρ := List.filter_eq_self.mpr fun _ _ => rfl
        refine ⟨.ref t6, rfl, ?_⟩
        try dsimp only
        refine iNil ?_
        try dsimp only
        refine repr_at (.lst (sqL upd_same) (.cons (dp_row (h3.keep (KeepT.of s36))) (.cons (dp_row (h4.keep (KeepT.of s46))) (.cons (dp_row (h5.keep (KeepT.of s6))) .nil)))) (fine3 f0 f1 f2) (by decide) (by decide) ?_
        refine ⟨.ref a, rfl, .ref a, rfl, a, ρ, some 1, .non, none, rfl, hA.keep (KeepT.of s06), by omega, rfl, fun H7 p7 s7 h7 => ?_⟩
        have s07 := s06.trans s7
        refine ⟨.ref a, rfl, by show 1 ≤ sizeLine; decide, fun q2 hq2 => ⟨a, ρ, none, .ref q2, some ["a"], rfl, hA.keep (KeepT.of (s07.trans (same_new hq2))), by omega, ⟨q2, rfl, upd_same⟩, fun H8 p8 s8 h8 => ⟨sz3, fun t9 ht9 => ?_⟩⟩⟩
        have s08 := (s07.trans (same_new hq2)).trans s8
        have s9 : Same H8 (upd H8 t9 (.lst [.ref a, .ref p7, .ref p8])) := same_new ht9
        have s09 := s08.trans s9
        have s79 := ((same_new hq2).trans s8).trans s9
        have hA9 := hA.keep (KeepT.of s09)
        rw [← e0] at hA9
        try dsimp only
        refine iNil ?_
        try dsimp only
        refine repr_at (.lst (sqL upd_same) (.cons (dp_row hA9) (.cons (dp_row (h7.keep (KeepT.of s79))) (.cons (dp_row (h8.keep (KeepT.of s9))) .nil)))) (fine3 f0 f1 f2) (by decide) (by decide) ?_
        refine ⟨rfl, _, rfl, ?_⟩
        rw [decide_eq_true rfl]
        refine iteF ?_
        refine iNext ?_
        dsimp only
        generalize upd H8 t9 (.lst [.ref a, .ref p7, .ref p8]) = H9 at s09
        refine iSeq (iAsg ?_)
        refine ⟨.ref a, rfl, .ref b, rfl, a, b, ρ, π, rfl, hA.keep (KeepT.of s09), hB.keep (KeepT.of s09), by omega, by omega, nA.wide, fun Ha sa => ?_⟩
        have s0a := s09.trans sa
        refine iName ?_
        dsimp only
        refine iRet (iOp ?_)
        have es := eff_small nA nB
        have sy : effR π ρ = effR ρ π := effR_sym nB.ok nA.ok
        refine ⟨.ref a, rfl, .ref b, rfl, a, b, ρ, π, rfl, hA.keep (KeepT.of s0a), hB.keep (KeepT.of s0a), by omega, by omega, nB.wide, fun Hb sb => ?_⟩
        have s0b := s0a.trans sb
        refine ⟨.ref b, rfl, .ref a, rfl, rfl, rfl, a, b, ρ, π, rfl, hA.keep (KeepT.of s0b), hB.keep (KeepT.of s0b), by omega, by omega, nB.wide, fun Hc sc => ⟨sz, fun td htd => ?_⟩⟩
        rw [sy] at *
        have sd := same_new (o := .lst [.int (effR ρ π), .int (effR ρ π)]) htd
        have s0d := (s0b.trans sc).trans sd
        try dsimp only
        refine iNil ?_
        try dsimp only
        refine repr_at (.lst (sqL upd_same) (.cons (.int _) (.cons (.int _) .nil))) (fineI es es) (by decide) (by decide) ?_
        refine ⟨.int (effR ρ π), rfl, .int (effR ρ π), rfl, sz, fun te hte => ?_⟩
        try dsimp only
        refine iNil ?_
        try dsimp only
        refine repr_at (.lst (sqL upd_same) (.cons (.int _) (.cons (.int _) .nil))) (fineI es es) (by decide) (by decide) ?_
        refine ⟨rfl, ?_⟩
        rw [decide_eq_true rfl]
        exact q _ (s0d.trans (same_new hte))
end
end P02
namespace P02
open PySem PySem.Spec PyProof.Rows L2 AskG
abbrev sLaw : Stmt := topS 21
abbrev NL : List Str := ["_law_script", "_law_feed_here", "_law_systems", "_law_great", "_law_system_here", "_law_kept", "_law_facts_here", "_law_line_here", "_law_k", "_law_other_in"]
theorem scLaw : FnScope NL ["_law_script"] (defScope sLaw) := ⟨rfl, rfl, rfl, by decide +kernel, rfl, by decide +kernel, by decide +kernel⟩
def rowC (x : Str) (n : Nat) (g : Nat → Int) : RowD := (List.range n).map fun (i : Nat) => ((x, 0 + (i : Int)), g i)
def greatA : RowD := rowC "a" 10 fun i => 3 - 2 * ((0 + (i : Int)) % 3)
def greatB : RowD := rowC "b" 10 fun _ => 1
def great : RowD := greatA ++ greatB
def minusB : RowD := rowC "b" 10 fun _ => -1
def great3 : RowD := great ++ [((("zzzzzzzz" : Str), (0 : Int)), (2 : Int))]
def niceB (ρ : RowD) : Bool := decide (Rising (keys ρ)) && decide (ρ.length ≤ 40) && ρ.all fun x => cellB x.1 && decide (-1000000 ≤ x.2) && decide (x.2 ≤ 1000000) && decide (x.2 ≠ 0)
theorem nice_by {ρ : RowD} (h : niceB ρ = true) : NiceR ρ := by
  unfold niceB at h
  rw [Bool.and_eq_true, Bool.and_eq_true] at h
  obtain ⟨⟨h1, h2⟩, h3⟩ := h
  have up := of_decide_eq_true h1
  have each : ∀ x ∈ ρ, CellOk x.1 ∧ -1000000 ≤ x.2 ∧ x.2 ≤ 1000000 ∧ x.2 ≠ 0 := fun x hx => by
    have := List.all_eq_true.mp h3 x hx
    rw [Bool.and_eq_true, Bool.and_eq_true, Bool.and_eq_true] at this
    obtain ⟨⟨⟨a, b⟩, c⟩, d⟩ := this
    exact ⟨cellOk_of a, of_decide_eq_true b, of_decide_eq_true c, of_decide_eq_true d⟩
  refine ⟨⟨up, fun x hx => (each x hx).2.2.2⟩, of_decide_eq_true h2, fun x hx => (each x hx).1, fun c => ?_⟩
  by_cases hc : c ∈ keys ρ
  · obtain ⟨w, h1, h2⟩ := getO_some hc
    have e : get0 ρ c = w := by
      unfold get0
      rw [h1]
      rfl
    rw [e]
    exact ⟨(each _ h2).2.1, (each _ h2).2.2.1⟩
  · rw [get0_none hc]
    omega
theorem nice_great : NiceR great := nice_by (by decide +kernel)
theorem nice_minus : NiceR minusB := nice_by (by decide +kernel)
theorem nice_great3 : NiceR great3 := nice_by (by decide +kernel)
/-- [((x, k), g k) for k in range(n)] -/
theorem lc_great {ic : Nat} {σ : L2.St} {H : Hp} {Q : VK} {x : Str} {tw : TE} (g : Nat → Int) (hic : ic < σ.length)
    (htw : ∀ σ' H' (i : Nat) (Q' : VK), σ'[ic]? = some (some (.int (0 + (i : Int)))) → Q' (.int (g i)) H' → tw σ' H' Q')
    (q : ∀ H' L ps, Same H H' → H L = none → H' L = some (.lst (ps.map V.ref)) → Paired (PairRow H') ps (rowC x 10 g) → Q (.ref L) H') :
    tLc (iRng1 (tCons (tC (.int 10)) tNil)) (gName ic) tYes (tTup (tCons (tTup (tCons (tC (.str x)) (tCons (tVar ic) tNil))) (tCons tw tNil))) [ic] σ H Q := by
  refine ⟨10, rfl, by decide, by decide, fun L hL => ?_⟩
  refine lc_range (lo := 0) (n := 10) (fun i H' => Same H H' ∧ ∃ ps, H' L = some (.lst (ps.map V.ref)) ∧ Paired (PairRow H') ps (rowC x i g) ∧ ps.length = i)
    ⟨same_new hL, [], upd_same, .nil, rfl⟩ (fun i H' hi h => ?_) (fun H' h => ?_)
  · obtain ⟨sm, ps, hps, hpp, hpl⟩ := h
    have big := sizeBig
    refine ⟨wipe1, iYes (iteT ?_)⟩
    have hat : ((wipe σ [ic]).set ic (some (.int (0 + (i : Int)))))[ic]? = some (some (.int (0 + (i : Int)))) := set1_at hic
    refine ⟨_, hat, by show 2 ≤ sizeLine; decide, fun b hb => ?_⟩
    refine htw _ _ i _ hat ⟨by show 2 ≤ sizeLine; decide, fun t ht => ?_⟩
    have s1 : Same H' (upd H' b (.tup [.str x, .int (0 + (i : Int))])) := same_new hb
    have s2 := same_new (o := .tup [.ref b, .int (g i)]) ht
    have hps2 := s2 _ _ (s1 _ _ hps)
    refine ⟨ps.map V.ref, hps2, by rw [List.length_map]; omega, ?_, ps ++ [t], ?_, ?_, by rw [List.length_append, hpl]; rfl⟩
    · intro b' o' e'
      rw [upd_ne (ne_of_none e' hL)]
      exact s2 _ _ (s1 _ _ (sm _ _ e'))
    · rw [upd_same, List.map_append]
      rfl
    · have k3 := KeepT.put (o := .lst (ps.map V.ref ++ [.ref t])) hps2 (fun _ z => nomatch z)
      have k := ((KeepT.of s1).trans (KeepT.of s2)).trans k3
      have e : rowC x (i + 1) g = rowC x i g ++ [((x, 0 + (i : Int)), g i)] := by
        unfold rowC
        rw [List.range_succ, List.map_append]
        rfl
      rw [e]
      refine Paired.snoc (Paired.mapP hpp fun _ _ z => z.keep k) ⟨b, k3 _ _ upd_same, k3 _ _ (s2 _ _ upd_same)⟩
  · obtain ⟨sm, ps, hps, hpp, _⟩ := h
    exact q H' L ps sm hL hps hpp
theorem fine_sys {ρs : List RowD} (hl : ρs.length ≤ 7) (h : ∀ ρ ∈ ρs, NiceR ρ) : Fine 4 5394938 (.tuple (ρs.map rowPD)) :=
  Fine.tup (k := 3) (n := 770703) (m := 7) (fun d hd => by
    obtain ⟨ρ, hρ, rfl⟩ := List.mem_map.mp hd
    exact fine_row (h ρ hρ).row) (by rw [List.length_map]; exact hl)
theorem dp_sys {K : PySem.W.Frag} {H : Hp} {s : Addr} {ρs : List RowD} (h : SysAt H s ρs) : Dp K H (.ref s) (.tuple (ρs.map rowPD)) := by
  obtain ⟨rs, h1, h2⟩ := h
  exact .tup (sqT h1) (dp_all (f := rowPD) (R := RowAt H) (fun _ _ z => dp_row z) h2)
end P02
namespace P02
open PySem PySem.Spec PyProof.Rows L2 AskG
/-- systems in a list -/
def SysOk (ρs : List RowD) : Prop := ρs.length ≤ 7 ∧ ∀ ρ ∈ ρs, NiceR ρ
structure Sum0 (H0 : Hp) (F L D : Addr) (H : Hp) (ss : List Addr) (ρss : List (List RowD)) : Prop where
  keep : KeepF F H0 H
  feed : FeedAt H F L
  list : H D = some (.lst (ss.map V.ref))
  sys : Paired (SysAt H) ss ρss
  ok : ∀ ρs ∈ ρss, SysOk ρs
section
variable {P : Program} {w : World} {K : PySem.W.Frag} {mg : Str → Option Value} {base : Heap}
def prLaw (K : PySem.W.Frag) : Pr := fun vs H Q => ∃ (a : Addr) (ns : List Int), vs = [.ref a] ∧ SqL K H a (ns.map V.int) ∧ ∀ H', Q (.bl true) H'
variable {fF fS fO fT fC : Addr} {fdF fdS fdO fdT fdC : FuncData}
theorem ok_law {f : Addr} {fd : FuncData} {k : Nat} (F : Fun K "law" "law" sLaw f fd)
    (FF : Fun K "_law_feed" "_law_feed" sFeed fF fdF) (bF : Binds K fdF ["_law_script"] []) (gF : mg "_law_feed" = some (.ref fF))
    (FS : Fun K "_law_system" "_law_system" sSys fS fdS) (bS : Binds K fdS ["_law_feed_here", "_law_most"] []) (gS : mg "_law_system" = some (.ref fS)) (GS : FnG P w K mg base (k + 3) fS fdS ["_law_feed_here", "_law_most"] prSys)
    (FC : Fun K "_law_facts" "_law_facts" sFacts fC fdC) (bC : Binds K fdC ["_law_feed_here"] []) (gC : mg "_law_facts" = some (.ref fC)) (GC : FnG P w K mg base (k + 2) fC fdC ["_law_feed_here"] (prLine places7 1000000))
    (FO : Fun K "_law_one_right" "_law_one_right" sOne fO fdO) (bO : Binds K fdO ["_law_line_here", "_law_facts_here"] []) (gO : mg "_law_one_right" = some (.ref fO)) (GO : FnG P w K mg base (k + 3) fO fdO ["_law_line_here", "_law_facts_here"] prOne)
    (FT : Fun K "_law_two_right" "_law_two_right" sTwo fT fdT) (bT : Binds K fdT ["_law_one_line", "_law_other_line"] []) (gT : mg "_law_two_right" = some (.ref fT)) (GT : FnG P w K mg base (k + 3) fT fdT ["_law_one_line", "_law_other_line"] prTwo)
    (ml : mg "list" = none) (mr : mg "range" = none) (mt : mg "tuple" = none) (mp : mg "repr" = none) : FnG P w K mg base (k + 4) f fd ["_law_script"] (prLaw K) := by
  have GF : FnG P w K mg base (k + 1) fF fdF ["_law_script"] (prFeed K) := ok_feed FF ml
  refine okG F scLaw (fun vs H Q h => ?_) (fun cdv A outer s H vs Q hr h => ?_)
  · obtain ⟨_, _, rfl, _⟩ := h
    rfl
  · obtain ⟨a, ns, rfl, hS, q⟩ := h
    have hr1 : RG (k + 1) (A.deeper (envOfC "law" (defScope sLaw) s.heap.objs.size f cdv)) := hr.mono (by omega)
    have hr2 : RG (k + 2) (A.deeper (envOfC "law" (defScope sLaw) s.heap.objs.size f cdv)) := hr.mono (by omega)
    refine ⟨_, pss_cons (ps_set (i := 1) scLaw.nd rfl (.inr rfl) (pe_g GF hr1 (by rfl) gF FF.kp bF .nil (pa_cons (pv 0) pa_nil)))
      (pss_cons (ps_setLc (i := 2) (own := [("_law_k", 8)]) (g := gName 8) (tt := tYes) rfl scLaw.nd rfl rfl (sw_true rfl rfl rfl (by decide +kernel)) (pi_range1 rfl mr (pa_cons pe_int pa_nil))
        (blkOk_by (N := NL) (sc := defScope sLaw) (by decide +kernel)) (fun _ _ _ _ _ => pg_name (i := 8) scLaw.nd rfl (.inl rfl)) (fun _ _ _ _ _ => pts_nil)
        (fun _ _ _ _ _ => pe_g GS hr (by rfl) gS FS.kp bS .nil (pa_cons (pv 1) (pa_cons pe_int pa_nil))))
      (pss_cons (ps_set (i := 3) scLaw.nd rfl (.inl rfl) (pe_callTy call_tuple_of (by rfl) mt (by decide +kernel) (pa_cons (pe_op op_cat
          (pe_lc (own := [("_law_k", 8)]) (g := gName 8) (tt := tYes) rfl scLaw.nd (pi_range1 rfl mr (pa_cons pe_int pa_nil)) (blkOk_by (N := NL) (sc := defScope sLaw) (by decide +kernel)) (fun _ _ _ _ _ => pg_name (i := 8) scLaw.nd rfl (.inl rfl)) (fun _ _ _ _ _ => pts_nil)
            (fun _ _ _ _ _ => pe_tup (pa_cons (pe_tup (pa_cons pe_str (pa_cons (pv 8) pa_nil))) (pa_cons (pe_op op_sub pe_int (pe_op op_mul pe_int (pe_op op_mod (pv 8) pe_int))) pa_nil))))
          (pe_lc (own := [("_law_k", 8)]) (g := gName 8) (tt := tYes) rfl scLaw.nd (pi_range1 rfl mr (pa_cons pe_int pa_nil)) (blkOk_by (N := NL) (sc := defScope sLaw) (by decide +kernel)) (fun _ _ _ _ _ => pg_name (i := 8) scLaw.nd rfl (.inl rfl)) (fun _ _ _ _ _ => pts_nil)
            (fun _ _ _ _ _ => pe_tup (pa_cons (pe_tup (pa_cons pe_str (pa_cons (pv 8) pa_nil))) (pa_cons pe_int pa_nil))))) pa_nil)))
      (pss_cons (ps_expr (pe_bm PySem.F.plainAttrs_list PySem.F.slot_list_append PySem.F.type_list_append mt_append (pv 2) (pa_cons (pe_tup (pa_cons (pv 3) (pa_cons
          (pe_callTy call_tuple_of (by rfl) mt (by decide +kernel) (pa_cons (pe_lc (own := [("_law_k", 8)]) (g := gName 8) (tt := tYes) rfl scLaw.nd (pi_range1 rfl mr (pa_cons pe_int pa_nil)) (blkOk_by (N := NL) (sc := defScope sLaw) (by decide +kernel)) (fun _ _ _ _ _ => pg_name (i := 8) scLaw.nd rfl (.inl rfl)) (fun _ _ _ _ _ => pts_nil)
            (fun _ _ _ _ _ => pe_tup (pa_cons (pe_tup (pa_cons pe_str (pa_cons (pv 8) pa_nil))) (pa_cons (pe_un un_neg pe_int) pa_nil)))) pa_nil))
          (pa_cons (pe_op op_catT (pv 3) (pe_tup (pa_cons (pe_tup (pa_cons pe_cell (pa_cons pe_int pa_nil))) pa_nil))) (pa_cons (pe_tup pa_nil) pa_nil))))) pa_nil)))
      (pss_cons (ps_for PassesOwn.never rfl (pi_list (pv 2)) (pg_name (i := 4) scLaw.nd rfl (.inl rfl))
        (pss_cons (ps_set (i := 5) scLaw.nd rfl (.inl rfl) (pe_callB (call_repr hr) (by rfl) mp (by decide +kernel) (pa_cons (pv 4) pa_nil)))
        (pss_cons (ps_set (i := 6) scLaw.nd rfl (.inl rfl) (pe_g GC hr2 (by rfl) gC FC.kp bC .nil (pa_cons (pv 1) pa_nil)))
        (pss_cons (ps_for PassesOwn.never rfl (pi_tup (pv 4)) (pg_name (i := 7) scLaw.nd rfl (.inr rfl))
          (pss_cons (ps_if (PW.pt (pw_or (pt_not (pt_val (pe_g GO hr (by rfl) gO FO.kp bO .nil (pa_cons (pv 7) (pa_cons (pv 6) pa_nil))))) (pw_or1 (pt_not (pt_val (pe_g GO hr (by rfl) gO FO.kp bO .nil (pa_cons (pv 7) (pa_cons (pe_tup pa_nil) pa_nil)))))))) (pss_one (ps_ret pe_bl)) pss_nil)
          (pss_one (ps_if (pt_cmpR (op_neD hr.room.units) (pe_lc (own := [("_law_other_in", 9)]) (g := gName 9) rfl scLaw.nd (pi_tup (pv 4)) (blkOk_by (N := NL) (sc := defScope sLaw) (by decide +kernel)) (fun _ _ _ _ _ => pg_name (i := 9) scLaw.nd rfl (.inl rfl))
              (fun _ _ _ _ _ => pts_one (pt_not (pt_val (pe_g GT hr (by rfl) gT FT.kp bT .nil (pa_cons (pv 7) (pa_cons (pv 9) pa_nil)))))) (fun _ _ _ _ _ => pv 9)) (pe_lst pa_nil) (nomark _)) (pss_one (ps_ret pe_bl)) pss_nil))))
        (pss_one (ps_if (pt_cmpR op_ne (pe_callB (call_repr hr) (by rfl) mp (by decide +kernel) (pa_cons (pv 4) pa_nil)) (pv 5) (nomark _)) (pss_one (ps_ret pe_bl)) pss_nil))))))
      (pss_one (ps_ret pe_bl)))))), ?_⟩
    -- the feed
    refine ⟨.ref a, rfl, a, ns, rfl, hS, fun H1 Fd L s1 hF => ?_⟩
    refine iName ?_
    dsimp only
    refine iSeq (iAsg ?_)
    -- the systems
    refine ⟨6, rfl, by decide, by decide, fun D hD => ?_⟩
    have nDF : D ≠ Fd := by
      obtain ⟨_, _, _, _, h, _⟩ := hF
      exact (ne_of_none h hD).symm
    have nDL : L ≠ D := by
      obtain ⟨_, _, _, _, _, h⟩ := hF
      exact ne_of_none h hD
    refine lc_range (lo := 0) (n := 6) (fun i H' => ∃ ss ρss, Sum0 H1 Fd L D H' ss ρss ∧ ss.length = i) ⟨[], [], ⟨KeepF.of (same_new hD), hF.same (same_new hD), upd_same, .nil, fun _ h => absurd h (by simp)⟩, rfl⟩ (fun i H' hi h => ?_) (fun H2 h => ?_)
    · obtain ⟨ss, ρss, M, hl⟩ := h
      refine ⟨wipe1, iYes (iteT ?_)⟩
      refine ⟨.ref Fd, rfl, Fd, L, 5, rfl, M.feed, by decide, by decide, fun H3 sy ρs k3 hF3 hsy hlen hdr => ?_⟩
      have big := sizeBig
      have hD3 : H3 D = some (.lst (ss.map V.ref)) := k3 _ _ nDF M.list
      have kt : KeepT H' H3 := k3.tup M.feed
      have kp : KeepT H3 (upd H3 D (.lst (ss.map V.ref ++ [.ref sy]))) := KeepT.put hD3 fun _ z => nomatch z
      refine ⟨_, hD3, by rw [List.length_map]; omega, ss ++ [sy], ρss ++ [ρs], ⟨fun b o hb e => ?_, ?_, ?_, ?_, fun π hπ => ?_⟩, by rw [List.length_append, hl]; rfl⟩
      · rw [upd_ne (ne_of_none e hD)]
        exact k3 _ _ hb (M.keep b o hb e)
      · obtain ⟨ns, x, l, n, h1, h2⟩ := hF3
        refine ⟨ns, x, l, n, ?_, ?_⟩
        · rw [upd_ne nDF.symm]
          exact h1
        · rw [upd_ne nDL]
          exact h2
      · rw [upd_same, List.map_append]
        rfl
      · exact Paired.snoc (Paired.mapP M.sys fun _ _ z => (z.keep kt).keep kp) (hsy.keep kp)
      · rcases List.mem_append.mp hπ with h | h
        · exact M.ok π h
        · rw [List.mem_singleton.mp h]
          exact ⟨by omega, fun ρ hρ => nice_of (hdr ρ hρ) (by decide) (fun c hc => cells_ok c (List.mem_append_left _ hc)) (by decide)⟩
    · obtain ⟨ss, ρss, M, hl6⟩ := h
      refine iName ?_
      dsimp only
      -- great
      refine iSeq (iAsg (iCB (iCons (iOp ?_))))
      refine lc_great (ic := 8) (x := "a") (fun i => 3 - 2 * ((0 + (i : Int)) % 3)) (by show 8 < 10; decide) (fun σ' H' i Q' hi hq => ⟨_, hi, _, 3, rfl, rfl, (by decide : (0 : Int) < 3), 2, _, rfl, rfl, .inl ⟨by decide, by decide⟩, 3, _, rfl, rfl, hq⟩) (fun H3 La pa s3 hLa hpa hppa => ?_)
      refine lc_great (ic := 8) (x := "b") (fun _ => 1) (by show 8 < 10; decide) (fun σ' H' i Q' hi hq => hq) (fun H4 Lb pb s4 hLb hpb hppb => ?_)
      have la : pa.length = 10 := by rw [Paired.length hppa]; rfl
      have lb : pb.length = 10 := by rw [Paired.length hppb]; rfl
      refine ⟨La, Lb, _, _, rfl, rfl, s4 _ _ hpa, hpb, by rw [List.length_map, List.length_map, la, lb]; decide, fun Lc hLc => ?_⟩
      have s5 := same_new (o := .lst (pa.map V.ref ++ pb.map V.ref)) hLc
      refine ⟨Lc, _, rfl, .inl ⟨sqL upd_same, fun g hg => ?_⟩⟩
      have s6 := same_new (o := .tup (pa.map V.ref ++ pb.map V.ref)) hg
      have s26 := (((s3.trans s4).trans s5).trans s6)
      have hgr : RowAt (upd (upd H4 Lc (.lst (pa.map V.ref ++ pb.map V.ref))) g (.tup (pa.map V.ref ++ pb.map V.ref))) g great := by
        refine ⟨pa ++ pb, by rw [upd_same, List.map_append], ?_⟩
        have k := (KeepT.of s5).trans (KeepT.of s6)
        have app : ∀ {l1 : List Addr} {m1 : RowD} {l2 : List Addr} {m2 : RowD} {R : Addr → Cell × Int → Prop}, Paired R l1 m1 → Paired R l2 m2 → Paired R (l1 ++ l2) (m1 ++ m2) := by
          intro l1 m1 l2 m2 R h1 h2
          induction h1 with
          | nil => exact h2
          | cons h _ ih => exact .cons h ih
        exact app (Paired.mapP hppa fun _ _ z => (z.keep (KeepT.of s4)).keep k) (Paired.mapP hppb fun _ _ z => z.keep k)
      have nonempty : pa.map V.ref ++ pb.map V.ref ≠ [] := by
        intro e
        have := congrArg List.length e
        rw [List.length_append, List.length_map, List.length_map, la, lb] at this
        cases this
      have lgr : (pa.map V.ref ++ pb.map V.ref).length = 20 := by rw [List.length_append, List.length_map, List.length_map, la, lb]
      have hgt : (upd (upd H4 Lc (.lst (pa.map V.ref ++ pb.map V.ref))) g (.tup (pa.map V.ref ++ pb.map V.ref))) g = some (.tup (pa.map V.ref ++ pb.map V.ref)) := upd_same
      generalize pa.map V.ref ++ pb.map V.ref = gx at hgr nonempty lgr hgt s26 ⊢
      generalize upd (upd H4 Lc (.lst gx)) g (.tup gx) = H6 at hgr hgt s26 ⊢
      refine iName ?_
      dsimp only
      -- append the made system
      refine iSeq ?_
      refine ⟨.ref D, rfl, .inl ⟨rfl, _, sqL (s26 _ _ M.list)⟩, ?_⟩
      refine ⟨.ref g, rfl, ?_⟩
      try dsimp only
      refine iCons (iCB (iCons ?_))
      refine lc_great (ic := 8) (x := "b") (fun _ => -1) (by show 8 < 10; decide) (fun σ' H' i Q' hi hq => ⟨1, rfl, hq⟩) (fun H7 Ld pd s7 hLd hpd hppd => ?_)
      refine ⟨Ld, _, rfl, .inl ⟨sqL hpd, fun g2 hg2 => ?_⟩⟩
      have s8 := same_new (o := .tup (pd.map V.ref)) hg2
      have hmin : RowAt (upd H7 g2 (.tup (pd.map V.ref))) g2 minusB := row_of_list (L := Ld) hg2 hppd
      generalize upd H7 g2 (.tup (pd.map V.ref)) = H8 at s8 hmin ⊢
      have s68 := s7.trans s8
      refine ⟨.ref g, rfl, ?_⟩
      refine ⟨by show 2 ≤ sizeLine; decide, fun c1 hc1 => ⟨by show 2 ≤ sizeLine; decide, fun c2 hc2 => ⟨by show 1 ≤ sizeLine; decide, fun c3 hc3 => ?_⟩⟩⟩
      have t1 := same_new (o := .tup [.str "zzzzzzzz", .int 0]) hc1
      have t2 := same_new (o := .tup [.ref c1, .int 2]) hc2
      have t3 := same_new (o := .tup [.ref c2]) hc3
      have t13 := (t1.trans t2).trans t3
      have hz1 : CellAt (upd (upd (upd H8 c1 (.tup [.str "zzzzzzzz", .int 0])) c2 (.tup [.ref c1, .int 2])) c3 (.tup [.ref c2])) c1 (("zzzzzzzz" : Str), (0 : Int)) := t3 _ _ (t2 _ _ upd_same)
      have hz2 : (upd (upd (upd H8 c1 (.tup [.str "zzzzzzzz", .int 0])) c2 (.tup [.ref c1, .int 2])) c3 (.tup [.ref c2])) c2 = some (.tup [.ref c1, .int 2]) := t3 _ _ upd_same
      have hz3 : (upd (upd (upd H8 c1 (.tup [.str "zzzzzzzz", .int 0])) c2 (.tup [.ref c1, .int 2])) c3 (.tup [.ref c2])) c3 = some (.tup [.ref c2]) := upd_same
      generalize upd (upd (upd H8 c1 (.tup [.str "zzzzzzzz", .int 0])) c2 (.tup [.ref c1, .int 2])) c3 (.tup [.ref c2]) = H9 at t13 hz1 hz2 hz3 ⊢
      have s69 := s68.trans t13
      have big := sizeBig
      refine ⟨g, c3, gx, [.ref c2], rfl, rfl, sqT (s69 _ _ hgt), sqT hz3, nonempty, by rw [lgr]; show 20 + 1 ≤ sizeLine; decide, fun e => by simp at e, fun _ g3 hg3 => ?_⟩
      have u1 := same_new (o := .tup (gx ++ [.ref c2])) hg3
      refine ⟨Nat.zero_le _, fun g4 hg4 => ⟨by show 4 ≤ sizeLine; decide, fun s5' hs5 => ?_⟩⟩
      have u2 := same_new (o := .tup []) hg4
      have u3 := same_new (o := .tup [.ref g, .ref g2, .ref g3, .ref g4]) hs5
      have u13 := (u1.trans u2).trans u3
      have hsys : SysAt (upd (upd (upd H9 g3 (.tup (gx ++ [.ref c2]))) g4 (.tup [])) s5' (.tup [.ref g, .ref g2, .ref g3, .ref g4])) s5' [great, minusB, great3, []] := by
        refine ⟨[g, g2, g3, g4], upd_same, .cons (hgr.keep (KeepT.of (s69.trans u13))) (.cons (hmin.keep (KeepT.of (t13.trans u13))) (.cons ?_ (.cons ⟨[], u3 _ _ upd_same, .nil⟩ .nil)))⟩
        obtain ⟨ps, h1, h2⟩ := hgr
        have egx : gx = ps.map V.ref := by
          have := h1.symm.trans hgt
          injection this with this
          injection this with this
          exact this.symm
        refine ⟨ps ++ [c2], ?_, Paired.snoc (Paired.mapP h2 fun _ _ z => z.keep (KeepT.of (s69.trans u13))) ⟨c1, u13 _ _ hz2, hz1.keep (KeepT.of u13)⟩⟩
        rw [List.map_append, ← egx]
        exact u3 _ _ (u2 _ _ upd_same)
      generalize upd (upd (upd H9 g3 (.tup (gx ++ [.ref c2]))) g4 (.tup [])) s5' (.tup [.ref g, .ref g2, .ref g3, .ref g4]) = Ha at u13 hsys ⊢
      have s2a := (s26.trans s69).trans u13
      have hDa := s2a _ _ M.list
      refine ⟨D, _, _, rfl, rfl, hDa, by rw [List.length_map, hl6]; show 6 < sizeLine; decide, ?_⟩
      have kp : KeepT Ha (upd Ha D (.lst (ss.map V.ref ++ [.ref s5']))) := KeepT.put hDa fun _ z => nomatch z
      have hFa := M.feed.same s2a
      have Mb : FeedAt (upd Ha D (.lst (ss.map V.ref ++ [.ref s5']))) Fd L ∧ (upd Ha D (.lst (ss.map V.ref ++ [.ref s5']))) D = some (.lst ((ss ++ [s5']).map V.ref)) ∧
          Paired (SysAt (upd Ha D (.lst (ss.map V.ref ++ [.ref s5'])))) (ss ++ [s5']) (ρss ++ [[great, minusB, great3, []]]) := by
        refine ⟨?_, ?_, Paired.snoc (Paired.mapP M.sys fun _ _ z => (z.keep (KeepT.of s2a)).keep kp) (hsys.keep kp)⟩
        · obtain ⟨ns, x, l, n, h1, h2⟩ := hFa
          refine ⟨ns, x, l, n, ?_, ?_⟩
          · rw [upd_ne nDF.symm]
            exact h1
          · rw [upd_ne nDL]
            exact h2
        · rw [upd_same, List.map_append]
          rfl
      have okb : ∀ ρs ∈ ρss ++ [[great, minusB, great3, []]], SysOk ρs := fun ρs h => by
        rcases List.mem_append.mp h with h | h
        · exact M.ok ρs h
        · rw [List.mem_singleton.mp h]
          refine ⟨by decide, fun ρ hρ => ?_⟩
          simp only [List.mem_cons, List.not_mem_nil, or_false] at hρ
          rcases hρ with rfl | rfl | rfl | rfl
          · exact nice_great
          · exact nice_minus
          · exact nice_great3
          · exact nice_nil
      generalize upd Ha D (.lst (ss.map V.ref ++ [.ref s5'])) = Hb at Mb ⊢
      generalize ss ++ [s5'] = ss' at Mb
      generalize ρss ++ [[great, minusB, great3, []]] = ρss' at Mb okb
      obtain ⟨hFb, hDb, hsb⟩ := Mb
      clear M hl6
      -- the loop
      refine iSeq ?_
      refine ⟨.ref D, rfl, D, rfl, ⟨_, sqL hDb⟩, ?_⟩
      refine for_list (K := K) (xs := ss'.map V.ref) (fun i σ' H' => (∃ v4 v5 v6 v7, σ' = [some (.ref a), some (.ref Fd), some (.ref D), some (.ref g), v4, v5, v6, v7, none, none]) ∧ KeepF Fd Hb H' ∧ FeedAt H' Fd L) ⟨⟨none, none, none, none, rfl⟩, KeepF.refl _ _, hFb⟩ (fun i σ' H' _ h => sqL (h.2.1 _ _ nDF hDb)) (fun i x σ' H' hx h => ?_) (fun σ' H' h => q H')
      rw [List.getElem?_map] at hx
      cases hsi : ss'[i]? with
      | none =>
        rw [hsi] at hx
        cases hx
      | some sy =>
        rw [hsi] at hx
        have ex : V.ref sy = x := Option.some.inj hx
        subst ex
        obtain ⟨⟨v4, v5, v6, v7, rfl⟩, kb, hF'⟩ := h
        obtain ⟨ρs, hρs, hsy⟩ := paired_at' hsb hsi
        have okS := okb ρs (List.mem_of_getElem? hρs)
        have hsy' := hsy.keep (kb.tup hFb)
        have fs := fine_sys okS.1 okS.2
        refine iName ?_
        refine iSeq (iAsg ?_)
        refine ⟨.ref sy, rfl, ?_⟩
        try dsimp only
        refine iNil ?_
        try dsimp only
        refine repr_at (dp_sys hsy') fs (by decide) (by decide) ?_
        refine iName ?_
        try dsimp only
        refine iSeq (iAsg ?_)
        refine ⟨.ref Fd, rfl, Fd, L, rfl, hF', fun H7 fr φ k7 hF7 hfr hφ => ?_⟩
        have nφ : NiceR φ := nice_of hφ (by decide) cells_ok (by decide)
        have hsy7 := hsy'.keep (k7.tup hF')
        refine iName ?_
        dsimp only
        refine iSeq ?_
        obtain ⟨rs, hrs, hrr⟩ := hsy7
        refine split_s (fun σ' H'' => (∃ v7, σ' = [some (.ref a), some (.ref Fd), some (.ref D), some (.ref g), some (.ref sy), some (.str (PyData.tuple (ρs.map rowPD)).shown), some (.ref fr), v7, none, none]) ∧ Same H7 H'') (fun nx hnx => ?_) (fun σ' H8 hx => ?_)
        · refine ⟨.ref sy, rfl, sy, rfl, ⟨_, sqT hrs⟩, ?_⟩
          refine for_tup (K := K) (xs := rs.map V.ref) (fun i σ' H'' => (∃ v7, σ' = [some (.ref a), some (.ref Fd), some (.ref D), some (.ref g), some (.ref sy), some (.str (PyData.tuple (ρs.map rowPD)).shown), some (.ref fr), v7, none, none]) ∧ Same H7 H'') ⟨⟨v7, rfl⟩, Same.refl _⟩ (fun i σ' H'' _ h => sqT (h.2 _ _ hrs)) (fun i x σ' H8 hx h => ?_) (fun σ' H8 h => hnx σ' H8 h)
          rw [List.getElem?_map] at hx
          cases hri : rs[i]? with
          | none =>
            rw [hri] at hx
            cases hx
          | some r =>
            rw [hri] at hx
            have ex : V.ref r = x := Option.some.inj hx
            subst ex
            obtain ⟨⟨v7, rfl⟩, sm8⟩ := h
            obtain ⟨ρ, hρ, hrow⟩ := paired_at' hrr hri
            have nρ := okS.2 ρ (List.mem_of_getElem? hρ)
            refine iName ?_
            refine iSeq ?_
            refine ⟨.ref r, rfl, .ref fr, rfl, r, fr, ρ, φ, rfl, hrow.keep (KeepT.of sm8), hfr.keep (KeepT.of sm8), nρ, nφ, fun H9 sm9 => ⟨true, rfl, iteF ?_⟩⟩
            have s79 := sm8.trans sm9
            refine ⟨.ref r, rfl, Nat.zero_le _, fun e he => ?_⟩
            have sx := s79.trans (same_new (o := .tup []) he)
            refine ⟨r, e, ρ, [], rfl, hrow.keep (KeepT.of sx), ⟨[], upd_same, .nil⟩, nρ, nice_nil, fun H10 sm10 => ⟨true, rfl, iteF ?_⟩⟩
            have s710 := sx.trans sm10
            refine iNext ?_
            dsimp only
            -- the others
            refine iTest (iOp ?_)
            refine ⟨.ref sy, rfl, sy, rfl, ⟨_, sqT (s710 _ _ hrs)⟩, fun L2 hL2 => ?_⟩
            refine lc_tup (xs := rs.map V.ref) (fun i H' => Same H10 H' ∧ H' L2 = some (.lst [])) ⟨same_new hL2, upd_same⟩ (fun i H' _ h => sqT (h.1 _ _ (s710 _ _ hrs))) (fun j y H11 hy h => ?_) (fun H11 h => ?_)
            · rw [List.getElem?_map] at hy
              cases hrj : rs[j]? with
              | none =>
                rw [hrj] at hy
                cases hy
              | some r2 =>
                rw [hrj] at hy
                have ey : V.ref r2 = y := Option.some.inj hy
                subst ey
                obtain ⟨ρ2, hρ2, hrow2⟩ := paired_at' hrr hrj
                have n2 := okS.2 ρ2 (List.mem_of_getElem? hρ2)
                have s711 := s710.trans h.1
                refine ⟨wipe1, .ref r, rfl, .ref r2, rfl, r, r2, ρ, ρ2, rfl, hrow.keep (KeepT.of s711), hrow2.keep (KeepT.of s711), nρ, n2, fun H12 sm12 => ⟨true, rfl, iteF ⟨h.1.trans sm12, sm12 _ _ h.2⟩⟩⟩
            · refine ⟨Nat.zero_le _, fun p hp => ?_⟩
              have sp := same_new (o := .lst []) hp
              refine ⟨.list [], .list [], .lst (sqL (sp _ _ h.2)) .nil, .lst (sqL upd_same) .nil, shaped_nil, shaped_nil, false, rfl, iteF ?_⟩
              exact ⟨⟨_, rfl⟩, (s710.trans h.1).trans sp⟩
        · obtain ⟨⟨v7, rfl⟩, sm8⟩ := hx
          dsimp only
          have hsy8 : SysAt H8 sy ρs := SysAt.keep ⟨rs, hrs, hrr⟩ (KeepT.of sm8)
          refine ⟨.ref sy, rfl, ?_⟩
          try dsimp only
          refine iNil ?_
          try dsimp only
          refine repr_at (dp_sys hsy8) fs (by decide) (by decide) ?_
          refine ⟨_, rfl, rfl, _, rfl, ?_⟩
          rw [decide_eq_true rfl]
          refine iteF ?_
          exact ⟨⟨_, _, _, _, rfl⟩, (kb.trans k7).trans (KeepF.of sm8), hF7.same sm8⟩
end
end P02
namespace P02
open PySem PySem.Spec PyProof.Rows L2 AskG
/-- what the top has written -/
theorem all_mk {l : PySem.W.OpenLaw} {w : World} {K : PySem.W.Frag} {h : Heap} {mg : Str → Option Value} {fa : Addr} (X : K.In h) (G : h.Ns mainGlobals mg) (hfa : mg "law" = some (.ref fa))
    {f1 f2 f3 f4 f5 f6 f7 f8 f9 f10 f11 f12 f13 f14 f15 f16 f17 f18 f19 f20 D4 : Addr} {od1 an1 od2 an2 od3 an3 od4 an4 od5 an5 od6 an6 od7 an7 od8 an8 od9 an9 od10 an10 od11 an11 od12 an12 od13 an13 od14 an14 od15 an15 od16 an16 od17 an17 od18 an18 od19 an19 od20 an20 : Option Addr} {sl1 sl2 sl3 sl4 sl5 sl6 sl7 sl8 sl9 sl10 sl11 sl12 sl13 sl14 sl15 sl16 sl17 sl18 sl19 sl20 : Array (Option Value)} {oc1 kV1 dc1 pm1 cd1 ct1 oc2 kV2 dc2 pm2 cd2 ct2 oc3 kV3 dc3 pm3 cd3 ct3 oc4 dc4 pm4 cd4 ct4 oc5 kV5 dc5 pm5 cd5 ct5 oc6 kV6 dc6 pm6 cd6 ct6 oc7 kV7 dc7 pm7 cd7 ct7 oc8 kV8 dc8 pm8 cd8 ct8 oc9 kV9 dc9 pm9 cd9 ct9 oc10 kV10 dc10 pm10 cd10 ct10 oc11 kV11 dc11 pm11 cd11 ct11 oc12 kV12 dc12 pm12 cd12 ct12 oc13 kV13 dc13 pm13 cd13 ct13 oc14 kV14 dc14 pm14 cd14 ct14 oc15 kV15 dc15 pm15 cd15 ct15 oc16 kV16 dc16 pm16 cd16 ct16 oc17 kV17 dc17 pm17 cd17 ct17 oc18 kV18 dc18 pm18 cd18 ct18 oc19 kV19 dc19 pm19 cd19 ct19 oc20 kV20 dc20 pm20 cd20 ct20 : Value}
    (a1 : PySem.W.nsIn K mainGlobals "add_rows" = some (some (.ref f1))) (l1 : K.lookup f1 = some ⟨oc1, od1, .func (PySem.W.fnOf "add_rows" "add_rows" (defArgs sAdd) (defBody sAdd) (defScope sAdd) .none kV1 dc1 pm1 an1 cd1 ct1), sl1⟩) (c1 : PySem.W.codeIn K cd1 "add_rows" = true) (k1 : PySem.W.keepIn K (.ref f1) = true)
    (a2 : PySem.W.nsIn K mainGlobals "scale_row" = some (some (.ref f2))) (l2 : K.lookup f2 = some ⟨oc2, od2, .func (PySem.W.fnOf "scale_row" "scale_row" (defArgs sScale) (defBody sScale) (defScope sScale) .none kV2 dc2 pm2 an2 cd2 ct2), sl2⟩) (c2 : PySem.W.codeIn K cd2 "scale_row" = true) (k2 : PySem.W.keepIn K (.ref f2) = true)
    (a3 : PySem.W.nsIn K mainGlobals "is_inside" = some (some (.ref f3))) (l3 : K.lookup f3 = some ⟨oc3, od3, .func (PySem.W.fnOf "is_inside" "is_inside" (defArgs sInside) (defBody sInside) (defScope sInside) .none kV3 dc3 pm3 an3 cd3 ct3), sl3⟩) (c3 : PySem.W.codeIn K cd3 "is_inside" = true) (k3 : PySem.W.keepIn K (.ref f3) = true)
    (a4 : PySem.W.nsIn K mainGlobals "part_of" = some (some (.ref f4))) (l4 : K.lookup f4 = some ⟨oc4, od4, .func (PySem.W.fnOf "part_of" "part_of" (defArgs sPart) (defBody sPart) (defScope sPart) .none (.ref D4) dc4 pm4 an4 cd4 ct4), sl4⟩) (c4 : PySem.W.codeIn K cd4 "part_of" = true) (k4 : PySem.W.keepIn K (.ref f4) = true)
    (a5 : PySem.W.nsIn K mainGlobals "effect_of" = some (some (.ref f5))) (l5 : K.lookup f5 = some ⟨oc5, od5, .func (PySem.W.fnOf "effect_of" "effect_of" (defArgs sEff) (defBody sEff) (defScope sEff) .none kV5 dc5 pm5 an5 cd5 ct5), sl5⟩) (c5 : PySem.W.codeIn K cd5 "effect_of" = true) (k5 : PySem.W.keepIn K (.ref f5) = true)
    (a6 : PySem.W.nsIn K mainGlobals "row_value" = some (some (.ref f6))) (l6 : K.lookup f6 = some ⟨oc6, od6, .func (PySem.W.fnOf "row_value" "row_value" (defArgs sVal) (defBody sVal) (defScope sVal) .none kV6 dc6 pm6 an6 cd6 ct6), sl6⟩) (c6 : PySem.W.codeIn K cd6 "row_value" = true) (k6 : PySem.W.keepIn K (.ref f6) = true)
    (a7 : PySem.W.nsIn K mainGlobals "_law_feed" = some (some (.ref f7))) (l7 : K.lookup f7 = some ⟨oc7, od7, .func (PySem.W.fnOf "_law_feed" "_law_feed" (defArgs sFeed) (defBody sFeed) (defScope sFeed) .none kV7 dc7 pm7 an7 cd7 ct7), sl7⟩) (c7 : PySem.W.codeIn K cd7 "_law_feed" = true) (k7 : PySem.W.keepIn K (.ref f7) = true)
    (a8 : PySem.W.nsIn K mainGlobals "_law_draw" = some (some (.ref f8))) (l8 : K.lookup f8 = some ⟨oc8, od8, .func (PySem.W.fnOf "_law_draw" "_law_draw" (defArgs sDraw) (defBody sDraw) (defScope sDraw) .none kV8 dc8 pm8 an8 cd8 ct8), sl8⟩) (c8 : PySem.W.codeIn K cd8 "_law_draw" = true) (k8 : PySem.W.keepIn K (.ref f8) = true)
    (a9 : PySem.W.nsIn K mainGlobals "_law_places" = some (some (.ref f9))) (l9 : K.lookup f9 = some ⟨oc9, od9, .func (PySem.W.fnOf "_law_places" "_law_places" (defArgs sPlaces) (defBody sPlaces) (defScope sPlaces) .none kV9 dc9 pm9 an9 cd9 ct9), sl9⟩) (c9 : PySem.W.codeIn K cd9 "_law_places" = true) (k9 : PySem.W.keepIn K (.ref f9) = true)
    (a10 : PySem.W.nsIn K mainGlobals "_law_tidy" = some (some (.ref f10))) (l10 : K.lookup f10 = some ⟨oc10, od10, .func (PySem.W.fnOf "_law_tidy" "_law_tidy" (defArgs sTidy) (defBody sTidy) (defScope sTidy) .none kV10 dc10 pm10 an10 cd10 ct10), sl10⟩) (c10 : PySem.W.codeIn K cd10 "_law_tidy" = true) (k10 : PySem.W.keepIn K (.ref f10) = true)
    (a11 : PySem.W.nsIn K mainGlobals "_law_plus" = some (some (.ref f11))) (l11 : K.lookup f11 = some ⟨oc11, od11, .func (PySem.W.fnOf "_law_plus" "_law_plus" (defArgs sPlus) (defBody sPlus) (defScope sPlus) .none kV11 dc11 pm11 an11 cd11 ct11), sl11⟩) (c11 : PySem.W.codeIn K cd11 "_law_plus" = true) (k11 : PySem.W.keepIn K (.ref f11) = true)
    (a12 : PySem.W.nsIn K mainGlobals "_law_small" = some (some (.ref f12))) (l12 : K.lookup f12 = some ⟨oc12, od12, .func (PySem.W.fnOf "_law_small" "_law_small" (defArgs sSmall) (defBody sSmall) (defScope sSmall) .none kV12 dc12 pm12 an12 cd12 ct12), sl12⟩) (c12 : PySem.W.codeIn K cd12 "_law_small" = true) (k12 : PySem.W.keepIn K (.ref f12) = true)
    (a13 : PySem.W.nsIn K mainGlobals "_law_line" = some (some (.ref f13))) (l13 : K.lookup f13 = some ⟨oc13, od13, .func (PySem.W.fnOf "_law_line" "_law_line" (defArgs sLine) (defBody sLine) (defScope sLine) .none kV13 dc13 pm13 an13 cd13 ct13), sl13⟩) (c13 : PySem.W.codeIn K cd13 "_law_line" = true) (k13 : PySem.W.keepIn K (.ref f13) = true)
    (a14 : PySem.W.nsIn K mainGlobals "_law_system" = some (some (.ref f14))) (l14 : K.lookup f14 = some ⟨oc14, od14, .func (PySem.W.fnOf "_law_system" "_law_system" (defArgs sSys) (defBody sSys) (defScope sSys) .none kV14 dc14 pm14 an14 cd14 ct14), sl14⟩) (c14 : PySem.W.codeIn K cd14 "_law_system" = true) (k14 : PySem.W.keepIn K (.ref f14) = true)
    (a15 : PySem.W.nsIn K mainGlobals "_law_effect" = some (some (.ref f15))) (l15 : K.lookup f15 = some ⟨oc15, od15, .func (PySem.W.fnOf "_law_effect" "_law_effect" (defArgs sEffL) (defBody sEffL) (defScope sEffL) .none kV15 dc15 pm15 an15 cd15 ct15), sl15⟩) (c15 : PySem.W.codeIn K cd15 "_law_effect" = true) (k15 : PySem.W.keepIn K (.ref f15) = true)
    (a16 : PySem.W.nsIn K mainGlobals "_law_part" = some (some (.ref f16))) (l16 : K.lookup f16 = some ⟨oc16, od16, .func (PySem.W.fnOf "_law_part" "_law_part" (defArgs sPartL) (defBody sPartL) (defScope sPartL) .none kV16 dc16 pm16 an16 cd16 ct16), sl16⟩) (c16 : PySem.W.codeIn K cd16 "_law_part" = true) (k16 : PySem.W.keepIn K (.ref f16) = true)
    (a17 : PySem.W.nsIn K mainGlobals "_law_facts" = some (some (.ref f17))) (l17 : K.lookup f17 = some ⟨oc17, od17, .func (PySem.W.fnOf "_law_facts" "_law_facts" (defArgs sFacts) (defBody sFacts) (defScope sFacts) .none kV17 dc17 pm17 an17 cd17 ct17), sl17⟩) (c17 : PySem.W.codeIn K cd17 "_law_facts" = true) (k17 : PySem.W.keepIn K (.ref f17) = true)
    (a18 : PySem.W.nsIn K mainGlobals "_law_two_right" = some (some (.ref f18))) (l18 : K.lookup f18 = some ⟨oc18, od18, .func (PySem.W.fnOf "_law_two_right" "_law_two_right" (defArgs sTwo) (defBody sTwo) (defScope sTwo) .none kV18 dc18 pm18 an18 cd18 ct18), sl18⟩) (c18 : PySem.W.codeIn K cd18 "_law_two_right" = true) (k18 : PySem.W.keepIn K (.ref f18) = true)
    (a19 : PySem.W.nsIn K mainGlobals "_law_one_right" = some (some (.ref f19))) (l19 : K.lookup f19 = some ⟨oc19, od19, .func (PySem.W.fnOf "_law_one_right" "_law_one_right" (defArgs sOne) (defBody sOne) (defScope sOne) .none kV19 dc19 pm19 an19 cd19 ct19), sl19⟩) (c19 : PySem.W.codeIn K cd19 "_law_one_right" = true) (k19 : PySem.W.keepIn K (.ref f19) = true)
    (a20 : PySem.W.nsIn K mainGlobals "law" = some (some (.ref f20))) (l20 : K.lookup f20 = some ⟨oc20, od20, .func (PySem.W.fnOf "law" "law" (defArgs sLaw) (defBody sLaw) (defScope sLaw) .none kV20 dc20 pm20 an20 cd20 ct20), sl20⟩) (c20 : PySem.W.codeIn K cd20 "law" = true) (k20 : PySem.W.keepIn K (.ref f20) = true)
    (z1 : PySem.W.nsIn K mainGlobals "sorted" = some none)
    (z2 : PySem.W.nsIn K mainGlobals "tuple" = some none)
    (z3 : PySem.W.nsIn K mainGlobals "dict" = some none)
    (z4 : PySem.W.nsIn K mainGlobals "list" = some none)
    (z5 : PySem.W.nsIn K mainGlobals "sum" = some none)
    (z6 : PySem.W.nsIn K mainGlobals "repr" = some none)
    (z7 : PySem.W.nsIn K mainGlobals "len" = some none)
    (z8 : PySem.W.nsIn K mainGlobals "range" = some none)
    (w1 : PySem.W.nsIn K D4 "last_day" = some (some .none)) (w2 : PySem.W.nsIn K D4 "accounts" = some (some .none)) :
    ∃ fd : FuncData, (∀ (s : Shared) (v : Value), BindsTo s fd ⟨[v], []⟩ [("_law_script", v)]) ∧ ∀ base : Heap, K.In base → base.Ns mainGlobals mg → FnG l.prog w K mg base 4 fa fd ["_law_script"] (prLaw K) := by
  have e := hfa.symm.trans (PySem.W.mg_of X G a20)
  cases e
  have F1 := fun_mk (st := sAdd) l1 c1 k1
  have b1 := F1.binds (ps := ["one", "other"]) fun _ _ _ _ _ _ us hl => match us, hl with | [_, _], _ => rfl
  have g1 := PySem.W.mg_of X G a1
  have F2 := fun_mk (st := sScale) l2 c2 k2
  have b2 := F2.binds (ps := ["row", "factor"]) fun _ _ _ _ _ _ us hl => match us, hl with | [_, _], _ => rfl
  have g2 := PySem.W.mg_of X G a2
  have F3 := fun_mk (st := sInside) l3 c3 k3
  have b3 := F3.binds (ps := ["cell", "last_day", "accounts"]) fun _ _ _ _ _ _ us hl => match us, hl with | [_, _, _], _ => rfl
  have g3 := PySem.W.mg_of X G a3
  have F4 : FPart K f4 (PySem.W.fnOf "part_of" "part_of" (defArgs sPart) (defBody sPart) (defScope sPart) .none (.ref D4) dc4 pm4 an4 cd4 ct4) :=
    ⟨⟨oc4, od4, .none, .ref D4, dc4, pm4, an4, cd4, ct4, sl4, rfl, l4, c4, .inl ⟨rfl, rfl⟩, .inr ⟨D4, rfl, fun q hq => by
      simp only [List.mem_cons, List.not_mem_nil, or_false] at hq
      rcases hq with rfl | rfl
      · exact ⟨_, w1, rfl⟩
      · exact ⟨_, w2, rfl⟩⟩⟩, k4⟩
  have g4 := PySem.W.mg_of X G a4
  have F5 := fun_mk (st := sEff) l5 c5 k5
  have b5 := F5.binds (ps := ["change", "row"]) fun _ _ _ _ _ _ us hl => match us, hl with | [_, _], _ => rfl
  have g5 := PySem.W.mg_of X G a5
  have F6 := fun_mk (st := sVal) l6 c6 k6
  have b6 := F6.binds (ps := ["row", "data"]) fun _ _ _ _ _ _ us hl => match us, hl with | [_, _], _ => rfl
  have g6 := PySem.W.mg_of X G a6
  have F7 := fun_mk (st := sFeed) l7 c7 k7
  have b7 := F7.binds (ps := ["_law_script"]) fun _ _ _ _ _ _ us hl => match us, hl with | [_], _ => rfl
  have g7 := PySem.W.mg_of X G a7
  have F8 := fun_mk (st := sDraw) l8 c8 k8
  have b8 := F8.binds (ps := ["_law_feed_here", "_law_many"]) fun _ _ _ _ _ _ us hl => match us, hl with | [_, _], _ => rfl
  have g8 := PySem.W.mg_of X G a8
  have F9 := fun_mk (st := sPlaces) l9 c9 k9
  have b9 := F9.binds (ps := []) fun _ _ _ _ _ _ us hl => match us, hl with | [], _ => rfl
  have g9 := PySem.W.mg_of X G a9
  have F10 := fun_mk (st := sTidy) l10 c10 k10
  have b10 := F10.binds (ps := ["_law_weights"]) fun _ _ _ _ _ _ us hl => match us, hl with | [_], _ => rfl
  have g10 := PySem.W.mg_of X G a10
  have F11 := fun_mk (st := sPlus) l11 c11 k11
  have b11 := F11.binds (ps := ["_law_one_in", "_law_other_in", "_law_times"]) fun _ _ _ _ _ _ us hl => match us, hl with | [_, _, _], _ => rfl
  have g11 := PySem.W.mg_of X G a11
  have F12 := fun_mk (st := sSmall) l12 c12 k12
  have b12 := F12.binds (ps := ["_law_line_here"]) fun _ _ _ _ _ _ us hl => match us, hl with | [_], _ => rfl
  have g12 := PySem.W.mg_of X G a12
  have F13 := fun_mk (st := sLine) l13 c13 k13
  have b13 := F13.binds (ps := ["_law_feed_here"]) fun _ _ _ _ _ _ us hl => match us, hl with | [_], _ => rfl
  have g13 := PySem.W.mg_of X G a13
  have F14 := fun_mk (st := sSys) l14 c14 k14
  have b14 := F14.binds (ps := ["_law_feed_here", "_law_most"]) fun _ _ _ _ _ _ us hl => match us, hl with | [_, _], _ => rfl
  have g14 := PySem.W.mg_of X G a14
  have F15 := fun_mk (st := sEffL) l15 c15 k15
  have b15 := F15.binds (ps := ["_law_one_in", "_law_other_in"]) fun _ _ _ _ _ _ us hl => match us, hl with | [_, _], _ => rfl
  have g15 := PySem.W.mg_of X G a15
  have F16 := fun_mk (st := sPartL) l16 c16 k16
  have b16 := F16.binds (ps := ["_law_line_here", "_law_last", "_law_some"]) fun _ _ _ _ _ _ us hl => match us, hl with | [_, _, _], _ => rfl
  have g16 := PySem.W.mg_of X G a16
  have F17 := fun_mk (st := sFacts) l17 c17 k17
  have b17 := F17.binds (ps := ["_law_feed_here"]) fun _ _ _ _ _ _ us hl => match us, hl with | [_], _ => rfl
  have g17 := PySem.W.mg_of X G a17
  have F18 := fun_mk (st := sTwo) l18 c18 k18
  have b18 := F18.binds (ps := ["_law_one_line", "_law_other_line"]) fun _ _ _ _ _ _ us hl => match us, hl with | [_, _], _ => rfl
  have g18 := PySem.W.mg_of X G a18
  have F19 := fun_mk (st := sOne) l19 c19 k19
  have b19 := F19.binds (ps := ["_law_line_here", "_law_facts_here"]) fun _ _ _ _ _ _ us hl => match us, hl with | [_, _], _ => rfl
  have g19 := PySem.W.mg_of X G a19
  have F20 := fun_mk (st := sLaw) l20 c20 k20
  have m1 := PySem.W.mg_none_of X G z1
  have m2 := PySem.W.mg_none_of X G z2
  have m3 := PySem.W.mg_none_of X G z3
  have m4 := PySem.W.mg_none_of X G z4
  have m5 := PySem.W.mg_none_of X G z5
  have m6 := PySem.W.mg_none_of X G z6
  have m7 := PySem.W.mg_none_of X G z7
  have m8 := PySem.W.mg_none_of X G z8
  refine ⟨PySem.W.fnOf "law" "law" (defArgs sLaw) (defBody sLaw) (defScope sLaw) .none kV20 dc20 pm20 an20 cd20 ct20, fun s v => .of_eq rfl, fun base _ _ => ?_⟩
  have GS : FnG l.prog w K mg base 3 f14 _ ["_law_feed_here", "_law_most"] prSys := ok_sys (k := 0) F14 F9 b9 g9 F8 b8 g8 F10 b10 g10 F13 b13 g13 F12 b12 g12 F11 b11 g11 m1 m2 m7 m3 m4 m8
  have GC : FnG l.prog w K mg base 2 f17 _ ["_law_feed_here"] (prLine places7 1000000) := ok_facts (k := 0) F17 F9 b9 g9 F8 b8 g8 F10 b10 g10 m1 m2 m7
  have GT : FnG l.prog w K mg base 3 f18 _ ["_law_one_line", "_law_other_line"] prTwo := ok_two (k := 0) F18 F1 b1 g1 F5 b5 g5 F11 b11 g11 F10 b10 g10 F15 b15 g15 m1 m2 m3 m4 m5 m6
  have GO : FnG l.prog w K mg base 3 f19 _ ["_law_line_here", "_law_facts_here"] prOne := ok_one (k := 0) F19 F2 b2 g2 F4 g4 F3 b3 g3 F6 b6 g6 F5 b5 g5 F11 b11 g11 F10 b10 g10 F15 b15 g15 F16 b16 g16 m1 m2 m3 m4 m5 m6
  exact ok_law (k := 0) F20 F7 b7 g7 F14 b14 g14 GS F17 b17 g17 GC F19 b19 g19 GO F18 b18 g18 GT m4 m8 m2 m6
end P02
open PySem PySem.W PyProof.Rows
set_option maxHeartbeats 0 in
theorem PySem.Challenge.cw_askrights_k02_row_sums_holds : PySem.Challenge.rw_askrights_k02_row_sums.Holds := by
  w_on; o_law; k_head; (case hw => w_witness2)
  k_fill
  refine AskG.walkG (l := PySem.Challenge.rw_askrights_k02_row_sums) (n := 63) (k := 4) (x := "_law_script") (pr := P02.prLaw) rfl (by decide) rfl ⟨⟨rfl, by decide, by decide⟩, rfl⟩ (fun w h Y => PySem.W.kIn_of Y) ?F (fun _ _ a ns _ hS => ⟨a, ns, rfl, hS, fun _ => rfl⟩)
  case F =>
    intro w mg fa h KX G hmg
    refine' P02.all_mk KX G hmg ?a1 ?l1 ?c1 ?k1 ?a2 ?l2 ?c2 ?k2 ?a3 ?l3 ?c3 ?k3 ?a4 ?l4 ?c4 ?k4 ?a5 ?l5 ?c5 ?k5 ?a6 ?l6 ?c6 ?k6 ?a7 ?l7 ?c7 ?k7 ?a8 ?l8 ?c8 ?k8 ?a9 ?l9 ?c9 ?k9 ?a10 ?l10 ?c10 ?k10 ?a11 ?l11 ?c11 ?k11 ?a12 ?l12 ?c12 ?k12 ?a13 ?l13 ?c13 ?k13 ?a14 ?l14 ?c14 ?k14 ?a15 ?l15 ?c15 ?k15 ?a16 ?l16 ?c16 ?k16 ?a17 ?l17 ?c17 ?k17 ?a18 ?l18 ?c18 ?k18 ?a19 ?l19 ?c19 ?k19 ?a20 ?l20 ?c20 ?k20 ?z1 ?z2 ?z3 ?z4 ?z5 ?z6 ?z7 ?z8 ?w1 ?w2
    (case a1 => k_is)
    (case l1 => k_is)
    (case c1 => k_is)
    (case k1 => k_is)
    (case a2 => k_is)
    (case l2 => k_is)
    (case c2 => k_is)
    (case k2 => k_is)
    (case a3 => k_is)
    (case l3 => k_is)
    (case c3 => k_is)
    (case k3 => k_is)
    (case a4 => k_is)
    (case l4 => k_is)
    (case c4 => k_is)
    (case k4 => k_is)
    (case a5 => k_is)
    (case l5 => k_is)
    (case c5 => k_is)
    (case k5 => k_is)
    (case a6 => k_is)
    (case l6 => k_is)
    (case c6 => k_is)
    (case k6 => k_is)
    (case a7 => k_is)
    (case l7 => k_is)
    (case c7 => k_is)
    (case k7 => k_is)
    (case a8 => k_is)
    (case l8 => k_is)
    (case c8 => k_is)
    (case k8 => k_is)
    (case a9 => k_is)
    (case l9 => k_is)
    (case c9 => k_is)
    (case k9 => k_is)
    (case a10 => k_is)
    (case l10 => k_is)
    (case c10 => k_is)
    (case k10 => k_is)
    (case a11 => k_is)
    (case l11 => k_is)
    (case c11 => k_is)
    (case k11 => k_is)
    (case a12 => k_is)
    (case l12 => k_is)
    (case c12 => k_is)
    (case k12 => k_is)
    (case a13 => k_is)
    (case l13 => k_is)
    (case c13 => k_is)
    (case k13 => k_is)
    (case a14 => k_is)
    (case l14 => k_is)
    (case c14 => k_is)
    (case k14 => k_is)
    (case a15 => k_is)
    (case l15 => k_is)
    (case c15 => k_is)
    (case k15 => k_is)
    (case a16 => k_is)
    (case l16 => k_is)
    (case c16 => k_is)
    (case k16 => k_is)
    (case a17 => k_is)
    (case l17 => k_is)
    (case c17 => k_is)
    (case k17 => k_is)
    (case a18 => k_is)
    (case l18 => k_is)
    (case c18 => k_is)
    (case k18 => k_is)
    (case a19 => k_is)
    (case l19 => k_is)
    (case c19 => k_is)
    (case k19 => k_is)
    (case a20 => k_is)
    (case l20 => k_is)
    (case c20 => k_is)
    (case k20 => k_is)
    (case z1 => k_is)
    (case z2 => k_is)
    (case z3 => k_is)
    (case z4 => k_is)
    (case z5 => k_is)
    (case z6 => k_is)
    (case z7 => k_is)
    (case z8 => k_is)
    (case w1 => k_is)
    (case w2 => k_is)
