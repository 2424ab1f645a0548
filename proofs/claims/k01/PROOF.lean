import PyProof.Rows.All
import Wide.All
import OpenK.AllK
import Wide.FinOn
import HandS.Words
import HandS.List
import PyProof.Rows.ReprR
import HandS.SortRule
import HandS.Conv
import KE.KDictPairs
import HandS.More
import HandS.DictComp
import HandS.Defaults
import PyProof.ReprLen
import PyProof.FitsInt
import HandS.TupLe
import HandS.IsInst
import HandS.Walk
import HandS.Style
import HandS.TupAny
import PyProof.Rows.IntBool
import PyProof.Rows.EqBoolInt
import PyProof.CallStr
import HandS.Text
import HandS.TupMul
import HandS.Ends
import HandS.ForMost
import PySem.Challenge.RW_askrights_k01_kinds
set_option Elab.async false
set_option linter.all false
set_option maxRecDepth 100000
set_option maxHeartbeats 8000000
/-! Defs that are only called while nothing is being shown: calls whose surroundings hold no guard, so that repr gives the plain text. -/
namespace AskG
open PySem PySem.Spec PyProof.Rows L2

/-- what a def promises, nothing being raised -/
abbrev Pr := List V → Hp → VK → Prop

/-- room for k calls, and no guard around -/
structure RG (k : Nat) (A : Around) : Prop where
  room : Room k A
  still : A.guards = some []
theorem RG.mono {j k : Nat} {A : Around} (r : RG k A) (h : j ≤ k) : RG j A :=
  ⟨r.room.mono h, r.still⟩
theorem RG.deeper {k : Nat} {A : Around} (r : RG (k + 1) A) (env : Env) : RG k (A.deeper env) :=
  ⟨r.room.deeper env, r.still⟩

section
variable (P : Program) (w : World) (K : PySem.W.Frag) (mg : Str → Option Value) (base : Heap)
structure FnG (k : Nat) (f : Addr) (fd : FuncData) (ps : List Str) (pr : Pr) : Prop where
  many : ∀ vs H Q, pr vs H Q → vs.length = ps.length
  goes : ∀ (A : Around) (outer : List Env) (s : Shared) (H : Hp) (args : Args)
    (us : List Value) (vs : List V) (Q : VK), RG k A → Env0 P w K mg base A outer s H →
    BindsTo s fd args (ps.zip us) → Vals vs us → pr vs H Q →
    codeAny (model P w) A (.call (.ref f) args) (CR CX0 outer P w H s Q E0) s
end

section
variable {P : Program} {w : World} {K : PySem.W.Frag} {mg : Str → Option Value} {base : Heap}
theorem FnG.mono {j k : Nat} {f : Addr} {fd : FuncData} {ps : List Str} {pr : Pr}
    (F : FnG P w K mg base j f fd ps pr) (h : j ≤ k) : FnG P w K mg base k f fd ps pr :=
  ⟨F.many, fun A outer s H args us vs Q hr => F.goes A outer s H args us vs Q (hr.mono h)⟩

/-- a def of the text, by its body -/
theorem fnG_of {k : Nat} {f : Addr} {name qual : Str} {params : Arguments} {body : List Stmt}
    {scope : Scope} {dV kV doc pm cdv ct oc : Value} {an od : Option Addr}
    {osl : Array (Option Value)} {N ps : List Str} {pr : Pr}
    (at_f : K.lookup f = some ⟨oc, od, .func (PySem.W.fnOf name qual params body scope dV kV doc pm an cdv ct), osl⟩)
    (code : PySem.W.codeIn K cdv qual = true) (S : FnScope N ps scope)
    (many : ∀ vs H Q, pr vs H Q → vs.length = ps.length)
    (body_ok : ∀ (A : Around) (outer : List Env) (s : Shared) (H : Hp) (vs : List V) (Q : VK),
      RG k (A.deeper (envOfC qual scope s.heap.objs.size f cdv)) → pr vs H Q →
      ∃ t, PSs (cxOf CX0 P w K mg base N qual scope f cdv A outer s H E0).nox body t ∧
        t { nx := fun _ H' => Q .non H', rt := Q } (start N vs) H) :
    FnG P w K mg base (k + 1) f
      (PySem.W.fnOf name qual params body scope dV kV doc pm an cdv ct) ps pr := by
  constructor
  · exact many
  intro A outer s H args us vs Q hr e0 hb hv hp
  have hl := many _ _ _ hp
  have inK : K.In s.heap := e0.mod.kin.keeps fun b o q => (e0.bs b o q).1
  have nl : s.heap.NoLimit := e0.mod.nolimit.keeps fun b o q => (e0.bs b o q).1
  have kinds : ∀ y ∈ ps.zip us, scope.names.lookup y.1 = some .local ∨
      (scope.names.lookup y.1 = some .cell ∧
        ((cellsFrom (s.heap.objs.size + 1) scope.names []).lookup y.1).isSome = true) := by
    rintro ⟨n, v⟩ hy
    cases S.par n (List.of_mem_zip hy).1 with
    | inl q => exact Or.inl q
    | inr q => exact Or.inr ⟨q, PySem.W.cellsFrom_some _ _ _ (Or.inl q)⟩
  refine codeAny_call_function hr.room.depth (inK _ _ at_f) rfl S.co S.gen rfl
    (PySem.W.codeRec_of inK code) (hb _ _ _ _ ?_)
  refine wpAny_newFunctionEnv_cells S.kind kinds fun env he s1 x => ?_
  subst he
  refine ⟨nl.keeps x.toInCall.keep, codeAny_func ?_⟩
  obtain ⟨t, ht, hq⟩ := body_ok A outer s H vs Q (hr.deeper _) hp
  have I : Inv (cxOf CX0 P w K mg base N qual scope f cdv A outer s H E0) [] (start N vs) H s1 :=
    inv_start S hr.room.hd e0 hl hv x
  refine wpAny_mono (ht.nox.run [] s1 (start N vs) H _ I hq) (fun fl s' hs => ?_)
    fun e s' hs => hs
  cases fl with
  | ret u =>
    obtain ⟨v, σ', H', J, rv, q⟩ := hs
    exact ⟨v, H', J.os, J.bare, J.base, J.hok, rv, q⟩
  | next =>
    obtain ⟨σ', H', J, q⟩ := hs
    exact ⟨V.non, H', J.os, J.bare, J.base, J.hok, rfl, q⟩
  | brk => exact hs.elim fun _ z => z.elim fun _ z => False.elim z.2
  | cont => exact hs.elim fun _ z => z.elim fun _ z => False.elim z.2

theorem okG {x qual : Str} {st : Stmt} {f : Addr} {fd : FuncData} {N ps : List Str} {k : Nat} {pr : Pr}
    (F : Fun K x qual st f fd) (S : FnScope N ps (defScope st))
    (many : ∀ vs H Q, pr vs H Q → vs.length = ps.length)
    (body_ok : ∀ (cdv : Value) (A : Around) (outer : List Env) (s : Shared) (H : Hp) (vs : List V) (Q : VK),
      RG k (A.deeper (envOfC qual (defScope st) s.heap.objs.size f cdv)) → pr vs H Q →
      ∃ t, PSs (cxOf CX0 P w K mg base N qual (defScope st) f cdv A outer s H E0).nox (defBody st) t ∧
        t { nx := fun _ H' => Q .non H', rt := Q } (start N vs) H) :
    FnG P w K mg base (k + 1) f fd ps pr := by
  obtain ⟨oc, od, kV, doc, pm, an, cdv, ct, osl, rfl, lk, hcd⟩ := F.ex
  exact fnG_of lk hcd S many fun A outer s H vs Q hr hp => body_ok cdv A outer s H vs Q hr hp
end

/-! ### calls -/
/-- f(..): the written arguments, then the defaults -/
def tCallG (pr : Pr) (dvs : List V) (t : TA) : TE := fun σ H Q => t σ H fun vs H1 => pr (vs ++ dvs) H1 Q
/-- f(.., k = ..) -/
def tCallKG (pr : Pr) (gV : List V → List V → List V) (t tk : TA) : TE := fun σ H Q =>
  t σ H fun vs H1 => tk σ H1 fun zs H2 => pr (gV vs zs) H2 Q

section
variable {X : Cx} {k : Nat} {f : Addr} {fd : FuncData} {ps : List Str} {pr : Pr}
theorem goG {pins : List (Addr × Obj)} {σ : L2.St} {H : Hp} {s : Shared} {Q : VK} {args : Args}
    {us : List Value} {vs : List V} (F : FnG X.prog X.w X.K X.mg X.base k f fd ps pr)
    (hr : RG k X.A) (I : Inv X pins σ H s) (hb : BindsTo s fd args (ps.zip us)) (r : Vals vs us)
    (h : pr vs H Q) : wpAny (model X.prog X.w) X.A (call (.ref f) args.pos args.kw) (EP X pins σ Q) X.xe s := by
  refine wpAny_call (codeAny_mono (F.goes X.A X.stack s H args us vs Q hr I.env0 hb r h)
    fun r s' hq => ?_)
  match r, hq with
  | .error e, hq => exact hq.elim
  | .ok (.ret u), hq => exact I.after hq
  | .ok .next, hq => exact hq.elim
  | .ok .brk, hq => exact hq.elim
  | .ok .cont, hq => exact hq.elim
end
section
variable {X : Cx} {k : Nat} {f : Addr} {fd : FuncData} {ps : List Str} {pr : Pr} {dvs : List V} {ds : List Value}
  {x : Str} {p pos : Pos} {e : Expr} {es : List Expr} {t : TA}
theorem goP {pins : List (Addr × Obj)} {σ : L2.St} {H : Hp} {s : Shared} {Q : VK} {us : List Value} {vs : List V}
    (F : FnG X.prog X.w X.K X.mg X.base k f fd ps pr) (hr : RG k X.A) (hb : Binds X.K fd ps ds) (hd : Vals dvs ds)
    (I : Inv X pins σ H s) (r : Vals vs us) (h : pr (vs ++ dvs) H Q) :
    wpAny (model X.prog X.w) X.A (call (.ref f) us) (EP X pins σ Q) X.xe s := by
  have r2 : Vals (vs ++ dvs) (us ++ ds) := r.append hd
  have hl : (us ++ ds).length = ps.length := r2.length.symm.trans (F.many _ _ _ h)
  exact goG (args := ⟨us, []⟩) F hr I (hb s us I.kIn hl) r2 h

/-- f(e, ..) -/
theorem pe_g (F : FnG X.prog X.w X.K X.mg X.base k f fd ps pr) (hr : RG k X.A) (hg : Gl X x)
    (hm : X.mg x = some (.ref f)) (hk : PySem.W.keepIn X.K (.ref f) = true) (hb : Binds X.K fd ps ds) (hd : Vals dvs ds)
    (ha : PA X (e :: es) t) (hdb : (x == ("__debug__" : Str)) = false := by decide)
    (he : starEach (e :: es) X.env = (false, eval e X.env) :: starEach es X.env := by rfl)
    (hpl : (backTo pos (starEach es X.env)).any (·.1) = false := by rfl) :
    PE X (.Call (.Name x p) (e :: es) [] pos) (tCallG pr dvs t) := by
  constructor
  intro pins s σ H Q I h
  refine wpAny_Call_Name_kw (ld_glob I hg hm ?_ hdb)
  refine PySem.W.callWith_K (h₀ := X.base) I.ok.mod.kin hk (thn (ha.run pos pins s σ H _ I h) ?_) he hpl
  rintro us s1 ⟨vs, H1, I1, r, q⟩
  exact ⟨I1.kIn, goP F hr hb hd I1 r q⟩
/-- f() -/
theorem pe_g0 (F : FnG X.prog X.w X.K X.mg X.base k f fd ps pr) (hr : RG k X.A) (hg : Gl X x)
    (hm : X.mg x = some (.ref f)) (hk : PySem.W.keepIn X.K (.ref f) = true) (hb : Binds X.K fd ps ds) (hd : Vals dvs ds)
    (hdb : (x == ("__debug__" : Str)) = false := by decide) : PE X (.Call (.Name x p) [] [] pos) (tCallG pr dvs tNil) := by
  constructor
  intro pins s σ H Q I h
  refine wpAny_Call_Name_kw (ld_glob I hg hm ?_ hdb)
  exact PySem.W.callWith_K0 I.kIn hk (goP (us := []) F hr hb hd I .nil h)
variable {ks : List Str} {g : List Value → List Value → List Value} {gV : List V → List V → List V} {kws : List Keyword} {tk : TA}
theorem goK {pins : List (Addr × Obj)} {σ : L2.St} {H : Hp} {s : Shared} {Q : VK} {us ws : List Value} {vs zs : List V}
    (F : FnG X.prog X.w X.K X.mg X.base k f fd ps pr) (hr : RG k X.A) (hb : KBinds X.K fd ps ks g gV)
    (I : Inv X pins σ H s) (r : Vals vs us) (rz : Vals zs ws) (h : pr (gV vs zs) H Q) :
    wpAny (model X.prog X.w) X.A (call (.ref f) us (ks.zip ws)) (EP X pins σ Q) X.xe s := by
  have r2 := hb.rel r rz
  have hl : (g us ws).length = ps.length := r2.length.symm.trans (F.many _ _ _ h)
  exact goG (args := ⟨us, ks.zip ws⟩) F hr I (hb.to s us ws I.kIn hl) r2 h
/-- f(e, .., k = v, ..) -/
theorem pe_gk (F : FnG X.prog X.w X.K X.mg X.base k f fd ps pr) (hr : RG k X.A) (hg : Gl X x)
    (hm : X.mg x = some (.ref f)) (hk : PySem.W.keepIn X.K (.ref f) = true) (hb : KBinds X.K fd ps ks g gV)
    (ha : PA X (e :: es) t) (hkw : PK X kws tk)
    (hall : (backToKw pos (keywordEach kws X.env)).all (·.1.isSome) = true := by rfl)
    (hks : (backToKw pos (keywordEach kws X.env)).filterMap (·.1) = ks := by rfl)
    (hdb : (x == ("__debug__" : Str)) = false := by decide)
    (he : starEach (e :: es) X.env = (false, eval e X.env) :: starEach es X.env := by rfl)
    (hpl : ((backTo pos (starEach (e :: es) X.env)).any (·.1) || (backToKw pos (keywordEach kws X.env)).any (·.1.isNone)) = false := by rfl) :
    PE X (.Call (.Name x p) (e :: es) kws pos) (tCallKG pr gV t tk) := by
  constructor
  intro pins s σ H Q I h
  refine wpAny_Call_Name_kw (ld_glob I hg hm ?_ hdb)
  refine PySem.W.callWith_KW (h₀ := X.base) I.ok.mod.kin hk hall (thn (ha.run pos pins s σ H _ I h) ?_) hpl he
  rintro us s1 ⟨vs, H1, I1, r, q⟩
  refine thn (hkw.run pos pins s1 σ H1 _ I1 q) ?_
  rintro ws s2 ⟨zs, H2, I2, rz, q2⟩
  refine ⟨I2.kIn, ?_⟩
  rw [hks]
  exact goK F hr hb I2 r rz q2
end

/-! ### repr of data -/
section
variable {X : Cx}
def rRepr (K : PySem.W.Frag) : List V → Hp → VK → Prop := fun xs H Q => ∃ (a : Addr) (d : PyData), xs = [.ref a] ∧
  Dp K H (.ref a) d ∧ d.showable = true ∧ d.hasDict = false ∧ d.depth ≤ 60 ∧ d.shown.length ≤ sizeLine ∧ Q (.str d.shown) H
theorem call_repr {k : Nat} (hr : RG k X.A) : CallR X (.builtin "repr") (rRepr X.K) := by
  intro pins s σ H xs us Q I r q
  obtain ⟨a, d, ex, hD, hs, hnd, hdp, hsz, q⟩ := q
  subst ex
  obtain ⟨u, eu, rx⟩ := vals1 r
  subst eu
  cases rx
  obtain ⟨as, rd⟩ := Dp.reads I d (.ref a) (.ref a) hD rfl
  have hu := hr.room.units
  exact repr_of_reads' rd hs (PyData.noDict_hsm hnd) hr.still (by omega) (fun _ _ z => z)
    (fun h' u tk hk => ⟨.str d.shown, H, I.kept hk, ⟨u, rfl⟩, q⟩) hsz
end
end AskG
/-! Cells (a text, an int) as keys of dicts: their order, sorted(d). -/
namespace AskG
open PySem PySem.Spec PyProof.Rows L2

abbrev Cell := Str × Int
/-- a cell as a key -/
abbrev ck (c : Cell) : List Key := [Sum.inr c.1, Sum.inl c.2]
/-- the order of cells -/
def ltC (p q : Cell) : Bool := if p.1 = q.1 then decide (p.2 < q.2) else decide (p.1.cps.toList < q.1.cps.toList)

theorem str_ext {x y : Str} (h : x.cps.toList = y.cps.toList) : x = y := by
  obtain ⟨⟨a⟩⟩ := x
  obtain ⟨⟨b⟩⟩ := y
  have h : a = b := h
  rw [h]
theorem ltC_iff {p q : Cell} : ltC p q = true ↔ (p.1.cps.toList < q.1.cps.toList) ∨ (p.1 = q.1 ∧ p.2 < q.2) := by
  unfold ltC
  by_cases e : p.1 = q.1
  · rw [if_pos e, decide_eq_true_eq]
    constructor
    · intro h
      exact Or.inr ⟨e, h⟩
    · rintro (h | h)
      · rw [e] at h
        exact absurd h (List.lt_irrefl _)
      · exact h.2
  · rw [if_neg e, decide_eq_true_eq]
    constructor
    · intro h
      exact Or.inl h
    · rintro (h | h)
      · exact h
      · exact absurd h.1 e
theorem codes_tri (x y : List Nat) : x < y ∨ x = y ∨ y < x := by
  by_cases h1 : x < y
  · exact Or.inl h1
  · by_cases h2 : y < x
    · exact Or.inr (Or.inr h2)
    · exact Or.inr (Or.inl (List.le_antisymm (List.not_lt.mp h2) (List.not_lt.mp h1)))
theorem ltC_tri (p q : Cell) : ltC p q = true ∨ p = q ∨ ltC q p = true := by
  rcases codes_tri p.1.cps.toList q.1.cps.toList with h | h | h
  · exact Or.inl (ltC_iff.mpr (Or.inl h))
  · have e := str_ext h
    rcases Int.lt_trichotomy p.2 q.2 with g | g | g
    · exact Or.inl (ltC_iff.mpr (Or.inr ⟨e, g⟩))
    · exact Or.inr (Or.inl (Prod.ext e g))
    · exact Or.inr (Or.inr (ltC_iff.mpr (Or.inr ⟨e.symm, g⟩)))
  · exact Or.inr (Or.inr (ltC_iff.mpr (Or.inl h)))
theorem ltC_trans {p q r : Cell} (h1 : ltC p q = true) (h2 : ltC q r = true) : ltC p r = true := by
  refine ltC_iff.mpr ?_
  rcases ltC_iff.mp h1 with a | ⟨a, a'⟩ <;> rcases ltC_iff.mp h2 with b | ⟨b, b'⟩
  · exact Or.inl (List.lt_trans a b)
  · exact Or.inl (b ▸ a)
  · exact Or.inl (a ▸ b)
  · exact Or.inr ⟨a.trans b, Int.lt_trans a' b'⟩
theorem ltC_irr (p : Cell) : ltC p p = false := by
  cases h : ltC p p with
  | false => rfl
  | true =>
    rcases ltC_iff.mp h with a | ⟨_, a⟩
    · exact absurd a (List.lt_irrefl _)
    · exact absurd a (Int.lt_irrefl _)
theorem ltC_asym {p q : Cell} (h : ltC p q = true) : ltC q p = false := by
  cases g : ltC q p with
  | false => rfl
  | true =>
    have := ltC_trans h g
    rw [ltC_irr] at this
    cases this
theorem swo_cells {α : Type} (k : α → Cell) : SrtO.Swo fun v u => ltC (k v) (k u) := by
  refine ⟨fun x y h => ltC_asym h, fun x y z h1 h2 => ?_⟩
  cases g : ltC (k z) (k x) with
  | false => rfl
  | true =>
    rcases ltC_tri (k x) (k y) with a | a | a
    · have := ltC_trans g a
      rw [h2] at this
      cases this
    · rw [← a, g] at h2
      cases h2
    · rw [h1] at a
      cases a

/-- the value is a tuple of a text and an int -/
def IsCl (h : Heap) (v : Value) (c : Cell) : Prop := ∃ (a : Addr) (t u : Tok), v = .ref a ∧ IsTup h a #[.str c.1 t, .int c.2 u]
section
variable {prog : Program} {w : World} {A : Around} {E : Value → Shared → Prop} {s : Shared}
theorem cell_cmp {vs : List Value} {k : Value → Cell} (hp : ∀ v ∈ vs, IsCl s.heap v (k v)) :
    SrtO.Cmp prog w A s (tuples' true) (fun p => p.1 ∈ vs) (SrtO.lt2 fun v u => ltC (k v) (k u)) := by
  intro p q hm hm'
  have h1 := hp _ hm
  have h2 := hp _ hm'
  show wpAny (model prog w) A (keyLt' (tuples' true) p.1 q.1) (fun r s' => s' = s ∧ r = ltC (k p.1) (k q.1)) (fun _ _ => False) s
  generalize k p.1 = c at h1 ⊢
  generalize k q.1 = d at h2 ⊢
  obtain ⟨a, t, u, e, o, ho, hc, n, hd⟩ := h1
  obtain ⟨a', t', u', e', o', ho', hc', n', hd'⟩ := h2
  rw [e, e']
  refine PySem.W.kat_lt ho hd ho' hd' ?_
  show PySem.W.KatLex prog w A true (decide (2 < 2)) _ [(.str c.1 t, .str d.1 t'), (.int c.2 u, .int d.2 u')] 0 s
  refine PySem.W.kat_cons (SeqAt.EqAt.str_str c.1 t d.1 t' prog w _ _ ?_)
  refine PySem.W.kat_go (fun e1 => ?_) (fun e1 => ?_)
  · have ex : c.1 = d.1 := by simpa using e1
    refine PySem.W.kat_yes (PySem.W.kat_cons (SeqAt.EqAt.int_int c.2 u d.2 u' prog w _ _ ?_))
    refine PySem.W.kat_go (fun e2 => ?_) (fun e2 => ?_)
    · have ey : c.2 = d.2 := by simpa using e2
      have e3 : ltC c d = false := by
        rw [show c = d from Prod.ext ex ey]
        exact ltC_irr d
      exact PySem.W.kat_yes (PySem.W.kat_nil ⟨rfl, e3.symm⟩)
    · have e3 : ltC c d = decide (c.2 < d.2) := if_pos ex
      refine PySem.W.kat_no (PySem.W.kat_one _ _ (PyProof.Rows.lt_int ?_))
      exact (show s = s ∧ decide (c.2 < d.2) = ltC c d from ⟨rfl, e3.symm⟩)
  · have ex : ¬ c.1 = d.1 := by simpa using e1
    have e3 : ltC c d = decide (c.1.cps.toList < d.1.cps.toList) := if_neg ex
    exact PySem.W.kat_no (oneLt_str ⟨rfl, e3.symm⟩)
theorem cell_firsts {h : Heap} : ∀ {vs : List Value}, (∀ v ∈ vs, ∃ c, IsCl h v c) →
    ∃ fs : List Value, PySem.W.KatTups h vs fs ∧ fs.length = vs.length ∧ ∀ f ∈ fs, ∃ x t, f = Value.str x t
  | [], _ => ⟨[], .nil, rfl, fun f hf => absurd hf (by simp)⟩
  | v :: vs, x => by
    obtain ⟨fs, k, hl, hi⟩ := cell_firsts (vs := vs) fun u hu => x u (List.mem_cons_of_mem _ hu)
    obtain ⟨c, a, t, u, rfl, o, ho, hc, n, hd⟩ := x v List.mem_cons_self
    refine ⟨.str c.1 t :: fs, .cons ho hc hd rfl k, congrArg (· + 1) hl, fun f hf => ?_⟩
    rcases List.mem_cons.mp hf with rfl | hf
    · exact ⟨_, _, rfl⟩
    · exact hi f hf
theorem IsCl.keeps {h h' : Heap} {v : Value} {c : Cell} (x : IsCl h v c) (k : ∀ b o, h.get? b = some o → o.cls = .type "tuple" → h'.get? b = some o) : IsCl h' v c := by
  obtain ⟨a, t, u, e, o, ho, hc, r⟩ := x
  exact ⟨a, t, u, e, o, k _ _ ho hc, hc, r⟩
theorem cells_sortable {a : Addr} {vs : List Value} {k : Value → Cell} (h0 : 0 < vs.length) (hp : ∀ v ∈ vs, IsCl s.heap v (k v))
    (ha : ∀ o, s.heap.get? a = some o → o.cls ≠ .type "tuple") : SrtO.SortableO prog w A s a vs fun v u => ltC (k v) (k u) := by
  intro h' keep
  have hp' : ∀ v ∈ vs, IsCl h' v (k v) := fun v hm => (hp v hm).keeps fun b o e c => keep b o (fun z => by subst z; exact ha o e c) e
  obtain ⟨fs, h1, h2, h3⟩ := cell_firsts fun v hm => ⟨_, hp' v hm⟩
  refine ⟨tuples' true, fun Q E hq => ?_, cell_cmp hp'⟩
  refine PySem.W.kat_kind (T := .type "str") h1 (by omega) (fun f hm => ?_) (by rfl) ?_
  · obtain ⟨x, t, rfl⟩ := h3 f hm
    exact PySem.W.Looks.now
  · have e : (Value.type "str" != Value.type "tuple") = true := by first | decide +kernel | rfl | decide
    rw [e]
    exact hq
end
end AskG
/-! sorted(d), dict(pairs) of dicts whose keys are cells. -/
namespace AskG
open PySem PySem.Spec PyProof.Rows L2

/-- a tracked tuple of a text and an int -/
def CellAt (H : Hp) (b : Addr) (c : Cell) : Prop := H b = some (.tup [.str c.1, .int c.2])
/-- the cell that stands behind a value -/
def cellOf (H : Hp) : Value → Cell
  | .ref a => match H a with
    | some (.tup [.str x, .int y]) => (x, y)
    | _ => (⟨#[]⟩, 0)
  | _ => (⟨#[]⟩, 0)
theorem cellOf_at {H : Hp} {b : Addr} {c : Cell} (h : CellAt H b c) : cellOf H (.ref b) = c := by
  unfold CellAt at h
  show (match H b with
    | some (.tup [.str x, .int y]) => (x, y)
    | _ => ((⟨#[]⟩, 0) : Cell)) = c
  rw [h]
theorem isCl_of {P : Program} {w : World} {H : Hp} {h : Heap} {b : Addr} {c : Cell} (ok : HOk P w H h) (e : CellAt H b c) : IsCl h (.ref b) c := by
  obtain ⟨_, its, r, ht⟩ := (show ObjOk P w H h b (.tup [.str c.1, .int c.2]) from ok b _ e)
  obtain ⟨x, y, ei, rx, ry⟩ := vals2 r
  obtain ⟨t, rfl⟩ := rx
  obtain ⟨u, rfl⟩ := ry
  subst ei
  exact ⟨b, t, u, rfl, ht⟩
theorem ck_inj {c d : Cell} (h : ck c = ck d) : c = d := by
  injection h with h1 h2
  injection h1 with h1
  injection h2 with h2 _
  injection h2 with h2
  exact Prod.ext h1 h2

/-- sorted(d), d a dict whose keys are the cells cs -/
def rSortT : List V → Hp → VK → Prop := fun xs H Q => ∃ (d : Addr) (kvs : List (List Key × V)) (cs : List Cell),
  xs = [.ref d] ∧ Rd H d (.dT kvs) ∧ kvs.map (·.1) = cs.map ck ∧
  ∀ (ys : List Cell) (bs : List Addr) (p : Addr), ys.Perm cs → ys.Pairwise (fun a b => ltC a b = true) →
    Paired (CellAt H) bs ys → H p = none → Q (.ref p) (upd H p (.lst (bs.map V.ref)))
theorem paired_of {α β : Type} {R : α → β → Prop} (f : α → β) : ∀ {l : List α}, (∀ x ∈ l, R x (f x)) → Paired R l (l.map f)
  | [], _ => .nil
  | x :: l, h => .cons (h x List.mem_cons_self) (paired_of f fun y hy => h y (List.mem_cons_of_mem _ hy))
theorem strict_of : ∀ {ys : List Cell}, ys.Pairwise (fun a b => ltC b a = false) → ys.Nodup → ys.Pairwise (fun a b => ltC a b = true) := by
  intro ys h n
  refine (h.and n).imp ?_
  rintro a b ⟨h1, h2⟩
  rcases ltC_tri a b with g | g | g
  · exact g
  · exact absurd g h2
  · rw [h1] at g
    cases g
section
variable {X : Cx}
theorem cr_sortT (hc : X.calm = true) : CallR X (.builtin "sorted") rSortT := by
  intro pins s σ H xs us Q I r q
  obtain ⟨d, kvs, cs, ex, hd, hks, q⟩ := q
  subst ex
  obtain ⟨u, eu, rx⟩ := vals1 r
  subst eu
  cases rx
  obtain ⟨z, hs, ks, pr, o, es, ep, ho, hx, hdt, he, hn⟩ :=
    (show ObjOk X.prog X.w H s.heap d (.dT kvs) from hd.ok I.hok)
  have l1 : es.size = ks.length := size_of_entries he
  have l2 : kvs.length = ks.length := Paired.length pr
  have hkk : ks.map (·.1) = cs.map ck := by
    rw [← hks]
    clear q he hn hd l1 l2 hks z
    induction pr with
    | nil => rfl
    | cons h t ih => rw [List.map_cons, List.map_cons, ih, h.1]
  have atK : ∀ x ∈ ks, H x.2.1 = some (.tup (x.1.map kV)) := by
    clear q he hn hd l1 l2 hks z hkk
    induction pr with
    | nil => exact fun x hx => absurd hx (by simp)
    | cons h t ih =>
      intro x hx
      rcases List.mem_cons.mp hx with e | hx
      · subst e
        rw [← h.1]
        exact h.2.1
      · exact ih x hx
  have atC : ∀ x ∈ ks, ∃ c, x.1 = ck c ∧ CellAt H x.2.1 c := by
    intro x hx
    have : x.1 ∈ cs.map ck := by
      rw [← hkk]
      exact List.mem_map_of_mem hx
    obtain ⟨c, _, ec⟩ := List.mem_map.mp this
    refine ⟨c, ec.symm, ?_⟩
    have := atK x hx
    rw [← ec] at this
    exact this
  refine Calls.call_function_entry PyProof.Rows.kind_sorted PyProof.Rows.plain_sorted
    PyProof.Rows.entry_sorted (PyProof.Rows.args_sorted1 _) ?_
  unfold Builtin.«sorted»
  refine wpAny_bind (m := checkCount "sorted" 1 1 _) (wpAny_pure ?_)
  refine wpAny_bind (PySem.W.kdu_collect (A := X.A.in1) (kdl_raw hs hx hdt) (I.ok.hd hc) ho (by omega) ?_)
  intro h' tk acc hk it
  have ea : acc.toList = ks.map fun x => Value.ref x.2.1 := by
    have hl : acc.toList.length = ks.length := by
      rw [Array.length_toList, it.1]
      exact l1
    apply List.ext_getElem?
    intro j
    rw [List.getElem?_map]
    cases hj : acc.toList[j]? with
    | none =>
      have h1 := List.getElem?_eq_none_iff.mp hj
      rw [List.getElem?_eq_none (by omega)]
      all_goals rfl
    | some v =>
      obtain ⟨en, hen, hv⟩ := it.2 j v (by rw [← Array.getElem?_toList]; exact hj)
      have qe := entry_at he j
      rw [hen] at qe
      cases hb : ks[j]? with
      | none =>
        rw [hb] at qe
        exact nomatch (show some en = none from qe)
      | some b =>
        rw [hb] at qe
        have e2 : en = entryOfKey (tupleKind (mixKind X.prog X.w)) b := Option.some.inj qe
        rw [hv, e2]
        all_goals rfl
  generalize acc.toList = vs at ea ⊢
  subst ea
  have hz : (ks.map fun x => Value.ref x.2.1).length ≤ sizeLine := by
    rw [List.length_map]
    omega
  have I1 : Inv X pins σ H { s with heap := h', toks := tk } := I.kept hk
  refine wpAny_bind (wpAny_newList ?_ hz)
  generalize hvs : (ks.map fun x => Value.ref x.2.1) = vs at hz ⊢
  have hoL : (h'.push (seqObj "list" vs.toArray 0)).get? h'.objs.size = some (seqObj "list" vs.toArray 0) :=
    Heap.get?_push_size _ rfl
  have hcl : ∀ v ∈ vs, ∃ b c, v = .ref b ∧ CellAt H b c := by
    intro v hv
    rw [← hvs] at hv
    obtain ⟨x, hx, rfl⟩ := List.mem_map.mp hv
    obtain ⟨c, _, hc⟩ := atC x hx
    exact ⟨_, c, rfl, hc⟩
  show wpAny _ _ _ _ _ { s with heap := h'.push (seqObj "list" vs.toArray 0), toks := tk }
  refine wpAny_bind (wpAny_holding (wpAny_call_entry PyProof.Rows.slot_list_sort ⟨_, hoL, rfl⟩ PyProof.Rows.entry_list_sort
    (SrtO.list_sort_ord (ltv := fun v u => ltC (cellOf H v) (cellOf H u)) (swo_cells _) hoL hz (fun h2 => ?_) (fun out hs hb => ⟨_, rfl, ?_⟩))
    (PyProof.Rows.args_list_sort _)))
  · refine cells_sortable (by omega) (fun v hv => ?_) fun o' eo => ?_
    · obtain ⟨b, c, rfl, hc⟩ := hcl v hv
      rw [cellOf_at hc]
      exact (isCl_of I1.hok hc).keeps fun b o e _ => Heap.get?_push_of_some _ e
    · have e' : some o' = some (seqObj "list" vs.toArray 0) := eo.symm.trans hoL
      cases e'
      intro c
      exact absurd (Value.type.inj c) (by decide)
  · obtain ⟨e', he'⟩ := PyProof.Rows.sortedHeap_at (vs := vs) (out := out.toArray) hoL
    have hout : ∀ v ∈ out, ∃ b c, v = .ref b ∧ CellAt H b c := fun v hv => hcl v (hb.perm.mem_iff.mp hv)
    have hbs : ∃ bs : List Addr, out = bs.map Value.ref := by
      clear hb hs he'
      induction out with
      | nil => exact ⟨[], rfl⟩
      | cons v l ih =>
        obtain ⟨bs, rfl⟩ := ih fun u hu => hout u (List.mem_cons_of_mem _ hu)
        obtain ⟨b, c, rfl, _⟩ := hout v List.mem_cons_self
        exact ⟨b :: bs, rfl⟩
    obtain ⟨bs, rfl⟩ := hbs
    have hcs : (vs.map (cellOf H)) = cs := by
      rw [← hvs, List.map_map]
      have inj : ∀ {a b : List Cell}, a.map ck = b.map ck → a = b := by
        intro a
        induction a with
        | nil =>
          intro b h
          cases b with
          | nil => rfl
          | cons _ _ => cases h
        | cons x a ih =>
          intro b h
          cases b with
          | nil => cases h
          | cons y b =>
            rw [List.map_cons, List.map_cons] at h
            injection h with h1 h2
            rw [ck_inj h1, ih h2]
      refine inj ?_
      rw [List.map_map, ← hkk]
      refine List.map_congr_left fun x hx => ?_
      obtain ⟨c, ec, hc⟩ := atC x hx
      show ck (cellOf H (.ref x.2.1)) = x.1
      rw [cellOf_at hc, ec]
    have perm : ((bs.map Value.ref).map (cellOf H)).Perm cs := by
      rw [← hcs]
      exact hb.perm.map _
    have hcn : cs.Nodup := by
      have := hn
      rw [hkk] at this
      exact (List.pairwise_map.mp this).imp fun h e => h (congrArg ck e)
    have hst := strict_of (List.pairwise_map.mpr hs) (perm.nodup_iff.mpr hcn)
    have hlen : (bs.map V.ref).length ≤ sizeLine := by
      have := hb.perm.length_eq
      rw [List.length_map] at this ⊢
      omega
    refine wpAny_pure ⟨_, rfl, .ref h'.objs.size, upd H h'.objs.size (.lst (bs.map V.ref)), I1.laid (t' := tk) (fun b u e => ?_) (Nat.le_refl _)
      (show ObjOk X.prog X.w _ _ _ (.lst (bs.map V.ref)) from ⟨hlen, bs.map Value.ref, e', vals_refs _, he'⟩), rfl,
      q _ bs _ perm hst ?_ (I1.hok.fresh (Nat.le_refl _))⟩
    · have hb : b < h'.objs.size := Heap.lt_size e
      rw [PyProof.Rows.sortedHeap_old (Nat.ne_of_lt hb) (by rw [size_push']; exact Nat.lt_succ_of_lt hb)]
      exact Heap.get?_push_of_some _ e
    · rw [List.map_map]
      refine paired_of _ fun b hb' => ?_
      obtain ⟨b2, c, e2, hc⟩ := hout (.ref b) (List.mem_map_of_mem hb')
      cases e2
      show CellAt H b (cellOf H (.ref b))
      rw [cellOf_at hc]
      exact hc

/-! ### dict(pairs) -/
/-- one after another, later ones win -/
def putAll (kvs more : List (List Key × V)) : List (List Key × V) := more.foldl (fun acc kv => putK acc kv.1 kv.2) kvs
theorem length_putAll : ∀ (more kvs : List (List Key × V)), (putAll kvs more).length ≤ kvs.length + more.length
  | [], kvs => Nat.le_refl _
  | m :: more, kvs => by
    have h1 := length_putAll more (putK kvs m.1 m.2)
    have h2 := length_putK kvs m.1 m.2
    rw [List.length_cons]
    show (putAll (putK kvs m.1 m.2) more).length ≤ _
    omega
theorem ktAll {H : Hp} {more : List (List Key × V)} {ms : List (List Key × Addr × Value)} (r : KT H more ms) :
    ∀ {kvs : List (List Key × V)} {xs : List (List Key × Addr × Value)}, KT H kvs xs → KT H (putAll kvs more) (storedAllH xs ms) := by
  induction r with
  | nil => exact fun h => h
  | @cons p q _ _ h t ih =>
    intro kvs xs g
    show KT H (putAll (putK kvs p.1 p.2) _) (storedAllH (storedH xs q.1 q.2.1 q.2.2) _)
    refine ih ?_
    have := KT.put g p.1 (b := q.2.1) h.2.1 h.2.2
    rw [h.1] at this ⊢
    exact this
/-- a tracked pair: a key tuple and a value -/
def PairAt' (K : PySem.W.Frag) (H : Hp) (p : Addr) (kv : List Key × V) : Prop := ∃ b, SqT K H p [.ref b, kv.2] ∧ H b = some (.tup (kv.1.map kV))
theorem pairsT_of {pins : List (Addr × Obj)} {σ : L2.St} {H : Hp} {s : Shared} (I : Inv X pins σ H s) : ∀ {ps : List Addr} {kvs : List (List Key × V)}, Paired (PairAt' X.K H) ps kvs →
    ∃ ms : List (List Key × Addr × Value), KT H kvs ms ∧ ms.length = ps.length ∧ ∀ (j : Nat) (q : List Key × Addr × Value), ms[j]? = some q → ∃ b : Addr, ps[j]? = some b ∧ IsTup s.heap b #[.ref q.2.1, q.2.2]
  | _, _, .nil => ⟨[], .nil, rfl, fun j q e => by simp at e⟩
  | _, _, .cons (a := p) (b := kv) h t => by
    obtain ⟨ms, r, hl, hp⟩ := pairsT_of I t
    obtain ⟨b, hb, hk⟩ := h
    obtain ⟨its, rv, ht, _⟩ := I.tuple hb
    obtain ⟨u, y, ei, ru, ry⟩ := vals2 rv
    subst ei
    cases ru
    refine ⟨(kv.1, b, y) :: ms, .cons ⟨rfl, hk, ry⟩ r, congrArg (· + 1) hl, fun j q e => ?_⟩
    cases j with
    | zero =>
      have e' : (kv.1, b, y) = q := Option.some.inj e
      subst e'
      exact ⟨p, rfl, ht⟩
    | succ j =>
      obtain ⟨b', e1, e2⟩ := hp j q (by simpa using e)
      exact ⟨b', by simpa using e1, e2⟩
/-- dict(xs), xs a list of pairs whose keys are tuples -/
theorem call_dictT {k : Nat} (hc : X.calm = true) (hr : Room k X.A) : CallR X (.type "dict") (fun xs H Q => ∃ (a : Addr) (ps : List Addr) (kvs : List (List Key × V)), xs = [.ref a] ∧ SqL X.K H a (ps.map V.ref) ∧ Paired (PairAt' X.K H) ps kvs ∧
    ∀ p, H p = none → Q (.ref p) (upd H p (.dT (putAll [] kvs)))) := by
  intro pins s σ H xs us Q I r q
  obtain ⟨a, ps, kvs, ex, hq, hp, q⟩ := q
  subst ex
  obtain ⟨u, eu, rx⟩ := vals1 r
  subst eu
  cases rx
  obtain ⟨its, rv, pl, hz⟩ := I.list hq
  have ei := refs_at rv
  subst ei
  rw [List.length_map] at hz
  obtain ⟨ms, rel, hl, hpr⟩ := pairsT_of I hp
  obtain ⟨o, n, ho, hcl, hd, hdat⟩ := pl
  have hu := hr.units
  have isK : ∀ (h' : Heap), (∀ b o, s.heap.get? b = some o → h'.get? b = some o) → ∀ x ∈ ms, (tupleKind (mixKind X.prog X.w)).is h' x.1 x.2.1 := by
    intro h' kp x hx
    have ok' : HOk X.prog X.w H h' := (I.kept (t' := s.toks) kp).hok
    have all : ∀ {l : List (List Key × V)} {m : List (List Key × Addr × Value)}, KT H l m → ∀ x ∈ m, H x.2.1 = some (.tup (x.1.map kV)) := by
      intro l m q
      induction q with
      | nil => exact fun x hx => absurd hx (by simp)
      | cons h t ih =>
        intro x hx
        rcases List.mem_cons.mp hx with e | hx
        · subst e
          rw [← h.1]
          exact h.2.1
        · exact ih x hx
    exact key_of ok' (all rel x hx)
  have pit : PairItems s.heap (ps.map Value.ref).toArray (fun j => ps.getD j 0) (ms.map fun q => (Value.ref q.2.1, q.2.2)) := by
    refine ⟨by simp [hl], fun j k' v e => ?_⟩
    rw [List.getElem?_map] at e
    cases em : ms[j]? with
    | none =>
      rw [em] at e
      cases e
    | some q' =>
      rw [em] at e
      obtain ⟨b, e1, e2⟩ := hpr j q' em
      have e3 : (Value.ref q'.2.1, q'.2.2) = (k', v) := Option.some.inj e
      injection e3 with e4 e5
      have eg : ps.getD j 0 = b := by rw [List.getD_eq_getElem?_getD, e1]; rfl
      refine ⟨?_, ?_⟩
      · show _ = some (Value.ref (ps.getD j 0))
        rw [eg]
        simp [e1]
      · show PairAt s.heap (ps.getD j 0) k' v
        rw [eg, ← e4, ← e5]
        exact .inl e2
  have hsz : ms.length ≤ sizeLine := by rw [hl]; exact hz
  have P := PairArg.list (prog := X.prog) (w := X.w) a (ps.map Value.ref).toArray (fun j => ps.getD j 0) (ms.map fun q => (Value.ref q.2.1, q.2.2))
  refine call_dict_pairsH (knd := tupleKind (mixKind X.prog X.w)) (ps := ms) P (I.ok.hd hc) (tupleKind_room_in1 (A := X.A.in1) (by show X.A.units + 1 + 1 < _; omega)) ⟨⟨o, n, ho, hcl, hd, hdat⟩, pit⟩ ⟨by rw [List.length_map], fun i key v e => ?_⟩ (fun h' hk' x hx => ?_) (by rw [List.length_map]; exact hsz) fun h' tk hd' kp => ?_
  · have e : (ms.map fun q => (Value.ref q.2.1, q.2.2))[i]? = some (key, v) := e
    rw [List.getElem?_map] at e
    cases em : ms[i]? with
    | none =>
      rw [em] at e
      cases e
    | some q' =>
      rw [em] at e
      have e3 : (Value.ref q'.2.1, q'.2.2) = (key, v) := Option.some.inj e
      injection e3 with e4 e5
      exact ⟨q'.1, q'.2.1, by rw [← e5], e4.symm⟩
  · exact isK h' (fun b o e => hk' b o (Nat.ne_of_lt (Heap.lt_size e)) (by simp) e) x hx
  · have kp' : ∀ b o, s.heap.get? b = some o → h'.get? b = some o := fun b o e => kp b o (by simp) e
    have hm : (s.heap.objs.size == sysModules) = false := beq_eq_false_iff_ne.mpr (Nat.ne_of_gt I.big)
    have hfr : H s.heap.objs.size = none := I.hok.fresh (Nat.le_refl _)
    have hlen : (putAll [] kvs).length ≤ sizeLine := by
      refine Nat.le_trans (length_putAll kvs []) ?_
      rw [List.length_nil, Nat.zero_add, Paired.length rel]
      exact hsz
    obtain ⟨q1, es, ep, h1, h2, h3, h4, _, h5⟩ := hd'
    refine ⟨.ref s.heap.objs.size, upd H s.heap.objs.size (.dT (putAll [] kvs)), I.laid (t' := tk) kp' (Nat.le_refl _)
      (show ObjOk X.prog X.w _ _ _ (.dT (putAll [] kvs)) from ⟨hlen, hm, storedAllH [] ms, (ktAll rel .nil).keeps fun c ys ec => ?_, q1, es, ep, h1, h2, h3, h4, h5⟩), rfl, q _ hfr⟩
    rw [upd_ne (ne_of_none ec hfr)]
    exact ec
end
end AskG
/-! {k: v for .. in ..}, the keys tuples. -/
namespace AskG
open PySem PySem.Spec PyProof.Rows L2

theorem setT {X : Cx} {pins : List (Addr × Obj)} {σ : L2.St} {H : Hp} {s : Shared} {E : Value → Shared → Prop} {D b : Addr}
    {kvs : List (List Key × V)} {k : List Key} {v : V} {r : Value} {Q : Unit → Shared → Prop} (hu : X.A.units + 1 < cLine)
    (I : Inv X pins σ H s) (hD : H D = some (.dT kvs)) (hb : H b = some (.tup (k.map kV))) (hz : kvs.length < sizeLine)
    (rv : RelV v r) (h : ∀ s', Inv X pins σ (upd H D (.dT (putK kvs k v))) s' → Q () s') :
    wpAny (model X.prog X.w) X.A (dictSet D (.ref b) r) Q E s := by
  obtain ⟨z, hd, xs, rel, dd⟩ := dt_of I.hok hD
  have hx : xs.length ≤ sizeLine := by
    rw [← Paired.length rel]
    exact z
  have hl : (putK kvs k v).length ≤ sizeLine := by
    have := length_putK kvs k v
    omega
  refine wpAny_dictSet_heap (hsz := hx) (knd := tupleKind (mixKind X.prog X.w)) (show X.A.units < cLine by omega)
    (key_of I.hok hb) dd fun h' dd' hs => h _ ?_
  obtain ⟨q, es, ep, hq, h2, h3, h4, _, h5⟩ := dd'
  refine d_write I (by rw [hD]; exact True.intro) hs ⟨q, hq⟩
    ⟨hl, hd, _, (rel.put k hb rv).keeps fun c ys ec => ?_, q, es, ep, hq, h2, h3, h4, h5⟩
  rw [upd_ne (ne_of ec hD (fun z => nomatch z))]
  exact ec

/-- the reading: D the new dict -/
def tDcT (wi : TI) (g : TG) (tk tv : TE) (vs : List Nat) : TE := fun σ H Q => wi σ H fun J H1 => ∀ D, H1 D = none →
  ∃ W : Nat → Nat → Hp → Prop, (∃ m, W 0 m (upd H1 D (.dT []))) ∧ ∀ i m H, W i m H →
    (J.stop i H ∧ Q (.ref D) H) ∨ (J.go i H ∧ ∃ Nx : Hp → Prop, (∀ H', Nx H' → ∃ m', m' < m ∧ W (i + 1) m' H') ∧
      ∀ x H', J.yld i H x H' → g x (wipe σ vs) H' fun σ2 H2 => wipe σ2 vs = wipe σ vs ∧
        tk σ2 H2 fun y H4 => tv σ2 H4 fun z H5 => ∃ b kvs k, y = .ref b ∧ H5 b = some (.tup (k.map kV)) ∧
          H5 D = some (.dT kvs) ∧ kvs.length < sizeLine ∧ Nx (upd H5 D (.dT (putK kvs k z))))

section
variable {X : Cx}
theorem pe_dcT {kx vx tg iter : Expr} {scope : Scope} {own : List (Str × Nat)} {pos : Pos} {wi : TI} {g : TG} {tk tv : TE}
    (hu : X.A.units + 1 < cLine) (hc : X.calm = true) (hN : X.N.Nodup) (hi : PI X tg iter wi) (ok : BlkOk X.N X.env.scope scope own)
    (hg : ∀ (s : Shared) (H : Hp) (C : Addr) (cl : List (Str × Addr)) (fp : List Addr),
      PG (X.blk s H scope (compEnvC scope cl C X.env) fp) tg g)
    (hk : ∀ (s : Shared) (H : Hp) (C : Addr) (cl : List (Str × Addr)) (fp : List Addr),
      PE (X.blk s H scope (compEnvC scope cl C X.env) fp) kx tk)
    (he : ∀ (s : Shared) (H : Hp) (C : Addr) (cl : List (Str × Addr)) (fp : List Addr),
      PE (X.blk s H scope (compEnvC scope cl C X.env) fp) vx tv)
    (hs : ∀ x, foldedSetIterable iter X.env x = pure x := by intro _; rfl) :
    PE X (.DictComp kx vx [⟨tg, iter, [], 0⟩] scope pos) (tDcT wi g tk tv (own.map (·.2))) := by
  constructor
  intro pins s σ H Q I h
  rw [arm_eval_DictComp]
  have hfree : ∀ y ∈ scope.names, y.2 = .free → ∃ c, X.env.cells.lookup y.1 = some c := by
    intro y hy e
    exact (ok.free y hy e).elim (fun k => I.ok.has _ (.inl k)) fun k => I.ok.has _ (.inr k)
  refine wpAny_comprehension_free rfl hs (closure_ok hfree) ok.kind (fun y hy e => by rw [ok.uniq y hy, e])
    (thn (hi.run pins s σ H _ I h) fun xv s1 hx => thn hx ?_)
  rintro itv s2 ⟨it, fp, tn, J, H2, e, I2, T, st2, f2, q⟩
  subst e
  refine wpAny_newObj_type (newEnv_comp ?_)
  generalize hD : s2.heap.objs.size = D
  have hDn : H2 D = none := I2.hok.fresh (Nat.le_of_eq hD)
  obtain ⟨W, ⟨m0, w0⟩, turn⟩ := q D hDn
  generalize hs3 : ({ s2 with heap := s2.heap.push { cls := .type "dict", data := .dict #[] } } : Shared) = s3
  have I3 : Inv X pins σ (upd H2 D (.dT [])) s3 := by
    rw [← hs3]
    refine I2.laid (t' := s2.toks) (fun b o e => Heap.get?_push_of_some _ e) (Nat.le_of_eq hD) ?_
    rw [← hD]
    exact dt_empty s2.heap I2.big
  have h3 : s3.heap = s2.heap.push { cls := .type "dict", data := .dict #[] } := by rw [← hs3]
  have sz : ∀ b ∈ fp, b < s2.heap.objs.size := fun b hb => (T.obj _ _ st2 b hb).elim fun o e => Heap.lt_size e.1
  have f3 : ∀ b ∈ fp, FpOk X pins (upd H2 D (.dT [])) b ∧ b < s3.heap.objs.size := by
    intro b hb
    have hlt := sz b hb
    refine ⟨⟨?_, (f2 b hb).2⟩, by rw [h3, Heap.size_push]; exact Nat.lt_succ_of_lt hlt⟩
    rw [upd_ne (by rw [← hD]; exact Nat.ne_of_lt hlt)]
    exact (f2 b hb).1
  have st3 : tn 0 s3.heap := T.keep _ _ _ st2 fun b _ o e => by
    rw [h3]
    exact Heap.get?_push_of_some _ e
  have I4 := block_start I3 ok hN f3
  have pg := hg s3 (upd H2 D (.dT [])) s3.heap.objs.size
    (cellsFrom (s3.heap.objs.size + 1) scope.names (cloFrom X.env.cells scope.names [])) fp
  have pk := hk s3 (upd H2 D (.dT [])) s3.heap.objs.size
    (cellsFrom (s3.heap.objs.size + 1) scope.names (cloFrom X.env.cells scope.names [])) fp
  have pe := he s3 (upd H2 D (.dT [])) s3.heap.objs.size
    (cellsFrom (s3.heap.objs.size + 1) scope.names (cloFrom X.env.cells scope.names [])) fp
  have nfp : ∀ b ∈ fp, (upd H2 D (.dT [])) b = none := fun b hb => (f3 b hb).1.1
  show codeAny _ _ (.compStart (.DictComp kx vx [⟨tg, iter, [], 0⟩] scope pos) 0 (.ref it) (.ref D)
    (compEnvC scope (cellsFrom (s3.heap.objs.size + 1) scope.names (cloFrom X.env.cells scope.names [])) s3.heap.objs.size X.env)) _
    { s3 with heap := pushCells (s3.heap.push { cls := .type "dict", data := .dict #[] }) scope.names }
  generalize hce : compEnvC scope (cellsFrom (s3.heap.objs.size + 1) scope.names (cloFrom X.env.cells scope.names [])) s3.heap.objs.size X.env = ce at I4 pg pk pe ⊢
  have cL : ce.locals = s3.heap.objs.size := by
    subst hce
    rfl
  generalize hH3 : upd H2 D (.dT []) = H3 at I3 I4 pg pk pe w0 nfp f3
  generalize hs4 : ({ s3 with heap := pushCells (s3.heap.push { cls := .type "dict", data := .dict #[] }) scope.names } : Shared) = s4 at I4 ⊢
  have st4 : tn 0 s4.heap := T.keep _ _ _ st3 fun b _ o e => by
    rw [← hs4]
    exact pushCells_keeps _ _ _ _ (Heap.get?_push_of_some _ e)
  have stat : ∀ {σ' : L2.St} {H' : Hp} {s' : Shared}, Inv (X.blk s3 H3 scope ce fp) [] σ' H' s' → (∀ b ∈ fp, H' b = none) →
      ∀ b ∈ fp, FpOk (X.blk s3 H3 scope ce fp) [] H' b := by
    intro σ' H' s' I' hn b hb
    exact ⟨hn b hb, (I'.ok.exf b hb).1, I'.ok.exfs b hb, .inl hb, fun x c e => (I'.ok.exf b hb).2 x c e,
      fun p hp => absurd (show p ∈ ([] : List (Addr × Obj)) ++ [] from hp) (by simp)⟩
  refine codeAny_compStart_dict ?loop (T.self X.A 0 _ _ _ st4 ?loop)
  refine compLoop_anyD (fun n s' => ∃ i H', Inv (X.blk s3 H3 scope ce fp) [] (wipe σ (own.map (·.2))) H' s' ∧ tn i s'.heap ∧
    (∀ b ∈ fp, H' b = none) ∧ W i n H') ?_ m0 ⟨0, H3, I4, st4, nfp, w0⟩
  rintro n s5 ⟨i, H5, I5, st5, n5, w5⟩
  rcases turn i n H5 w5 with ⟨stop, qq⟩ | ⟨go, Nx, hNx, step⟩
  · have td := T.done (X.blk s3 H3 scope ce fp) rfl rfl rfl hc i [] s5 _ H5 (fun _ _ => False) I5 (stat I5 n5) st5 stop
    refine thnF td ?_
    rintro r s6 ⟨hr, I6⟩
    subst hr
    have I7 : Inv X pins σ H5 s6 := I3.call' (ch := fp) I6.os I6.base I6.hok I6.bare fun b hb =>
      ⟨(f3 b hb).1.2.2.2.1, (f3 b hb).1.2.1, (f3 b hb).1.2.2.2.2.1, (f3 b hb).1.2.2.2.2.2⟩
    have nC : H5 s3.heap.objs.size = none := by
      have z : H5 ce.locals = none := I6.free
      rw [cL] at z
      exact z
    obtain ⟨m, hn, _⟩ := I6.loc
    have hn : s6.heap.Ns ce.locals m := hn
    rw [cL] at hn
    obtain ⟨f0, f1, f2, f3, f4, f5⟩ := I3.fpOk (Nat.le_refl _) nC
    refine ⟨m, hn, fun h'' sb => ?_⟩
    exact ⟨.ref D, H5, I7.turned (t' := s6.toks) (fun b o hb e => (sb.2 b hb).trans e) f0 f1 f3 f4 f5, rfl, qq⟩
  · have ti := T.item (X.blk s3 H3 scope ce fp) rfl rfl rfl hc i [] s5 _ H5 (fun _ _ => False) I5 (stat I5 n5) st5 go
    refine thnF ti ?_
    rintro r s6 ⟨u, hr, h6⟩
    subst hr
    refine thnF h6 ?_
    rintro _ s7 ⟨x, H7, I7, r7, y7, st7, n7⟩
    have I7' := I7.pinned (stat I7 n7) (T.obj _ _ st7)
    refine thnF (pg.run _ s7 _ H7 x u _ I7' r7 (step x H7 y7)) ?_
    rintro _ s8 ⟨σ8, H8, I8, hw8, q8⟩
    refine wpAny_pure ?_
    have fin : ∀ {s' : Shared} {H' : Hp}, Inv (X.blk s3 H3 scope ce fp) ([] ++ pinsAt fp s7.heap) σ8 H' s' → Nx H' →
        ∃ m, m < n ∧ ∃ i H', Inv (X.blk s3 H3 scope ce fp) [] (wipe σ (own.map (·.2))) H' s' ∧ tn i s'.heap ∧ (∀ b ∈ fp, H' b = none) ∧ W i m H' := by
      intro s' H' I' nx
      obtain ⟨m', hm, w'⟩ := hNx H' nx
      have pin' : ∀ b ∈ fp, ∀ o, s7.heap.get? b = some o → s'.heap.get? b = some o ∧ H' b = none := by
        intro b hb o e
        have z := I'.pin (b, o) (List.mem_append_right _ (List.mem_append_right _ (mem_pinsAt hb e)))
        exact ⟨z.1, z.2.1⟩
      have hl : (wipe σ (own.map (·.2))).length = σ8.length := by rw [← hw8, wipe_length]
      refine ⟨m', hm, i + 1, H', (I'.unpinned (pins := [])).weak hl (fun j v e => ?_),
        T.keep _ _ _ st7 fun b hb o e => (pin' b hb o e).1, fun b hb => ?_, w'⟩
      · rw [← hw8] at e
        exact (wipe_some e).1
      · obtain ⟨o, e, _⟩ := T.obj _ _ st7 b hb
        exact (pin' b hb o e).2
    show wpAny _ _ (eval kx ce) _ _ _
    refine thnF (pk.run _ s8 σ8 H8 _ I8 q8) ?_
    rintro z s10 ⟨yk, H10, I10, r10, q10⟩
    refine thnF (pe.run _ s10 σ8 H10 _ I10 q10) ?_
    rintro z2 s11 ⟨yv, H11, I11, r11, b, kvs, k, ek, hb, hD11, hz11, nx⟩
    subst ek
    cases r10
    exact setT (X := X.blk s3 H3 scope ce fp) hu I11 hD11 hb hz11 r11 fun s12 I12 => fin I12 nx
end
end AskG
/-! The mathematics of rows: sums, multiples, parts, effects. -/
namespace AskG
open PySem PySem.Spec PyProof.Rows L2

abbrev RowD := List (Cell × Int)
def getO (m : RowD) (c : Cell) : Option Int := (m.find? fun x => decide (x.1 = c)).map (·.2)
def get0 (m : RowD) (c : Cell) : Int := (getO m c).getD 0
def putC (m : RowD) (c : Cell) (w : Int) : RowD :=
  if m.any (fun x => decide (x.1 = c)) then m.map (fun x => if x.1 = c then (x.1, w) else x) else m ++ [(c, w)]
def keys (m : RowD) : List Cell := m.map (·.1)
/-- as the dict holds it -/
def dk (m : RowD) : List (List Key × V) := m.map fun x => (ck x.1, .int x.2)

theorem dk_keys (m : RowD) : (dk m).map (·.1) = (keys m).map ck := by
  unfold dk keys
  rw [List.map_map, List.map_map]
  rfl
theorem dk_length (m : RowD) : (dk m).length = m.length := List.length_map _
theorem getO_cons (x : Cell × Int) (m : RowD) (c : Cell) : getO (x :: m) c = if x.1 = c then some x.2 else getO m c := by
  unfold getO
  rw [List.find?_cons]
  by_cases h : x.1 = c <;> simp [h]
theorem get0_cons (x : Cell × Int) (m : RowD) (c : Cell) : get0 (x :: m) c = if x.1 = c then x.2 else get0 m c := by
  unfold get0
  rw [getO_cons]
  by_cases h : x.1 = c <;> simp [h]
theorem get0_nil (c : Cell) : get0 [] c = 0 := rfl
theorem dk_val : ∀ (m : RowD) (c : Cell), valV (dk m) (ck c) = (getO m c).map V.int
  | [], _ => rfl
  | x :: m, c => by
    rw [getO_cons]
    by_cases h : x.1 = c
    · rw [if_pos h]
      exact valV_pos (p := (ck x.1, V.int x.2)) (congrArg ck h)
    · rw [if_neg h]
      exact (valV_neg (p := (ck x.1, V.int x.2)) (fun e => h (ck_inj e))).trans (dk_val m c)
theorem dk_any (m : RowD) (c : Cell) : ((dk m).any fun kv => decide (kv.1 = ck c)) = m.any fun x => decide (x.1 = c) := by
  unfold dk
  rw [List.any_map]
  congr 1
  funext x
  show decide (ck x.1 = ck c) = decide (x.1 = c)
  by_cases h : x.1 = c
  · rw [h, decide_eq_true rfl, decide_eq_true rfl]
  · rw [decide_eq_false h, decide_eq_false fun e => h (ck_inj e)]
theorem dk_put (m : RowD) (c : Cell) (w : Int) : putK (dk m) (ck c) (.int w) = dk (putC m c w) := by
  unfold putK putC
  rw [dk_any]
  by_cases h : (m.any fun x => decide (x.1 = c)) = true
  · rw [if_pos h, if_pos h]
    unfold dk
    rw [List.map_map, List.map_map]
    refine List.map_congr_left fun x _ => ?_
    show (if ck x.1 = ck c then (ck x.1, V.int w) else (ck x.1, V.int x.2)) = _
    by_cases g : x.1 = c
    · rw [if_pos (congrArg ck g)]
      show _ = (fun x : Cell × Int => (ck x.1, V.int x.2)) (if x.1 = c then (x.1, w) else x)
      rw [if_pos g]
    · rw [if_neg fun e => g (ck_inj e)]
      show _ = (fun x : Cell × Int => (ck x.1, V.int x.2)) (if x.1 = c then (x.1, w) else x)
      rw [if_neg g]
  · rw [if_neg h, if_neg h]
    unfold dk
    rw [List.map_append]
    rfl
theorem mem_any {m : RowD} {c : Cell} : (m.any fun x => decide (x.1 = c)) = true ↔ c ∈ keys m := by
  rw [List.any_eq_true]
  unfold keys
  constructor
  · rintro ⟨x, hx, e⟩
    exact List.mem_map.mpr ⟨x, hx, of_decide_eq_true e⟩
  · intro h
    obtain ⟨x, hx, e⟩ := List.mem_map.mp h
    exact ⟨x, hx, decide_eq_true e⟩
theorem keys_put (m : RowD) (c : Cell) (w : Int) : keys (putC m c w) = if c ∈ keys m then keys m else keys m ++ [c] := by
  unfold putC
  by_cases h : (m.any fun x => decide (x.1 = c)) = true
  · rw [if_pos h, if_pos (mem_any.mp h)]
    unfold keys
    rw [List.map_map]
    refine List.map_congr_left fun x _ => ?_
    show (if x.1 = c then (x.1, w) else x).1 = x.1
    by_cases g : x.1 = c
    · rw [if_pos g]
    · rw [if_neg g]
  · rw [if_neg h, if_neg fun z => h (mem_any.mpr z)]
    unfold keys
    rw [List.map_append]
    rfl
theorem nodup_put {m : RowD} (n : (keys m).Nodup) (c : Cell) (w : Int) : (keys (putC m c w)).Nodup := by
  rw [keys_put]
  by_cases h : c ∈ keys m
  · rw [if_pos h]
    exact n
  · rw [if_neg h]
    refine List.nodup_append.mpr ⟨n, List.nodup_cons.mpr ⟨by simp, List.nodup_nil⟩, fun a ha b hb e => ?_⟩
    rw [List.mem_singleton.mp hb] at e
    exact h (e ▸ ha)
theorem length_put (m : RowD) (c : Cell) (w : Int) : (putC m c w).length ≤ m.length + 1 := by
  unfold putC
  split
  · rw [List.length_map]
    omega
  · rw [List.length_append]
    exact Nat.le_refl _
theorem mem_put {m : RowD} {c : Cell} {w : Int} {x : Cell × Int} (h : x ∈ putC m c w) : x ∈ m ∨ x = (c, w) := by
  unfold putC at h
  split at h
  · obtain ⟨y, hy, e⟩ := List.mem_map.mp h
    by_cases g : y.1 = c
    · rw [if_pos g] at e
      rw [← e, g]
      exact Or.inr rfl
    · rw [if_neg g] at e
      rw [← e]
      exact Or.inl hy
  · rcases List.mem_append.mp h with h | h
    · exact Or.inl h
    · exact Or.inr (List.mem_singleton.mp h)
theorem put_new {m : RowD} {c : Cell} {w : Int} (h : c ∉ keys m) : putC m c w = m ++ [(c, w)] := by
  unfold putC
  rw [if_neg fun z => h (mem_any.mp z)]
theorem getO_none {m : RowD} {c : Cell} (h : c ∉ keys m) : getO m c = none := by
  induction m with
  | nil => rfl
  | cons x m ih =>
    rw [getO_cons, if_neg fun e => h (by rw [← e]; exact List.mem_cons_self)]
    exact ih fun z => h (List.mem_cons_of_mem _ z)
theorem get0_none {m : RowD} {c : Cell} (h : c ∉ keys m) : get0 m c = 0 := by
  unfold get0
  rw [getO_none h]
  rfl
theorem getO_some {m : RowD} {c : Cell} (h : c ∈ keys m) : ∃ w, getO m c = some w ∧ (c, w) ∈ m := by
  induction m with
  | nil => cases h
  | cons x m ih =>
    rw [getO_cons]
    by_cases e : x.1 = c
    · rw [if_pos e]
      exact ⟨x.2, rfl, by rw [← e]; exact List.mem_cons_self⟩
    · rw [if_neg e]
      rcases List.mem_cons.mp h with g | g
      · exact absurd g.symm e
      · obtain ⟨w, h1, h2⟩ := ih g
        exact ⟨w, h1, List.mem_cons_of_mem _ h2⟩
theorem getO_mem {m : RowD} (n : (keys m).Nodup) {x : Cell × Int} (h : x ∈ m) : getO m x.1 = some x.2 := by
  induction m with
  | nil => cases h
  | cons y m ih =>
    rw [getO_cons]
    have n' := List.nodup_cons.mp n
    rcases List.mem_cons.mp h with e | h
    · rw [e, if_pos rfl]
    · rw [if_neg, ih n'.2 h]
      intro e
      refine n'.1 ?_
      show y.1 ∈ keys m
      rw [e]
      exact List.mem_map_of_mem h
theorem get0_mem {m : RowD} (n : (keys m).Nodup) {x : Cell × Int} (h : x ∈ m) : get0 m x.1 = x.2 := by
  unfold get0
  rw [getO_mem n h]
  rfl

/-! ### the dicts that are made -/
def ofRow (r : RowD) : RowD := r.foldl (fun m x => putC m x.1 x.2) []
def addF (m : RowD) (r : RowD) (t : Int) : RowD := r.foldl (fun m x => putC m x.1 (get0 m x.1 + t * x.2)) m
theorem nodup_fold (f : RowD → Cell × Int → Int) : ∀ (r m : RowD), (keys m).Nodup → (keys (r.foldl (fun m x => putC m x.1 (f m x)) m)).Nodup
  | [], _, h => h
  | x :: r, m, h => nodup_fold f r _ (nodup_put h _ _)
theorem length_fold (f : RowD → Cell × Int → Int) : ∀ (r m : RowD), (r.foldl (fun m x => putC m x.1 (f m x)) m).length ≤ m.length + r.length
  | [], m => Nat.le_refl _
  | x :: r, m => by
    have h1 := length_fold f r (putC m x.1 (f m x))
    have h2 := length_put m x.1 (f m x)
    rw [List.length_cons]
    show (r.foldl (fun m x => putC m x.1 (f m x)) (putC m x.1 (f m x))).length ≤ _
    omega
theorem ofRow_nodup (r : RowD) : (keys (ofRow r)).Nodup := nodup_fold (fun _ x => x.2) r [] List.nodup_nil
theorem addF_nodup {m : RowD} (h : (keys m).Nodup) (r : RowD) (t : Int) : (keys (addF m r t)).Nodup := nodup_fold (fun m x => get0 m x.1 + t * x.2) r m h
theorem ofRow_length (r : RowD) : (ofRow r).length ≤ r.length := by
  have := length_fold (fun _ x => x.2) r []
  rw [List.length_nil, Nat.zero_add] at this
  exact this
theorem addF_length (m r : RowD) (t : Int) : (addF m r t).length ≤ m.length + r.length := length_fold (fun m x => get0 m x.1 + t * x.2) r m
theorem fold_app : ∀ (r m : RowD), (keys (m ++ r)).Nodup → r.foldl (fun m x => putC m x.1 x.2) m = m ++ r
  | [], m, _ => (List.append_nil m).symm
  | x :: r, m, h => by
    have e : m ++ x :: r = (m ++ [x]) ++ r := by simp
    have hx : x.1 ∉ keys m := by
      unfold keys at h ⊢
      rw [List.map_append, List.map_cons] at h
      intro hm
      exact (List.nodup_append.mp h).2.2 _ hm _ List.mem_cons_self rfl
    show r.foldl _ (putC m x.1 x.2) = _
    rw [put_new hx, e]
    rw [e] at h
    exact fold_app r _ h
theorem ofRow_self {r : RowD} (h : (keys r).Nodup) : ofRow r = r := fold_app r [] h
theorem addF_app (t : Int) : ∀ (r m : RowD), (keys (m ++ r)).Nodup → addF m r t = m ++ r.map fun x => (x.1, t * x.2)
  | [], m, _ => (List.append_nil m).symm
  | x :: r, m, h => by
    have hx : x.1 ∉ keys m := by
      unfold keys at h ⊢
      rw [List.map_append, List.map_cons] at h
      intro hm
      exact (List.nodup_append.mp h).2.2 _ hm _ List.mem_cons_self rfl
    show addF (putC m x.1 (get0 m x.1 + t * x.2)) r t = _
    rw [put_new hx, get0_none hx, Int.zero_add]
    have e : (m ++ [(x.1, t * x.2)]) ++ r.map (fun x => (x.1, t * x.2)) = m ++ (x :: r).map fun x => (x.1, t * x.2) := by simp
    rw [← e]
    refine addF_app t r _ ?_
    unfold keys at h ⊢
    rw [show (m ++ [(x.1, t * x.2)] ++ r).map (·.1) = (m ++ x :: r).map (·.1) by simp]
    exact h

/-! ### sorted cells -/
def insC (c : Cell) : List Cell → List Cell
  | [] => [c]
  | d :: l => if ltC c d = true then c :: d :: l else d :: insC c l
def sortC (l : List Cell) : List Cell := l.foldr insC []
theorem insC_perm (c : Cell) : ∀ l, (insC c l).Perm (c :: l)
  | [] => List.Perm.refl _
  | d :: l => by
    unfold insC
    split
    · exact List.Perm.refl _
    · exact ((insC_perm c l).cons d).trans (List.Perm.swap c d l)
theorem sortC_perm : ∀ l, (sortC l).Perm l
  | [] => List.Perm.refl _
  | c :: l => (insC_perm c (sortC l)).trans ((sortC_perm l).cons c)
abbrev Rising (l : List Cell) : Prop := l.Pairwise fun a b => ltC a b = true
theorem insC_rising {c : Cell} : ∀ {l : List Cell}, Rising l → c ∉ l → Rising (insC c l)
  | [], _, _ => List.pairwise_singleton _ _
  | d :: l, h, n => by
    have hd := List.pairwise_cons.mp h
    unfold insC
    split
    · rename_i hc
      refine List.pairwise_cons.mpr ⟨fun a ha => ?_, h⟩
      rcases List.mem_cons.mp ha with e | ha
      · rw [e]
        exact hc
      · exact ltC_trans hc (hd.1 a ha)
    · rename_i hc
      have hdc : ltC d c = true := by
        rcases ltC_tri d c with g | g | g
        · exact g
        · exact absurd (g ▸ List.mem_cons_self) n
        · exact absurd g hc
      refine List.pairwise_cons.mpr ⟨fun a ha => ?_, insC_rising hd.2 fun z => n (List.mem_cons_of_mem _ z)⟩
      rcases List.mem_cons.mp ((insC_perm c l).mem_iff.mp ha) with e | ha
      · rw [e]
        exact hdc
      · exact hd.1 a ha
theorem sortC_rising : ∀ {l : List Cell}, l.Nodup → Rising (sortC l)
  | [], _ => List.Pairwise.nil
  | c :: l, n => insC_rising (sortC_rising (List.nodup_cons.mp n).2) fun z => (List.nodup_cons.mp n).1 ((sortC_perm l).mem_iff.mp z)
theorem rising_uniq : ∀ {a b : List Cell}, a.Perm b → Rising a → Rising b → a = b
  | [], b, p, _, _ => by
    cases b with
    | nil => rfl
    | cons y b => exact absurd (p.mem_iff.mpr List.mem_cons_self) (by simp)
  | x :: a, [], p, _, _ => absurd (p.mem_iff.mp List.mem_cons_self) (by simp)
  | x :: a, y :: b, p, ha, hb => by
    have hx := List.pairwise_cons.mp ha
    have hy := List.pairwise_cons.mp hb
    have e : x = y := by
      rcases List.mem_cons.mp (p.mem_iff.mp List.mem_cons_self) with e | h1
      · exact e
      · rcases List.mem_cons.mp (p.mem_iff.mpr List.mem_cons_self) with e | h2
        · exact e.symm
        · have := ltC_trans (hx.1 _ h2) (hy.1 _ h1)
          rw [ltC_irr] at this
          cases this
    subst e
    rw [rising_uniq (List.Perm.cons_inv p) hx.2 hy.2]
theorem rising_nodup {l : List Cell} (h : Rising l) : l.Nodup := h.imp fun h e => by
  rw [e, ltC_irr] at h
  cases h
theorem sortC_self {l : List Cell} (h : Rising l) : sortC l = l := rising_uniq (sortC_perm l) (sortC_rising (rising_nodup h)) h

/-! ### tidy rows -/
def pick (m : RowD) (ys : List Cell) : RowD := (ys.map fun c => (c, get0 m c)).filter fun x => decide (x.2 ≠ 0)
def tidy (m : RowD) : RowD := pick m (sortC (keys m))
structure OkRow (r : RowD) : Prop where
  up : Rising (keys r)
  nz : ∀ x ∈ r, x.2 ≠ 0
theorem keys_pick (m : RowD) (ys : List Cell) : (keys (pick m ys)).Sublist ys := by
  unfold pick keys
  have h := (List.filter_sublist (l := ys.map fun c => (c, get0 m c)) (p := fun x => decide (x.2 ≠ 0))).map (·.1)
  rw [List.map_map] at h
  have e : ys.map ((fun x : Cell × Int => x.1) ∘ fun c => (c, get0 m c)) = ys := by
    rw [show ((fun x : Cell × Int => x.1) ∘ fun c => (c, get0 m c)) = id from rfl]
    exact List.map_id _
  rw [e] at h
  exact h
theorem ok_tidy {m : RowD} (n : (keys m).Nodup) : OkRow (tidy m) :=
  ⟨(sortC_rising n).sublist (keys_pick m _), fun x hx => of_decide_eq_true (List.mem_filter.mp hx).2⟩
theorem tidy_length (m : RowD) : (tidy m).length ≤ m.length := by
  have h := (keys_pick m (sortC (keys m))).length_le
  rw [(sortC_perm (keys m)).length_eq] at h
  unfold keys at h
  rw [List.length_map, List.length_map] at h
  exact h
theorem tidy_mem {m : RowD} (n : (keys m).Nodup) {x : Cell × Int} (h : x ∈ tidy m) : x ∈ m := by
  have h := (List.mem_filter.mp h).1
  obtain ⟨c, hc, e⟩ := List.mem_map.mp h
  obtain ⟨w, h1, h2⟩ := getO_some ((sortC_perm (keys m)).mem_iff.mp hc)
  rw [← e]
  have : get0 m c = w := by
    unfold get0
    rw [h1]
    rfl
  rw [this]
  exact h2
def addR (a b : RowD) (t : Int) : RowD := tidy (addF (ofRow a) b t)
def scaleR (r : RowD) (t : Int) : RowD := if t = 0 then [] else r.map fun x => (x.1, x.2 * t)
theorem tidy_self {r : RowD} (h : Rising (keys r)) : tidy r = r.filter fun x => decide (x.2 ≠ 0) := by
  unfold tidy pick
  rw [sortC_self h]
  have n := rising_nodup h
  have e : (keys r).map (fun c => (c, get0 r c)) = r := by
    unfold keys
    rw [List.map_map]
    have : ∀ x ∈ r, ((fun c => (c, get0 r c)) ∘ fun x : Cell × Int => x.1) x = id x := by
      intro x hx
      show (x.1, get0 r x.1) = x
      rw [get0_mem n hx]
    rw [List.map_congr_left this]
    exact List.map_id _
  rw [e]
theorem addR_nil {r : RowD} (h : OkRow r) (t : Int) : addR [] r t = scaleR r t := by
  unfold addR
  have e0 : ofRow [] = [] := rfl
  rw [e0, addF_app t r [] (rising_nodup h.up), List.nil_append]
  have hk : keys (r.map fun x => (x.1, t * x.2)) = keys r := by
    unfold keys
    rw [List.map_map]
    rfl
  rw [tidy_self (by rw [hk]; exact h.up)]
  unfold scaleR
  by_cases ht : t = 0
  · rw [if_pos ht]
    refine List.filter_eq_nil_iff.mpr fun x hx => ?_
    obtain ⟨y, _, e⟩ := List.mem_map.mp hx
    rw [← e, ht]
    simp
  · rw [if_neg ht, List.filter_eq_self.mpr fun x hx => ?_]
    · refine List.map_congr_left fun x _ => ?_
      rw [Int.mul_comm]
    · obtain ⟨y, hy, e⟩ := List.mem_map.mp hx
      rw [← e]
      exact decide_eq_true (Int.mul_ne_zero ht (h.nz y hy))

/-! ### effects -/
def effR (a b : RowD) : Int := (a.map fun x => x.2 * get0 (ofRow b) x.1).sum
theorem sum_at (c : Cell) (v : Int) : ∀ {b : RowD}, (keys b).Nodup → (b.map fun y => y.2 * (if c = y.1 then v else 0)).sum = v * get0 b c
  | [], _ => by simp [get0_nil]
  | y :: b, n => by
    have n' := List.nodup_cons.mp n
    rw [List.map_cons, List.sum_cons, sum_at c v n'.2, get0_cons]
    by_cases e : c = y.1
    · rw [if_pos e, if_pos e.symm, get0_none (by rw [e]; exact n'.1)]
      rw [Int.mul_comm]
      omega
    · rw [if_neg e, if_neg fun z => e z.symm]
      omega
theorem sum_split (f g h : Cell × Int → Int) : ∀ b : RowD, (∀ y ∈ b, f y = g y + h y) → (b.map f).sum = (b.map g).sum + (b.map h).sum
  | [], _ => rfl
  | y :: b, e => by
    rw [List.map_cons, List.map_cons, List.map_cons, List.sum_cons, List.sum_cons, List.sum_cons,
      sum_split f g h b fun z hz => e z (List.mem_cons_of_mem _ hz), e y List.mem_cons_self]
    omega
theorem sum_sym : ∀ {a b : RowD}, (keys a).Nodup → (keys b).Nodup →
    (a.map fun x => x.2 * get0 b x.1).sum = (b.map fun y => y.2 * get0 a y.1).sum
  | [], b, _, _ => by
    have : ∀ b : RowD, (b.map fun y : Cell × Int => y.2 * get0 [] y.1).sum = 0 := by
      intro b
      induction b with
      | nil => rfl
      | cons y b ih =>
        rw [List.map_cons, List.sum_cons, ih, get0_nil]
        omega
    rw [this]
    rfl
  | x :: a, b, na, nb => by
    have n' := List.nodup_cons.mp na
    rw [List.map_cons, List.sum_cons, sum_sym n'.2 nb]
    rw [sum_split (fun y => y.2 * get0 (x :: a) y.1) (fun y => y.2 * (if x.1 = y.1 then x.2 else 0)) (fun y => y.2 * get0 a y.1) b]
    · rw [sum_at x.1 x.2 nb]
    · intro y _
      show y.2 * get0 (x :: a) y.1 = y.2 * (if x.1 = y.1 then x.2 else 0) + y.2 * get0 a y.1
      rw [get0_cons]
      by_cases e : x.1 = y.1
      · rw [if_pos e, if_pos e, get0_none (by rw [← e]; exact n'.1)]
        omega
      · rw [if_neg e, if_neg e]
        omega
theorem effR_sym {a b : RowD} (ha : OkRow a) (hb : OkRow b) : effR a b = effR b a := by
  unfold effR
  rw [ofRow_self (rising_nodup ha.up), ofRow_self (rising_nodup hb.up)]
  exact sum_sym (rising_nodup ha.up) (rising_nodup hb.up)

/-! ### what a sum holds -/
theorem getO_map {m : RowD} {c d : Cell} {w : Int} : getO (m.map fun x => if x.1 = c then (x.1, w) else x) d = if d = c then (getO m d).map (fun _ => w) else getO m d := by
  induction m with
  | nil => by_cases h : d = c <;> simp [getO, h]
  | cons x m ih =>
    rw [List.map_cons, getO_cons, getO_cons, ih]
    by_cases h1 : x.1 = c
    · rw [if_pos h1]
      by_cases h2 : d = c
      · simp [h1, h2]
      · have h3 : ¬ c = d := fun e => h2 e.symm
        simp [h1, h2, h3]
    · rw [if_neg h1]
      by_cases h2 : d = c
      · have h3 : ¬ x.1 = d := fun e => h1 (e.trans h2)
        simp [h1, h2]
      · simp [h2]
theorem getO_app {m : RowD} {x : Cell × Int} {d : Cell} : getO (m ++ [x]) d = (getO m d).or (if x.1 = d then some x.2 else none) := by
  induction m with
  | nil =>
    rw [List.nil_append, getO_cons]
    rfl
  | cons y m ih =>
    rw [List.cons_append, getO_cons, getO_cons, ih]
    by_cases h : y.1 = d <;> simp [h]
theorem get0_put (m : RowD) (c d : Cell) (w : Int) : get0 (putC m c w) d = if d = c then w else get0 m d := by
  unfold putC get0
  by_cases h : (m.any fun x => decide (x.1 = c)) = true
  · rw [if_pos h, getO_map]
    by_cases e : d = c
    · rw [if_pos e, if_pos e]
      obtain ⟨v, hv, _⟩ := getO_some (mem_any.mp h)
      rw [e, hv]
      rfl
    · rw [if_neg e, if_neg e]
  · rw [if_neg h, getO_app]
    by_cases e : d = c
    · rw [if_pos e, if_pos e.symm, e, getO_none fun z => h (mem_any.mpr z)]
      rfl
    · rw [if_neg e, if_neg fun z => e z.symm]
      cases getO m d <;> rfl
theorem addF_get (t : Int) (d : Cell) : ∀ (r m : RowD), (keys r).Nodup → get0 (addF m r t) d = get0 m d + t * get0 r d
  | [], m, _ => by
    rw [get0_nil, Int.mul_zero, Int.add_zero]
    rfl
  | x :: r, m, n => by
    have n' := List.nodup_cons.mp n
    show get0 (addF (putC m x.1 (get0 m x.1 + t * x.2)) r t) d = _
    rw [addF_get t d r _ n'.2, get0_put, get0_cons]
    by_cases e : d = x.1
    · rw [if_pos e, if_pos e.symm, e, get0_none n'.1, Int.mul_zero, Int.add_zero]
    · rw [if_neg e, if_neg fun z => e z.symm]
theorem addF_keys (t : Int) (d : Cell) : ∀ (r m : RowD), d ∈ keys (addF m r t) → d ∈ keys m ∨ d ∈ keys r
  | [], m, h => Or.inl h
  | x :: r, m, h => by
    rcases addF_keys t d r _ h with h | h
    · rw [keys_put] at h
      by_cases e : x.1 ∈ keys m
      · rw [if_pos e] at h
        exact Or.inl h
      · rw [if_neg e] at h
        rcases List.mem_append.mp h with h | h
        · exact Or.inl h
        · rw [List.mem_singleton.mp h]
          exact Or.inr List.mem_cons_self
    · exact Or.inr (List.mem_cons_of_mem _ h)
theorem sub_length : ∀ {l m : List Cell}, l.Nodup → (∀ x ∈ l, x ∈ m) → l.length ≤ m.length
  | [], _, _, _ => Nat.zero_le _
  | x :: l, m, n, h => by
    have n' := List.nodup_cons.mp n
    have hx := h x List.mem_cons_self
    have := sub_length (l := l) (m := m.erase x) n'.2 fun y hy => (List.mem_erase_of_ne (a := y) (b := x) fun e => n'.1 (by rw [← e]; exact hy)).mpr (h y (List.mem_cons_of_mem _ hy))
    rw [List.length_erase_of_mem hx] at this
    have : 0 < m.length := List.length_pos_of_mem hx
    rw [List.length_cons]
    omega
/-- rows on some cells, with bounded weights -/
structure DrawnR (cs : List Cell) (B : Int) (r : RowD) : Prop where
  ok : OkRow r
  on : ∀ c ∈ keys r, c ∈ cs
  lit : ∀ c, -B ≤ get0 r c ∧ get0 r c ≤ B
theorem DrawnR.mono {cs : List Cell} {B C : Int} {r : RowD} (h : DrawnR cs B r) (e : B ≤ C) : DrawnR cs C r := ⟨h.ok, h.on, fun c => by have := h.lit c; omega⟩
theorem DrawnR.many {cs : List Cell} {B : Int} {r : RowD} (h : DrawnR cs B r) : r.length ≤ cs.length := by
  have := sub_length (rising_nodup h.ok.up) h.on
  unfold keys at this
  rw [List.length_map] at this
  exact this
theorem DrawnR.at' {cs : List Cell} {B : Int} {r : RowD} (h : DrawnR cs B r) {x : Cell × Int} (hx : x ∈ r) : -B ≤ x.2 ∧ x.2 ≤ B := by
  have := h.lit x.1
  rw [get0_mem (rising_nodup h.ok.up) hx] at this
  exact this
theorem get0_tidy {m : RowD} (n : (keys m).Nodup) (c : Cell) : get0 (tidy m) c = get0 m c := by
  by_cases h : c ∈ keys (tidy m)
  · obtain ⟨w, h1, h2⟩ := getO_some h
    have e1 : get0 (tidy m) c = w := by
      unfold get0
      rw [h1]
      rfl
    have e2 := get0_mem n (tidy_mem n h2)
    rw [e1]
    exact e2.symm
  · rw [get0_none h]
    by_cases hm : c ∈ keys m
    · by_cases h0 : get0 m c = 0
      · exact h0.symm
      · exfalso
        refine h ?_
        have : (c, get0 m c) ∈ tidy m := List.mem_filter.mpr ⟨List.mem_map.mpr ⟨c, (sortC_perm (keys m)).mem_iff.mpr hm, rfl⟩, decide_eq_true h0⟩
        exact List.mem_map_of_mem (f := fun x : Cell × Int => x.1) this
    · exact (get0_none hm).symm
theorem get0_ofRow {a : RowD} (h : OkRow a) (c : Cell) : get0 (ofRow a) c = get0 a c := by rw [ofRow_self (rising_nodup h.up)]
theorem get0_addR {a b : RowD} (ha : OkRow a) (hb : OkRow b) (t : Int) (c : Cell) : get0 (addR a b t) c = get0 a c + t * get0 b c := by
  unfold addR
  rw [get0_tidy (addF_nodup (ofRow_nodup a) b t), addF_get t c b _ (rising_nodup hb.up), get0_ofRow ha]
theorem DrawnR.sum {cs : List Cell} {B C : Int} {a b : RowD} (ha : DrawnR cs B a) (hb : DrawnR cs C b) : DrawnR cs (B + C) (addR a b 1) := by
  have n := addF_nodup (ofRow_nodup a) b 1
  refine ⟨ok_tidy n, fun c hc => ?_, fun c => ?_⟩
  · have h1 : c ∈ keys (addF (ofRow a) b 1) := by
      obtain ⟨x, hx, e⟩ := List.mem_map.mp hc
      rw [← e]
      exact List.mem_map_of_mem (tidy_mem n hx)
    rcases addF_keys 1 c b _ h1 with h | h
    · rw [ofRow_self (rising_nodup ha.ok.up)] at h
      exact ha.on c h
    · exact hb.on c h
  · rw [get0_addR ha.ok hb.ok, Int.one_mul]
    have h1 := ha.lit c
    have h2 := hb.lit c
    omega
theorem ok_nil : OkRow [] := ⟨List.Pairwise.nil, fun x hx => absurd hx (by simp)⟩
theorem drawn_nil {cs : List Cell} {B : Int} (h : 0 ≤ B) : DrawnR cs B [] := ⟨ok_nil, fun c hc => absurd hc (by simp [keys]), fun c => by rw [get0_nil]; omega⟩
theorem drawn_tidy {m : RowD} {cs : List Cell} {B : Int} (hm : keys m = cs) (n : cs.Nodup) (h0 : 0 ≤ B) (hB : ∀ x ∈ m, -B ≤ x.2 ∧ x.2 ≤ B) : DrawnR cs B (tidy m) := by
  have nm : (keys m).Nodup := by
    rw [hm]
    exact n
  refine ⟨ok_tidy nm, fun c hc => ?_, fun c => ?_⟩
  · rw [← hm]
    obtain ⟨x, hx, e⟩ := List.mem_map.mp hc
    rw [← e]
    exact List.mem_map_of_mem (tidy_mem nm hx)
  · rw [get0_tidy nm]
    by_cases h : c ∈ keys m
    · obtain ⟨w, h1, h2⟩ := getO_some h
      have : get0 m c = w := by
        unfold get0
        rw [h1]
        rfl
      rw [this]
      exact hB _ h2
    · rw [get0_none h]
      omega
end AskG
/-! Rows in the heap. -/
namespace AskG
open PySem PySem.Spec PyProof.Rows L2

def PairRow (H : Hp) (p : Addr) (x : Cell × Int) : Prop := ∃ b, H p = some (.tup [.ref b, .int x.2]) ∧ CellAt H b x.1
def RowAt (H : Hp) (r : Addr) (ρ : RowD) : Prop := ∃ ps : List Addr, H r = some (.tup (ps.map V.ref)) ∧ Paired (PairRow H) ps ρ
/-- the tuples stay -/
def KeepT (H H' : Hp) : Prop := ∀ b xs, H b = some (.tup xs) → H' b = some (.tup xs)
theorem KeepT.of {H H' : Hp} (h : Same H H') : KeepT H H' := fun b xs e => h b _ e
theorem KeepT.trans {H H1 H2 : Hp} (h : KeepT H H1) (g : KeepT H1 H2) : KeepT H H2 := fun b xs e => g b xs (h b xs e)
theorem KeepT.refl (H : Hp) : KeepT H H := fun _ _ e => e
theorem KeepT.new {H : Hp} {p : Addr} {o : HO} (h : H p = none) : KeepT H (upd H p o) := fun b xs e => by
  rw [upd_ne (ne_of_none e h)]
  exact e
theorem KeepT.put {H : Hp} {p : Addr} {o u : HO} (h : H p = some u) (n : ∀ xs, u ≠ .tup xs) : KeepT H (upd H p o) := fun b xs e => by
  rw [upd_ne (ne_of e h fun z => n xs z.symm)]
  exact e
theorem CellAt.keep {H H' : Hp} {b : Addr} {c : Cell} (h : CellAt H b c) (k : KeepT H H') : CellAt H' b c := k _ _ h
theorem PairRow.keep {H H' : Hp} {p : Addr} {x : Cell × Int} (h : PairRow H p x) (k : KeepT H H') : PairRow H' p x := by
  obtain ⟨b, h1, h2⟩ := h
  exact ⟨b, k _ _ h1, h2.keep k⟩
theorem RowAt.keep {H H' : Hp} {r : Addr} {ρ : RowD} (h : RowAt H r ρ) (k : KeepT H H') : RowAt H' r ρ := by
  obtain ⟨ps, h1, h2⟩ := h
  exact ⟨ps, k _ _ h1, Paired.mapP h2 fun _ _ z => z.keep k⟩
theorem same_new {H : Hp} {p : Addr} {o : HO} (h : H p = none) : Same H (upd H p o) := fun b x e => by
  rw [upd_ne (ne_of_none e h)]
  exact e
theorem paired_at {α β : Type} {R : α → β → Prop} : ∀ {l : List α} {m : List β}, Paired R l m → ∀ {i : Nat} {y : β}, m[i]? = some y → ∃ x, l[i]? = some x ∧ R x y
  | _, _, .nil, i, y, e => by simp at e
  | _, _, .cons (a := a) h t, 0, y, e => ⟨a, rfl, by rw [← Option.some.inj e]; exact h⟩
  | _, _, .cons h t, i + 1, y, e => by
    obtain ⟨x, h1, h2⟩ := paired_at t (i := i) (by simpa using e)
    exact ⟨x, by simpa using h1, h2⟩
theorem paired_at' {α β : Type} {R : α → β → Prop} : ∀ {l : List α} {m : List β}, Paired R l m → ∀ {i : Nat} {x : α}, l[i]? = some x → ∃ y, m[i]? = some y ∧ R x y
  | _, _, .nil, i, y, e => by simp at e
  | _, _, .cons (b := b) h t, 0, y, e => ⟨b, rfl, by rw [← Option.some.inj e]; exact h⟩
  | _, _, .cons h t, i + 1, y, e => by
    obtain ⟨x, h1, h2⟩ := paired_at' t (i := i) (by simpa using e)
    exact ⟨x, by simpa using h1, h2⟩
theorem sqT {K : PySem.W.Frag} {H : Hp} {a : Addr} {xs : List V} (h : H a = some (.tup xs)) : SqT K H a xs := .inl (.inl h)
theorem sqL {K : PySem.W.Frag} {H : Hp} {a : Addr} {xs : List V} (h : H a = some (.lst xs)) : SqL K H a xs := .inl (.inl h)

/-! ### comprehensions of dicts over a tuple -/
theorem dcT_tup {K : PySem.W.Frag} {a : Addr} {xs : List V} {g : TG} {tk tv : TE} {vs : List Nat} {σ : L2.St} {H1 : Hp} {D : Addr} {Qd : Hp → Prop}
    (Pv : Nat → Hp → Prop) (h0 : Pv 0 (upd H1 D (.dT []))) (hl : ∀ i H, i ≤ xs.length → Pv i H → SqT K H a xs)
    (hs : ∀ i x H, xs[i]? = some x → Pv i H → g x (wipe σ vs) H fun σ2 H2 => wipe σ2 vs = wipe σ vs ∧ tk σ2 H2 fun y H4 => tv σ2 H4 fun z H5 =>
      ∃ b kvs k, y = .ref b ∧ H5 b = some (.tup (k.map kV)) ∧ H5 D = some (.dT kvs) ∧ kvs.length < sizeLine ∧ Pv (i + 1) (upd H5 D (.dT (putK kvs k z))))
    (hd : ∀ H, Pv xs.length H → Qd H) :
    ∃ W : Nat → Nat → Hp → Prop, (∃ m, W 0 m (upd H1 D (.dT []))) ∧ ∀ i m H, W i m H →
      ((Itt K a).stop i H ∧ Qd H) ∨ ((Itt K a).go i H ∧ ∃ Nx : Hp → Prop, (∀ H', Nx H' → ∃ m', m' < m ∧ W (i + 1) m' H') ∧
        ∀ x H', (Itt K a).yld i H x H' → g x (wipe σ vs) H' fun σ2 H2 => wipe σ2 vs = wipe σ vs ∧ tk σ2 H2 fun y H4 => tv σ2 H4 fun z H5 =>
          ∃ b kvs k, y = .ref b ∧ H5 b = some (.tup (k.map kV)) ∧ H5 D = some (.dT kvs) ∧ kvs.length < sizeLine ∧ Nx (upd H5 D (.dT (putK kvs k z)))) := by
  refine ⟨fun i m H => m = xs.length - i ∧ i ≤ xs.length ∧ Pv i H, ⟨xs.length, by simp, Nat.zero_le _, h0⟩, ?_⟩
  rintro i m H ⟨rfl, hi, p⟩
  have q := hl i H hi p
  by_cases hlt : i < xs.length
  · refine .inr ⟨⟨xs, xs[i], q, by simp [hlt]⟩, Pv (i + 1), fun H' p' => ⟨xs.length - (i + 1), by omega, rfl, hlt, p'⟩, ?_⟩
    rintro x H' ⟨e, y⟩
    subst e
    exact hs i x _ (y xs q) p
  · obtain rfl : i = xs.length := by omega
    exact .inl ⟨⟨xs, q, Nat.le_refl _⟩, hd H p⟩

theorem set2 {σ : L2.St} {a b : Nat} {v w : V} (ha : a < σ.length) (hb : b < σ.length) (hab : a ≠ b) :
    ((σ.set a (some v)).set b (some w))[a]? = some (some v) ∧ ((σ.set a (some v)).set b (some w))[b]? = some (some w) := by
  constructor
  · rw [List.getElem?_set_ne (fun e => hab e.symm), List.getElem?_set_self ha]
  · rw [List.getElem?_set_self (by rw [List.length_set]; exact hb)]
theorem set_over {σ : L2.St} (i : Nat) (x : Option V) : (σ.set i x).set i none = σ.set i none := List.set_set ..
theorem wipe2 {σ : L2.St} {a b : Nat} {v w : V} (hab : a ≠ b) : wipe (((wipe σ [a, b]).set a (some v)).set b (some w)) [a, b] = wipe σ [a, b] := by
  show ((((((σ.set b none).set a none)).set a (some v)).set b (some w)).set b none).set a none = (σ.set b none).set a none
  rw [List.set_set, List.set_set, List.set_comm _ _ hab, List.set_set, List.set_set]
theorem sizeBig : 100000 < sizeLine := by decide

/-- {cell: weight for cell, weight in row} -/
theorem dc_row {K : PySem.W.Frag} {i a b : Nat} {σ : L2.St} {H : Hp} {Q : VK} {r : Addr} {ρ : RowD} (hi : σ[i]? = some (some (.ref r))) (R : RowAt H r ρ)
    (ha : a < σ.length) (hb : b < σ.length) (hab : a ≠ b) (hz : ρ.length ≤ 1000)
    (q : ∀ D, H D = none → Q (.ref D) (upd H D (.dT (dk (ofRow ρ))))) :
    tDcT (iTup K (tVar i)) (gTup K 2 (gCons (gName a) (gCons (gName b) gNil))) (tVar a) (tVar b) [a, b] σ H Q := by
  obtain ⟨ps, hr, hp⟩ := R
  refine ⟨.ref r, hi, r, rfl, ⟨_, sqT hr⟩, fun D hD => ?_⟩
  refine dcT_tup (xs := ps.map V.ref) (fun i H' => H' = upd H D (.dT (dk (ofRow (ρ.take i))))) rfl (fun i H' _ e => ?_) (fun i x H' hx e => ?_) (fun H' e => ?_)
  · rw [e]
    refine sqT ?_
    rw [upd_ne (ne_of_none hr hD)]
    exact hr
  · subst e
    rw [List.getElem?_map] at hx
    cases hpi : ps[i]? with
    | none =>
      rw [hpi] at hx
      cases hx
    | some p =>
      rw [hpi] at hx
      have ex : V.ref p = x := Option.some.inj hx
      subst ex
      obtain ⟨y, hy, bb, h1, h2⟩ := paired_at' hp hpi
      have kp : KeepT H (upd H D (.dT (dk (ofRow (ρ.take i))))) := KeepT.new hD
      refine ⟨p, [.ref bb, .int y.2], rfl, sqT (kp _ _ h1), rfl, .ref bb, [.int y.2], rfl, .int y.2, [], rfl, rfl, ?_⟩
      refine ⟨wipe2 hab, .ref bb, (set2 (by rw [wipe_length]; exact ha) (by rw [wipe_length]; exact hb) hab).1, .int y.2, (set2 (by rw [wipe_length]; exact ha) (by rw [wipe_length]; exact hb) hab).2, bb, dk (ofRow (ρ.take i)), ck y.1, rfl, kp _ _ h2, upd_same, ?_, ?_⟩
      · rw [dk_length]
        have h1 := ofRow_length (ρ.take i)
        have h2 := List.length_take_le i ρ
        have := sizeBig
        have h3 : (ρ.take i).length ≤ ρ.length := by
          rw [List.length_take]
          omega
        omega
      · rw [upd_upd, dk_put, List.take_add_one, hy]
        show _ = upd H D (.dT (dk ((ρ.take i ++ [y]).foldl _ [])))
        rw [List.foldl_append]
        rfl
  · have : (ps.map V.ref).length = ρ.length := by rw [List.length_map, Paired.length hp]
    rw [e, this, List.take_length]
    exact q D hD

theorem ck_kV (c : Cell) : (ck c).map kV = [V.str c.1, V.int c.2] := rfl
theorem wipe1 {σ : L2.St} {a : Nat} {v : V} : wipe ((wipe σ [a]).set a (some v)) [a] = wipe σ [a] := by
  show (((σ.set a none).set a (some v)).set a none) = σ.set a none
  rw [List.set_set, List.set_set]
theorem wipe_at {σ : L2.St} {a i : Nat} (h : i ≠ a) : (wipe σ [a])[i]? = σ[i]? := by
  show (σ.set a none)[i]? = σ[i]?
  exact List.getElem?_set_ne (fun e => h e.symm)
theorem dget_of {H : Hp} {D b : Addr} {m : RowD} {c : Cell} (hD : H D = some (.dT (dk m))) (hb : CellAt H b c) : DGet H D (.ref b) ((getO m c).map V.int) := by
  have := DGet.t (k := ck c) hD (by rw [ck_kV]; exact hb)
  rw [dk_val] at this
  exact this
/-- [(cell, weights[cell]) for cell in sorted(weights) if weights[cell] != 0] -/
theorem lc_tidy {K : PySem.W.Frag} {iw ic : Nat} {σ : L2.St} {H : Hp} {Q : VK} {D : Addr} {m : RowD} (hw : σ[iw]? = some (some (.ref D))) (hne : iw ≠ ic) (hic : ic < σ.length)
    (hD : H D = some (.dT (dk m))) (n : (keys m).Nodup) (hz : m.length ≤ 1000)
    (q : ∀ H' L ps, Same H H' → H L = none → H' L = some (.lst (ps.map V.ref)) → Paired (PairRow H') ps (tidy m) → Q (.ref L) H') :
    tLc (iList K (tCB rSortT (tCons (tVar iw) tNil))) (gName ic) (tTest (tOp rNe (tDGet (tVar iw) (tVar ic)) (tC (V.int 0))))
      (tTup (tCons (tVar ic) (tCons (tDGet (tVar iw) (tVar ic)) tNil))) [ic] σ H Q := by
  refine ⟨.ref D, hw, D, dk m, keys m, rfl, .inl hD, dk_keys m, fun ys bs p hp hup hbs hpn => ?_⟩
  have ey : ys = sortC (keys m) := rising_uniq (hp.trans (sortC_perm (keys m)).symm) hup (sortC_rising n)
  have s1 : Same H (upd H p (.lst (bs.map V.ref))) := same_new hpn
  refine ⟨p, rfl, ⟨_, sqL upd_same⟩, fun L hL => ?_⟩
  have hLH : H L = none := s1.free hL
  refine lc_list (xs := bs.map V.ref) (fun i H' => Same (upd H p (.lst (bs.map V.ref))) H' ∧ ∃ ps, H' L = some (.lst (ps.map V.ref)) ∧ Paired (PairRow H') ps (pick m (ys.take i)) ∧ ps.length ≤ i)
    ⟨same_new hL, [], upd_same, .nil, Nat.le_refl _⟩ (fun i H' _ h => sqL (h.1 _ _ upd_same)) (fun i x H' hx h => ?_) (fun H' h => ?_)
  · obtain ⟨sm, ps, hps, hpp, hpl⟩ := h
    have smH : Same H H' := s1.trans sm
    rw [List.getElem?_map] at hx
    cases hbi : bs[i]? with
    | none =>
      rw [hbi] at hx
      cases hx
    | some b =>
      rw [hbi] at hx
      have ex : V.ref b = x := Option.some.inj hx
      subst ex
      obtain ⟨c, hc, hcb⟩ := paired_at' hbs hbi
      have hcm : c ∈ keys m := hp.mem_iff.mp (List.mem_of_getElem? hc)
      obtain ⟨w, hw1, hw2⟩ := getO_some hcm
      have hcb' : CellAt H' b c := hcb.keep (KeepT.of smH)
      have dg : DGet H' D (.ref b) (some (.int w)) := by
        have := dget_of (smH _ _ hD) hcb'
        rw [hw1] at this
        exact this
      have g0 : get0 m c = w := by
        unfold get0
        rw [hw1]
        rfl
      have bl : i < bs.length := (List.getElem?_eq_some_iff.mp hbi).1
      have ysl : bs.length = ys.length := Paired.length hbs
      have yml : ys.length = m.length := by
        rw [hp.length_eq]
        exact List.length_map _
      have big := sizeBig
      have aw : ((wipe σ [ic]).set ic (some (.ref b)))[iw]? = some (some (.ref D)) := by
        rw [List.getElem?_set_ne (fun e => hne e.symm), wipe_at hne]
        exact hw
      have ac : ((wipe σ [ic]).set ic (some (.ref b)))[ic]? = some (some (.ref b)) := List.getElem?_set_self (by rw [wipe_length]; exact hic)
      have pk : pick m (ys.take (i + 1)) = pick m (ys.take i) ++ (if w ≠ 0 then [(c, w)] else []) := by
        rw [List.take_add_one, hc]
        unfold pick
        rw [List.map_append, List.filter_append]
        congr 1
        show List.filter _ [(c, get0 m c)] = _
        rw [g0]
        by_cases h0 : w = 0
        · simp [h0]
        · simp [h0]
      refine ⟨wipe1, .ref D, aw, .ref b, ac, D, .int w, rfl, dg, rfl, _, rfl, ?_⟩
      by_cases h0 : w = 0
      · rw [h0]
        refine iteF ?_
        refine ⟨sm, ps, hps, ?_, by omega⟩
        rw [pk, if_neg (by simp [h0]), List.append_nil]
        exact hpp
      · have e0 : (!decide (V.int w = V.int 0)) = true := by
          rw [decide_eq_false fun z => h0 (V.int.inj z)]
          rfl
        rw [e0]
        refine iteT ?_
        refine ⟨.ref b, ac, .ref D, aw, .ref b, ac, D, .int w, rfl, dg, by show 2 ≤ sizeLine; decide, fun t ht => ?_⟩
        have nLt : L ≠ t := ne_of_none hps ht
        refine ⟨ps.map V.ref, by rw [upd_ne nLt]; exact hps, by rw [List.length_map]; omega, ?_, ps ++ [t], ?_, ?_, ?_⟩
        · intro b' o' e'
          have nb : b' ≠ L := ne_of_none e' hL
          rw [upd_ne nb, upd_ne (ne_of_none (sm _ _ e') ht)]
          exact sm _ _ e'
        · rw [upd_same, List.map_append]
          rfl
        · have kp : KeepT H' (upd (upd H' t (.tup [.ref b, .int w])) L (.lst (ps.map V.ref ++ [.ref t]))) :=
            (KeepT.new ht).trans (KeepT.put (u := .lst (ps.map V.ref)) (by rw [upd_ne nLt]; exact hps) (fun _ z => nomatch z))
          rw [pk, if_pos h0]
          refine Paired.snoc (Paired.mapP hpp fun _ _ z => z.keep kp) ⟨b, ?_, hcb'.keep kp⟩
          rw [upd_ne nLt.symm, upd_same]
        · rw [List.length_append]
          show ps.length + 1 ≤ i + 1
          omega
  · obtain ⟨sm, ps, hps, hpp, _⟩ := h
    have e : ys.take (bs.map V.ref).length = ys := List.take_of_length_le (by rw [List.length_map, Paired.length hbs]; exact Nat.le_refl _)
    rw [e, ey] at hpp
    exact q H' L ps (s1.trans sm) hLH hps hpp

/-- the row of a made list of pairs -/
theorem row_of_list {H : Hp} {L p : Addr} {ps : List Addr} {ρ : RowD} (hp : H p = none) (h : Paired (PairRow H) ps ρ) : RowAt (upd H p (.tup (ps.map V.ref))) p ρ :=
  ⟨ps, upd_same, Paired.mapP h fun _ _ z => z.keep (KeepT.new hp)⟩

/-- for cell, weight in row: weights[cell] = weights.get(cell, 0) + t * weight -/
theorem for_add {K : PySem.W.Frag} {io iw a b : Nat} {σ : L2.St} {H : Hp} {Dn : Ends} {Dd r : Addr} {π m : RowD} {t : Int} {tv : TE}
    (hio : σ[io]? = some (some (.ref r))) (hiw : σ[iw]? = some (some (.ref Dd))) (wa : iw ≠ a) (wb : iw ≠ b) (ha : a < σ.length) (hb : b < σ.length) (hab : a ≠ b)
    (R : RowAt H r π) (hD : H Dd = some (.dT (dk m))) (hz : m.length + π.length ≤ 1000)
    (htv : ∀ (σ' : L2.St) (H' : Hp) (c : Cell) (w : Int) (m' : RowD) (bb : Addr) (Q : VK), (c, w) ∈ π → (∀ j, j ≠ a → j ≠ b → σ'[j]? = σ[j]?) → σ'[a]? = some (some (.ref bb)) → σ'[b]? = some (some (.int w)) →
      H' Dd = some (.dT (dk m')) → CellAt H' bb c → Q (.int (get0 m' c + t * w)) H' → tv σ' H' Q)
    (q : ∀ σ', (∀ j, j ≠ a → j ≠ b → σ'[j]? = σ[j]?) → σ'.length = σ.length → Dn.nx σ' (upd H Dd (.dT (dk (addF m π t))))) :
    tFor (iTup K (tVar io)) (gTup K 2 (gCons (gName a) (gCons (gName b) gNil))) (sDPut (tVar iw) (tVar a) tv) Dn σ H := by
  obtain ⟨ps, hr, hp⟩ := R
  refine ⟨.ref r, hio, r, rfl, ⟨_, sqT hr⟩, ?_⟩
  refine for_tup (xs := ps.map V.ref) (fun i σ' H' => (∀ j, j ≠ a → j ≠ b → σ'[j]? = σ[j]?) ∧ σ'.length = σ.length ∧ H' = upd H Dd (.dT (dk (addF m (π.take i) t))))
    ⟨fun _ _ _ => rfl, rfl, ?_⟩ (fun i σ' H' _ h => ?_) (fun i x σ' H' hx h => ?_) (fun σ' H' h => ?_)
  · funext c
    show H c = upd H Dd (.dT (dk m)) c
    by_cases e : c = Dd
    · rw [e, upd_same, hD]
    · rw [upd_ne e]
  · rw [h.2.2]
    refine sqT ?_
    rw [upd_ne (ne_of hr hD fun z => nomatch z)]
    exact hr
  · obtain ⟨hj, hl, rfl⟩ := h
    rw [List.getElem?_map] at hx
    cases hpi : ps[i]? with
    | none =>
      rw [hpi] at hx
      cases hx
    | some p =>
      rw [hpi] at hx
      have ex : V.ref p = x := Option.some.inj hx
      subst ex
      obtain ⟨y, hy, bb, h1, h2⟩ := paired_at' hp hpi
      have kp : KeepT H (upd H Dd (.dT (dk (addF m (π.take i) t)))) := KeepT.put hD fun _ z => nomatch z
      have s2 := set2 (v := .ref bb) (w := .int y.2) (by rw [hl]; exact ha) (by rw [hl]; exact hb) hab
      have hj' : ∀ j, j ≠ a → j ≠ b → ((σ'.set a (some (.ref bb))).set b (some (.int y.2)))[j]? = σ[j]? := fun j h1 h2 => by
        rw [List.getElem?_set_ne (fun e => h2 e.symm), List.getElem?_set_ne (fun e => h1 e.symm)]
        exact hj j h1 h2
      refine ⟨p, [.ref bb, .int y.2], rfl, sqT (kp _ _ h1), rfl, .ref bb, [.int y.2], rfl, .int y.2, [], rfl, rfl, ?_⟩
      refine htv _ _ y.1 y.2 (addF m (π.take i) t) bb _ (List.mem_of_getElem? hy) hj' s2.1 s2.2 upd_same (kp _ _ h2) ?_
      have pl : (π.take i).length ≤ π.length := by
        rw [List.length_take]
        omega
      have al := addF_length m (π.take i) t
      have big := sizeBig
      refine ⟨.ref Dd, by rw [hj' iw wa wb]; exact hiw, .ref bb, s2.1, Dd, _, rfl, DPut.t (k := ck y.1) upd_same (by rw [ck_kV]; exact kp _ _ h2) (by rw [dk_length]; omega), ?_⟩
      refine ⟨hj', by rw [List.length_set, List.length_set]; exact hl, ?_⟩
      rw [upd_upd, dk_put, List.take_add_one, hy]
      show _ = upd H Dd (.dT (dk ((π.take i ++ [y]).foldl _ m)))
      rw [List.foldl_append]
      rfl
  · obtain ⟨hj, hl, rfl⟩ := h
    have e : π.take (ps.map V.ref).length = π := List.take_of_length_le (by rw [List.length_map, Paired.length hp]; exact Nat.le_refl _)
    rw [e]
    exact q σ' hj hl

/-! ### readings, opened one at a time -/
theorem iSeq {t u : TS} {D : Ends} {σ : L2.St} {H : Hp} (h : t { D with nx := u D } σ H) : tSeq t u D σ H := h
theorem iAsg {te : TE} {g : TG} {D : Ends} {σ : L2.St} {H : Hp} (h : te σ H fun x H1 => g x σ H1 D.nx) : tAsg te g D σ H := h
theorem iRet {te : TE} {D : Ends} {σ : L2.St} {H : Hp} (h : te σ H D.rt) : tRet te D σ H := h
theorem iCB {r : List V → Hp → VK → Prop} {t : TA} {σ : L2.St} {H : Hp} {Q : VK} (h : t σ H fun vs H1 => r vs H1 Q) : tCB r t σ H Q := h
theorem iCons {ta : TE} {tr : TA} {σ : L2.St} {H : Hp} {Q : List V → Hp → Prop} (h : ta σ H fun x H1 => tr σ H1 fun xs H2 => Q (x :: xs) H2) : tCons ta tr σ H Q := h
theorem iOp {r : R2} {ta tb : TE} {σ : L2.St} {H : Hp} {Q : VK} (h : ta σ H fun x H1 => tb σ H1 fun y H2 => r x y H2 Q) : tOp r ta tb σ H Q := h
theorem iTest {t : TE} {σ : L2.St} {H : Hp} {Q : Bool → Hp → Prop} (h : t σ H fun x H' => ∃ k, x = .bl k ∧ Q k H') : tTest t σ H Q := h
theorem iNext {D : Ends} {σ : L2.St} {H : Hp} (h : D.nx σ H) : tNext D σ H := h
theorem iName {i : Nat} {v : V} {σ : L2.St} {H : Hp} {Q : L2.St → Hp → Prop} (h : Q (σ.set i (some v)) H) : gName i v σ H Q := h
/-- a value by what holds of it -/
theorem split_k {t : TE} {σ : L2.St} {H : Hp} {Q : VK} (R : V → Hp → Prop) (h1 : ∀ Q' : VK, (∀ v H', R v H' → Q' v H') → t σ H Q') (h2 : ∀ v H', R v H' → Q v H') : t σ H Q := h1 Q h2
/-- a block by what holds behind it -/
theorem split_s {t : TS} {D : Ends} {σ : L2.St} {H : Hp} (R : L2.St → Hp → Prop) (h1 : ∀ nx : L2.St → Hp → Prop, (∀ σ' H', R σ' H' → nx σ' H') → t { D with nx := nx } σ H) (h2 : ∀ σ' H', R σ' H' → D.nx σ' H') : t D σ H := h1 D.nx h2
theorem iNil {σ : L2.St} {H : Hp} {Q : List V → Hp → Prop} (h : Q [] H) : tNil σ H Q := h
end AskG
/-! Comprehensions over rows. -/
namespace AskG
open PySem PySem.Spec PyProof.Rows L2
abbrev g2 (K : PySem.W.Frag) (a b : Nat) : TG := gTup K 2 (gCons (gName a) (gCons (gName b) gNil))
/-- the slots at a turn: the two targets, all else as it was -/
structure Turn2 (σ σ' : L2.St) (a b : Nat) (v w : V) : Prop where
  fst : σ'[a]? = some (some v)
  snd : σ'[b]? = some (some w)
  old : ∀ j, j ≠ a → j ≠ b → σ'[j]? = σ[j]?
theorem turn2 {σ : L2.St} {a b : Nat} {v w : V} (ha : a < σ.length) (hb : b < σ.length) (hab : a ≠ b) :
    Turn2 σ (((wipe σ [a, b]).set a (some v)).set b (some w)) a b v w := by
  have s2 := set2 (σ := wipe σ [a, b]) (v := v) (w := w) (by rw [wipe_length]; exact ha) (by rw [wipe_length]; exact hb) hab
  refine ⟨s2.1, s2.2, fun j h1 h2 => ?_⟩
  rw [List.getElem?_set_ne (fun e => h2 e.symm), List.getElem?_set_ne (fun e => h1 e.symm)]
  show ((σ.set b none).set a none)[j]? = _
  rw [List.getElem?_set_ne (fun e => h1 e.symm), List.getElem?_set_ne (fun e => h2 e.symm)]

/-- [(cell, g weight) for cell, weight in row if ..] -/
theorem lc_rows {K : PySem.W.Frag} {i a b : Nat} {σ : L2.St} {H : Hp} {Q : VK} {r : Addr} {ρ : RowD} {tt : TT} {tw : TE} (keep : Cell × Int → Bool) (g : Cell × Int → Int)
    (hi : σ[i]? = some (some (.ref r))) (R : RowAt H r ρ) (ha : a < σ.length) (hb : b < σ.length) (hab : a ≠ b) (hz : ρ.length ≤ 1000)
    (htt : ∀ σ' H' bb x (Q : Bool → Hp → Prop), x ∈ ρ → Same H H' → Turn2 σ σ' a b (.ref bb) (.int x.2) → CellAt H' bb x.1 → (∀ H'', Same H' H'' → Q (keep x) H'') → tt σ' H' Q)
    (htw : ∀ σ' H' bb x (Q : VK), x ∈ ρ → Same H H' → Turn2 σ σ' a b (.ref bb) (.int x.2) → CellAt H' bb x.1 → Q (.int (g x)) H' → tw σ' H' Q)
    (q : ∀ H' L ps, Same H H' → H L = none → H' L = some (.lst (ps.map V.ref)) → Paired (PairRow H') ps ((ρ.filter keep).map fun x => (x.1, g x)) → Q (.ref L) H') :
    tLc (iTup K (tVar i)) (g2 K a b) tt (tTup (tCons (tVar a) (tCons tw tNil))) [a, b] σ H Q := by
  obtain ⟨qs, hr, hp⟩ := R
  refine ⟨.ref r, hi, r, rfl, ⟨_, sqT hr⟩, fun L hL => ?_⟩
  refine lc_tup (xs := qs.map V.ref) (fun i H' => Same H H' ∧ ∃ ps, H' L = some (.lst (ps.map V.ref)) ∧ Paired (PairRow H') ps (((ρ.take i).filter keep).map fun x => (x.1, g x)) ∧ ps.length ≤ i)
    ⟨same_new hL, [], upd_same, .nil, Nat.le_refl _⟩ (fun i H' _ h => sqT (h.1 _ _ hr)) (fun i x H' hx h => ?_) (fun H' h => ?_)
  · obtain ⟨sm, ps, hps, hpp, hpl⟩ := h
    rw [List.getElem?_map] at hx
    cases hqi : qs[i]? with
    | none =>
      rw [hqi] at hx
      cases hx
    | some p =>
      rw [hqi] at hx
      have ex : V.ref p = x := Option.some.inj hx
      subst ex
      obtain ⟨y, hy, bb, h1, h2⟩ := paired_at' hp hqi
      have hym := List.mem_of_getElem? hy
      have kp := KeepT.of sm
      have il : i < qs.length := (List.getElem?_eq_some_iff.mp hqi).1
      have ql : qs.length = ρ.length := Paired.length hp
      have big := sizeBig
      have T := turn2 (v := .ref bb) (w := .int y.2) ha hb hab
      refine ⟨p, [.ref bb, .int y.2], rfl, sqT (kp _ _ h1), rfl, .ref bb, [.int y.2], rfl, .int y.2, [], rfl, rfl, ?_⟩
      refine ⟨wipe2 hab, htt _ _ bb y _ hym sm T (h2.keep kp) fun H2 sm2 => ?_⟩
      have kp2 := KeepT.of sm2
      have pk : ((ρ.take (i + 1)).filter keep).map (fun x => (x.1, g x)) = ((ρ.take i).filter keep).map (fun x => (x.1, g x)) ++ (if keep y = true then [(y.1, g y)] else []) := by
        rw [List.take_add_one, hy, List.filter_append, List.map_append]
        congr 1
        show List.map _ (List.filter keep [y]) = _
        cases hk : keep y with
        | true => simp [hk]
        | false => simp [hk]
      cases hk : keep y with
      | false =>
        refine iteF ⟨sm.trans sm2, ps, sm2 _ _ hps, ?_, by omega⟩
        rw [pk, hk, if_neg (by decide), List.append_nil]
        exact Paired.mapP hpp fun _ _ z => z.keep kp2
      | true =>
        refine iteT ⟨.ref bb, T.fst, htw _ _ bb y _ hym (sm.trans sm2) T ((h2.keep kp).keep kp2) ⟨by show 2 ≤ sizeLine; decide, fun t ht => ?_⟩⟩
        have hps2 := sm2 _ _ hps
        have nLt : L ≠ t := ne_of_none hps2 ht
        refine ⟨ps.map V.ref, by rw [upd_ne nLt]; exact hps2, by rw [List.length_map]; omega, ?_, ps ++ [t], ?_, ?_, ?_⟩
        · intro b' o' e'
          have e2 := sm2 _ _ (sm _ _ e')
          rw [upd_ne (ne_of_none e' hL), upd_ne (ne_of_none e2 ht)]
          exact e2
        · rw [upd_same, List.map_append]
          rfl
        · have kp3 : KeepT H2 (upd (upd H2 t (.tup [.ref bb, .int (g y)])) L (.lst (ps.map V.ref ++ [.ref t]))) :=
            (KeepT.new ht).trans (KeepT.put (u := .lst (ps.map V.ref)) (by rw [upd_ne nLt]; exact hps2) (fun _ z => nomatch z))
          rw [pk, hk, if_pos rfl]
          refine Paired.snoc (Paired.mapP hpp fun _ _ z => (z.keep kp2).keep kp3) ⟨bb, ?_, ((h2.keep kp).keep kp2).keep kp3⟩
          rw [upd_ne nLt.symm, upd_same]
        · rw [List.length_append]
          show ps.length + 1 ≤ i + 1
          omega
  · obtain ⟨sm, ps, hps, hpp, _⟩ := h
    have e : ρ.take (qs.map V.ref).length = ρ := List.take_of_length_le (by rw [List.length_map, Paired.length hp]; exact Nat.le_refl _)
    rw [e] at hpp
    exact q H' L ps sm hL hps hpp

theorem iYes {σ : L2.St} {H : Hp} {Q : Bool → Hp → Prop} (h : Q true H) : tYes σ H Q := h
/-- [g of cell, weight for cell, weight in row] -/
theorem lc_ints {K : PySem.W.Frag} {i a b : Nat} {σ : L2.St} {H : Hp} {Q : VK} {r : Addr} {ρ : RowD} {tw : TE} (g : Cell × Int → Int)
    (hi : σ[i]? = some (some (.ref r))) (R : RowAt H r ρ) (ha : a < σ.length) (hb : b < σ.length) (hab : a ≠ b) (hz : ρ.length ≤ 1000)
    (htw : ∀ σ' H' bb x (Q : VK), x ∈ ρ → Same H H' → Turn2 σ σ' a b (.ref bb) (.int x.2) → CellAt H' bb x.1 → Q (.int (g x)) H' → tw σ' H' Q)
    (q : ∀ H' L, Same H H' → H L = none → H' L = some (.lst ((ρ.map g).map V.int)) → Q (.ref L) H') :
    tLc (iTup K (tVar i)) (g2 K a b) tYes tw [a, b] σ H Q := by
  obtain ⟨qs, hr, hp⟩ := R
  refine ⟨.ref r, hi, r, rfl, ⟨_, sqT hr⟩, fun L hL => ?_⟩
  refine lc_tup (xs := qs.map V.ref) (fun i H' => Same H H' ∧ H' L = some (.lst (((ρ.take i).map g).map V.int)))
    ⟨same_new hL, upd_same⟩ (fun i H' _ h => sqT (h.1 _ _ hr)) (fun i x H' hx h => ?_) (fun H' h => ?_)
  · obtain ⟨sm, hps⟩ := h
    rw [List.getElem?_map] at hx
    cases hqi : qs[i]? with
    | none =>
      rw [hqi] at hx
      cases hx
    | some p =>
      rw [hqi] at hx
      have ex : V.ref p = x := Option.some.inj hx
      subst ex
      obtain ⟨y, hy, bb, h1, h2⟩ := paired_at' hp hqi
      have kp := KeepT.of sm
      have big := sizeBig
      have T := turn2 (v := .ref bb) (w := .int y.2) ha hb hab
      refine ⟨p, [.ref bb, .int y.2], rfl, sqT (kp _ _ h1), rfl, .ref bb, [.int y.2], rfl, .int y.2, [], rfl, rfl, ?_⟩
      refine ⟨wipe2 hab, iYes (iteT (htw _ _ bb y _ (List.mem_of_getElem? hy) sm T (h2.keep kp) ⟨_, hps, ?_, ?_, ?_⟩))⟩
      · rw [List.length_map, List.length_map, List.length_take]
        omega
      · intro b' o' e'
        rw [upd_ne (ne_of_none e' hL)]
        exact sm _ _ e'
      · rw [upd_same, List.take_add_one, hy]
        show _ = some (HO.lst (((ρ.take i ++ [y]).map g).map V.int))
        rw [List.map_append, List.map_append]
        rfl
  · obtain ⟨sm, hps⟩ := h
    have e : ρ.take (qs.map V.ref).length = ρ := List.take_of_length_le (by rw [List.length_map, Paired.length hp]; exact Nat.le_refl _)
    rw [e] at hps
    exact q H' L sm hL hps

theorem set1_at {σ : L2.St} {a : Nat} {v : V} (ha : a < σ.length) : ((wipe σ [a]).set a (some v))[a]? = some (some v) := List.getElem?_set_self (by rw [wipe_length]; exact ha)
theorem set1_old {σ : L2.St} {a j : Nat} {v : V} (h : j ≠ a) : ((wipe σ [a]).set a (some v))[j]? = σ[j]? := by
  rw [List.getElem?_set_ne (fun e => h e.symm), wipe_at h]
/-- one turn of [pair for pair in pairs if ..] -/
theorem pairs_turn {a : Nat} {σ : L2.St} {H H' : Hp} {L : Addr} {qs : List Addr} {ρ : RowD} {tt : TT} (keep : Cell × Int → Bool)
    (ha : a < σ.length) (hp : Paired (PairRow H) qs ρ) (hz : ρ.length ≤ 1000) (hL : H L = none)
    (htt : ∀ σ' H' p x (Q : Bool → Hp → Prop), x ∈ ρ → Same H H' → σ'[a]? = some (some (.ref p)) → (∀ j, j ≠ a → σ'[j]? = σ[j]?) → PairRow H' p x → (∀ H'', Same H' H'' → Q (keep x) H'') → tt σ' H' Q)
    {i : Nat} {x : V} (hx : (qs.map V.ref)[i]? = some x) (h : Same H H' ∧ ∃ ps, H' L = some (.lst (ps.map V.ref)) ∧ Paired (PairRow H') ps ((ρ.take i).filter keep) ∧ ps.length ≤ i) :
    gName a x (wipe σ [a]) H' fun σ2 H2 => wipe σ2 [a] = wipe σ [a] ∧ tt σ2 H2 fun b H3 => if b = true then tVar a σ2 H3 fun y H4 => ∃ acc, H4 L = some (.lst acc) ∧ acc.length < sizeLine ∧
      (Same H (upd H4 L (.lst (acc ++ [y]))) ∧ ∃ ps, (upd H4 L (.lst (acc ++ [y]))) L = some (.lst (ps.map V.ref)) ∧ Paired (PairRow (upd H4 L (.lst (acc ++ [y])))) ps ((ρ.take (i + 1)).filter keep) ∧ ps.length ≤ i + 1)
      else (Same H H3 ∧ ∃ ps, H3 L = some (.lst (ps.map V.ref)) ∧ Paired (PairRow H3) ps ((ρ.take (i + 1)).filter keep) ∧ ps.length ≤ i + 1) := by
  obtain ⟨sm, ps, hps, hpp, hpl⟩ := h
  rw [List.getElem?_map] at hx
  cases hqi : qs[i]? with
  | none =>
    rw [hqi] at hx
    cases hx
  | some p =>
    rw [hqi] at hx
    have ex : V.ref p = x := Option.some.inj hx
    subst ex
    obtain ⟨y, hy, hpy⟩ := paired_at' hp hqi
    have kp := KeepT.of sm
    have il : i < qs.length := (List.getElem?_eq_some_iff.mp hqi).1
    have ql : qs.length = ρ.length := Paired.length hp
    have big := sizeBig
    refine ⟨wipe1, htt _ _ p y _ (List.mem_of_getElem? hy) sm (set1_at ha) (fun j hj => set1_old hj) (hpy.keep kp) fun H2 sm2 => ?_⟩
    have kp2 := KeepT.of sm2
    have pk : (ρ.take (i + 1)).filter keep = (ρ.take i).filter keep ++ (if keep y = true then [y] else []) := by
      rw [List.take_add_one, hy, List.filter_append]
      congr 1
      show List.filter keep [y] = _
      cases hk : keep y with
      | true => simp [hk]
      | false => simp [hk]
    cases hk : keep y with
    | false =>
      refine iteF ⟨sm.trans sm2, ps, sm2 _ _ hps, ?_, by omega⟩
      rw [pk, hk, if_neg (by decide), List.append_nil]
      exact Paired.mapP hpp fun _ _ z => z.keep kp2
    | true =>
      have hps2 := sm2 _ _ hps
      refine iteT ⟨.ref p, set1_at ha, ps.map V.ref, hps2, by rw [List.length_map]; omega, ?_, ps ++ [p], ?_, ?_, ?_⟩
      · intro b' o' e'
        rw [upd_ne (ne_of_none e' hL)]
        exact sm2 _ _ (sm _ _ e')
      · rw [upd_same, List.map_append]
        rfl
      · have kp3 : KeepT H2 (upd H2 L (.lst (ps.map V.ref ++ [.ref p]))) := KeepT.put (u := .lst (ps.map V.ref)) hps2 (fun _ z => nomatch z)
        rw [pk, hk, if_pos rfl]
        exact Paired.snoc (Paired.mapP hpp fun _ _ z => (z.keep kp2).keep kp3) (((hpy.keep kp).keep kp2).keep kp3)
      · rw [List.length_append]
        show ps.length + 1 ≤ i + 1
        omega
/-- [pair for pair in row if ..] -/
theorem lc_pairsT {K : PySem.W.Frag} {i a : Nat} {σ : L2.St} {H : Hp} {Q : VK} {r : Addr} {qs : List Addr} {ρ : RowD} {tt : TT} (keep : Cell × Int → Bool)
    (hi : σ[i]? = some (some (.ref r))) (hr : H r = some (.tup (qs.map V.ref))) (hp : Paired (PairRow H) qs ρ) (ha : a < σ.length) (hz : ρ.length ≤ 1000)
    (htt : ∀ σ' H' p x (Q : Bool → Hp → Prop), x ∈ ρ → Same H H' → σ'[a]? = some (some (.ref p)) → (∀ j, j ≠ a → σ'[j]? = σ[j]?) → PairRow H' p x → (∀ H'', Same H' H'' → Q (keep x) H'') → tt σ' H' Q)
    (q : ∀ H' L ps, Same H H' → H L = none → H' L = some (.lst (ps.map V.ref)) → Paired (PairRow H') ps (ρ.filter keep) → Q (.ref L) H') :
    tLc (iTup K (tVar i)) (gName a) tt (tVar a) [a] σ H Q := by
  refine ⟨.ref r, hi, r, rfl, ⟨_, sqT hr⟩, fun L hL => ?_⟩
  refine lc_tup (xs := qs.map V.ref) (fun i H' => Same H H' ∧ ∃ ps, H' L = some (.lst (ps.map V.ref)) ∧ Paired (PairRow H') ps ((ρ.take i).filter keep) ∧ ps.length ≤ i)
    ⟨same_new hL, [], upd_same, .nil, Nat.le_refl _⟩ (fun i H' _ h => sqT (h.1 _ _ hr)) (fun i x H' hx h => pairs_turn keep ha hp hz hL htt hx h) (fun H' h => ?_)
  obtain ⟨sm, ps, hps, hpp, _⟩ := h
  have e : ρ.take (qs.map V.ref).length = ρ := List.take_of_length_le (by rw [List.length_map, Paired.length hp]; exact Nat.le_refl _)
  rw [e] at hpp
  exact q H' L ps sm hL hps hpp
theorem lc_pairsL {K : PySem.W.Frag} {i a : Nat} {σ : L2.St} {H : Hp} {Q : VK} {r : Addr} {qs : List Addr} {ρ : RowD} {tt : TT} (keep : Cell × Int → Bool)
    (hi : σ[i]? = some (some (.ref r))) (hr : H r = some (.lst (qs.map V.ref))) (hp : Paired (PairRow H) qs ρ) (ha : a < σ.length) (hz : ρ.length ≤ 1000)
    (htt : ∀ σ' H' p x (Q : Bool → Hp → Prop), x ∈ ρ → Same H H' → σ'[a]? = some (some (.ref p)) → (∀ j, j ≠ a → σ'[j]? = σ[j]?) → PairRow H' p x → (∀ H'', Same H' H'' → Q (keep x) H'') → tt σ' H' Q)
    (q : ∀ H' L ps, Same H H' → H L = none → H' L = some (.lst (ps.map V.ref)) → Paired (PairRow H') ps (ρ.filter keep) → Q (.ref L) H') :
    tLc (iList K (tVar i)) (gName a) tt (tVar a) [a] σ H Q := by
  refine ⟨.ref r, hi, r, rfl, ⟨_, sqL hr⟩, fun L hL => ?_⟩
  refine lc_list (xs := qs.map V.ref) (fun i H' => Same H H' ∧ ∃ ps, H' L = some (.lst (ps.map V.ref)) ∧ Paired (PairRow H') ps ((ρ.take i).filter keep) ∧ ps.length ≤ i)
    ⟨same_new hL, [], upd_same, .nil, Nat.le_refl _⟩ (fun i H' _ h => sqL (h.1 _ _ hr)) (fun i x H' hx h => pairs_turn keep ha hp hz hL htt hx h) (fun H' h => ?_)
  obtain ⟨sm, ps, hps, hpp, _⟩ := h
  have e : ρ.take (qs.map V.ref).length = ρ := List.take_of_length_le (by rw [List.length_map, Paired.length hp]; exact Nat.le_refl _)
  rw [e] at hpp
  exact q H' L ps sm hL hps hpp
end AskG
/-! Calls with keywords. -/
namespace AskG
open PySem PySem.Spec PyProof.Rows L2
section
variable {P : Program} {w : World} {K : PySem.W.Frag} {mg : Str → Option Value} {base : Heap}
theorem okGD {x qual : Str} {params : Arguments} {body : List Stmt} {scope : Scope} {dvs : List V} {kws : List (Str × V)} {f : Addr} {fd : FuncData} {N ps : List Str} {k : Nat} {pr : Pr}
    (F : FunD K x qual params body scope dvs kws f fd) (S : FnScope N ps scope) (many : ∀ vs H Q, pr vs H Q → vs.length = ps.length)
    (body_ok : ∀ (cdv : Value) (A : Around) (outer : List Env) (s : Shared) (H : Hp) (vs : List V) (Q : VK),
      RG k (A.deeper (envOfC qual scope s.heap.objs.size f cdv)) → pr vs H Q →
      ∃ t, PSs (cxOf CX0 P w K mg base N qual scope f cdv A outer s H E0).nox body t ∧
        t { nx := fun _ H' => Q .non H', rt := Q } (start N vs) H) : FnG P w K mg base (k + 1) f fd ps pr := by
  obtain ⟨oc, od, dV, kV, doc, pm, an, cdv, ct, osl, rfl, lk, hcd, _, _⟩ := F.ex
  exact fnG_of lk hcd S many fun A outer s H vs Q hr hp => body_ok cdv A outer s H vs Q hr hp
end
def tCallNG (n m : Nat) (pr : Pr) (gV : List V → List V → List V) (t tk : TA) : TE := fun σ H Q =>
  t σ H fun vs H1 => tk σ H1 fun zs H2 => vs.length = n ∧ zs.length = m ∧ pr (gV vs zs) H2 Q
section
variable {X : Cx} {k n : Nat} {f : Addr} {fd : FuncData} {ps ks : List Str} {pr : Pr} {x : Str} {p pos : Pos} {e : Expr} {es : List Expr} {kws : List Keyword}
  {t tk : TA} {g : List Value → List Value → List Value} {gV : List V → List V → List V}
theorem goN {pins : List (Addr × Obj)} {σ : L2.St} {H : Hp} {s : Shared} {Q : VK} {us ws : List Value} {vs zs : List V}
    (F : FnG X.prog X.w X.K X.mg X.base k f fd ps pr) (hr : RG k X.A) (hb : KBn X.K fd ps n ks g gV)
    (I : Inv X pins σ H s) (r : Vals vs us) (rz : Vals zs ws) (l1 : vs.length = n) (l2 : zs.length = ks.length) (h : pr (gV vs zs) H Q) :
    wpAny (model X.prog X.w) X.A (call (.ref f) us (ks.zip ws)) (EP X pins σ Q) X.xe s :=
  goG (args := ⟨us, ks.zip ws⟩) F hr I (hb.to s us ws I.kIn (r.length.symm.trans l1) (rz.length.symm.trans l2)) (hb.rel r rz) h
/-- f(e, .., k = v, ..) -/
theorem pe_gn (F : FnG X.prog X.w X.K X.mg X.base k f fd ps pr) (hr : RG k X.A) (hg : Gl X x)
    (hm : X.mg x = some (.ref f)) (hk : PySem.W.keepIn X.K (.ref f) = true) (hb : KBn X.K fd ps n ks g gV)
    (ha : PA X (e :: es) t) (hkw : PK X kws tk)
    (hall : (backToKw pos (keywordEach kws X.env)).all (·.1.isSome) = true := by rfl)
    (hks : (backToKw pos (keywordEach kws X.env)).filterMap (·.1) = ks := by rfl)
    (hdb : (x == ("__debug__" : Str)) = false := by decide)
    (he : starEach (e :: es) X.env = (false, eval e X.env) :: starEach es X.env := by rfl)
    (hpl : ((backTo pos (starEach (e :: es) X.env)).any (·.1) || (backToKw pos (keywordEach kws X.env)).any (·.1.isNone)) = false := by rfl) :
    PE X (.Call (.Name x p) (e :: es) kws pos) (tCallNG n ks.length pr gV t tk) := by
  constructor
  intro pins s σ H Q I h
  refine wpAny_Call_Name_kw (ld_glob I hg hm ?_ hdb)
  refine PySem.W.callWith_KW (h₀ := X.base) I.ok.mod.kin hk hall (thn (ha.run pos pins s σ H _ I h) ?_) hpl he
  rintro us s1 ⟨vs, H1, I1, r, q⟩
  refine thn (hkw.run pos pins s1 σ H1 _ I1 q) ?_
  rintro ws s2 ⟨zs, H2, I2, rz, l1, l2, q2⟩
  refine ⟨I2.kIn, ?_⟩
  rw [hks]
  exact goN F hr hb I2 r rz l1 l2 q2
/-- f(k = v, ..) -/
theorem pe_gn0 (F : FnG X.prog X.w X.K X.mg X.base k f fd ps pr) (hr : RG k X.A) (hg : Gl X x)
    (hm : X.mg x = some (.ref f)) (hk : PySem.W.keepIn X.K (.ref f) = true) (hb : KBn X.K fd ps 0 ks g gV)
    (hkw : PK X kws tk)
    (hall : (backToKw pos (keywordEach kws X.env)).all (·.1.isSome) = true := by rfl)
    (hks : (backToKw pos (keywordEach kws X.env)).filterMap (·.1) = ks := by rfl)
    (hdb : (x == ("__debug__" : Str)) = false := by decide)
    (hpl : ((backTo pos (starEach [] X.env)).any (·.1) || (backToKw pos (keywordEach kws X.env)).any (·.1.isNone)) = false := by rfl) :
    PE X (.Call (.Name x p) [] kws pos) (tCallNG 0 ks.length pr gV tNil tk) := by
  constructor
  intro pins s σ H Q I h
  refine wpAny_Call_Name_kw (ld_glob I hg hm ?_ hdb)
  refine PySem.W.callWith_KW0 (h₀ := X.base) I.ok.mod.kin hk hall ?_ hpl
  refine thn (hkw.run pos pins s σ H _ I h) ?_
  rintro ws s2 ⟨zs, H2, I2, rz, l1, l2, q2⟩
  refine ⟨I2.kIn, ?_⟩
  rw [hks]
  exact goN (us := []) F hr hb I2 .nil rz l1 l2 q2
end
end AskG
/-! Rows as data: what repr shows of them, == with []. -/
namespace AskG
open PySem PySem.Spec PyProof.Rows L2
/-- data that repr shows in at most n signs -/
structure Fine (k n : Nat) (d : PyData) : Prop where
  shw : d.showable = true
  nod : d.hasDict = false
  dep : d.depth ≤ k
  len : d.shown.length ≤ n
theorem Fine.mono {k n k' n' : Nat} {d : PyData} (h : Fine k n d) (hk : k ≤ k') (hn : n ≤ n') : Fine k' n' d :=
  ⟨h.shw, h.nod, Nat.le_trans h.dep hk, Nat.le_trans h.len hn⟩
theorem all_fine {k n : Nat} : ∀ {ds : List PyData}, (∀ d ∈ ds, Fine k n d) →
    PyData.showableAll ds = true ∧ PyData.hasDictAll ds = false ∧ PyData.depthAll ds ≤ k ∧ ((PyData.shownAll ds).map (·.length)).sum ≤ ds.length * n ∧ (PyData.shownAll ds).length = ds.length
  | [], _ => ⟨rfl, rfl, Nat.zero_le _, Nat.zero_le _, rfl⟩
  | d :: ds, h => by
    obtain ⟨h1, h2, h3, h4, h5⟩ := all_fine (ds := ds) fun e he => h e (List.mem_cons_of_mem _ he)
    have f := h d List.mem_cons_self
    refine ⟨?_, ?_, ?_, ?_, ?_⟩
    · show (d.showable && PyData.showableAll ds) = true
      rw [f.shw, h1]
      rfl
    · show (d.hasDict || PyData.hasDictAll ds) = false
      rw [f.nod, h2]
      rfl
    · show max d.depth (PyData.depthAll ds) ≤ k
      exact Nat.max_le.mpr ⟨f.dep, h3⟩
    · show ((d.shown :: PyData.shownAll ds).map (·.length)).sum ≤ _
      rw [List.map_cons, List.sum_cons, List.length_cons, Nat.succ_mul]
      have := f.len
      omega
    · show (d.shown :: PyData.shownAll ds).length = _
      rw [List.length_cons, List.length_cons, h5]
theorem Fine.tup {k n m : Nat} {ds : List PyData} (h : ∀ d ∈ ds, Fine k n d) (hm : ds.length ≤ m) : Fine (k + 1) (m * (n + 2) + 3) (.tuple ds) := by
  obtain ⟨h1, h2, h3, h4, h5⟩ := all_fine h
  refine ⟨h1, h2, Nat.succ_le_succ h3, ?_⟩
  have := tupleText_len_le (PyData.shownAll ds)
  show (tupleText (PyData.shownAll ds)).length ≤ _
  have e : ds.length * (n + 2) ≤ m * (n + 2) := Nat.mul_le_mul_right _ hm
  have e2 : ds.length * (n + 2) = ds.length * n + 2 * ds.length := by rw [Nat.mul_add, Nat.mul_comm ds.length 2]
  rw [h5] at this
  omega
theorem Fine.lst {k n m : Nat} {ds : List PyData} (h : ∀ d ∈ ds, Fine k n d) (hm : ds.length ≤ m) : Fine (k + 1) (m * (n + 2) + 3) (.list ds) := by
  obtain ⟨h1, h2, h3, h4, h5⟩ := all_fine h
  refine ⟨h1, h2, Nat.succ_le_succ h3, ?_⟩
  have := listText_len_le (PyData.shownAll ds)
  show (listText (PyData.shownAll ds)).length ≤ _
  have e : ds.length * (n + 2) ≤ m * (n + 2) := Nat.mul_le_mul_right _ hm
  have e2 : ds.length * (n + 2) = ds.length * n + 2 * ds.length := by rw [Nat.mul_add, Nat.mul_comm ds.length 2]
  rw [h5] at this
  omega
theorem fine_int {i : Int} (h : i.natAbs.log2 < 1920) : Fine 0 1921 (.int i) :=
  ⟨decide_eq_true h, rfl, Nat.le_refl _, int_text_len_1921 h⟩
theorem fine_str {x : Str} (h : x.length ≤ 8) (hx : ∀ c ∈ x.cps.toList, c < 16 ^ 8) : Fine 0 1921 (.str x) :=
  ⟨rfl, rfl, Nat.le_refl _, by
    have := StrLaws.reprText_len x hx
    show (reprText x).length ≤ _
    omega⟩

/-- sizes of what rows hold -/
structure CellOk (c : Cell) : Prop where
  short : c.1.length ≤ 8
  plain : ∀ n ∈ c.1.cps.toList, n < 16 ^ 8
  ok : PyData.strOk c.1 = true
  lit : c.2.natAbs.log2 < 1920
def cellD (c : Cell) : PyData := .tuple [.str c.1, .int c.2]
def pairD (x : Cell × Int) : PyData := .tuple [cellD x.1, .int x.2]
def rowPD (ρ : RowD) : PyData := .tuple (ρ.map pairD)
structure RowOk (ρ : RowD) : Prop where
  many : ρ.length ≤ 100
  cells : ∀ x ∈ ρ, CellOk x.1
  lit : ∀ x ∈ ρ, x.2.natAbs.log2 < 1920
theorem fine_cell {c : Cell} (h : CellOk c) : Fine 1 3849 (cellD c) := by
  refine Fine.tup (k := 0) (n := 1921) (m := 2) (fun d hd => ?_) (Nat.le_refl _)
  rcases List.mem_cons.mp hd with e | hd
  · rw [e]
    exact fine_str h.short h.plain
  · rw [List.mem_singleton.mp hd]
    exact fine_int h.lit
theorem fine_pair {x : Cell × Int} (h : CellOk x.1) (hw : x.2.natAbs.log2 < 1920) : Fine 2 7705 (pairD x) := by
  refine Fine.tup (k := 1) (n := 3849) (m := 2) (fun d hd => ?_) (Nat.le_refl _)
  rcases List.mem_cons.mp hd with e | hd
  · rw [e]
    exact fine_cell h
  · rw [List.mem_singleton.mp hd]
    exact (fine_int hw).mono (by decide) (by decide)
theorem fine_row {ρ : RowD} (h : RowOk ρ) : Fine 3 770703 (rowPD ρ) := by
  refine Fine.tup (k := 2) (n := 7705) (m := 100) (fun d hd => ?_) (by rw [List.length_map]; exact h.many)
  obtain ⟨x, hx, rfl⟩ := List.mem_map.mp hd
  exact fine_pair (h.cells x hx) (h.lit x hx)

section
variable {K : PySem.W.Frag} {H : Hp}
theorem dp_cell {b : Addr} {c : Cell} (h : CellAt H b c) : Dp K H (.ref b) (cellD c) := .tup (sqT h) (.cons (.str _) (.cons (.int _) .nil))
theorem dp_pair {p : Addr} {x : Cell × Int} (h : PairRow H p x) : Dp K H (.ref p) (pairD x) := by
  obtain ⟨b, h1, h2⟩ := h
  exact .tup (sqT h1) (.cons (dp_cell h2) (.cons (.int _) .nil))
theorem dp_all {R : Addr → α → Prop} {f : α → PyData} (h : ∀ p x, R p x → Dp K H (.ref p) (f x)) : ∀ {ps : List Addr} {l : List α}, Paired R ps l → DpAll K H (ps.map V.ref) (l.map f)
  | _, _, .nil => .nil
  | _, _, .cons h1 t => .cons (h _ _ h1) (dp_all h t)
theorem dp_row {r : Addr} {ρ : RowD} (h : RowAt H r ρ) : Dp K H (.ref r) (rowPD ρ) := by
  obtain ⟨ps, h1, h2⟩ := h
  exact .tup (sqT h1) (dp_all (f := pairD) (R := PairRow H) (fun _ _ z => dp_pair z) h2)
end
/-! ### == of lists -/
theorem shaped_nil : SeqAt.shaped (.list []) = true := by decide
theorem can_all {f : α → PyData} : ∀ {l : List α}, (∀ x ∈ l, (f x).canLay0 = true) → PyData.canLayAll0 (l.map f) = true
  | [], _ => rfl
  | x :: l, h => by
    show ((f x).canLay0 && PyData.canLayAll0 (l.map f)) = true
    rw [h x List.mem_cons_self, can_all fun y hy => h y (List.mem_cons_of_mem _ hy)]
    rfl
theorem depth_all {f : α → PyData} {k : Nat} : ∀ {l : List α}, (∀ x ∈ l, (f x).depth ≤ k) → PyData.depthAll (l.map f) ≤ k
  | [], _ => Nat.zero_le _
  | x :: l, h => by
    show max (f x).depth (PyData.depthAll (l.map f)) ≤ k
    exact Nat.max_le.mpr ⟨h x List.mem_cons_self, depth_all fun y hy => h y (List.mem_cons_of_mem _ hy)⟩
theorem shaped_ints (ns : List Int) : SeqAt.shaped (.list (ns.map PyData.int)) = true := by
  have h1 : PyData.canLayAll0 (ns.map PyData.int) = true := can_all fun _ _ => rfl
  have h2 : PyData.depthAll (ns.map PyData.int) ≤ 0 := depth_all fun _ _ => Nat.le_refl _
  show (PyData.canLayAll0 (ns.map PyData.int) && decide (PyData.depthAll (ns.map PyData.int) + 1 ≤ 64)) = true
  rw [h1, decide_eq_true (by omega)]
  rfl
theorem shaped_pairs {ρ : RowD} (h : ∀ x ∈ ρ, CellOk x.1) : SeqAt.shaped (.list (ρ.map pairD)) = true := by
  have h1 : PyData.canLayAll0 (ρ.map pairD) = true := can_all fun x hx => by
    show (((PyData.strOk x.1.1) && (true && true)) && (true && true)) = true
    rw [(h x hx).ok]
    rfl
  have h2 : PyData.depthAll (ρ.map pairD) ≤ 2 := depth_all fun x _ => by
    show max (max 0 (max 0 0) + 1) (max 0 0) + 1 ≤ 2
    decide
  show (PyData.canLayAll0 (ρ.map pairD) && decide (PyData.depthAll (ρ.map pairD) + 1 ≤ 64)) = true
  rw [h1, decide_eq_true (by omega)]
  rfl
theorem dp_ints {K : PySem.W.Frag} {H : Hp} : ∀ ns : List Int, DpAll K H (ns.map V.int) (ns.map PyData.int)
  | [] => .nil
  | n :: ns => .cons (.int n) (dp_ints ns)
/-- the same by computation -/
def cellB (c : Cell) : Bool := decide (c.1.length ≤ 8) && c.1.cps.toList.all (fun n => decide (n < 16 ^ 8)) && PyData.strOk c.1 && decide (c.2.natAbs.log2 < 1920)
theorem cellOk_of {c : Cell} (h : cellB c = true) : CellOk c := by
  unfold cellB at h
  rw [Bool.and_eq_true, Bool.and_eq_true, Bool.and_eq_true] at h
  obtain ⟨⟨⟨h1, h2⟩, h3⟩, h4⟩ := h
  exact ⟨of_decide_eq_true h1, fun n hn => of_decide_eq_true (List.all_eq_true.mp h2 n hn), h3, of_decide_eq_true h4⟩
end AskG
/-! cell < cell -/
namespace AskG
open PySem PySem.Spec PyProof.Rows L2
def rLtC : R2 := fun x y H Q => ∃ (a b : Addr) (c d : Cell), x = .ref a ∧ y = .ref b ∧ CellAt H a c ∧ CellAt H b d ∧ Q (.bl (ltC c d)) H
theorem op_ltC {X : Cx} (hu : X.A.units < cLine) : OpR X (compareOp .Lt) rLtC := by
  intro pins s σ H x y v u Q I rx ry h
  obtain ⟨a, b, c, d, rfl, rfl, ha, hb, q⟩ := h
  cases rx
  cases ry
  obtain ⟨a', t, t', e, ht⟩ := isCl_of I.hok ha
  cases e
  obtain ⟨b', u, u', e, hu2⟩ := isCl_of I.hok hb
  cases e
  have R := Ob.RcOp.tuples_lt (A := X.A) (s := s) (e := fun j => if j = 0 then c.1 == d.1 else c.2 == d.2)
    (r := fun j => if j = 0 then decide (c.1.cps.toList < d.1.cps.toList) else decide (c.2 < d.2)) ht hu2 hu
    (fun j h1 h2 => by
      have h1 : j < 2 := h1
      match j, h1 with
      | 0, _ => exact SeqAt.EqAt.str_str c.1 t d.1 u
      | 1, _ => exact SeqAt.EqAt.int_int c.2 t' d.2 u')
    (fun j h1 h2 _ => by
      have h1 : j < 2 := h1
      match j, h1 with
      | 0, _ => exact fun _ _ _ _ h => PyProof.Rows.lt_str h
      | 1, _ => exact fun _ _ _ _ h => PyProof.Rows.lt_int h)
  have e : Ob.lexAt (fun j => if j = 0 then c.1 == d.1 else c.2 == d.2) (fun j => if j = 0 then decide (c.1.cps.toList < d.1.cps.toList) else decide (c.2 < d.2)) (decide (2 < 2)) 0 (min 2 2) = ltC c d := by
    show (if (c.1 == d.1) = true then (if (c.2 == d.2) = true then decide (2 < 2) else decide (c.2 < d.2)) else decide (c.1.cps.toList < d.1.cps.toList)) = ltC c d
    unfold ltC
    by_cases e1 : c.1 = d.1
    · rw [if_pos (beq_iff_eq.mpr e1), if_pos e1]
      by_cases e2 : c.2 = d.2
      · rw [if_pos (beq_iff_eq.mpr e2), e2, decide_eq_false (Int.lt_irrefl _)]
        rfl
      · rw [if_neg fun z => e2 (beq_iff_eq.mp z)]
    · rw [if_neg fun z => e1 (beq_iff_eq.mp z), if_neg e1]
  have R2 : Ob.RcOp .Lt X.A s (.ref a) (.ref b) (ltC c d) := by
    rw [← e]
    exact R
  have z : wpAny (model X.prog X.w) X.A (compareOp .Lt (.ref a) (.ref b)) (EP X pins σ Q) X.xe s :=
    R2 X.prog X.w X.xe (EP X pins σ Q) ⟨.bl _, H, I, rfl, q⟩
  exact z
end AskG
/-! Values of any kind, and what the kind checks say of them. -/
namespace AskG
open PySem PySem.Spec PyProof.Rows L2
mutual
/-- the data that lies at a value; D is no part of it -/
inductive DH (D : Addr) (H : Hp) : V → PyData → Prop
  | non : DH D H .non .none
  | bl (b : Bool) : DH D H (.bl b) (.bool b)
  | int (i : Int) : DH D H (.int i) (.int i)
  | str (x : Str) : DH D H (.str x) (.str x)
  | lst {a : Addr} {xs : List V} {ds : List PyData} (n : a ≠ D) (e : H a = some (.lst xs)) (t : DHs D H xs ds) : DH D H (.ref a) (.list ds)
  | tup {a : Addr} {xs : List V} {ds : List PyData} (e : H a = some (.tup xs)) (t : DHs D H xs ds) : DH D H (.ref a) (.tuple ds)
inductive DHs (D : Addr) (H : Hp) : List V → List PyData → Prop
  | nil : DHs D H [] []
  | cons {v : V} {vs : List V} {d : PyData} {ds : List PyData} (h : DH D H v d) (t : DHs D H vs ds) : DHs D H (v :: vs) (d :: ds)
end
structure KeepD (D : Addr) (H H' : Hp) : Prop where
  tup : ∀ b xs, H b = some (.tup xs) → H' b = some (.tup xs)
  lst : ∀ b xs, b ≠ D → H b = some (.lst xs) → H' b = some (.lst xs)
theorem KeepD.of {D : Addr} {H H' : Hp} (h : Same H H') : KeepD D H H' := ⟨fun b _ e => h b _ e, fun b _ _ e => h b _ e⟩
theorem KeepD.trans {D : Addr} {H H1 H2 : Hp} (h : KeepD D H H1) (g : KeepD D H1 H2) : KeepD D H H2 := ⟨fun b xs e => g.tup b xs (h.tup b xs e), fun b xs n e => g.lst b xs n (h.lst b xs n e)⟩
mutual
theorem DH.keep {D : Addr} {H H' : Hp} (k : KeepD D H H') : ∀ {v : V} {d : PyData}, DH D H v d → DH D H' v d
  | _, _, .non => .non
  | _, _, .bl b => .bl b
  | _, _, .int i => .int i
  | _, _, .str x => .str x
  | _, _, .lst n e t => .lst n (k.lst _ _ n e) (DHs.keep k t)
  | _, _, .tup e t => .tup (k.tup _ _ e) (DHs.keep k t)
theorem DHs.keep {D : Addr} {H H' : Hp} (k : KeepD D H H') : ∀ {vs : List V} {ds : List PyData}, DHs D H vs ds → DHs D H' vs ds
  | _, _, .nil => .nil
  | _, _, .cons h t => .cons (DH.keep k h) (DHs.keep k t)
end
mutual
/-- an address that is still free is no part -/
theorem DH.shun {D E : Addr} {H : Hp} (f : H E = none) : ∀ {v : V} {d : PyData}, DH D H v d → DH E H v d
  | _, _, .non => .non
  | _, _, .bl b => .bl b
  | _, _, .int i => .int i
  | _, _, .str x => .str x
  | _, _, .lst n e t => .lst (fun z => by rw [z, f] at e; cases e) e (DHs.shun f t)
  | _, _, .tup e t => .tup e (DHs.shun f t)
theorem DHs.shun {D E : Addr} {H : Hp} (f : H E = none) : ∀ {vs : List V} {ds : List PyData}, DHs D H vs ds → DHs E H vs ds
  | _, _, .nil => .nil
  | _, _, .cons h t => .cons (DH.shun f h) (DHs.shun f t)
end
mutual
theorem DH.dp {K : PySem.W.Frag} {D : Addr} {H : Hp} : ∀ {v : V} {d : PyData}, DH D H v d → Dp K H v d
  | _, _, .non => .non
  | _, _, .bl b => .bl b
  | _, _, .int i => .int i
  | _, _, .str x => .str x
  | _, _, .lst _ e t => .lst (sqL e) (DHs.dp t)
  | _, _, .tup e t => .tup (sqT e) (DHs.dp t)
theorem DHs.dp {K : PySem.W.Frag} {D : Addr} {H : Hp} : ∀ {vs : List V} {ds : List PyData}, DHs D H vs ds → DpAll K H vs ds
  | _, _, .nil => .nil
  | _, _, .cons h t => .cons (DH.dp h) (DHs.dp t)
end
theorem DHs.len {D : Addr} {H : Hp} : ∀ {vs : List V} {ds : List PyData}, DHs D H vs ds → vs.length = ds.length
  | _, _, .nil => rfl
  | _, _, .cons _ t => by rw [List.length_cons, List.length_cons, DHs.len t]
theorem DHs.at {D : Addr} {H : Hp} : ∀ {vs : List V} {ds : List PyData}, DHs D H vs ds → ∀ {i : Nat} {v : V}, vs[i]? = some v → ∃ d, ds[i]? = some d ∧ DH D H v d
  | _, _, .nil, i, v, e => by cases i <;> cases e
  | _, _, .cons h t, 0, v, e => by
    cases e
    exact ⟨_, rfl, h⟩
  | _, _, .cons h t, i + 1, v, e => DHs.at t e
theorem DHs.app {D : Addr} {H : Hp} : ∀ {vs ws : List V} {ds es : List PyData}, DHs D H vs ds → DHs D H ws es → DHs D H (vs ++ ws) (ds ++ es)
  | _, _, _, _, .nil, h => h
  | _, _, _, _, .cons h t, g => .cons h (DHs.app t g)
/-! ### sizes -/
mutual
def smallD : PyData → Bool
  | .str s => decide (s.length ≤ 1000) && PyData.strOk s
  | .list ds => decide (ds.length ≤ 1000) && smallDs ds
  | .tuple ds => decide (ds.length ≤ 1000) && smallDs ds
  | .dict _ => false
  | _ => true
def smallDs : List PyData → Bool
  | [] => true
  | d :: ds => smallD d && smallDs ds
end
theorem smallDs_at : ∀ {ds : List PyData} {i : Nat} {d : PyData}, smallDs ds = true → ds[i]? = some d → smallD d = true
  | [], i, _, _, e => by cases i <;> cases e
  | x :: ds, 0, _, h, e => by
    cases e
    unfold smallDs at h
    rw [Bool.and_eq_true] at h
    exact h.1
  | x :: ds, i + 1, _, h, e => by
    unfold smallDs at h
    rw [Bool.and_eq_true] at h
    exact smallDs_at (ds := ds) (i := i) h.2 e
theorem small_tup {ds : List PyData} (h : smallD (.tuple ds) = true) : ds.length ≤ 1000 ∧ smallDs ds = true := by
  unfold smallD at h
  rw [Bool.and_eq_true] at h
  exact ⟨of_decide_eq_true h.1, h.2⟩
theorem small_lst {ds : List PyData} (h : smallD (.list ds) = true) : ds.length ≤ 1000 ∧ smallDs ds = true := by
  unfold smallD at h
  rw [Bool.and_eq_true] at h
  exact ⟨of_decide_eq_true h.1, h.2⟩
theorem small_str {s : Str} (h : smallD (.str s) = true) : s.length ≤ 1000 := by
  unfold smallD at h
  rw [Bool.and_eq_true] at h
  exact of_decide_eq_true h.1
theorem small_strOk {s : Str} (h : smallD (.str s) = true) : PyData.strOk s = true := by
  unfold smallD at h
  rw [Bool.and_eq_true] at h
  exact h.2
mutual
theorem small_lay : ∀ {d : PyData}, smallD d = true → d.canLay0 = true
  | .none, _ => rfl
  | .bool _, _ => rfl
  | .int _, _ => rfl
  | .str _, h => small_strOk h
  | .list _, h => small_lays (small_lst h).2
  | .tuple _, h => small_lays (small_tup h).2
  | .dict _, h => by cases h
theorem small_lays : ∀ {ds : List PyData}, smallDs ds = true → PyData.canLayAll0 ds = true
  | [], _ => rfl
  | d :: ds, h => by
    unfold smallDs at h
    rw [Bool.and_eq_true] at h
    show (d.canLay0 && PyData.canLayAll0 ds) = true
    rw [small_lay h.1, small_lays h.2]
    rfl
end
/-! ### kinds -/
def tyN : PyData → String
  | .none => "NoneType"
  | .bool _ => "bool"
  | .int _ => "int"
  | .str _ => "str"
  | .list _ => "list"
  | .tuple _ => "tuple"
  | .dict _ => "dict"
theorem DH.ty {K : PySem.W.Frag} {D : Addr} {H : Hp} {v : V} {d : PyData} (h : DH D H v d) : TyX K H v (.type (tyN d)) := by
  cases h with
  | non => exact .base .non
  | bl b => exact .base (.bl b)
  | int i => exact .base (.int i)
  | str x => exact .base (.str x)
  | lst _ e _ => exact .base (.lst e)
  | tup e _ => exact .base (.tup e)
def intB : PyData → Bool
  | .bool _ => true
  | .int _ => true
  | _ => false
def boolB : PyData → Bool
  | .bool _ => true
  | _ => false
def strB : PyData → Bool
  | .str _ => true
  | _ => false
def tupB : PyData → Bool
  | .tuple _ => true
  | _ => false
theorem kit_int : ∀ d : PyData, kitB (tyN d) "int" = some (intB d)
  | .none => show kitB "NoneType" "int" = some false from by decide +kernel
  | .bool _ => show kitB "bool" "int" = some true from by decide +kernel
  | .int _ => show kitB "int" "int" = some true from by decide +kernel
  | .str _ => show kitB "str" "int" = some false from by decide +kernel
  | .list _ => show kitB "list" "int" = some false from by decide +kernel
  | .tuple _ => show kitB "tuple" "int" = some false from by decide +kernel
  | .dict _ => show kitB "dict" "int" = some false from by decide +kernel
theorem kit_bool : ∀ d : PyData, kitB (tyN d) "bool" = some (boolB d)
  | .none => show kitB "NoneType" "bool" = some false from by decide +kernel
  | .bool _ => show kitB "bool" "bool" = some true from by decide +kernel
  | .int _ => show kitB "int" "bool" = some false from by decide +kernel
  | .str _ => show kitB "str" "bool" = some false from by decide +kernel
  | .list _ => show kitB "list" "bool" = some false from by decide +kernel
  | .tuple _ => show kitB "tuple" "bool" = some false from by decide +kernel
  | .dict _ => show kitB "dict" "bool" = some false from by decide +kernel
theorem kit_str : ∀ d : PyData, kitB (tyN d) "str" = some (strB d)
  | .none => show kitB "NoneType" "str" = some false from by decide +kernel
  | .bool _ => show kitB "bool" "str" = some false from by decide +kernel
  | .int _ => show kitB "int" "str" = some false from by decide +kernel
  | .str _ => show kitB "str" "str" = some true from by decide +kernel
  | .list _ => show kitB "list" "str" = some false from by decide +kernel
  | .tuple _ => show kitB "tuple" "str" = some false from by decide +kernel
  | .dict _ => show kitB "dict" "str" = some false from by decide +kernel
theorem kit_tup : ∀ d : PyData, kitB (tyN d) "tuple" = some (tupB d)
  | .none => show kitB "NoneType" "tuple" = some false from by decide +kernel
  | .bool _ => show kitB "bool" "tuple" = some false from by decide +kernel
  | .int _ => show kitB "int" "tuple" = some false from by decide +kernel
  | .str _ => show kitB "str" "tuple" = some false from by decide +kernel
  | .list _ => show kitB "list" "tuple" = some false from by decide +kernel
  | .tuple _ => show kitB "tuple" "tuple" = some true from by decide +kernel
  | .dict _ => show kitB "dict" "tuple" = some false from by decide +kernel
def itemD (d : PyData) (i : Nat) : PyData := match d with
  | .tuple ds => ds.getD i .none
  | _ => .none
def isIntD (d : PyData) : Bool := intB d && !boolB d
def geD (d : PyData) : Bool := match d with
  | .int i => decide (0 ≤ i)
  | _ => false
def isNumD (d : PyData) : Bool := isIntD d && geD d
def lettersD : Str := "abcdefghijklmnopqrstuvwxyz"
def nameS (s : Str) : Bool := (decide (1 ≤ s.length) && decide (s.length ≤ 8)) && s.cps.toList.all fun n => decide (n ∈ lettersD.cps.toList)
def isNameD (d : PyData) : Bool := match d with
  | .str s => nameS s
  | _ => false
def isPairD (d : PyData) : Bool := match d with
  | .tuple ds => decide (ds.length = 2)
  | _ => false
def isCellD (d : PyData) : Bool := isPairD d && (isNameD (itemD d 0) && isNumD (itemD d 1))
def nzD (d : PyData) : Bool := match d with
  | .int i => decide (i ≠ 0)
  | _ => true
def isWtD (d : PyData) : Bool := isPairD d && (isCellD (itemD d 0) && (isIntD (itemD d 1) && nzD (itemD d 1)))
theorem int_of {d : PyData} (h : isIntD d = true) : ∃ i, d = .int i := by
  cases d with
  | int i => exact ⟨i, rfl⟩
  | bool b => cases h
  | none => cases h
  | str _ => cases h
  | list _ => cases h
  | tuple _ => cases h
  | dict _ => cases h
theorem pair_of {d : PyData} (h : isPairD d = true) : ∃ x y, d = .tuple [x, y] := by
  cases d with
  | tuple ds =>
    have e : ds.length = 2 := of_decide_eq_true h
    match ds, e with
    | [x, y], _ => exact ⟨x, y, rfl⟩
  | _ => cases h
theorem DH.int_inv {D : Addr} {H : Hp} {v : V} {i : Int} (h : DH D H v (.int i)) : v = .int i := by
  cases h
  rfl
theorem DH.str_inv {D : Addr} {H : Hp} {v : V} {s : Str} (h : DH D H v (.str s)) : v = .str s := by
  cases h
  rfl
theorem DH.tup_inv {D : Addr} {H : Hp} {v : V} {ds : List PyData} (h : DH D H v (.tuple ds)) : ∃ a xs, v = .ref a ∧ H a = some (.tup xs) ∧ DHs D H xs ds := by
  cases h with
  | tup e t => exact ⟨_, _, rfl, e, t⟩
theorem DH.pair_inv {D : Addr} {H : Hp} {v : V} {x y : PyData} (h : DH D H v (.tuple [x, y])) : ∃ a p q, v = .ref a ∧ H a = some (.tup [p, q]) ∧ DH D H p x ∧ DH D H q y := by
  obtain ⟨a, xs, rfl, e, t⟩ := h.tup_inv
  cases t with
  | cons h1 t =>
    cases t with
    | cons h2 t =>
      cases t
      exact ⟨a, _, _, rfl, e, h1, h2⟩
/-- a check of one value -/
def prKind (f : PyData → Bool) : Pr := fun vs H Q => ∃ (v : V) (d : PyData) (D : Addr), vs = [v] ∧ DH D H v d ∧ smallD d = true ∧ ∀ H', Same H H' → Q (.bl (f d)) H'
end AskG
/-! How long the text of data is. -/
namespace AskG
open PySem PySem.Spec PyProof.Rows L2
mutual
/-- whole numbers of at most eighty digits -/
def litD : PyData → Bool
  | .int i => decide (i.natAbs < 10 ^ 80)
  | .list ds => litDs ds
  | .tuple ds => litDs ds
  | .dict _ => false
  | _ => true
def litDs : List PyData → Bool
  | [] => true
  | d :: ds => litD d && litDs ds
end
mutual
def wtD : PyData → Nat
  | .none => 5
  | .bool _ => 5
  | .int _ => 81
  | .str s => 10 * s.length + 2
  | .list ds => wtDs ds + 2 * ds.length + 3
  | .tuple ds => wtDs ds + 2 * ds.length + 3
  | .dict _ => 0
def wtDs : List PyData → Nat
  | [] => 0
  | d :: ds => wtD d + wtDs ds
end
structure Told (d : PyData) : Prop where
  shw : d.showable = true
  nod : d.hasDict = false
  len : d.shown.length ≤ wtD d
structure Tolds (ds : List PyData) : Prop where
  shw : PyData.showableAll ds = true
  nod : PyData.hasDictAll ds = false
  len : ((PyData.shownAll ds).map (·.length)).sum ≤ wtDs ds
  cnt : (PyData.shownAll ds).length = ds.length
theorem told_int {i : Int} (h : i.natAbs < 10 ^ 80) : Told (.int i) := by
  have h2 : i.natAbs < 2 ^ 1900 := Nat.lt_trans h (by decide)
  have h3 : i.natAbs.log2 < 1920 := by
    by_cases z : i.natAbs = 0
    · rw [z]
      decide
    · have := (Nat.log2_lt z).mpr h2
      omega
  refine ⟨decide_eq_true h3, rfl, ?_⟩
  show (PySem.Str.ofString (toString i)).length ≤ 81
  rw [PySem.ofString_length]
  exact PySem.int_text_length_le10 (k := 80) (by decide) h
theorem told_str {s : Str} (h : PyData.strOk s = true) : Told (.str s) := by
  refine ⟨rfl, rfl, ?_⟩
  show (reprText s).length ≤ 10 * s.length + 2
  refine StrLaws.reprText_len s fun c hc => ?_
  have := Array.all_eq_true'.mp h c (Array.mem_toList_iff.mp hc)
  have := of_decide_eq_true this
  omega
mutual
theorem told : ∀ {d : PyData}, smallD d = true → litD d = true → Told d
  | .none, _, _ => ⟨rfl, rfl, by decide +kernel⟩
  | .bool true, _, _ => ⟨rfl, rfl, by decide +kernel⟩
  | .bool false, _, _ => ⟨rfl, rfl, by decide +kernel⟩
  | .int i, _, h => told_int (of_decide_eq_true h)
  | .str s, h, _ => told_str (small_strOk h)
  | .list ds, h, g => by
    have t := tolds (small_lst h).2 (show litDs ds = true from g)
    refine ⟨t.shw, t.nod, ?_⟩
    have := listText_len_le (PyData.shownAll ds)
    show (listText (PyData.shownAll ds)).length ≤ wtDs ds + 2 * ds.length + 3
    rw [t.cnt] at this
    have := t.len
    omega
  | .tuple ds, h, g => by
    have t := tolds (small_tup h).2 (show litDs ds = true from g)
    refine ⟨t.shw, t.nod, ?_⟩
    have := tupleText_len_le (PyData.shownAll ds)
    show (tupleText (PyData.shownAll ds)).length ≤ wtDs ds + 2 * ds.length + 3
    rw [t.cnt] at this
    have := t.len
    omega
  | .dict _, h, _ => by cases h
theorem tolds : ∀ {ds : List PyData}, smallDs ds = true → litDs ds = true → Tolds ds
  | [], _, _ => ⟨rfl, rfl, Nat.le_refl _, rfl⟩
  | d :: ds, h, g => by
    unfold smallDs at h
    unfold litDs at g
    rw [Bool.and_eq_true] at h g
    have a := told h.1 g.1
    have b := tolds h.2 g.2
    refine ⟨?_, ?_, ?_, ?_⟩
    · show (d.showable && PyData.showableAll ds) = true
      rw [a.shw, b.shw]
      rfl
    · show (d.hasDict || PyData.hasDictAll ds) = false
      rw [a.nod, b.nod]
      rfl
    · show ((d.shown :: PyData.shownAll ds).map (·.length)).sum ≤ wtD d + wtDs ds
      rw [List.map_cons, List.sum_cons]
      have := a.len
      have := b.len
      omega
    · show (d.shown :: PyData.shownAll ds).length = _
      rw [List.length_cons, List.length_cons, b.cnt]
end
theorem wtDs_app : ∀ xs ys : List PyData, wtDs (xs ++ ys) = wtDs xs + wtDs ys
  | [], ys => by
    show wtDs ys = 0 + wtDs ys
    omega
  | x :: xs, ys => by
    show wtD x + wtDs (xs ++ ys) = wtD x + wtDs xs + wtDs ys
    rw [wtDs_app xs ys]
    omega
/-- the text of data at a value -/
theorem repr_told {K : PySem.W.Frag} {D H a d} {Q : VK} (h : DH D H (.ref a) d) (s : smallD d = true) (l : litD d = true) (dep : d.depth ≤ 60) (w : wtD d ≤ 16777216) (q : Q (.str d.shown) H) : rRepr K [.ref a] H Q := by
  have t := told s l
  exact ⟨a, d, rfl, h.dp, t.shw, t.nod, dep, by rw [sizeLine_eq]; exact Nat.le_trans t.len w, q⟩
end AskG
/-! Measures of data: lengths, numbers, depth, weight; how they go with lists. -/
namespace AskG
open PySem PySem.Spec PyProof.Rows L2
/-- plain signs only -/
def ascS (s : Str) : Bool := s.cps.toList.all fun c => decide (c < 128)
theorem asc_ok {s : Str} (h : ascS s = true) : PyData.strOk s = true :=
  Array.all_eq_true'.mpr fun c hc => decide_eq_true (by
    have := of_decide_eq_true (List.all_eq_true.mp h c (Array.mem_toList_iff.mpr hc))
    omega)
theorem asc_app {s z : Str} (h : ascS s = true) (g : ascS z = true) : ascS (s ++ z) = true := by
  show ((s.cps ++ z.cps).toList.all fun c => decide (c < 128)) = true
  rw [Array.toList_append, List.all_append]
  exact Bool.and_eq_true_iff.mpr ⟨h, g⟩
theorem asc_sub {s z : Str} (h : ascS s = true) (g : ∀ c ∈ z.cps.toList, c ∈ s.cps.toList) : ascS z = true :=
  List.all_eq_true.mpr fun c hc => List.all_eq_true.mp h c (g c hc)
mutual
/-- strings of plain signs, no dicts -/
def okS : PyData → Bool
  | .str s => ascS s
  | .list ds => okSs ds
  | .tuple ds => okSs ds
  | .dict _ => false
  | _ => true
def okSs : List PyData → Bool
  | [] => true
  | d :: ds => okS d && okSs ds
end
mutual
/-- the greatest length of a string, a list, a tuple in it -/
def bigD : PyData → Nat
  | .str s => s.length
  | .list ds => max ds.length (bigDs ds)
  | .tuple ds => max ds.length (bigDs ds)
  | _ => 0
def bigDs : List PyData → Nat
  | [] => 0
  | d :: ds => max (bigD d) (bigDs ds)
end
mutual
/-- the greatest whole number in it, without sign -/
def topD : PyData → Nat
  | .int i => i.natAbs
  | .list ds => topDs ds
  | .tuple ds => topDs ds
  | _ => 0
def topDs : List PyData → Nat
  | [] => 0
  | d :: ds => max (topD d) (topDs ds)
end
mutual
theorem small_by : ∀ {d : PyData}, okS d = true → bigD d ≤ 1000 → smallD d = true
  | .none, _, _ => rfl
  | .bool _, _, _ => rfl
  | .int _, _, _ => rfl
  | .str s, h, g => by
    have h : PyData.strOk s = true := asc_ok h
    have g : s.length ≤ 1000 := g
    unfold smallD
    rw [decide_eq_true g, h]
    rfl
  | .list ds, h, g => by
    have g : max ds.length (bigDs ds) ≤ 1000 := g
    unfold smallD
    rw [decide_eq_true (by omega), smalls_by (ds := ds) h (by omega)]
    rfl
  | .tuple ds, h, g => by
    have g : max ds.length (bigDs ds) ≤ 1000 := g
    unfold smallD
    rw [decide_eq_true (by omega), smalls_by (ds := ds) h (by omega)]
    rfl
  | .dict _, h, _ => by cases h
theorem smalls_by : ∀ {ds : List PyData}, okSs ds = true → bigDs ds ≤ 1000 → smallDs ds = true
  | [], _, _ => rfl
  | d :: ds, h, g => by
    unfold okSs at h
    rw [Bool.and_eq_true] at h
    have g : max (bigD d) (bigDs ds) ≤ 1000 := g
    unfold smallDs
    rw [small_by h.1 (by omega), smalls_by h.2 (by omega)]
    rfl
end
mutual
theorem lit_by : ∀ {d : PyData}, okS d = true → topD d < 10 ^ 80 → litD d = true
  | .none, _, _ => rfl
  | .bool _, _, _ => rfl
  | .int _, _, g => decide_eq_true g
  | .str _, _, _ => rfl
  | .list ds, h, g => lits_by (ds := ds) h g
  | .tuple ds, h, g => lits_by (ds := ds) h g
  | .dict _, h, _ => by cases h
theorem lits_by : ∀ {ds : List PyData}, okSs ds = true → topDs ds < 10 ^ 80 → litDs ds = true
  | [], _, _ => rfl
  | d :: ds, h, g => by
    unfold okSs at h
    rw [Bool.and_eq_true] at h
    have g : max (topD d) (topDs ds) < 10 ^ 80 := g
    unfold litDs
    rw [lit_by h.1 (by omega), lits_by h.2 (by omega)]
    rfl
end
/-- measures of a list's items, all at once -/
structure All (b t k n : Nat) (ds : List PyData) : Prop where
  ok : okSs ds = true
  big : bigDs ds ≤ b
  top : topDs ds ≤ t
  dep : PyData.depthAll ds ≤ k
  wt : wtDs ds ≤ n
structure Of (b t k n : Nat) (d : PyData) : Prop where
  ok : okS d = true
  big : bigD d ≤ b
  top : topD d ≤ t
  dep : d.depth ≤ k
  wt : wtD d ≤ n
theorem All.nil {b t k n : Nat} : All b t k n [] := ⟨rfl, Nat.zero_le _, Nat.zero_le _, Nat.zero_le _, Nat.zero_le _⟩
theorem All.cons {b t k n m : Nat} {d : PyData} {ds : List PyData} (h : Of b t k m d) (g : All b t k n ds) : All b t k (m + n) (d :: ds) := by
  refine ⟨?_, ?_, ?_, ?_, ?_⟩
  · unfold okSs
    rw [h.ok, g.ok]
    rfl
  · show max (bigD d) (bigDs ds) ≤ b
    exact Nat.max_le.mpr ⟨h.big, g.big⟩
  · show max (topD d) (topDs ds) ≤ t
    exact Nat.max_le.mpr ⟨h.top, g.top⟩
  · show max d.depth (PyData.depthAll ds) ≤ k
    exact Nat.max_le.mpr ⟨h.dep, g.dep⟩
  · show wtD d + wtDs ds ≤ m + n
    have := h.wt
    have := g.wt
    omega
theorem All.head {b t k n : Nat} {d : PyData} {ds : List PyData} (h : All b t k n (d :: ds)) : Of b t k n d := by
  have h1 := h.ok
  unfold okSs at h1
  rw [Bool.and_eq_true] at h1
  have h2 : max (bigD d) (bigDs ds) ≤ b := h.big
  have h3 : max (topD d) (topDs ds) ≤ t := h.top
  have h4 : max d.depth (PyData.depthAll ds) ≤ k := h.dep
  have h5 : wtD d + wtDs ds ≤ n := h.wt
  exact ⟨h1.1, by omega, by omega, by omega, by omega⟩
theorem All.tail {b t k n : Nat} {d : PyData} {ds : List PyData} (h : All b t k n (d :: ds)) : All b t k n ds := by
  have h1 := h.ok
  unfold okSs at h1
  rw [Bool.and_eq_true] at h1
  have h2 : max (bigD d) (bigDs ds) ≤ b := h.big
  have h3 : max (topD d) (topDs ds) ≤ t := h.top
  have h4 : max d.depth (PyData.depthAll ds) ≤ k := h.dep
  have h5 : wtD d + wtDs ds ≤ n := h.wt
  exact ⟨h1.2, by omega, by omega, by omega, by omega⟩
theorem All.mono {b t k n b' t' k' n' : Nat} {ds : List PyData} (h : All b t k n ds) (hb : b ≤ b') (ht : t ≤ t') (hk : k ≤ k') (hn : n ≤ n') : All b' t' k' n' ds :=
  ⟨h.ok, Nat.le_trans h.big hb, Nat.le_trans h.top ht, Nat.le_trans h.dep hk, Nat.le_trans h.wt hn⟩
theorem Of.mono {b t k n b' t' k' n' : Nat} {d : PyData} (h : Of b t k n d) (hb : b ≤ b') (ht : t ≤ t') (hk : k ≤ k') (hn : n ≤ n') : Of b' t' k' n' d :=
  ⟨h.ok, Nat.le_trans h.big hb, Nat.le_trans h.top ht, Nat.le_trans h.dep hk, Nat.le_trans h.wt hn⟩
theorem All.app {b t k : Nat} : ∀ {xs ys : List PyData} {n m : Nat}, All b t k n xs → All b t k m ys → All b t k (n + m) (xs ++ ys)
  | [], ys, n, m, _, g => g.mono (Nat.le_refl _) (Nat.le_refl _) (Nat.le_refl _) (by omega)
  | x :: xs, ys, n, m, h, g => by
    have w : wtD x + wtDs xs ≤ n := h.wt
    have hx : Of b t k (wtD x) x := ⟨h.head.ok, h.head.big, h.head.top, h.head.dep, Nat.le_refl _⟩
    have hxs : All b t k (wtDs xs) xs := ⟨h.tail.ok, h.tail.big, h.tail.top, h.tail.dep, Nat.le_refl _⟩
    exact (All.cons hx (All.app hxs g)).mono (Nat.le_refl _) (Nat.le_refl _) (Nat.le_refl _) (by omega)
theorem All.drop {b t k n : Nat} : ∀ {ds : List PyData} (i : Nat), All b t k n ds → All b t k n (ds.drop i)
  | _, 0, h => h
  | [], _ + 1, _ => .nil
  | _ :: _, i + 1, h => All.drop i h.tail
theorem All.take {b t k : Nat} : ∀ {ds : List PyData} {n : Nat} (i : Nat), All b t k n ds → All b t k n (ds.take i)
  | _, _, 0, _ => .nil
  | [], _, _ + 1, _ => .nil
  | x :: ds, n, i + 1, h => by
    have w : wtD x + wtDs ds ≤ n := h.wt
    have hx : Of b t k (wtD x) x := ⟨h.head.ok, h.head.big, h.head.top, h.head.dep, Nat.le_refl _⟩
    have hxs : All b t k (wtDs ds) ds := ⟨h.tail.ok, h.tail.big, h.tail.top, h.tail.dep, Nat.le_refl _⟩
    exact (All.cons hx (All.take i hxs)).mono (Nat.le_refl _) (Nat.le_refl _) (Nat.le_refl _) w
theorem All.rev {b t k : Nat} : ∀ {ds : List PyData} {n : Nat}, All b t k n ds → All b t k n ds.reverse
  | [], _, h => .nil
  | x :: ds, n, h => by
    have w : wtD x + wtDs ds ≤ n := h.wt
    have hx : Of b t k (wtD x) x := ⟨h.head.ok, h.head.big, h.head.top, h.head.dep, Nat.le_refl _⟩
    have hxs : All b t k (wtDs ds) ds := ⟨h.tail.ok, h.tail.big, h.tail.top, h.tail.dep, Nat.le_refl _⟩
    rw [List.reverse_cons]
    exact (All.app (All.rev hxs) (All.cons hx (All.nil (n := 0)))).mono (Nat.le_refl _) (Nat.le_refl _) (Nat.le_refl _) (by omega)
theorem All.at {b t k n : Nat} : ∀ {ds : List PyData} {i : Nat} {d : PyData}, All b t k n ds → ds[i]? = some d → Of b t k n d
  | [], i, _, _, e => by cases i <;> cases e
  | x :: ds, 0, _, h, e => by
    cases e
    exact h.head
  | x :: ds, i + 1, _, h, e => All.at h.tail e
theorem Of.tup {b t k n : Nat} {ds : List PyData} (h : All b t k n ds) (hl : ds.length ≤ b) : Of b t (k + 1) (n + 2 * ds.length + 3) (.tuple ds) :=
  ⟨h.ok, Nat.max_le.mpr ⟨hl, h.big⟩, h.top, Nat.succ_le_succ h.dep, by
    show wtDs ds + 2 * ds.length + 3 ≤ _
    have := h.wt
    omega⟩
theorem Of.lst {b t k n : Nat} {ds : List PyData} (h : All b t k n ds) (hl : ds.length ≤ b) : Of b t (k + 1) (n + 2 * ds.length + 3) (.list ds) :=
  ⟨h.ok, Nat.max_le.mpr ⟨hl, h.big⟩, h.top, Nat.succ_le_succ h.dep, by
    show wtDs ds + 2 * ds.length + 3 ≤ _
    have := h.wt
    omega⟩
theorem Of.items {b t k n : Nat} {ds : List PyData} (h : Of b t (k + 1) n (.tuple ds)) : All b t k n ds ∧ ds.length ≤ b ∧ wtDs ds + 2 * ds.length + 3 ≤ n := by
  have h2 : max ds.length (bigDs ds) ≤ b := h.big
  have h5 : wtDs ds + 2 * ds.length + 3 ≤ n := h.wt
  exact ⟨⟨h.ok, by omega, h.top, Nat.le_of_succ_le_succ h.dep, by omega⟩, by omega, h5⟩
theorem Of.small {b t k n : Nat} {d : PyData} (h : Of b t k n d) (hb : b ≤ 1000) : smallD d = true := small_by h.ok (Nat.le_trans h.big hb)
theorem Of.lit {b t k n : Nat} {d : PyData} (h : Of b t k n d) (ht : t < 10 ^ 80) : litD d = true := lit_by h.ok (Nat.lt_of_le_of_lt h.top ht)
end AskG
/-! t[::-1] of a tuple. -/
namespace AskG
open PySem PySem.Spec PyProof.Rows L2 HT
section
variable {prog : Program} {w : World} {A : Around} {E : Value → Shared → Prop} {s : Shared}
theorem adjust_rev (n : Nat) : Builtin.Slice.sliceAdjust none none (-1) (n : Int) = ((n : Int) - 1, -1) := rfl
theorem places_rev (n : Nat) : Builtin.Slice.slicePlaces ((n : Int) - 1) (-1) (-1) = n := by
  unfold Builtin.Slice.slicePlaces
  by_cases h : n = 0
  · subst h
    rfl
  · simp
    try omega
theorem sliceApplied_rev {sl : Addr} {vs : Value} {n : Nat} {Q : Int × Int × Nat → Shared → Prop} (hs : s.heap.IsSliceOf sl .none .none vs) (ps : IsPart vs (some (-1)))
    (h : Q ((n : Int) - 1, -1, n) s) : wpAny (model prog w) A (Builtin.Slice.sliceApplied (.ref sl) (pure (n : Int))) Q E s := by
  obtain ⟨os, hos, hcs, hds⟩ := id hs
  unfold Builtin.Slice.sliceApplied Builtin.Slice.sliceFields
  refine wpAny_bind (wpAny_bind (wpAny_field hos hds (x := .none) rfl (wpAny_bind (wpAny_field hos hds (x := .none) rfl (wpAny_bind (wpAny_field hos hds (x := vs) rfl (wpAny_pure ?_)))))))
  refine wpAny_bind (slicePart_ ps ?_)
  show wpAny _ _ (if ((-1 : Int) == 0) = true then _ else _) _ _ s
  rw [if_neg (by decide)]
  refine wpAny_bind (slicePart_none (wpAny_bind (slicePart_none (wpAny_bind (wpAny_pure ?_)))))
  show wpAny _ _ (match Builtin.Slice.sliceAdjust none none (-1) (n : Int) with | (lo, hi) => pure (lo, (-1 : Int), Builtin.Slice.slicePlaces lo hi (-1))) _ _ s
  rw [adjust_rev]
  show wpAny _ _ (pure ((n : Int) - 1, (-1 : Int), Builtin.Slice.slicePlaces ((n : Int) - 1) (-1) (-1))) _ _ s
  rw [places_rev]
  exact wpAny_pure h
theorem fm_congr {α β : Type} {f g : α → Option β} : ∀ {l : List α}, (∀ m ∈ l, f m = g m) → l.filterMap f = l.filterMap g
  | [], _ => rfl
  | x :: l, h => by
    rw [List.filterMap_cons, List.filterMap_cons, h x List.mem_cons_self, fm_congr fun m hm => h m (List.mem_cons_of_mem _ hm)]
theorem pick_rev (xs : Array Value) : ((List.range xs.size).filterMap fun (m : Nat) => xs[(((xs.size : Int) - 1) + (m : Int) * (-1)).toNat]?).toArray = xs.toList.reverse.toArray := by
  have g := pick_gen xs.toList.reverse.toArray 0 xs.size
  have e : ((xs.toList.reverse.toArray.toList.drop 0).take xs.size) = xs.toList.reverse := by
    show (xs.toList.reverse.drop 0).take xs.size = xs.toList.reverse
    rw [List.drop_zero]
    exact List.take_of_length_le (by rw [List.length_reverse, Array.length_toList]; exact Nat.le_refl _)
  rw [e] at g
  rw [← g]
  congr 1
  refine fm_congr fun m hm => ?_
  have hm' := List.mem_range.mp hm
  have e1 : (((xs.size : Int) - 1) + (m : Int) * (-1)).toNat = xs.size - 1 - m := by omega
  have e2 : (((0 : Nat) : Int) + (m : Int) * 1).toNat = m := by omega
  rw [e1, e2]
  show xs[xs.size - 1 - m]? = xs.toList.reverse.toArray[m]?
  have r : xs.toList.reverse.toArray[m]? = xs.toList.reverse[m]? := by simp
  rw [r, List.getElem?_reverse (by rw [Array.length_toList]; exact hm'), Array.length_toList, Array.getElem?_toList]
theorem getItem_tuple_rev {t sl : Addr} {items : Array Value} {vs : Value} {Q : Value → Shared → Prop} (ht : IsTup s.heap t items) (hs : s.heap.IsSliceOf sl .none .none vs) (ps : IsPart vs (some (-1)))
    (h : Q (.ref s.heap.objs.size) { s with heap := s.heap.push { cls := .type "tuple", data := .seq items.toList.reverse.toArray } })
    (hsz : items.size ≤ sizeLine) : wpAny (model prog w) A (getItem (.ref t) (.ref sl)) Q E s := by
  have htake : sizeOk (.seq items.toList.reverse.toArray) := by
    show items.toList.reverse.toArray.size ≤ sizeLine
    rw [List.size_toArray, List.length_reverse, Array.length_toList]
    exact hsz
  obtain ⟨os, hos, hcs, hds⟩ := id hs
  have hTs : s.TypeIs (.ref sl) "slice" := ⟨os, hos, hcs⟩
  unfold getItem
  try with_reducible refine wpAny_holding ?_
  try refine wpAny_bind (wpAny_pure ?_)
  refine wpAny_bind (wpAny_sequenceKey ht.typeIs (by decide) (wpAny_bind (wpAny_callSpecial?_slot (name := Str.ofString "__getitem__") ht.typeIs PyProof.Rows.slot_tuple_getitem (wpAny_call_entry PyProof.Rows.slot_tuple_getitem ht.typeIs entry_tuple_getitem ?_ (args_tuple_getitem _ _)))))
  change wpAny _ _ (Builtin.Tuple.tupleItemsOf (.ref t) >>= _) _ _ s
  refine wpAny_bind (tupleItemsOf_ ht (wpAny_bind (wpAny_typeOf hTs ?_)))
  rw [if_pos (by decide)]
  refine wpAny_bind (sliceApplied_rev hs ps ?_)
  have hno : ¬ ((((items.size : Int) - 1) == 0 && (-1 : Int) == 1 && items.size == items.size) = true) := by
    intro q
    rw [Bool.and_eq_true, Bool.and_eq_true] at q
    exact absurd q.1.2 (by decide)
  show wpAny _ _ (if ((((items.size : Int) - 1) == 0 && (-1 : Int) == 1 && items.size == items.size) = true) then _ else _) _ _ s
  rw [if_neg hno, pick_rev]
  have fin : ∀ (B : Around) (R : Value → Shared → Prop), (R (.ref s.heap.objs.size) { s with heap := s.heap.push { cls := .type "tuple", data := .seq items.toList.reverse.toArray } }) → wpAny (model prog w) B (Builtin.Tuple.tupleExact items.toList.reverse.toArray) R E s := fun B R hR => wpAny_newObj_type hR htake
  first
    | exact wpAny_bind (fin _ _ (wpAny_pure ⟨_, rfl, wpAny_pure h⟩))
    | exact wpAny_bind (wpAny_bind (fin _ _ (wpAny_pure (wpAny_pure ⟨_, rfl, wpAny_pure h⟩))))
    | exact wpAny_bind (wpAny_bind (fin _ _ (wpAny_pure ⟨_, rfl, wpAny_pure h⟩)))
    | exact wpAny_bind (fin _ _ (wpAny_bind (wpAny_pure (wpAny_pure ⟨_, rfl, wpAny_pure h⟩))))
end
/-- t[::-1] -/
def tRevT (K : PySem.W.Frag) (te : TE) : TE := fun σ H Q => te σ H fun x H1 => ∃ a xs, x = .ref a ∧ SqT K H1 a xs ∧ ∀ p, H1 p = none → Q (.ref p) (upd H1 p (.tup xs.reverse))
section
variable {X : Cx}
theorem pe_revT {e : Expr} {te : TE} {k : Nat} {p1 p2 p3 pos : Pos} (he : PE X e te) : PE X (.Subscript e (.Slice none none (some (.UnaryOp .USub (.Constant (.int 1) k p1) p2)) p3) pos) (tRevT X.K te) := by
  constructor
  intro pins s σ H Q I h
  have st : PO X (some (.UnaryOp .USub (.Constant (.int 1) k p1) p2)) (tPart (tUn (rU fun i => .int (-i)) (tC (.int 1)))) := po_some (pe_un un_neg pe_int)
  refine Subscript_ (thn (he.run pins s σ H _ I h) ?_)
  rintro v s1 ⟨x, H1, I1, r1, a, xs, rfl, hx, q⟩
  cases r1
  refine wpAny_Slice (thn (po_none.run pins s1 σ H1 (fun o G => o = none ∧ G = H1) I1 ⟨rfl, rfl⟩) ?_)
  rintro vl s2 ⟨_, _, I2, pl, rfl, rfl⟩
  refine thn (po_none.run pins s2 σ _ (fun o G => o = none ∧ G = _) I2 ⟨rfl, rfl⟩) ?_
  rintro vu s3 ⟨_, _, I3, pu, rfl, rfl⟩
  refine thn (st.run pins s3 σ _ (fun o G => o = some (-1) ∧ G = _) I3 ⟨1, rfl, -1, rfl, rfl, rfl⟩) ?_
  rintro vs s4 ⟨_, G, I4, ps, rfl, rfl⟩
  cases pl
  cases pu
  have I5 : Inv X pins σ G { s4 with heap := s4.heap.push { cls := .type "slice", data := .fields #[.none, .none, vs] } } := I4.kept (t' := s4.toks) fun _ _ z => Heap.get?_push_of_some _ z
  obtain ⟨its, r, ht, hz⟩ := I5.tuple hx
  have hl : its.toArray.size = xs.length := by rw [List.size_toArray]; exact r.length.symm
  change wpAny (model X.prog X.w) X.A (subscriptTail e _ (.ref a) (.ref s4.heap.objs.size)) (EP X pins σ Q) X.xe _
  refine tail_any (ops := [.ref a, .ref s4.heap.objs.size]) ht.typeIs (PyProof.Rows.slot_tuple_getitem.lookup) (getItem_tuple_rev ht (Heap.IsSliceOf.new _ _ _ _) ps ?_ (by rw [hl]; exact hz)) (by with_unfolding_all rfl)
  refine ⟨.ref _, _, I5.laid (t' := s4.toks) (o := .tup xs.reverse) (fun _ _ z => Heap.get?_push_of_some _ z) (Nat.le_refl _) ⟨by rw [List.length_reverse]; exact hz, _, r.reverse, IsTup.new _ _⟩, rfl, q _ (I5.hok.fresh (Nat.le_refl _))⟩
end
end AskG
/-! Whole numbers and bools together. -/
namespace AskG
open PySem PySem.Spec PyProof.Rows L2
section
variable {X : Cx}
def b1 (k : Bool) : Int := if k = true then 1 else 0
theorem op_add_bi : OpR X (binaryOp .Add) (fun x y H Q => ∃ k i, x = .bl k ∧ y = .int i ∧ Q (.int (b1 k + i)) H) := by
  rintro pins s σ H x y v u Q I rx ry ⟨k, i, rfl, rfl, q⟩
  cases rx
  obtain ⟨t, rfl⟩ := ry
  exact PySem.IntBool.add_bool_int ⟨.int (b1 k + i), H, I.tok _, ⟨_, rfl⟩, q⟩
theorem op_sub_bi : OpR X (binaryOp .Sub) (fun x y H Q => ∃ k i, x = .bl k ∧ y = .int i ∧ Q (.int (b1 k - i)) H) := by
  rintro pins s σ H x y v u Q I rx ry ⟨k, i, rfl, rfl, q⟩
  cases rx
  obtain ⟨t, rfl⟩ := ry
  exact PySem.IntBool.sub_bool_int ⟨.int (b1 k - i), H, I.tok _, ⟨_, rfl⟩, q⟩
theorem op_sub_ib : OpR X (binaryOp .Sub) (fun x y H Q => ∃ i k, x = .int i ∧ y = .bl k ∧ Q (.int (i - b1 k)) H) := by
  rintro pins s σ H x y v u Q I rx ry ⟨i, k, rfl, rfl, q⟩
  obtain ⟨t, rfl⟩ := rx
  cases ry
  exact PySem.IntBool.sub_int_bool ⟨.int (i - b1 k), H, I.tok _, ⟨_, rfl⟩, q⟩
theorem op_eq_bi : OpR X (compareOp .Eq) (fun x y H Q => ∃ k i, x = .bl k ∧ y = .int i ∧ Q (.bl (b1 k == i)) H) := by
  rintro pins s σ H x y v u Q I rx ry ⟨k, i, rfl, rfl, q⟩
  cases rx
  obtain ⟨t, rfl⟩ := ry
  exact PySem.EqBoolInt.eq_bool_int ⟨.bl (b1 k == i), H, I, rfl, q⟩
theorem call_str_bl : CallR X (.type "str") (fun xs H Q => ∃ k : Bool, xs = [.bl k] ∧ Q (.str (if k then "True" else "False")) H) := by
  rintro pins s σ H xs us Q I r ⟨k, rfl, q⟩
  obtain ⟨u, rfl, t⟩ := vals1 r
  cases t
  exact PySem.P.str_of_bool ⟨.str (if k then "True" else "False"), H, I.tok _, ⟨_, rfl⟩, q⟩
end
end AskG
/-! Displays of data: what is written down is new, and taken addresses are no part of it. -/
namespace AskG
open PySem PySem.Spec PyProof.Rows L2
abbrev Taken (H : Hp) (D : Addr) : Prop := ∃ o, H D = some o
theorem Taken.keep {H H' : Hp} {D : Addr} (h : Taken H D) (s : Same H H') : Taken H' D := by
  obtain ⟨o, e⟩ := h
  exact ⟨o, s _ _ e⟩
/-- an expression whose value is the data d, made anew -/
def tNew (d : PyData) : TE := fun _ H Q => ∀ H' v, Same H H' → (∀ D, Taken H D → DH D H' v d) → Q v H'
def tNews (ds : List PyData) : TA := fun _ H Q => ∀ H' vs, Same H H' → (∀ D, Taken H D → DHs D H' vs ds) → vs.length = ds.length → Q vs H'
section
variable {X : Cx} {e : Expr} {es : List Expr} {t t' : TE} {d : PyData} {ds : List PyData}
theorem PE.less (h : PE X e t) (m : ∀ σ H Q, t' σ H Q → t σ H Q) : PE X e t' := ⟨fun pins s σ H Q I q => h.run pins s σ H Q I (m σ H Q q)⟩
theorem new_non (h : PE X e (tC .non)) : PE X e (tNew .none) := PE.less h fun _ H _ q => q H _ (Same.refl _) fun _ _ => .non
theorem new_bl {b : Bool} (h : PE X e (tC (.bl b))) : PE X e (tNew (.bool b)) := PE.less h fun _ H _ q => q H _ (Same.refl _) fun _ _ => .bl b
theorem new_int {i : Int} (h : PE X e (tC (.int i))) : PE X e (tNew (.int i)) := PE.less h fun _ H _ q => q H _ (Same.refl _) fun _ _ => .int i
theorem new_str {x : Str} (h : PE X e (tC (.str x))) : PE X e (tNew (.str x)) := PE.less h fun _ H _ q => q H _ (Same.refl _) fun _ _ => .str x
theorem news_nil : PA X [] (tNews []) := ⟨fun pos pins s σ H Q I q => (pa_nil (X := X)).run pos pins s σ H Q I (q H [] (Same.refl _) (fun _ _ => .nil) rfl)⟩
theorem news_cons (h : PE X e (tNew d)) (g : PA X es (tNews ds)) (hs : starEach (e :: es) X.env = (false, eval e X.env) :: starEach es X.env := by rfl) : PA X (e :: es) (tNews (d :: ds)) := by
  refine ⟨fun pos pins s σ H Q I q => (pa_cons h g hs).run pos pins s σ H Q I fun H1 v s1 h1 => ?_⟩
  intro H2 vs s2 h2 l2
  refine q H2 (v :: vs) (s1.trans s2) (fun D hD => ?_) (by rw [List.length_cons, List.length_cons, l2])
  exact .cons ((h1 D hD).keep (KeepD.of s2)) (h2 D (hD.keep s1))
theorem new_tup {x1} {pos : Pos} (h : PA X es (tNews ds)) (hz : ds.length ≤ 1000) : PE X (.Tuple es x1 pos) (tNew (.tuple ds)) := by
  refine PE.less (pe_tup h) fun σ H Q q => ?_
  intro H1 vs s1 h1 l1
  refine ⟨by have := sizeBig; omega, fun p hp => ?_⟩
  have s2 := same_new (o := .tup vs) hp
  exact q _ _ (s1.trans s2) fun D hD => .tup upd_same ((h1 D hD).keep (KeepD.of s2))
theorem new_lst {pos : Pos} (h : PA X es (tNews ds)) (hz : ds.length ≤ 1000) : PE X (.List es pos) (tNew (.list ds)) := by
  refine PE.less (pe_lst h) fun σ H Q q => ?_
  intro H1 vs s1 h1 l1
  refine ⟨by have := sizeBig; omega, fun p hp => ?_⟩
  have s2 := same_new (o := .lst vs) hp
  refine q _ _ (s1.trans s2) fun D hD => .lst (fun z => ?_) upd_same ((h1 D hD).keep (KeepD.of s2))
  obtain ⟨o, ho⟩ := hD.keep s1
  rw [z, ho] at hp
  cases hp
end
end AskG
/-! Values made from one value that a name holds; what the bent values of data are. -/
namespace AskG
open PySem PySem.Spec PyProof.Rows L2
/-- the name in slot i holds the data d -/
def Src (i : Nat) (D : Addr) (d : PyData) (σ : L2.St) (H : Hp) : Prop := (∃ v, σ[i]? = some (some v) ∧ DH D H v d) ∧ Taken H D
theorem Src.keep {i : Nat} {D : Addr} {d : PyData} {σ : L2.St} {H H' : Hp} (h : Src i D d σ H) (s : Same H H') : Src i D d σ H' := by
  obtain ⟨⟨v, hv, hd⟩, t⟩ := h
  exact ⟨⟨v, hv, hd.keep (KeepD.of s)⟩, t.keep s⟩
def tFrom (i : Nat) (D : Addr) (d0 d : PyData) : TE := fun σ H Q => Src i D d0 σ H ∧ ∀ H' v, Same H H' → DH D H' v d → Q v H'
def tFroms (i : Nat) (D : Addr) (d0 : PyData) (ds : List PyData) : TA := fun σ H Q => Src i D d0 σ H ∧ ∀ H' vs, Same H H' → DHs D H' vs ds → Q vs H'
section
variable {X : Cx} {e : Expr} {es : List Expr} {i : Nat} {D : Addr} {d0 d : PyData} {ds : List PyData}
theorem from_nil : PA X [] (tFroms i D d0 []) := ⟨fun pos pins s σ H Q I q => (pa_nil (X := X)).run pos pins s σ H Q I (q.2 H [] (Same.refl _) .nil)⟩
theorem from_cons (h : PE X e (tFrom i D d0 d)) (g : PA X es (tFroms i D d0 ds)) (hs : starEach (e :: es) X.env = (false, eval e X.env) :: starEach es X.env := by rfl) : PA X (e :: es) (tFroms i D d0 (d :: ds)) := by
  refine ⟨fun pos pins s σ H Q I q => (pa_cons h g hs).run pos pins s σ H Q I ⟨q.1, fun H1 v s1 h1 => ⟨q.1.keep s1, fun H2 vs s2 h2 => ?_⟩⟩⟩
  exact q.2 H2 (v :: vs) (s1.trans s2) (.cons (h1.keep (KeepD.of s2)) h2)
theorem from_new (h : PE X e (tNew d)) : PE X e (tFrom i D d0 d) := PE.less h fun σ H Q q H' v s n => q.2 H' v s (n D q.1.2)
theorem from_var (h : PE X e (tVar i)) : PE X e (tFrom i D d d) := PE.less h fun σ H Q q => by
  obtain ⟨⟨⟨v, hv, hd⟩, _⟩, q⟩ := q
  exact ⟨v, hv, q H v (Same.refl _) hd⟩
theorem from_tup {x1} {pos : Pos} (h : PA X es (tFroms i D d0 ds)) (hz : ds.length ≤ 1000) : PE X (.Tuple es x1 pos) (tFrom i D d0 (.tuple ds)) := by
  refine PE.less (pe_tup h) fun σ H Q q => ?_
  refine ⟨q.1, fun H1 vs s1 h1 => ⟨by have := sizeBig; have := h1.len; omega, fun p hp => ?_⟩⟩
  have s2 := same_new (o := .tup vs) hp
  exact q.2 _ _ (s1.trans s2) (.tup upd_same (h1.keep (KeepD.of s2)))
theorem from_lst {pos : Pos} (h : PA X es (tFroms i D d0 ds)) (hz : ds.length ≤ 1000) : PE X (.List es pos) (tFrom i D d0 (.list ds)) := by
  refine PE.less (pe_lst h) fun σ H Q q => ?_
  refine ⟨q.1, fun H1 vs s1 h1 => ⟨by have := sizeBig; have := h1.len; omega, fun p hp => ?_⟩⟩
  have s2 := same_new (o := .lst vs) hp
  refine q.2 _ _ (s1.trans s2) (.lst (fun z => ?_) upd_same (h1.keep (KeepD.of s2)))
  obtain ⟨o, ho⟩ := q.1.2.keep s1
  rw [z, ho] at hp
  cases hp
end
/-! ### tuples -/
def cutD (ds : List PyData) (lo hi : Option Int) : List PyData := (ds.drop (HT.sIx ds.length 0 lo)).take (HT.sIx ds.length ds.length hi - HT.sIx ds.length 0 lo)
theorem DHs.drop {D : Addr} {H : Hp} : ∀ {vs : List V} {ds : List PyData} (i : Nat), DHs D H vs ds → DHs D H (vs.drop i) (ds.drop i)
  | _, _, 0, h => h
  | _, _, _ + 1, .nil => .nil
  | _, _, i + 1, .cons _ t => DHs.drop i t
theorem DHs.take {D : Addr} {H : Hp} : ∀ {vs : List V} {ds : List PyData} (i : Nat), DHs D H vs ds → DHs D H (vs.take i) (ds.take i)
  | _, _, 0, _ => .nil
  | _, _, _ + 1, .nil => .nil
  | _, _, i + 1, .cons h t => .cons h (DHs.take i t)
theorem DHs.rev {D : Addr} {H : Hp} : ∀ {vs : List V} {ds : List PyData}, DHs D H vs ds → DHs D H vs.reverse ds.reverse
  | _, _, .nil => .nil
  | _, _, .cons h t => by
    rw [List.reverse_cons, List.reverse_cons]
    exact DHs.app (DHs.rev t) (.cons h .nil)
theorem DHs.cut {D : Addr} {H : Hp} {vs : List V} {ds : List PyData} (h : DHs D H vs ds) (lo hi : Option Int) : DHs D H (cutV vs lo hi) (cutD ds lo hi) := by
  unfold cutV cutD
  rw [h.len]
  exact (h.drop _).take _
section
variable {K : PySem.W.Frag} {H : Hp} {D a b : Addr} {xs ys : List V} {ds es : List PyData} {Q : VK}
theorem sl_from {lo hi : Option Int} (ha : H a = some (.tup xs)) (hd : DHs D H xs ds) (q : ∀ H' v, Same H H' → DH D H' v (.tuple (cutD ds lo hi)) → Q v H') : rSlA K (.ref a) lo hi H Q := by
  have c := hd.cut lo hi
  refine ⟨a, xs, rfl, sqT ha, fun w => q H _ (Same.refl _) ?_, fun _ p hp => ?_⟩
  · have e : cutD ds lo hi = ds := by
      unfold cutD
      rw [← hd.len, w.1, w.2, List.drop_zero]
      exact List.take_of_length_le (by rw [hd.len]; omega)
    rw [e]
    exact .tup ha hd
  · have s2 := same_new (o := .tup (cutV xs lo hi)) hp
    exact q _ _ s2 (.tup upd_same (c.keep (KeepD.of s2)))
theorem sl_fromN {σ : L2.St} {lo : Option Int} (ha : H a = some (.tup xs)) (hd : DHs D H xs ds) (q : ∀ H' v, Same H H' → DH D H' v (.tuple (cutD ds lo none)) → Q v H') : tNoPart σ H fun u H3 => rSlA K (.ref a) lo u H3 Q := sl_from ha hd q
theorem cat_from (ha : H a = some (.tup xs)) (hd : DHs D H xs ds) (hb : H b = some (.tup ys)) (he : DHs D H ys es) (l1 : ds.length ≤ 1000) (l2 : es.length ≤ 1000)
    (q : ∀ H' v, Same H H' → DH D H' v (.tuple (ds ++ es)) → Q v H') : rCatA K (.ref a) (.ref b) H Q := by
  have big := sizeBig
  have c := hd.app he
  refine ⟨a, b, xs, ys, rfl, rfl, sqT ha, sqT hb, by rw [hd.len, he.len]; omega, fun e => ?_, fun _ e => ?_, fun _ _ p hp => ?_⟩
  · subst e
    cases hd
    exact q H _ (Same.refl _) (.tup hb he)
  · subst e
    cases he
    rw [List.append_nil] at q
    exact q H _ (Same.refl _) (.tup ha hd)
  · have s2 := same_new (o := .tup (xs ++ ys)) hp
    exact q _ _ s2 (.tup upd_same (c.keep (KeepD.of s2)))
end
theorem All.cut {b t k n : Nat} {ds : List PyData} (h : All b t k n ds) (lo hi : Option Int) : All b t k n (cutD ds lo hi) := All.take _ (All.drop _ h)
theorem cutD_len (ds : List PyData) (lo hi : Option Int) : (cutD ds lo hi).length ≤ ds.length := by
  unfold cutD
  rw [List.length_take, List.length_drop]
  omega
theorem cutD_pre (ds : List PyData) (n : Nat) (h : n ≤ ds.length) : cutD ds none (some (n : Int)) = ds.take n := by
  unfold cutD
  rw [HT.sIx_nat, HT.sIx_none, List.drop_zero, Nat.sub_zero, Nat.min_eq_left h]
theorem cutD_post (ds : List PyData) (n : Nat) (h : n ≤ ds.length) : cutD ds (some (n : Int)) none = ds.drop n := by
  unfold cutD
  rw [HT.sIx_nat, HT.sIx_none, Nat.min_eq_left h]
  exact List.take_of_length_le (by rw [List.length_drop]; exact Nat.le_refl _)
/-! ### strings -/
theorem asc_cut {s : Str} (h : ascS s = true) (lo hi : Option Int) : ascS (cutS s lo hi) = true := asc_sub h fun c hc => List.mem_of_mem_drop (List.mem_of_mem_take hc)
theorem cutS_len (s : Str) (lo hi : Option Int) : (cutS s lo hi).length ≤ s.length := by
  show ((s.cps.toList.drop _).take _).toArray.size ≤ s.cps.size
  rw [List.size_toArray, List.length_take, List.length_drop, Array.length_toList]
  omega
theorem up_one : ∀ c : Nat, c < 128 → ∀ x ∈ Unicode.upperOf c, x < 128 := by
  have h : ∀ c : Fin 128, ((Unicode.upperOf c.val).all fun x => decide (x < 128)) = true := by decide +kernel
  exact fun c hc x hx => of_decide_eq_true (List.all_eq_true.mp (h ⟨c, hc⟩) x hx)
theorem asc_upper {s : Str} (h : ascS s = true) : ascS (Txt.upper s) = true := by
  refine List.all_eq_true.mpr fun x hx => decide_eq_true ?_
  have hx : x ∈ (s.cps.mapIdx fun i c => (Unicode.upperOf c).toArray).flatten := Array.mem_toList_iff.mp hx
  obtain ⟨a, ha, hxa⟩ := Array.mem_flatten.mp hx
  obtain ⟨i, hi, e⟩ := Array.mem_mapIdx.mp ha
  subst e
  refine up_one _ ?_ x (by simpa using hxa)
  exact of_decide_eq_true (List.all_eq_true.mp h _ (Array.mem_toList_iff.mpr (Array.getElem_mem hi)))
theorem asc_int (i : Int) : ascS (toString i) = true := by
  refine List.all_eq_true.mpr fun c hc => decide_eq_true ?_
  refine Decidable.byContradiction fun z => ?_
  exact int_text_free' c ⟨by omega, by omega⟩ i hc
/-! ### how the measures of a bent value go -/
theorem Of.str {b t k n : Nat} {s : Str} (h : ascS s = true) (hb : s.length ≤ b) (hn : 10 * s.length + 2 ≤ n) : Of b t k n (.str s) := ⟨h, hb, Nat.zero_le _, Nat.zero_le _, hn⟩
theorem Of.int {b t k n : Nat} {i : Int} (ht : i.natAbs ≤ t) (hn : 81 ≤ n) : Of b t k n (.int i) := ⟨rfl, Nat.zero_le _, ht, Nat.zero_le _, hn⟩
theorem Of.bl {b t k n : Nat} {v : Bool} (hn : 5 ≤ n) : Of b t k n (.bool v) := ⟨rfl, Nat.zero_le _, Nat.zero_le _, Nat.zero_le _, hn⟩
theorem Of.non {b t k n : Nat} (hn : 5 ≤ n) : Of b t k n .none := ⟨rfl, Nat.zero_le _, Nat.zero_le _, Nat.zero_le _, hn⟩
theorem Of.exact {b t k n : Nat} {d : PyData} (h : Of b t k n d) : Of b t k (wtD d) d := ⟨h.ok, h.big, h.top, h.dep, Nat.le_refl _⟩
theorem All.exact {b t k n : Nat} {ds : List PyData} (h : All b t k n ds) : All b t k (wtDs ds) ds := ⟨h.ok, h.big, h.top, h.dep, Nat.le_refl _⟩
theorem str_len {b t k n : Nat} {s : Str} (h : Of b t k n (.str s)) : ascS s = true ∧ s.length ≤ b ∧ 10 * s.length + 2 ≤ n := ⟨h.ok, h.big, h.wt⟩
/-- the weights of what stands before, at and after a place -/
theorem wt_split : ∀ {ds : List PyData} {i : Nat} {d : PyData}, ds[i]? = some d → wtDs ds = wtDs (ds.take i) + wtD d + wtDs (ds.drop (i + 1))
  | [], i, _, e => by cases i <;> cases e
  | x :: ds, 0, _, e => by
    cases e
    show wtD x + wtDs ds = 0 + wtD x + wtDs ds
    omega
  | x :: ds, i + 1, _, e => by
    have := wt_split (ds := ds) (i := i) e
    show wtD x + wtDs ds = wtD x + wtDs (ds.take i) + wtD _ + wtDs (ds.drop (i + 1))
    omega
/-! ### what a name's data says of the value -/
section
variable {i : Nat} {D : Addr} {σ : L2.St} {H : Hp}
theorem src_str {s : Str} (h : Src i D (.str s) σ H) : σ[i]? = some (some (.str s)) := by
  obtain ⟨⟨v, hv, hd⟩, _⟩ := h
  obtain rfl := hd.str_inv
  exact hv
theorem src_int {j : Int} (h : Src i D (.int j) σ H) : σ[i]? = some (some (.int j)) := by
  obtain ⟨⟨v, hv, hd⟩, _⟩ := h
  obtain rfl := hd.int_inv
  exact hv
theorem src_bl {b : Bool} (h : Src i D (.bool b) σ H) : σ[i]? = some (some (.bl b)) := by
  obtain ⟨⟨v, hv, hd⟩, _⟩ := h
  cases hd
  exact hv
theorem src_tup {ds : List PyData} (h : Src i D (.tuple ds) σ H) : ∃ a xs, σ[i]? = some (some (.ref a)) ∧ H a = some (.tup xs) ∧ DHs D H xs ds := by
  obtain ⟨⟨v, hv, hd⟩, _⟩ := h
  obtain ⟨a, xs, rfl, ha, t⟩ := hd.tup_inv
  exact ⟨a, xs, hv, ha, t⟩
theorem DH.lst_inv {v : V} {ds : List PyData} (h : DH D H v (.list ds)) : ∃ a xs, v = .ref a ∧ a ≠ D ∧ H a = some (.lst xs) ∧ DHs D H xs ds := by
  cases h with
  | lst n e t => exact ⟨_, _, rfl, n, e, t⟩
theorem Taken.ne {p : Addr} (h : Taken H D) (hp : H p = none) : p ≠ D := fun z => by
  obtain ⟨o, ho⟩ := h
  rw [z, ho] at hp
  cases hp
theorem pickD {vs : List V} {es : List PyData} (h : DHs D H vs es) {w : Int} (w0 : 0 ≤ w) (w1 : w < (es.length : Int)) : ∃ v d, atI vs w = some v ∧ d ∈ es ∧ DH D H v d := by
  obtain ⟨n, rfl⟩ : ∃ n : Nat, w = (n : Int) := ⟨w.toNat, by omega⟩
  have hl := h.len
  have hx : vs[n]? = some vs[n] := List.getElem?_eq_getElem (by omega)
  obtain ⟨d, hd, hh⟩ := h.at hx
  exact ⟨_, d, atI_nat hx, List.mem_of_getElem? hd, hh⟩
end
end AskG
/-! Displays over several names; a list that is extended by displays. -/
namespace AskG
open PySem PySem.Spec PyProof.Rows L2
/-- the names in these slots hold these data -/
def SrcM (l : List (Nat × PyData)) (D : Addr) (σ : L2.St) (H : Hp) : Prop := (∀ x ∈ l, ∃ v, σ[x.1]? = some (some v) ∧ DH D H v x.2) ∧ Taken H D
theorem SrcM.keep {l : List (Nat × PyData)} {D : Addr} {σ : L2.St} {H H' : Hp} (h : SrcM l D σ H) (s : Same H H') : SrcM l D σ H' :=
  ⟨fun x hx => by
    obtain ⟨v, hv, hd⟩ := h.1 x hx
    exact ⟨v, hv, hd.keep (KeepD.of s)⟩, h.2.keep s⟩
theorem SrcM.keepD {l : List (Nat × PyData)} {D : Addr} {σ : L2.St} {H H' : Hp} (h : SrcM l D σ H) (s : KeepD D H H') (t : Taken H' D) : SrcM l D σ H' :=
  ⟨fun x hx => by
    obtain ⟨v, hv, hd⟩ := h.1 x hx
    exact ⟨v, hv, hd.keep s⟩, t⟩
def tFm {α : Type} (l : α → List (Nat × PyData)) (d : α → PyData) : TE := fun σ H Q => ∃ a D, SrcM (l a) D σ H ∧ ∀ H' v, Same H H' → DH D H' v (d a) → Q v H'
def tFms {α : Type} (l : α → List (Nat × PyData)) (ds : α → List PyData) : TA := fun σ H Q => ∃ a D, SrcM (l a) D σ H ∧ ∀ H' vs, Same H H' → DHs D H' vs (ds a) → Q vs H'
/-- a name that holds a whole number -/
theorem SrcM.int {l : List (Nat × PyData)} {D : Addr} {σ : L2.St} {H : Hp} {i : Nat} {j : Int} (h : SrcM l D σ H) (m : (i, .int j) ∈ l) : σ[i]? = some (some (.int j)) := by
  obtain ⟨v, hv, hd⟩ := h.1 _ m
  obtain rfl := DH.int_inv hd
  exact hv
theorem SrcM.tup {l : List (Nat × PyData)} {D : Addr} {σ : L2.St} {H : Hp} {i : Nat} {ds : List PyData} (h : SrcM l D σ H) (m : (i, .tuple ds) ∈ l) : ∃ a xs, σ[i]? = some (some (.ref a)) ∧ H a = some (.tup xs) ∧ DHs D H xs ds := by
  obtain ⟨v, hv, hd⟩ := h.1 _ m
  obtain ⟨a, xs, rfl, ha, t⟩ := DH.tup_inv hd
  exact ⟨a, xs, hv, ha, t⟩
section
variable {X : Cx} {e : Expr} {es : List Expr} {α : Type} {l : α → List (Nat × PyData)} {d : α → PyData} {ds : α → List PyData}
theorem fm_nil : PA X [] (tFms l fun _ => []) := ⟨fun pos pins s σ H Q I ⟨_, _, q⟩ => (pa_nil (X := X)).run pos pins s σ H Q I (q.2 H [] (Same.refl _) .nil)⟩
theorem fm_cons (h : PE X e (tFm l d)) (g : PA X es (tFms l ds)) (hs : starEach (e :: es) X.env = (false, eval e X.env) :: starEach es X.env := by rfl) : PA X (e :: es) (tFms l fun a => d a :: ds a) := by
  refine ⟨fun pos pins s σ H Q I ⟨a, D, q⟩ => (pa_cons h g hs).run pos pins s σ H Q I ⟨a, D, q.1, fun H1 v s1 h1 => ⟨a, D, q.1.keep s1, fun H2 vs s2 h2 => ?_⟩⟩⟩
  exact q.2 H2 (v :: vs) (s1.trans s2) (.cons (h1.keep (KeepD.of s2)) h2)
theorem fm_new {d : PyData} (h : PE X e (tNew d)) : PE X e (tFm l fun _ => d) := PE.less h fun σ H Q ⟨a, D, q⟩ H' v s n => q.2 H' v s (n D q.1.2)
theorem fm_var {i : Nat} (h : PE X e (tVar i)) (m : ∀ a, (i, d a) ∈ l a) : PE X e (tFm l d) := PE.less h fun σ H Q ⟨a, D, q⟩ => by
  obtain ⟨v, hv, hd⟩ := q.1.1 _ (m a)
  exact ⟨v, hv, q.2 H v (Same.refl _) hd⟩
theorem fm_tup {x1} {pos : Pos} (h : PA X es (tFms l ds)) (hz : ∀ a, (ds a).length ≤ 1000) : PE X (.Tuple es x1 pos) (tFm l fun a => .tuple (ds a)) := by
  refine PE.less (pe_tup h) fun σ H Q ⟨a, D, q⟩ => ?_
  refine ⟨a, D, q.1, fun H1 vs s1 h1 => ⟨by have := sizeBig; have := h1.len; have := hz a; omega, fun p hp => ?_⟩⟩
  have s2 := same_new (o := .tup vs) hp
  exact q.2 _ _ (s1.trans s2) (.tup upd_same (h1.keep (KeepD.of s2)))
theorem fm_lst {pos : Pos} (h : PA X es (tFms l ds)) (hz : ∀ a, (ds a).length ≤ 1000) : PE X (.List es pos) (tFm l fun a => .list (ds a)) := by
  refine PE.less (pe_lst h) fun σ H Q ⟨a, D, q⟩ => ?_
  refine ⟨a, D, q.1, fun H1 vs s1 h1 => ⟨by have := sizeBig; have := h1.len; have := hz a; omega, fun p hp => ?_⟩⟩
  have s2 := same_new (o := .lst vs) hp
  refine q.2 _ _ (s1.trans s2) (.lst ((q.1.2.keep s1).ne hp) upd_same (h1.keep (KeepD.of s2)))
theorem new_neg {i : Int} (h : PE X e (tUn (rU fun i => .int (-i)) (tC (.int i)))) : PE X e (tNew (.int (-i))) := PE.less h fun _ H _ q => ⟨i, rfl, q H _ (Same.refl _) fun _ _ => .int _⟩
/-- t * k -/
theorem fm_rep {te : TE} {k : Int} (h : PE X e (tOp (rRepT X.K) te (tC (.int k)))) (ht : ∀ σ H Q, tFm l (fun a => .tuple (ds a)) σ H Q → te σ H Q) (n0 : ∀ a, ds a ≠ []) (k2 : 2 ≤ k) (k3 : k ≤ 1000) (hl : ∀ a, (ds a).length ≤ 1000) : PE X e (tFm l fun a => .tuple (List.replicate k.toNat (ds a)).flatten) := by
  refine PE.less h fun σ H Q ⟨a, D, q⟩ => ht σ H _ ⟨a, D, q.1, fun H1 v s1 h1 => ?_⟩
  obtain ⟨b, xs, rfl, hb, t⟩ := h1.tup_inv
  have e := t.len
  have := hl a
  refine ⟨b, k, xs, rfl, rfl, sqT hb, fun z => n0 a ?_, k2, k3, by omega, fun p hp => ?_⟩
  · rw [z] at e
    exact List.eq_nil_of_length_eq_zero e.symm
  · have s2 := same_new (o := .tup (List.replicate k.toNat xs).flatten) hp
    refine q.2 _ _ (s1.trans s2) (.tup upd_same ?_)
    have t2 := t.keep (KeepD.of s2)
    clear s2
    generalize upd H1 p (.tup (List.replicate k.toNat xs).flatten) = H2 at t2 ⊢
    generalize k.toNat = n
    induction n with
    | zero => exact .nil
    | succ n ih =>
      rw [List.replicate_succ, List.replicate_succ, List.flatten_cons, List.flatten_cons]
      exact t2.app ih
end
/-- a list that is being filled, and the names that hold data -/
structure FoundAt (H0 : Hp) (l : List (Nat × PyData)) (σ : L2.St) (Lf : Addr) (ds : List PyData) (H : Hp) : Prop where
  new : H0 Lf = none
  keep : Same H0 H
  list : ∃ vs, H Lf = some (.lst vs) ∧ DHs Lf H vs ds
  src : SrcM l Lf σ H
theorem keepD_put {H : Hp} {Lf : Addr} {vs ws : List V} (h : H Lf = some (.lst vs)) : KeepD Lf H (upd H Lf (.lst ws)) :=
  ⟨fun b xs e => by rw [upd_ne (ne_of e h fun z => nomatch z)]; exact e, fun b xs n e => by rw [upd_ne n]; exact e⟩
/-- found.extend([..]) -/
theorem ext_read {K : PySem.W.Frag} {H0 H : Hp} {α : Type} {l : α → List (Nat × PyData)} {es : α → List PyData} {σ : L2.St} {s : Nat} {Lf : Addr} {ds : List PyData} {Q : VK} (a : α) (h : FoundAt H0 (l a) σ Lf ds H) (hs : σ[s]? = some (some (.ref Lf))) (len : ds.length + (es a).length ≤ 1000)
    (q : ∀ v H', FoundAt H0 (l a) σ Lf (ds ++ es a) H' → KeepD Lf H H' → Q v H') : tBM K "list" rExtend (tVar s) (tCons (tFm l fun a => .list (es a)) tNil) σ H Q := by
  obtain ⟨vs, hv, hd⟩ := h.list
  refine ⟨.ref Lf, hs, .inl ⟨rfl, _, sqL hv⟩, a, Lf, h.src, fun H1 v s1 h1 => ?_⟩
  obtain ⟨p, ys, rfl, np, hp, hys⟩ := h1.lst_inv
  have big := sizeBig
  have l1 := hd.len
  have l2 := hys.len
  refine ⟨Lf, p, vs, ys, rfl, rfl, s1 _ _ hv, hp, by omega, ?_⟩
  have kd := keepD_put (ws := vs ++ ys) (s1 _ _ hv)
  refine q _ _ ⟨h.new, fun b o e => ?_, ⟨vs ++ ys, upd_same, ((hd.keep (KeepD.of s1)).app hys).keep kd⟩, (h.src.keep s1).keepD kd ⟨_, upd_same⟩⟩ ((KeepD.of s1).trans kd)
  rw [upd_ne (ne_of_none e h.new)]
  exact s1 _ _ (h.keep _ _ e)
/-- found + [..] -/
theorem cat_read {H0 H : Hp} {α : Type} {l : α → List (Nat × PyData)} {es : α → List PyData} {σ : L2.St} {s : Nat} {Lf : Addr} {ds : List PyData} {Q : VK} (a : α) (h : FoundAt H0 (l a) σ Lf ds H) (hs : σ[s]? = some (some (.ref Lf))) (len : ds.length + (es a).length ≤ 1000)
    (q : ∀ p H' ys, Same H0 H' → Same H H' → H p = none → H' p = some (.lst ys) → DHs Lf H' ys (ds ++ es a) → Q (.ref p) H') : tOp rCat (tVar s) (tFm l fun a => .list (es a)) σ H Q := by
  obtain ⟨vs, hv, hd⟩ := h.list
  refine ⟨.ref Lf, hs, a, Lf, h.src, fun H1 v s1 h1 => ?_⟩
  obtain ⟨p, ys, rfl, np, hp, hys⟩ := h1.lst_inv
  have big := sizeBig
  have l1 := hd.len
  have l2 := hys.len
  refine ⟨Lf, p, vs, ys, rfl, rfl, s1 _ _ hv, hp, by omega, fun c hc => ?_⟩
  have s2 := same_new (o := .lst (vs ++ ys)) hc
  have s12 := s1.trans s2
  have hc0 : H c = none := by
    cases e : H c with
    | none => rfl
    | some o =>
      have := s1 _ _ e
      rw [hc] at this
      cases this
  exact q c _ _ (h.keep.trans s12) s12 hc0 upd_same (((hd.keep (KeepD.of s1)).app hys).keep (KeepD.of s2))
theorem iDrop {te : TE} {D : Ends} {σ : L2.St} {H : Hp} (h : te σ H fun _ H1 => D.nx σ H1) : tDrop te D σ H := h
end AskG
/-! The end of a law's row, by a promise of its def that holds where nothing is being shown. -/
namespace AskG
open PySem PySem.Spec PyProof.Rows L2
/-- from an abstract heap that tracks at most the script -/
theorem lawG_core {P : Program} {w : World} {K : PySem.W.Frag} {mg mb : Str → Option Value} {k : Nat} {fa a : Addr} {fd : FuncData} {x : Str} {pr : Pr}
    {s₁ : Shared} {vs : List Value} {H : Hp}
    (inK : K.In s₁.heap) (ns1 : s₁.heap.Ns mainGlobals mg) (ns2 : s₁.heap.Ns builtinsNs mb)
    (bb : ∀ x : Str, x ≠ "__name__" → mb x = bootBuiltins x) (lim : s₁.heap.NoLimit) (gn : s₁.gens = #[])
    (ha : s₁.heap.get? a = some { cls := .type "list", data := .seq vs.toArray }) (hr : RG k callerA)
    (F : ∀ base : Heap, K.In base → base.Ns mainGlobals mg → FnG P w K mg base k fa fd [x] pr)
    (bind : ∀ (s : Shared) (u : Value), BindsTo s fd ⟨[u], []⟩ [(x, u)])
    (only : Only H) (hok : HOk P w H s₁.heap) (at_a : ∀ b, H b ≠ none → b = a) (noK : H a ≠ none → K.lookup a = none)
    (hp : pr [.ref a] H fun v _ => v = .bl true) :
    codeAny (model P w) callerA (.call (.ref fa) ⟨[.ref a], []⟩)
      (fun r s' => r = .ok (.ret (.bool true)) ∧ OldK s₁.heap s'.heap ∧ s'.os = s₁.os ∧ AllBare s'.gens) s₁ := by
  have hid : ∀ {b : Addr} {o : Obj}, s₁.heap.get? b = some o → H b = none → (hidT s₁.heap H).get? b = some o :=
    fun e n => hidT_get e n
  have notA : ∀ {b : Addr} {o : Obj} {es : Array DictEntry} {ep : Nat}, s₁.heap.get? b = some o → o.data = .dict es ep → H b = none := by
    intro b o es ep e d
    cases q : H b with
    | none => rfl
    | some u =>
      have eb : b = a := at_a b (by rw [q]; simp)
      rw [eb, ha] at e
      cases e
      cases (show Data.seq vs.toArray _ = Data.dict es ep from d)
  have nsH : ∀ {b : Addr} {m : Str → Option Value}, s₁.heap.Ns b m → (hidT s₁.heap H).Ns b m := by
    rintro b m ⟨o, es, ep, e, d, r⟩
    exact ⟨o, es, ep, hid e (notA e d), d, r⟩
  have inH : K.In (hidT s₁.heap H) := by
    intro b o e
    refine hid (inK b o e) ?_
    cases q : H b with
    | none => rfl
    | some u =>
      have eb : b = a := at_a b (by rw [q]; simp)
      rw [eb, noK (by rw [← eb, q]; simp)] at e
      cases e
  have M : Mod K mg (hidT s₁.heap H) :=
    ⟨inH, nsH ns1, ⟨mb, nsH ns2, bb⟩, lim.elim fun mc h => ⟨mc, nsH h.1, h.2⟩⟩
  have e0 : Env0 P w K mg (hidT s₁.heap H) callerA [] s₁ H :=
    ⟨rfl, M, fun b o e => of_hidT e, Nat.le_of_eq (hidT_size _ _), trivial,
      fun b hb => absurd (show b ∈ ([] : List Addr) from hb) (by simp), hok, .of_eq gn⟩
  refine codeAny_mono ((F _ inH (nsH ns1)).goes callerA [] s₁ H ⟨[.ref a], []⟩ [.ref a] [.ref a] _ hr e0
    (bind s₁ (.ref a)) (.cons rfl .nil) hp) fun r s' h => ?_
  match r, h with
  | .error e, h => exact h.elim
  | .ok .next, h => exact h.elim
  | .ok .brk, h => exact h.elim
  | .ok .cont, h => exact h.elim
  | .ok (.ret u), h =>
    obtain ⟨v, H', os, bare, un, hok', r', q⟩ := h
    have q : v = .bl true := q
    subst q
    obtain rfl : u = Value.bool true := r'
    refine ⟨rfl, OldK.of_keep fun b o e => ?_, os, bare⟩
    cases hb : H b with
    | none =>
      exact un.keep b o e hb (fun z => absurd (show b ∈ ([] : List Addr) from z) (by simp)) (by simp)
    | some u =>
      rcases only b with z | ⟨ob, xs, z⟩
      · rw [hb] at z
        cases z
      · obtain ⟨e1, _⟩ := hok b _ z
        obtain ⟨e2, _⟩ := hok' b _ (un.frzs b ob _ z)
        rw [e] at e1
        cases e1
        exact e2
theorem lawG {P : Program} {w : World} {K : PySem.W.Frag} {mg mb : Str → Option Value} {k : Nat} {fa a : Addr} {fd : FuncData} {x : Str} {pr : Pr}
    {s₁ : Shared} {vs : List Value} {ns : List Int}
    (inK : K.In s₁.heap) (ns1 : s₁.heap.Ns mainGlobals mg) (ns2 : s₁.heap.Ns builtinsNs mb)
    (bb : ∀ x : Str, x ≠ "__name__" → mb x = bootBuiltins x) (lim : s₁.heap.NoLimit) (gn : s₁.gens = #[])
    (ha : s₁.heap.get? a = some { cls := .type "list", data := .seq vs.toArray }) (hi : IntsAre vs ns) (hl : ns.length ≤ sizeLine) (hr : RG k callerA)
    (F : ∀ base : Heap, K.In base → base.Ns mainGlobals mg → FnG P w K mg base k fa fd [x] pr)
    (bind : ∀ (s : Shared) (u : Value), BindsTo s fd ⟨[u], []⟩ [(x, u)])
    (hp : ∀ H : Hp, Only H → SqL K H a (ns.map V.int) → pr [.ref a] H fun v _ => v = .bl true) :
    codeAny (model P w) callerA (.call (.ref fa) ⟨[.ref a], []⟩)
      (fun r s' => r = .ok (.ret (.bool true)) ∧ OldK s₁.heap s'.heap ∧ s'.os = s₁.os ∧ AllBare s'.gens) s₁ := by
  have rv := vals_ints hi
  cases hk : K.lookup a with
  | some o =>
    have e := inK a o hk
    rw [ha] at e
    cases e
    refine lawG_core (H := fun _ => none) inK ns1 ns2 bb lim gn ha hr F bind (fun _ => .inl rfl)
      (fun b u z => nomatch (show (none : Option HO) = some u from z)) (fun b z => absurd rfl z) (fun z => absurd rfl z) ?_
    refine hp _ (fun _ => .inl rfl) (.inr ⟨_, vs.toArray, _, hk, rfl, rfl, rfl, ?_, by simpa using rv⟩)
    rw [List.size_toArray, hi.length]
    exact hl
  | none =>
    have at1 : (fun b => if b = a then some (HO.frz { cls := .type "list", data := .seq vs.toArray } (.lst (ns.map V.int))) else none : Hp) a =
        some (.frz { cls := .type "list", data := .seq vs.toArray } (.lst (ns.map V.int))) := if_pos rfl
    have else1 : ∀ b, b ≠ a → (fun b => if b = a then some (HO.frz { cls := .type "list", data := .seq vs.toArray } (.lst (ns.map V.int))) else none : Hp) b = none :=
      fun b h => if_neg h
    generalize (fun b => if b = a then some (HO.frz { cls := .type "list", data := .seq vs.toArray } (.lst (ns.map V.int))) else none : Hp) = H at at1 else1
    have only : Only H := fun b => by
      by_cases h : b = a
      · rw [h]
        exact .inr ⟨_, _, at1⟩
      · exact .inl (else1 b h)
    refine lawG_core (H := H) inK ns1 ns2 bb lim gn ha hr F bind only (fun b u z => ?_) (fun b z => ?_) (fun _ => hk) (hp H only (.inl (.inr ⟨_, at1⟩)))
    · by_cases h : b = a
      · subst h
        rw [at1] at z
        cases z
        exact ⟨ha, by rw [List.length_map]; exact hl, vs, _, rv, ha⟩
      · rw [else1 b h] at z
        cases z
    · by_cases h : b = a
      · exact h
      · exact absurd (else1 b h) z
/-- the goal behind the head -/
theorem walkG {l : PySem.W.OpenLaw} {n k : Nat} {q : Program} {loose : List Str} {XP : (Str → Option Value) → Heap → Prop} {YP : World → Heap → Prop} {d : DefRec}
    {K : Params → PySem.W.Frag} {pr : PySem.W.Frag → Pr} {x : Str}
    (hn : l.most = some n) (hn2 : n ≤ sizeLine) (hdf : d.params.defaults = []) (hr : RG k callerA)
    (hY : ∀ (w : World) (h : Heap), YP w h → (K w.params).In h)
    (F : ∀ (w : World) (mg : Str → Option Value) (fa : Addr) (h : Heap), (K w.params).In h → h.Ns mainGlobals mg → mg d.name = some (.ref fa) →
      ∃ fd : FuncData, (∀ (s : Shared) (u : Value), BindsTo s fd ⟨[u], []⟩ [(x, u)]) ∧
        ∀ base : Heap, (K w.params).In base → base.Ns mainGlobals mg → FnG l.prog w (K w.params) mg base k fa fd [x] (pr (K w.params)))
    (hp : ∀ (K : PySem.W.Frag) (H : Hp) (a : Addr) (ns : List Int), ns.length ≤ n → SqL K H a (ns.map V.int) → pr K [.ref a] H fun v _ => v = .bl true) :
    PySem.W.WalkO q loose XP YP l.row.toRowW d [] (fun f vs => PySem.call f vs) := by
  refine Att.attach_call hn hdf ?_
  intro w s₀ s₁ mg mb fa o pm cd doc a vs ns G Y ho hd hcd hmg hobj hints hlen hg
  have inK := hY w _ Y
  obtain ⟨fd, hb, hF⟩ := F w mg fa _ inK G.T.g hmg
  exact lawG inK G.T.g G.T.b G.T.builtins G.T.nolimit hg hobj hints (Nat.le_trans hlen hn2) hr hF hb fun H _ hS => hp _ H a ns hlen hS
end AskG
namespace P01
open PySem PySem.Spec PyProof.Rows L2 AskG
def topS (i : Nat) : Stmt := PySem.Challenge.pw_askrights_k01_kinds.main.body.getD i (.Pass ⟨0, 0, 0, 0⟩)
abbrev sIsInt : Stmt := topS 4
abbrev sIsNum : Stmt := topS 5
abbrev sIsName : Stmt := topS 6
abbrev sIsPair : Stmt := topS 7
abbrev sIsCell : Stmt := topS 8
abbrev sIsWt : Stmt := topS 9
theorem scIsInt : FnScope ["thing"] ["thing"] (defScope sIsInt) := ⟨rfl, rfl, rfl, by decide +kernel, rfl, by decide +kernel, by decide +kernel⟩
theorem scIsNum : FnScope ["thing"] ["thing"] (defScope sIsNum) := ⟨rfl, rfl, rfl, by decide +kernel, rfl, by decide +kernel, by decide +kernel⟩
theorem scIsName : FnScope ["thing", "letter"] ["thing"] (defScope sIsName) := ⟨rfl, rfl, rfl, by decide +kernel, rfl, by decide +kernel, by decide +kernel⟩
theorem scIsPair : FnScope ["thing"] ["thing"] (defScope sIsPair) := ⟨rfl, rfl, rfl, by decide +kernel, rfl, by decide +kernel, by decide +kernel⟩
theorem scIsCell : FnScope ["thing"] ["thing"] (defScope sIsCell) := ⟨rfl, rfl, rfl, by decide +kernel, rfl, by decide +kernel, by decide +kernel⟩
theorem scIsWt : FnScope ["thing"] ["thing"] (defScope sIsWt) := ⟨rfl, rfl, rfl, by decide +kernel, rfl, by decide +kernel, by decide +kernel⟩
section
variable {P : Program} {w : World} {K : PySem.W.Frag} {mg : Str → Option Value} {base : Heap}
theorem isi_yes {H : Hp} {x : V} {a b : String} {r : Bool} {Q : VK} (h : TyX K H x (.type a)) (k : kitB a b = some r) (q : Q (.bl r) H) : rIsi K [x, .ty b] H Q := ⟨x, .ty b, .type a, .type b, r, rfl, .ty b, h, kit_ty k, q⟩
theorem isi_call {i : Nat} {σ : L2.St} {H : Hp} {x : V} {a b : String} {r : Bool} {Q : VK} (hi : σ[i]? = some (some x)) (h : TyX K H x (.type a)) (k : kitB a b = some r) (q : Q (.bl r) H) : tCB (rIsi K) (tCons (tVar i) (tCons (tC (.ty b)) tNil)) σ H Q :=
  ⟨x, hi, isi_yes h k q⟩
theorem iAndV {ta tb : TE} {σ : L2.St} {H : Hp} {Q : VK} (h : ta σ H fun x H1 => ∃ c, x = .bl c ∧ if c = true then tb σ H1 Q else Q (.bl false) H1) : tAndV ta tb σ H Q := h
theorem iNotV {ta : TE} {σ : L2.St} {H : Hp} {Q : VK} (h : ta σ H fun x H1 => ∃ c, x = .bl c ∧ Q (.bl (!c)) H1) : tNotV ta σ H Q := h
theorem iIfS {c : TT} {t u : TS} {D : Ends} {σ : L2.St} {H : Hp} (h : c σ H fun b H1 => if b = true then t D σ H1 else u D σ H1) : tIfS c t u D σ H := h
theorem iOr {t u : TT} {σ : L2.St} {H : Hp} {Q : Bool → Hp → Prop} (h : t σ H fun c H1 => if c = true then Q true H1 else u σ H1 Q) : tOr t u σ H Q := h
theorem iNot {t : TT} {σ : L2.St} {H : Hp} {Q : Bool → Hp → Prop} (h : t σ H fun c H1 => Q (!c) H1) : tNot t σ H Q := h
theorem iB {t : TE} {σ : L2.St} {H : Hp} {Q : Bool → Hp → Prop} (h : t σ H fun x H1 => ∃ c, x = .bl c ∧ Q c H1) : tB t σ H Q := h
/-- `a and b`: a is told by c -/
theorem and_by {c : Bool} {t u : Prop} (h1 : c = true → t) (h0 : c = false → u) : if c = true then t else u := by
  cases c with
  | true => exact h1 rfl
  | false => exact h0 rfl
theorem ok_isInt {f : Addr} {fd : FuncData} {k : Nat} (F : Fun K "is_integer" "is_integer" sIsInt f fd) (mi : mg "isinstance" = none) (mn : mg "int" = none) (mb : mg "bool" = none) : FnG P w K mg base (k + 1) f fd ["thing"] (prKind isIntD) := by
  refine okG F scIsInt (fun vs H Q h => ?_) (fun cdv A outer s H vs Q hr h => ?_)
  · obtain ⟨_, _, _, rfl, _⟩ := h
    rfl
  · obtain ⟨v, d, D, rfl, hd, hs, q⟩ := h
    refine ⟨_, pss_one (ps_ret (pe_and (pe_callB call_isi (by rfl) mi (by decide +kernel) (pa_cons (pv 0) (pa_cons (pe_bltn (v := .ty "int") (by rfl) mn (by decide +kernel) rfl) pa_nil)))
      (pe_one (pe_not (pe_callB call_isi (by rfl) mi (by decide +kernel) (pa_cons (pv 0) (pa_cons (pe_bltn (v := .ty "bool") (by rfl) mb (by decide +kernel) rfl) pa_nil))))))), ?_⟩
    refine iRet (iAndV (isi_call (K := K) (i := 0) (a := tyN d) (b := "int") (r := intB d) (x := v) rfl hd.ty (kit_int d) ⟨_, rfl, ?_⟩))
    have q' := q H (Same.refl _)
    refine and_by (fun e => ?_) (fun e => ?_)
    · refine iNotV (isi_call (K := K) (i := 0) (a := tyN d) (b := "bool") (r := boolB d) (x := v) rfl hd.ty (kit_bool d) ⟨_, rfl, ?_⟩)
      unfold isIntD at q'
      rw [e, Bool.true_and] at q'
      exact q'
    · unfold isIntD at q'
      rw [e, Bool.false_and] at q'
      exact q'
theorem ok_isPair {f : Addr} {fd : FuncData} {k : Nat} (F : Fun K "is_pair" "is_pair" sIsPair f fd) (mi : mg "isinstance" = none) (mt : mg "tuple" = none) (ml : mg "len" = none) : FnG P w K mg base (k + 1) f fd ["thing"] (prKind isPairD) := by
  refine okG F scIsPair (fun vs H Q h => ?_) (fun cdv A outer s H vs Q hr h => ?_)
  · obtain ⟨_, _, _, rfl, _⟩ := h
    rfl
  · obtain ⟨v, d, D, rfl, hd, hs, q⟩ := h
    refine ⟨_, pss_one (ps_ret (pe_and (pe_callB call_isi (by rfl) mi (by decide +kernel) (pa_cons (pv 0) (pa_cons (pe_bltn (v := .ty "tuple") (by rfl) mt (by decide +kernel) rfl) pa_nil)))
      (pe_one (pe_cmpR op_eq (pe_callB call_len_seq (by rfl) ml PySem.boot_len (pa_cons (pv 0) pa_nil)) pe_int (nomark _))))), ?_⟩
    refine iRet (iAndV (isi_call (K := K) (i := 0) (a := tyN d) (b := "tuple") (r := tupB d) (x := v) rfl hd.ty (kit_tup d) ⟨_, rfl, ?_⟩))
    have q' := q H (Same.refl _)
    refine and_by (fun e => ?_) (fun e => ?_)
    · cases d with
      | tuple ds =>
        obtain ⟨a, xs, rfl, ha, t⟩ := hd.tup_inv
        refine ⟨.ref a, rfl, a, _, rfl, .inr (sqT ha), rfl, ?_⟩
        have e2 : decide (V.int (xs.length : Int) = V.int 2) = decide (ds.length = 2) := by
          rw [← t.len]
          refine decide_eq_decide.mpr ⟨fun z => ?_, fun z => ?_⟩
          · have := V.int.inj z
            omega
          · rw [z]
            rfl
        show Q (.bl (decide (V.int (xs.length : Int) = V.int 2))) H
        rw [e2]
        exact q'
      | _ => cases e
    · cases d with
      | tuple ds => cases e
      | _ => exact q'
variable {fI fN fM fQ fC fW fR : Addr} {fdI fdN fdM fdQ fdC fdW fdR : FuncData}
theorem ok_isNum {f : Addr} {fd : FuncData} {k : Nat} (F : Fun K "is_number" "is_number" sIsNum f fd) (FI : Fun K "is_integer" "is_integer" sIsInt fI fdI) (bI : Binds K fdI ["thing"] []) (gI : mg "is_integer" = some (.ref fI)) (GI : FnG P w K mg base (k + 1) fI fdI ["thing"] (prKind isIntD)) : FnG P w K mg base (k + 2) f fd ["thing"] (prKind isNumD) := by
  refine okG F scIsNum (fun vs H Q h => ?_) (fun cdv A outer s H vs Q hr h => ?_)
  · obtain ⟨_, _, _, rfl, _⟩ := h
    rfl
  · obtain ⟨v, d, D, rfl, hd, hs, q⟩ := h
    refine ⟨_, pss_one (ps_ret (pe_and (pe_g GI hr (by rfl) gI FI.kp bI .nil (pa_cons (pv 0) pa_nil)) (pe_one (pe_cmpR op_ge (pv 0) pe_int (nomark _))))), ?_⟩
    refine iRet (iAndV ⟨v, rfl, v, d, D, rfl, hd, hs, fun H' sm => ⟨_, rfl, ?_⟩⟩)
    have q' := q H' sm
    refine and_by (fun e => ?_) (fun e => ?_)
    · obtain ⟨i, rfl⟩ := int_of e
      obtain rfl := hd.int_inv
      exact ⟨.int i, rfl, i, 0, rfl, rfl, q'⟩
    · unfold isNumD at q'
      rw [e, Bool.false_and] at q'
      exact q'
theorem ok_isName {f : Addr} {fd : FuncData} {k : Nat} {tk : Tok} (F : Fun K "is_name" "is_name" sIsName f fd) (mi : mg "isinstance" = none) (mst : mg "str" = none) (ml : mg "len" = none) (ma : mg "all" = none) (mL : mg "LETTERS" = some (.str lettersD tk)) : FnG P w K mg base (k + 1) f fd ["thing"] (prKind isNameD) := by
  refine okG F scIsName (fun vs H Q h => ?_) (fun cdv A outer s H vs Q hr h => ?_)
  · obtain ⟨_, _, _, rfl, _⟩ := h
    rfl
  · obtain ⟨v, d, D, rfl, hd, hs, q⟩ := h
    refine ⟨_, pss_cons (ps_if (PW.pt (pw_or (pt_not (pt_val (pe_callB call_isi (by rfl) mi (by decide +kernel) (pa_cons (pv 0) (pa_cons (pe_bltn (v := .ty "str") (by rfl) mst (by decide +kernel) rfl) pa_nil)))))
        (pw_or1 (pt_not (pt_chain op_le op_le pe_int (pe_callB call_len_str (by rfl) ml PySem.boot_len (pa_cons (pv 0) pa_nil)) pe_int))))) (pss_one (ps_ret pe_bl)) pss_nil)
      (pss_one (ps_ret (pe_callB (cr_all rfl) (by rfl) ma (by decide +kernel) (pa_cons (pe_lc (own := [("letter", 1)]) (g := gName 1) (tt := tYes) rfl scIsName.nd (pi_str (pv 0)) (blkOk_by (N := ["thing", "letter"]) (sc := defScope sIsName) (by decide +kernel))
        (fun _ _ _ _ _ => pg_name (i := 1) scIsName.nd rfl (.inl rfl)) (fun _ _ _ _ _ => pts_nil) (fun _ _ _ _ _ => pe_cmpR op_in_sign (pv 1) (pe_glob (v := .str lettersD) (by rfl) mL ⟨_, rfl⟩) (by rfl))) pa_nil)))), ?_⟩
    have big := sizeBig
    refine iSeq ?_
    refine iIfS (iOr (iNot (iB (isi_call (K := K) (i := 0) (a := tyN d) (b := "str") (r := strB d) (x := v) rfl hd.ty (kit_str d) ⟨_, rfl, ?_⟩))))
    cases d with
    | str z =>
      obtain rfl := hd.str_inv
      have hz := small_str hs
      refine iteF ?_
      refine iNot ⟨.str z, rfl, z, rfl, by omega, 1, _, rfl, rfl, _, rfl, ?_⟩
      have q0 : ∀ H', Same H H' → nameS z = false → Q (.bl false) H' := fun H' sm e => by
        have h : Q (.bl (nameS z)) H' := q H' sm
        rw [e] at h
        exact h
      refine and_by (fun e1 => ?_) (fun e1 => ?_)
      · refine ⟨_, 8, rfl, rfl, _, rfl, ?_⟩
        have l1 : 1 ≤ z.length := by
          have := of_decide_eq_true e1
          omega
        by_cases l2 : z.length ≤ 8
        · rw [decide_eq_true (by omega : ((z.length : Nat) : Int) ≤ 8)]
          refine iteF ?_
          refine iNext ?_
          dsimp only
          refine iRet (iCB (iCons ?_))
          refine ⟨.str z, rfl, z, rfl, fun L hL => ?_⟩
          have sz : z.cps.size ≤ 8 := l2
          refine lc_it (walk_str (z := z)) (fun i H' => Same H H' ∧ H' L = some (.lst (((z.cps.toList.take i).map fun n => decide (n ∈ lettersD.cps.toList)).map V.bl))) ⟨same_new hL, upd_same⟩ (fun _ _ _ _ => trivial) (fun i x H' H2 hi h hy => ?_) (fun H' h => ?_)
          · obtain ⟨rfl, n, hn, rfl⟩ := hy
            refine ⟨wipe1, iYes (iteT ⟨_, rfl, n, lettersD, rfl, rfl, _, h.2, ?_, ?_, ?_⟩)⟩
            · rw [List.length_map, List.length_map, List.length_take]
              omega
            · intro b o e
              rw [upd_ne (ne_of_none e hL)]
              exact h.1 _ _ e
            · have hn' : z.cps.toList[i]? = some n := by
                rw [Array.getElem?_toList]
                exact hn
              rw [upd_same, List.take_add_one, hn', List.map_append, List.map_append]
              rfl
          · refine ⟨L, _, rfl, sqL h.2, ?_⟩
            have e3 : z.cps.toList.take z.cps.size = z.cps.toList := by
              rw [← Array.length_toList]
              exact List.take_length
            have e4 : (((z.cps.toList.take z.cps.size).map fun n => decide (n ∈ lettersD.cps.toList)).all id) = nameS z := by
              rw [e3, List.all_map]
              unfold nameS
              rw [decide_eq_true l1, decide_eq_true l2]
              rfl
            rw [e4]
            exact q H' h.1
        · rw [decide_eq_false (by omega : ¬ ((z.length : Nat) : Int) ≤ 8)]
          refine iteT ?_
          refine q0 _ (Same.refl _) ?_
          unfold nameS
          rw [decide_eq_false l2, Bool.and_false, Bool.false_and]
      · refine ⟨false, rfl, iteT (q0 _ (Same.refl _) ?_)⟩
        unfold nameS
        have l1 : ¬ 1 ≤ z.length := by
          have := of_decide_eq_false e1
          omega
        rw [decide_eq_false l1, Bool.false_and, Bool.false_and]
    | _ => exact iteT (q H (Same.refl _))
theorem itemD0 (x y : PyData) : itemD (.tuple [x, y]) 0 = x := rfl
theorem itemD1 (x y : PyData) : itemD (.tuple [x, y]) 1 = y := rfl
theorem ok_isCell {f : Addr} {fd : FuncData} {k : Nat} (F : Fun K "is_cell" "is_cell" sIsCell f fd)
    (FQ : Fun K "is_pair" "is_pair" sIsPair fQ fdQ) (bQ : Binds K fdQ ["thing"] []) (gQ : mg "is_pair" = some (.ref fQ)) (GQ : FnG P w K mg base (k + 1) fQ fdQ ["thing"] (prKind isPairD))
    (FM : Fun K "is_name" "is_name" sIsName fM fdM) (bM : Binds K fdM ["thing"] []) (gM : mg "is_name" = some (.ref fM)) (GM : FnG P w K mg base (k + 1) fM fdM ["thing"] (prKind isNameD))
    (FN : Fun K "is_number" "is_number" sIsNum fN fdN) (bN : Binds K fdN ["thing"] []) (gN : mg "is_number" = some (.ref fN)) (GN : FnG P w K mg base (k + 2) fN fdN ["thing"] (prKind isNumD)) : FnG P w K mg base (k + 3) f fd ["thing"] (prKind isCellD) := by
  refine okG F scIsCell (fun vs H Q h => ?_) (fun cdv A outer s H vs Q hr h => ?_)
  · obtain ⟨_, _, _, rfl, _⟩ := h
    rfl
  · obtain ⟨v, d, D, rfl, hd, hs, q⟩ := h
    have hr1 : RG (k + 1) (A.deeper (envOfC "is_cell" (defScope sIsCell) s.heap.objs.size f cdv)) := hr.mono (by omega)
    refine ⟨_, pss_one (ps_ret (pe_and (pe_g GQ hr1 (by rfl) gQ FQ.kp bQ .nil (pa_cons (pv 0) pa_nil)) (pe_and (pe_g GM hr1 (by rfl) gM FM.kp bM .nil (pa_cons (pe_ix (ix_tup : IxR _ (rIxT K)) (pv 0) pe_int (fun _ _ => rfl)) pa_nil))
      (pe_one (pe_g GN hr (by rfl) gN FN.kp bN .nil (pa_cons (pe_ix (ix_tup : IxR _ (rIxT K)) (pv 0) pe_int (fun _ _ => rfl)) pa_nil)))))), ?_⟩
    refine iRet (iAndV ⟨v, rfl, v, d, D, rfl, hd, hs, fun H1 s1 => ⟨_, rfl, ?_⟩⟩)
    refine and_by (fun e => ?_) (fun e => ?_)
    · obtain ⟨x, y, rfl⟩ := pair_of e
      obtain ⟨a, p1, p2, rfl, ha, h1, h2⟩ := hd.pair_inv
      obtain ⟨_, sm⟩ := small_tup hs
      have sx : smallD x = true := smallDs_at (i := 0) sm rfl
      have sy : smallD y = true := smallDs_at (i := 1) sm rfl
      refine iAndV ⟨.ref a, rfl, a, _, 0, p1, rfl, rfl, sqT (s1 _ _ ha), atI_nat (j := 0) rfl, p1, x, D, rfl, h1.keep (KeepD.of s1), sx, fun H2 s2 => ⟨_, rfl, ?_⟩⟩
      have s12 := s1.trans s2
      refine and_by (fun e2 => ?_) (fun e2 => ?_)
      · refine ⟨.ref a, rfl, a, _, 1, p2, rfl, rfl, sqT (s12 _ _ ha), atI_nat (j := 1) rfl, p2, y, D, rfl, h2.keep (KeepD.of s12), sy, fun H3 s3 => ?_⟩
        have q' := q H3 (s12.trans s3)
        unfold isCellD at q'
        rw [e, itemD0, itemD1, e2, Bool.true_and, Bool.true_and] at q'
        exact q'
      · have q' := q H2 s12
        unfold isCellD at q'
        rw [itemD0, e2, Bool.false_and, Bool.and_false] at q'
        exact q'
    · have q' := q H1 s1
      unfold isCellD at q'
      rw [e, Bool.false_and] at q'
      exact q'
theorem ok_isWt {f : Addr} {fd : FuncData} {k : Nat} (F : Fun K "is_weighted_cell" "is_weighted_cell" sIsWt f fd)
    (FQ : Fun K "is_pair" "is_pair" sIsPair fQ fdQ) (bQ : Binds K fdQ ["thing"] []) (gQ : mg "is_pair" = some (.ref fQ)) (GQ : FnG P w K mg base (k + 1) fQ fdQ ["thing"] (prKind isPairD))
    (FC : Fun K "is_cell" "is_cell" sIsCell fC fdC) (bC : Binds K fdC ["thing"] []) (gC : mg "is_cell" = some (.ref fC)) (GC : FnG P w K mg base (k + 3) fC fdC ["thing"] (prKind isCellD))
    (FI : Fun K "is_integer" "is_integer" sIsInt fI fdI) (bI : Binds K fdI ["thing"] []) (gI : mg "is_integer" = some (.ref fI)) (GI : FnG P w K mg base (k + 1) fI fdI ["thing"] (prKind isIntD)) : FnG P w K mg base (k + 4) f fd ["thing"] (prKind isWtD) := by
  refine okG F scIsWt (fun vs H Q h => ?_) (fun cdv A outer s H vs Q hr h => ?_)
  · obtain ⟨_, _, _, rfl, _⟩ := h
    rfl
  · obtain ⟨v, d, D, rfl, hd, hs, q⟩ := h
    have hr1 : RG (k + 1) (A.deeper (envOfC "is_weighted_cell" (defScope sIsWt) s.heap.objs.size f cdv)) := hr.mono (by omega)
    refine ⟨_, pss_one (ps_ret (pe_and (pe_g GQ hr1 (by rfl) gQ FQ.kp bQ .nil (pa_cons (pv 0) pa_nil)) (pe_and (pe_g GC hr (by rfl) gC FC.kp bC .nil (pa_cons (pe_ix (ix_tup : IxR _ (rIxT K)) (pv 0) pe_int (fun _ _ => rfl)) pa_nil))
      (pe_and (pe_g GI hr1 (by rfl) gI FI.kp bI .nil (pa_cons (pe_ix (ix_tup : IxR _ (rIxT K)) (pv 0) pe_int (fun _ _ => rfl)) pa_nil)) (pe_one (pe_cmpR op_ne (pe_ix (ix_tup : IxR _ (rIxT K)) (pv 0) pe_int (fun _ _ => rfl)) pe_int (nomark _))))))), ?_⟩
    refine iRet (iAndV ⟨v, rfl, v, d, D, rfl, hd, hs, fun H1 s1 => ⟨_, rfl, ?_⟩⟩)
    refine and_by (fun e => ?_) (fun e => ?_)
    · obtain ⟨x, y, rfl⟩ := pair_of e
      obtain ⟨a, p1, p2, rfl, ha, h1, h2⟩ := hd.pair_inv
      obtain ⟨_, sm⟩ := small_tup hs
      have sx : smallD x = true := smallDs_at (i := 0) sm rfl
      have sy : smallD y = true := smallDs_at (i := 1) sm rfl
      refine iAndV ⟨.ref a, rfl, a, _, 0, p1, rfl, rfl, sqT (s1 _ _ ha), atI_nat (j := 0) rfl, p1, x, D, rfl, h1.keep (KeepD.of s1), sx, fun H2 s2 => ⟨_, rfl, ?_⟩⟩
      have s12 := s1.trans s2
      refine and_by (fun e2 => ?_) (fun e2 => ?_)
      · refine iAndV ⟨.ref a, rfl, a, _, 1, p2, rfl, rfl, sqT (s12 _ _ ha), atI_nat (j := 1) rfl, p2, y, D, rfl, h2.keep (KeepD.of s12), sy, fun H3 s3 => ⟨_, rfl, ?_⟩⟩
        have s13 := s12.trans s3
        have q' := q H3 s13
        unfold isWtD at q'
        rw [e, itemD0, itemD1, e2, Bool.true_and, Bool.true_and] at q'
        refine and_by (fun e3 => ?_) (fun e3 => ?_)
        · obtain ⟨i, rfl⟩ := int_of e3
          obtain rfl := h2.int_inv
          refine ⟨.ref a, rfl, a, _, 1, .int i, rfl, rfl, sqT (s13 _ _ ha), atI_nat (j := 1) rfl, rfl, ?_⟩
          have e4 : (!decide (V.int i = V.int 0)) = nzD (.int i) := by
            show (!decide (V.int i = V.int 0)) = decide (i ≠ 0)
            by_cases z : i = 0
            · rw [z]
              rfl
            · rw [decide_eq_true z, decide_eq_false (fun w => z (V.int.inj w))]
              rfl
          show Q (.bl (!decide (V.int i = V.int 0))) H3
          rw [e4]
          rw [e3, Bool.true_and] at q'
          exact q'
        · rw [e3, Bool.false_and] at q'
          exact q'
      · have q' := q H2 s12
        unfold isWtD at q'
        rw [itemD0, e2, Bool.false_and, Bool.and_false] at q'
        exact q'
    · have q' := q H1 s1
      unfold isWtD at q'
      rw [e, Bool.false_and] at q'
      exact q'
end
end P01
namespace P01
open PySem PySem.Spec PyProof.Rows L2 AskG
abbrev sIsRow : Stmt := topS 10
abbrev sAreRows : Stmt := topS 11
abbrev sIsData : Stmt := topS 12
theorem scIsRow : FnScope ["thing", "cells", "item", "cell", "weight", "one", "other"] ["thing"] (defScope sIsRow) := ⟨rfl, rfl, rfl, by decide +kernel, rfl, by decide +kernel, by decide +kernel⟩
theorem scAreRows : FnScope ["thing", "item"] ["thing"] (defScope sAreRows) := ⟨rfl, rfl, rfl, by decide +kernel, rfl, by decide +kernel, by decide +kernel⟩
theorem scIsData : FnScope ["thing"] ["thing"] (defScope sIsData) := ⟨rfl, rfl, rfl, by decide +kernel, rfl, by decide +kernel, by decide +kernel⟩
def strOf : PyData → Str
  | .str s => s
  | _ => ""
def intOf : PyData → Int
  | .int i => i
  | _ => 0
def cellOfD (d : PyData) : Cell := (strOf (itemD (itemD d 0) 0), intOf (itemD (itemD d 0) 1))
def rowOfD (ds : List PyData) : RowD := ds.map fun d => (cellOfD d, intOf (itemD d 1))
def c0 : Cell := (("" : Str), (0 : Int))
def ltAt (cs : List Cell) (i : Nat) : Bool := ltC (cs.getD i c0) (cs.getD (i + 1) c0)
def ascD (cs : List Cell) : Bool := ((List.range (cs.length - 1)).map (ltAt cs)).all id
def isRowD (d : PyData) : Bool := match d with
  | .tuple ds => ds.all isWtD && ascD (keys (rowOfD ds))
  | _ => false
def areRowsD (d : PyData) : Bool := match d with
  | .tuple ds => ds.all isRowD
  | _ => false
theorem name_of {d : PyData} (h : isNameD d = true) : ∃ s, d = .str s := by
  cases d with
  | str s => exact ⟨s, rfl⟩
  | _ => cases h
theorem num_of {d : PyData} (h : isNumD d = true) : ∃ i, d = .int i := by
  unfold isNumD at h
  rw [Bool.and_eq_true] at h
  exact int_of h.1
theorem cell_of {d : PyData} (h : isCellD d = true) : ∃ s i, d = .tuple [.str s, .int i] := by
  unfold isCellD at h
  rw [Bool.and_eq_true, Bool.and_eq_true] at h
  obtain ⟨h1, h2, h3⟩ := h
  obtain ⟨x, y, rfl⟩ := pair_of h1
  obtain ⟨s, rfl⟩ := name_of (d := x) h2
  obtain ⟨i, rfl⟩ := num_of (d := y) h3
  exact ⟨s, i, rfl⟩
theorem wt_of {d : PyData} (h : isWtD d = true) : ∃ s i j, d = .tuple [.tuple [.str s, .int i], .int j] := by
  unfold isWtD at h
  rw [Bool.and_eq_true, Bool.and_eq_true, Bool.and_eq_true] at h
  obtain ⟨h1, h2, h3, _⟩ := h
  obtain ⟨x, y, rfl⟩ := pair_of h1
  obtain ⟨s, i, rfl⟩ := cell_of (d := x) h2
  obtain ⟨j, rfl⟩ := int_of (d := y) h3
  exact ⟨s, i, j, rfl⟩
theorem pairRow_of {D : Addr} {H : Hp} {v : V} {d : PyData} (h : DH D H v d) (w : isWtD d = true) : ∃ p, v = .ref p ∧ PairRow H p (cellOfD d, intOf (itemD d 1)) := by
  obtain ⟨s, i, j, rfl⟩ := wt_of w
  obtain ⟨a, p1, p2, rfl, ha, h1, h2⟩ := h.pair_inv
  obtain ⟨b, q1, q2, rfl, hb, g1, g2⟩ := h1.pair_inv
  obtain rfl := h2.int_inv
  obtain rfl := g1.str_inv
  obtain rfl := g2.int_inv
  exact ⟨a, rfl, b, ha, hb⟩
theorem row_of {D : Addr} {H : Hp} : ∀ {xs : List V} {ds : List PyData}, DHs D H xs ds → ds.all isWtD = true → ∃ ps : List Addr, xs = ps.map V.ref ∧ Paired (PairRow H) ps (rowOfD ds)
  | _, _, .nil, _ => ⟨[], rfl, .nil⟩
  | _, _, .cons h t, w => by
    rw [List.all_cons, Bool.and_eq_true] at w
    obtain ⟨p, rfl, hp⟩ := pairRow_of h w.1
    obtain ⟨ps, rfl, hps⟩ := row_of t w.2
    exact ⟨p :: ps, rfl, .cons hp hps⟩
section
variable {P : Program} {w : World} {K : PySem.W.Frag} {mg : Str → Option Value} {base : Heap}
/-- [.. for x in t], a check of each -/
theorem lc_kindT {i a : Nat} {σ : L2.St} {H : Hp} {Q : VK} {r D : Addr} {xs : List V} {ds : List PyData} {te : TE} (g : PyData → Bool)
    (hi : σ[i]? = some (some (.ref r))) (hr : H r = some (.tup xs)) (hd : DHs D H xs ds) (hs : smallDs ds = true) (ha : a < σ.length) (hz : ds.length ≤ 1000)
    (hte : ∀ σ' H' x d (Q' : VK), DH D H' x d → smallD d = true → Same H H' → σ'[a]? = some (some x) → (∀ H'', Same H' H'' → Q' (.bl (g d)) H'') → te σ' H' Q')
    (q : ∀ H' L, Same H H' → H' L = some (.lst ((ds.map g).map V.bl)) → Q (.ref L) H') :
    tLc (iTup K (tVar i)) (gName a) tYes te [a] σ H Q := by
  refine ⟨.ref r, hi, r, rfl, ⟨_, sqT hr⟩, fun L hL => ?_⟩
  have xl := hd.len
  refine lc_tup (xs := xs) (fun i H' => Same H H' ∧ H' L = some (.lst (((ds.take i).map g).map V.bl))) ⟨same_new hL, upd_same⟩ (fun i H' _ h => sqT (h.1 _ _ hr)) (fun i x H' hx h => ?_) (fun H' h => q H' L h.1 ?_)
  · have big := sizeBig
    have il := (List.getElem?_eq_some_iff.mp hx).1
    obtain ⟨d, hdi, hdx⟩ := hd.at hx
    refine ⟨wipe1, iYes (iteT (hte _ _ x d _ (hdx.keep (KeepD.of h.1)) (smallDs_at hs hdi) h.1 (set1_at ha) fun H2 sm2 => ⟨_, sm2 _ _ h.2, ?_, ?_, ?_⟩))⟩
    · rw [List.length_map, List.length_map, List.length_take]
      omega
    · intro b o e
      rw [upd_ne (ne_of_none e hL)]
      exact sm2 _ _ (h.1 _ _ e)
    · rw [upd_same, List.take_add_one, hdi, List.map_append, List.map_append]
      rfl
  · have := h.2
    rw [xl, List.take_length] at this
    exact this
theorem all_map_id (l : List PyData) (g : PyData → Bool) : (l.map g).all id = l.all g := by
  rw [List.all_map]
  rfl
variable {fI fN fM fQ fC fW fR : Addr} {fdI fdN fdM fdQ fdC fdW fdR : FuncData}
theorem ok_isRow {f : Addr} {fd : FuncData} {k : Nat} (F : Fun K "is_row" "is_row" sIsRow f fd)
    (FW : Fun K "is_weighted_cell" "is_weighted_cell" sIsWt fW fdW) (bW : Binds K fdW ["thing"] []) (gW : mg "is_weighted_cell" = some (.ref fW)) (GW : FnG P w K mg base (k + 4) fW fdW ["thing"] (prKind isWtD))
    (mi : mg "isinstance" = none) (mt : mg "tuple" = none) (ma : mg "all" = none) (mz : mg "zip" = none) : FnG P w K mg base (k + 5) f fd ["thing"] (prKind isRowD) := by
  refine okG F scIsRow (fun vs H Q h => ?_) (fun cdv A outer s H vs Q hr h => ?_)
  · obtain ⟨_, _, _, rfl, _⟩ := h
    rfl
  · obtain ⟨v, d, D, rfl, hd, hs, q⟩ := h
    have hu := hr.room.units0
    refine ⟨_, pss_cons (ps_if (PW.pt (pw_or (pt_not (pt_val (pe_callB call_isi (by rfl) mi (by decide +kernel) (pa_cons (pv 0) (pa_cons (pe_bltn (v := .ty "tuple") (by rfl) mt (by decide +kernel) rfl) pa_nil)))))
        (pw_or1 (pt_not (pt_val (pe_callB (cr_all rfl) (by rfl) ma (by decide +kernel) (pa_cons (pe_lc (own := [("item", 2)]) (g := gName 2) (tt := tYes) rfl scIsRow.nd (pi_tup (pv 0)) (blkOk_by (N := ["thing", "cells", "item", "cell", "weight", "one", "other"]) (sc := defScope sIsRow) (by decide +kernel))
          (fun _ _ _ _ _ => pg_name (i := 2) scIsRow.nd rfl (.inl rfl)) (fun _ _ _ _ _ => pts_nil) (fun _ _ _ _ _ => pe_g GW hr (by rfl) gW FW.kp bW .nil (pa_cons (pv 2) pa_nil))) pa_nil))))))) (pss_one (ps_ret pe_bl)) pss_nil)
      (pss_cons (ps_setLc (i := 1) (own := [("cell", 3), ("weight", 4)]) (g := g2 K 3 4) (tt := tYes) rfl scIsRow.nd rfl rfl (sw_true rfl rfl rfl (by decide +kernel)) (pi_tup (pv 0))
        (blkOk_by (N := ["thing", "cells", "item", "cell", "weight", "one", "other"]) (sc := defScope sIsRow) (by decide +kernel)) (fun _ _ _ _ _ => pg_tup rfl (pgs_cons (pg_name (i := 3) scIsRow.nd rfl (.inl rfl)) (pgs_cons (pg_name (i := 4) scIsRow.nd rfl (.inl rfl)) pgs_nil))) (fun _ _ _ _ _ => pts_nil) (fun _ _ _ _ _ => pv 3))
      (pss_one (ps_ret (pe_callB (cr_all rfl) (by rfl) ma (by decide +kernel) (pa_cons (pe_lc (own := [("one", 5), ("other", 6)]) (g := g2 K 5 6) (tt := tYes) rfl scIsRow.nd (pi_zip (by rfl) mz (pa_cons (pv 1) (pa_cons (pe_slice sl_list (pv 1) (po_some pe_int) po_none) pa_nil)))
        (blkOk_by (N := ["thing", "cells", "item", "cell", "weight", "one", "other"]) (sc := defScope sIsRow) (by decide +kernel)) (fun _ _ _ _ _ => pg_tup rfl (pgs_cons (pg_name (i := 5) scIsRow.nd rfl (.inl rfl)) (pgs_cons (pg_name (i := 6) scIsRow.nd rfl (.inl rfl)) pgs_nil))) (fun _ _ _ _ _ => pts_nil)
        (fun _ _ _ _ _ => pe_cmpR (op_ltC hu) (pv 5) (pv 6) (nomark _))) pa_nil))))), ?_⟩
    have big := sizeBig
    refine iSeq ?_
    refine iIfS (iOr (iNot (iB (isi_call (K := K) (i := 0) (a := tyN d) (b := "tuple") (r := tupB d) (x := v) rfl hd.ty (kit_tup d) ⟨_, rfl, ?_⟩))))
    cases d with
    | tuple ds =>
      obtain ⟨a, xs, rfl, ha, hds⟩ := hd.tup_inv
      obtain ⟨sl, sds⟩ := small_tup hs
      refine iteF ?_
      refine iNot (iB (iCB (iCons ?_)))
      refine lc_kindT (K := K) (i := 0) (a := 2) (σ := [some (.ref a), none, none, none, none, none, none]) isWtD rfl ha hds sds (by show 2 < 7; decide) sl (fun σ' H' x d Q' hx sx sm h2 hq => ?_) (fun H1 L s1 hL => ?_)
      · exact ⟨x, h2, x, d, D, rfl, hx, sx, hq⟩
      · refine ⟨L, _, rfl, sqL hL, _, rfl, ?_⟩
        rw [all_map_id]
        cases hall : ds.all isWtD with
        | false =>
          refine iteT ?_
          have q' : Q (.bl (ds.all isWtD && ascD (keys (rowOfD ds)))) H1 := q H1 s1
          rw [hall, Bool.false_and] at q'
          exact q'
        | true =>
          refine iteF ?_
          obtain ⟨ps, rfl, hp⟩ := row_of hds hall
          have q1 : ∀ H', Same H H' → Q (.bl (ascD (keys (rowOfD ds)))) H' := fun H' sm => by
            have q' : Q (.bl (ds.all isWtD && ascD (keys (rowOfD ds)))) H' := q H' sm
            rw [hall, Bool.true_and] at q'
            exact q'
          have pl : ps.length = (rowOfD ds).length := Paired.length hp
          have rl : (rowOfD ds).length = ds.length := List.length_map _
          generalize rowOfD ds = ρ at hp q1 pl rl
          refine iNext ?_
          dsimp only
          refine iSeq (iAsg ?_)
          refine ⟨.ref a, rfl, a, rfl, ⟨_, sqT (s1 _ _ ha)⟩, fun C hC => ?_⟩
          refine lc_tup (xs := ps.map V.ref) (fun i H' => Same H1 H' ∧ ∃ bs, H' C = some (.lst (bs.map V.ref)) ∧ Paired (CellAt H') bs ((keys ρ).take i) ∧ bs.length ≤ i) ⟨same_new hC, [], upd_same, .nil, Nat.le_refl _⟩ (fun i H' _ h => sqT (h.1 _ _ (s1 _ _ ha))) (fun i x H' hx h => ?_) (fun H2 h => ?_)
          · obtain ⟨sm, bs, hbs, hbp, hbl⟩ := h
            rw [List.getElem?_map] at hx
            cases hpi : ps[i]? with
            | none =>
              rw [hpi] at hx
              cases hx
            | some p =>
              rw [hpi] at hx
              have ex : V.ref p = x := Option.some.inj hx
              subst ex
              have il := (List.getElem?_eq_some_iff.mp hpi).1
              obtain ⟨y, hy, b, h1, h2⟩ := paired_at' hp hpi
              have k1 := (KeepT.of s1).trans (KeepT.of sm)
              have T := turn2 (σ := [some (.ref a), none, none, none, none, none, none]) (a := 3) (b := 4) (v := .ref b) (w := .int y.2) (by show 3 < 7; decide) (by show 4 < 7; decide) (by decide)
              refine ⟨p, [.ref b, .int y.2], rfl, sqT (k1 _ _ h1), rfl, .ref b, [.int y.2], rfl, .int y.2, [], rfl, rfl, ?_⟩
              refine ⟨wipe2 (by decide), iYes (iteT ⟨.ref b, T.fst, _, hbs, by rw [List.length_map]; omega, ?_, bs ++ [b], ?_, ?_, ?_⟩)⟩
              · intro b' o e
                rw [upd_ne (ne_of_none e hC)]
                exact sm _ _ e
              · rw [upd_same, List.map_append]
                rfl
              · have k2 : KeepT H' (upd H' C (.lst (bs.map V.ref ++ [.ref b]))) := KeepT.put hbs fun _ z => nomatch z
                have e : (keys ρ).take (i + 1) = (keys ρ).take i ++ [y.1] := by
                  unfold keys
                  rw [List.take_add_one, List.getElem?_map, hy]
                  rfl
                rw [e]
                exact Paired.snoc (Paired.mapP hbp fun _ _ z => z.keep k2) ((h2.keep k1).keep k2)
              · rw [List.length_append]
                show bs.length + 1 ≤ i + 1
                omega
          · obtain ⟨s2, bs, hbs, hbp, hbl⟩ := h
            have ek : (keys ρ).take (ps.map V.ref).length = keys ρ := List.take_of_length_le (by unfold keys; rw [List.length_map, List.length_map]; omega)
            rw [ek] at hbp
            have kl : bs.length = (keys ρ).length := Paired.length hbp
            have kl2 : (keys ρ).length = ρ.length := List.length_map _
            refine iName ?_
            dsimp only
            refine iRet (iCB (iCons ?_))
            refine ⟨.ref C, rfl, .ref C, rfl, 1, rfl, C, bs.map V.ref, rfl, sqL hbs, fun E hE => ?_⟩
            have ed : cutV (bs.map V.ref) (some 1) none = (bs.drop 1).map V.ref := by
              unfold cutV
              rw [show HT.sIx (bs.map V.ref).length 0 (some 1) = min 1 (bs.map V.ref).length from HT.sIx_nat _ 0 1, HT.sIx_none, List.length_map]
              cases bs with
              | nil => rfl
              | cons x r =>
                rw [show min 1 (x :: r).length = 1 by
                  rw [List.length_cons]
                  omega]
                show (List.take ((x :: r).length - 1) (r.map V.ref)) = r.map V.ref
                rw [List.length_cons, Nat.add_sub_cancel]
                exact List.take_of_length_le (by rw [List.length_map]; exact Nat.le_refl _)
            rw [ed]
            have s3 : Same H2 (upd H2 E (.lst ((bs.drop 1).map V.ref))) := same_new hE
            refine ⟨C, E, bs.map V.ref, (bs.drop 1).map V.ref, rfl, sqL (s3 _ _ hbs), sqL upd_same, fun L3 hL3 => ?_⟩
            have hE3 : (upd H2 E (.lst ((bs.drop 1).map V.ref))) E = some (.lst ((bs.drop 1).map V.ref)) := upd_same
            have hb3 : Paired (CellAt (upd H2 E (.lst ((bs.drop 1).map V.ref)))) bs (keys ρ) := Paired.mapP hbp fun _ _ z => z.keep (KeepT.of s3)
            have hC3 := s3 _ _ hbs
            generalize upd H2 E (.lst ((bs.drop 1).map V.ref)) = H3 at s3 hE3 hb3 hC3 hL3 ⊢
            refine lc_it (walk_zip (K := K) (a := C) (b := E) (xs := bs.map V.ref) (ys := (bs.drop 1).map V.ref) (n := bs.length - 1) (by rw [List.length_map, List.length_map, List.length_drop]; omega)) (fun i H' => Same H3 H' ∧ H' L3 = some (.lst (((List.range i).map (ltAt (keys ρ))).map V.bl))) ⟨same_new hL3, upd_same⟩ (fun i H' _ h => ⟨sqL (h.1 _ _ hC3), sqL (h.1 _ _ hE3)⟩) (fun i x H' H4 hi h hy => ?_) (fun H4 h => ?_)
            · obtain ⟨T, x1, x2, rfl, hT, rfl, f1, f2⟩ := hy
              have f1 : (bs.map V.ref)[i]? = some x1 := f1
              have f2 : ((bs.drop 1).map V.ref)[i]? = some x2 := f2
              have i1 : i < bs.length := by omega
              have i2 : i + 1 < bs.length := by omega
              have e1 : x1 = .ref bs[i] := by
                rw [List.getElem?_map, List.getElem?_eq_getElem i1] at f1
                exact (Option.some.inj f1).symm
              have e2 : x2 = .ref bs[i + 1] := by
                rw [List.getElem?_map, List.getElem?_drop, Nat.add_comm 1 i, List.getElem?_eq_getElem i2] at f2
                exact (Option.some.inj f2).symm
              subst e1 e2
              obtain ⟨c1, hc1, hk1⟩ := paired_at' hb3 (List.getElem?_eq_getElem i1)
              obtain ⟨c2, hc2, hk2⟩ := paired_at' hb3 (List.getElem?_eq_getElem i2)
              have lt : ltC c1 c2 = ltAt (keys ρ) i := by
                unfold ltAt
                rw [List.getD_eq_getElem?_getD, List.getD_eq_getElem?_getD, hc1, hc2]
                rfl
              have sT : Same H' (upd H' T (.tup [.ref bs[i], .ref bs[i + 1]])) := same_new hT
              have kT := (KeepT.of h.1).trans (KeepT.of sT)
              have Tn := turn2 (σ := [some (.ref a), some (.ref C), none, none, none, none, none]) (a := 5) (b := 6) (v := .ref bs[i]) (w := .ref bs[i + 1]) (by show 5 < 7; decide) (by show 6 < 7; decide) (by decide)
              refine ⟨T, [.ref bs[i], .ref bs[i + 1]], rfl, sqT upd_same, rfl, .ref bs[i], [.ref bs[i + 1]], rfl, .ref bs[i + 1], [], rfl, rfl, ?_⟩
              refine ⟨wipe2 (by decide), iYes (iteT ⟨.ref bs[i], Tn.fst, .ref bs[i + 1], Tn.snd, bs[i], bs[i + 1], c1, c2, rfl, rfl, hk1.keep kT, hk2.keep kT, _, sT _ _ h.2, ?_, ?_, ?_⟩)⟩
              · rw [List.length_map, List.length_map, List.length_range]
                omega
              · intro b o e
                rw [upd_ne (ne_of_none e hL3)]
                exact sT _ _ (h.1 _ _ e)
              · rw [upd_same, lt, List.range_succ, List.map_append, List.map_append]
                rfl
            · refine ⟨L3, _, rfl, sqL h.2, ?_⟩
              have := q1 H4 (((s1.trans s2).trans s3).trans h.1)
              unfold ascD at this
              rw [← kl] at this
              exact this
    | _ => exact iteT (q H (Same.refl _))
theorem ok_areRows {f : Addr} {fd : FuncData} {k : Nat} (F : Fun K "are_rows" "are_rows" sAreRows f fd)
    (FR : Fun K "is_row" "is_row" sIsRow fR fdR) (bR : Binds K fdR ["thing"] []) (gR : mg "is_row" = some (.ref fR)) (GR : FnG P w K mg base (k + 5) fR fdR ["thing"] (prKind isRowD))
    (mi : mg "isinstance" = none) (mt : mg "tuple" = none) (ma : mg "all" = none) : FnG P w K mg base (k + 6) f fd ["thing"] (prKind areRowsD) := by
  refine okG F scAreRows (fun vs H Q h => ?_) (fun cdv A outer s H vs Q hr h => ?_)
  · obtain ⟨_, _, _, rfl, _⟩ := h
    rfl
  · obtain ⟨v, d, D, rfl, hd, hs, q⟩ := h
    refine ⟨_, pss_one (ps_ret (pe_and (pe_callB call_isi (by rfl) mi (by decide +kernel) (pa_cons (pv 0) (pa_cons (pe_bltn (v := .ty "tuple") (by rfl) mt (by decide +kernel) rfl) pa_nil)))
      (pe_one (pe_callB (cr_all rfl) (by rfl) ma (by decide +kernel) (pa_cons (pe_lc (own := [("item", 1)]) (g := gName 1) (tt := tYes) rfl scAreRows.nd (pi_tup (pv 0)) (blkOk_by (N := ["thing", "item"]) (sc := defScope sAreRows) (by decide +kernel))
          (fun _ _ _ _ _ => pg_name (i := 1) scAreRows.nd rfl (.inl rfl)) (fun _ _ _ _ _ => pts_nil) (fun _ _ _ _ _ => pe_g GR hr (by rfl) gR FR.kp bR .nil (pa_cons (pv 1) pa_nil))) pa_nil))))), ?_⟩
    refine iRet (iAndV (isi_call (K := K) (i := 0) (a := tyN d) (b := "tuple") (r := tupB d) (x := v) rfl hd.ty (kit_tup d) ⟨_, rfl, ?_⟩))
    cases d with
    | tuple ds =>
      obtain ⟨a, xs, rfl, ha, hds⟩ := hd.tup_inv
      obtain ⟨sl, sds⟩ := small_tup hs
      refine iteT ?_
      refine iCB (iCons ?_)
      refine lc_kindT (K := K) (i := 0) (a := 1) (σ := [some (.ref a), none]) isRowD rfl ha hds sds (by show 1 < 2; decide) sl (fun σ' H' x d Q' hx sx sm h2 hq => ?_) (fun H1 L s1 hL => ?_)
      · exact ⟨x, h2, x, d, D, rfl, hx, sx, hq⟩
      · refine ⟨L, _, rfl, sqL hL, ?_⟩
        rw [all_map_id]
        exact q H1 s1
    | _ => exact iteF (q H (Same.refl _))
theorem ok_isData {f : Addr} {fd : FuncData} {k : Nat} (F : Fun K "is_data" "is_data" sIsData f fd)
    (FR : Fun K "is_row" "is_row" sIsRow fR fdR) (bR : Binds K fdR ["thing"] []) (gR : mg "is_row" = some (.ref fR)) (GR : FnG P w K mg base (k + 5) fR fdR ["thing"] (prKind isRowD)) : FnG P w K mg base (k + 6) f fd ["thing"] (prKind isRowD) := by
  refine okG F scIsData (fun vs H Q h => ?_) (fun cdv A outer s H vs Q hr h => ?_)
  · obtain ⟨_, _, _, rfl, _⟩ := h
    rfl
  · obtain ⟨v, d, D, rfl, hd, hs, q⟩ := h
    refine ⟨_, pss_one (ps_ret (pe_g GR hr (by rfl) gR FR.kp bR .nil (pa_cons (pv 0) pa_nil))), ?_⟩
    exact iRet ⟨v, rfl, v, d, D, rfl, hd, hs, q⟩
end
end P01
namespace P01
open PySem PySem.Spec PyProof.Rows L2 AskG
abbrev sGcd : Stmt := topS 1
abbrev sIsFrac : Stmt := topS 13
abbrev sGcdL : Stmt := topS 23
theorem scGcd : FnScope ["one", "other"] ["one", "other"] (defScope sGcd) := ⟨rfl, rfl, rfl, by decide +kernel, rfl, by decide +kernel, by decide +kernel⟩
theorem scIsFrac : FnScope ["thing"] ["thing"] (defScope sIsFrac) := ⟨rfl, rfl, rfl, by decide +kernel, rfl, by decide +kernel, by decide +kernel⟩
theorem scGcdL : FnScope ["_law_some", "_law_found", "_law_number_here", "_law_one", "_law_other"] ["_law_some"] (defScope sGcdL) := ⟨rfl, rfl, rfl, by decide +kernel, rfl, by decide +kernel, by decide +kernel⟩
def fracOf (n m : Int) : Bool := decide (1 ≤ m) && decide (Int.gcd n m = 1)
def isFracD (d : PyData) : Bool := isPairD d && (isIntD (itemD d 0) && (isIntD (itemD d 1) && fracOf (intOf (itemD d 0)) (intOf (itemD d 1))))
theorem gcd_step (x y : Int) : Int.gcd y (x % y) = Int.gcd x y := by
  rw [Int.gcd_comm y, Int.emod_def, Int.gcd_sub_mul_left_left]
theorem gcd_abs (x : Int) : (if x < 0 then -x else x) = ((Int.gcd x 0 : Nat) : Int) := by
  rw [Int.gcd_zero_right]
  split <;> omega
section
variable {P : Program} {w : World} {K : PySem.W.Frag} {mg : Str → Option Value} {base : Heap}
def prGcd : Pr := fun vs H Q => ∃ n m : Int, vs = [.int n, .int m] ∧ 0 ≤ m ∧ Q (.int ((Int.gcd n m : Nat) : Int)) H
theorem ok_gcd {f : Addr} {fd : FuncData} {k : Nat} (F : Fun K "common_divisor" "common_divisor" sGcd f fd) (mb : mg "abs" = none) : FnG P w K mg base (k + 1) f fd ["one", "other"] prGcd := by
  refine okG F scGcd (fun vs H Q h => ?_) (fun cdv A outer s H vs Q hr h => ?_)
  · obtain ⟨_, _, rfl, _⟩ := h
    rfl
  · obtain ⟨n, m, rfl, hm, q⟩ := h
    refine ⟨_, pss_cons (ps_while PassesOwn.never (pt_cmpR op_ne (pv 1) pe_int (nomark _)) (pss_one (ps_par (by rfl) scGcd.nd (i := 0) (j := 1) rfl rfl (by decide) rfl rfl (pa_cons (pv 1) (pa_cons (pe_op op_mod (pv 0) (pv 1)) pa_nil)) (by rfl))))
      (pss_one (ps_ret (pe_callB call_abs (by rfl) mb (by decide +kernel) (pa_cons (pv 0) pa_nil)))), ?_⟩
    refine iSeq ?_
    refine ⟨fun j σ' H' => ∃ x y : Int, σ' = [some (.int x), some (.int y)] ∧ 0 ≤ y ∧ y.natAbs = j ∧ Int.gcd x y = Int.gcd n m ∧ H' = H, ⟨_, n, m, rfl, hm, rfl, rfl, rfl⟩, ?_⟩
    rintro j σ' H' ⟨x, y, rfl, hy, rfl, hg, rfl⟩
    refine ⟨.int y, rfl, rfl, _, rfl, ?_⟩
    by_cases e : y = 0
    · subst e
      refine iteF ?_
      refine ⟨.int x, rfl, x, rfl, ?_⟩
      rw [gcd_abs, hg]
      exact q
    · have e1 : decide (V.int y = V.int 0) = false := decide_eq_false fun z => e (V.int.inj z)
      rw [e1]
      refine iteT ⟨fun σ2 H2 => ∃ x2 y2 : Int, σ2 = [some (.int x2), some (.int y2)] ∧ 0 ≤ y2 ∧ y2.natAbs < y.natAbs ∧ Int.gcd x2 y2 = Int.gcd n m ∧ H2 = H', fun σ2 H2 h => ?_, ?_⟩
      · obtain ⟨x2, y2, h1, h2, h3, h4, h5⟩ := h
        exact ⟨y2.natAbs, h3, x2, y2, h1, h2, rfl, h4, h5⟩
      · have y0 : 0 < y := by omega
        refine ⟨.int y, rfl, .int x, rfl, .int y, rfl, x, y, rfl, rfl, y0, _, _, rfl, ?_⟩
        have l1 := Int.emod_nonneg x e
        have l2 := Int.emod_lt_of_pos x y0
        exact ⟨y, x % y, rfl, l1, by omega, (gcd_step x y).trans hg, rfl⟩
variable {fI fQ fG : Addr} {fdI fdQ fdG : FuncData}
theorem ok_isFrac {f : Addr} {fd : FuncData} {k : Nat} (F : Fun K "is_fraction" "is_fraction" sIsFrac f fd)
    (FQ : Fun K "is_pair" "is_pair" sIsPair fQ fdQ) (bQ : Binds K fdQ ["thing"] []) (gQ : mg "is_pair" = some (.ref fQ)) (GQ : FnG P w K mg base (k + 1) fQ fdQ ["thing"] (prKind isPairD))
    (FI : Fun K "is_integer" "is_integer" sIsInt fI fdI) (bI : Binds K fdI ["thing"] []) (gI : mg "is_integer" = some (.ref fI)) (GI : FnG P w K mg base (k + 1) fI fdI ["thing"] (prKind isIntD))
    (FG : Fun K "common_divisor" "common_divisor" sGcd fG fdG) (bG : Binds K fdG ["one", "other"] []) (gG : mg "common_divisor" = some (.ref fG)) (GG : FnG P w K mg base (k + 1) fG fdG ["one", "other"] prGcd) :
    FnG P w K mg base (k + 2) f fd ["thing"] (prKind isFracD) := by
  refine okG F scIsFrac (fun vs H Q h => ?_) (fun cdv A outer s H vs Q hr h => ?_)
  · obtain ⟨_, _, _, rfl, _⟩ := h
    rfl
  · obtain ⟨v, d, D, rfl, hd, hs, q⟩ := h
    refine ⟨_, pss_cons (ps_if (PW.pt (pw_or (pt_not (pt_val (pe_g GQ hr (by rfl) gQ FQ.kp bQ .nil (pa_cons (pv 0) pa_nil))))
        (pw_or (pt_not (pt_val (pe_g GI hr (by rfl) gI FI.kp bI .nil (pa_cons (pe_ix (ix_tup : IxR _ (rIxT K)) (pv 0) pe_int (fun _ _ => rfl)) pa_nil))))
        (pw_or1 (pt_not (pt_val (pe_g GI hr (by rfl) gI FI.kp bI .nil (pa_cons (pe_ix (ix_tup : IxR _ (rIxT K)) (pv 0) pe_int (fun _ _ => rfl)) pa_nil)))))))) (pss_one (ps_ret pe_bl)) pss_nil)
      (pss_one (ps_ret (pe_and (pe_cmpR op_ge (pe_ix (ix_tup : IxR _ (rIxT K)) (pv 0) pe_int (fun _ _ => rfl)) pe_int (nomark _))
        (pe_one (pe_cmpR op_eq (pe_g GG hr (by rfl) gG FG.kp bG .nil (pa_cons (pe_ix (ix_tup : IxR _ (rIxT K)) (pv 0) pe_int (fun _ _ => rfl)) (pa_cons (pe_ix (ix_tup : IxR _ (rIxT K)) (pv 0) pe_int (fun _ _ => rfl)) pa_nil))) pe_int (nomark _)))))), ?_⟩
    refine iSeq ?_
    refine iIfS (iOr (iNot (iB ⟨v, rfl, v, d, D, rfl, hd, hs, fun H1 s1 => ⟨_, rfl, ?_⟩⟩)))
    cases e : isPairD d with
    | false =>
      refine iteT ?_
      have q' := q H1 s1
      unfold isFracD at q'
      rw [e, Bool.false_and] at q'
      exact q'
    | true =>
      obtain ⟨x, y, rfl⟩ := pair_of e
      obtain ⟨a, p1, p2, rfl, ha, h1, h2⟩ := hd.pair_inv
      obtain ⟨_, sm⟩ := small_tup hs
      have sx : smallD x = true := smallDs_at (i := 0) sm rfl
      have sy : smallD y = true := smallDs_at (i := 1) sm rfl
      refine iteF ?_
      refine iOr (iNot (iB ⟨.ref a, rfl, a, _, 0, p1, rfl, rfl, sqT (s1 _ _ ha), atI_nat (j := 0) rfl, p1, x, D, rfl, h1.keep (KeepD.of s1), sx, fun H2 s2 => ⟨_, rfl, ?_⟩⟩))
      have s12 := s1.trans s2
      cases e2 : isIntD x with
      | false =>
        refine iteT ?_
        have q' := q H2 s12
        unfold isFracD at q'
        rw [itemD0, e2, Bool.false_and, Bool.and_false] at q'
        exact q'
      | true =>
        refine iteF ?_
        refine iNot (iB ⟨.ref a, rfl, a, _, 1, p2, rfl, rfl, sqT (s12 _ _ ha), atI_nat (j := 1) rfl, p2, y, D, rfl, h2.keep (KeepD.of s12), sy, fun H3 s3 => ⟨_, rfl, ?_⟩⟩)
        have s13 := s12.trans s3
        have q' := q H3 s13
        unfold isFracD at q'
        rw [e, itemD0, itemD1, e2, Bool.true_and, Bool.true_and] at q'
        cases e3 : isIntD y with
        | false =>
          refine iteT ?_
          rw [e3, Bool.false_and] at q'
          exact q'
        | true =>
          refine iteF ?_
          obtain ⟨n, rfl⟩ := int_of e2
          obtain ⟨m, rfl⟩ := int_of e3
          obtain rfl := h1.int_inv
          obtain rfl := h2.int_inv
          have q2 : Q (.bl (fracOf n m)) H3 := by
            rw [e3, Bool.true_and] at q'
            exact q'
          unfold fracOf at q2
          refine iNext ?_
          dsimp only
          refine iRet (iAndV ?_)
          refine ⟨.ref a, rfl, a, _, 1, .int m, rfl, rfl, sqT (s13 _ _ ha), atI_nat (j := 1) rfl, m, 1, rfl, rfl, _, rfl, ?_⟩
          refine and_by (fun e4 => ?_) (fun e4 => ?_)
          · have m1 : 1 ≤ m := of_decide_eq_true e4
            refine ⟨.ref a, rfl, a, _, 0, .int n, rfl, rfl, sqT (s13 _ _ ha), atI_nat (j := 0) rfl, .ref a, rfl, a, _, 1, .int m, rfl, rfl, sqT (s13 _ _ ha), atI_nat (j := 1) rfl, n, m, rfl, by omega, rfl, ?_⟩
            rw [decide_eq_true m1, Bool.true_and] at q2
            have e5 : decide (V.int ((Int.gcd n m : Nat) : Int) = V.int 1) = decide (Int.gcd n m = 1) := by
              refine decide_eq_decide.mpr ⟨fun z => ?_, fun z => ?_⟩
              · have := V.int.inj z
                omega
              · rw [z]
                rfl
            show Q (.bl (decide (V.int ((Int.gcd n m : Nat) : Int) = V.int 1))) H3
            rw [e5]
            exact q2
          · rw [decide_eq_false (of_decide_eq_false e4), Bool.false_and] at q2
            exact q2
/-! ### the law's own -/
def prGcdL : Pr := fun vs H Q => ∃ (L : Addr) (n m : Int), vs = [.ref L] ∧ H L = some (.lst [.int n, .int m]) ∧ Q (.int ((Int.gcd n m : Nat) : Int)) H
def gcdTo (n m : Int) : Nat → Nat
  | 0 => 0
  | 1 => n.natAbs
  | _ => Int.gcd n m
theorem ok_gcdL {f : Addr} {fd : FuncData} {k : Nat} (F : Fun K "_law_gcd" "_law_gcd" sGcdL f fd) (mb : mg "abs" = none) : FnG P w K mg base (k + 1) f fd ["_law_some"] prGcdL := by
  refine okG F scGcdL (fun vs H Q h => ?_) (fun cdv A outer s H vs Q hr h => ?_)
  · obtain ⟨_, _, _, rfl, _⟩ := h
    rfl
  · obtain ⟨L, n, m, rfl, hL, q⟩ := h
    refine ⟨_, pss_cons (ps_set (i := 1) scGcdL.nd rfl (.inl rfl) pe_int)
      (pss_cons (ps_for PassesOwn.never rfl (pi_list (pv 0)) (pg_name (i := 2) scGcdL.nd rfl (.inl rfl))
        (pss_cons (ps_par (by rfl) scGcdL.nd (i := 3) (j := 4) rfl rfl (by decide) rfl rfl (pa_cons (pv 1) (pa_cons (pe_callB call_abs (by rfl) mb (by decide +kernel) (pa_cons (pv 2) pa_nil)) pa_nil)) (by rfl))
        (pss_cons (ps_while PassesOwn.never (pt_cmpR op_ne (pv 4) pe_int (nomark _)) (pss_one (ps_par (by rfl) scGcdL.nd (i := 3) (j := 4) rfl rfl (by decide) rfl rfl (pa_cons (pv 4) (pa_cons (pe_op op_mod (pv 3) (pv 4)) pa_nil)) (by rfl))))
        (pss_one (ps_set (i := 1) scGcdL.nd rfl (.inl rfl) (pv 3))))))
      (pss_one (ps_ret (pv 1)))), ?_⟩
    refine iSeq (iAsg (iName ?_))
    dsimp only
    refine iSeq ?_
    refine ⟨.ref L, rfl, L, rfl, ⟨_, sqL hL⟩, ?_⟩
    refine for_list (K := K) (xs := [.int n, .int m]) (fun i σ' H' => (∃ v2 v3 v4, σ' = [some (.ref L), some (.int ((gcdTo n m i : Nat) : Int)), v2, v3, v4]) ∧ H' = H) ⟨⟨none, none, none, rfl⟩, rfl⟩ (fun i σ' H' _ h => by rw [h.2]; exact sqL hL) (fun i x σ' H' hx h => ?_) (fun σ' H' h => ?_)
    · obtain ⟨⟨v2, v3, v4, rfl⟩, rfl⟩ := h
      have hx' : ∃ z : Int, x = .int z ∧ (gcdTo n m (i + 1) : Nat) = Int.gcd ((gcdTo n m i : Nat) : Int) ((Int.gcd z 0 : Nat) : Int) := by
        match i, hx with
        | 0, hx =>
          cases hx
          refine ⟨n, rfl, ?_⟩
          show n.natAbs = Int.gcd ((0 : Nat) : Int) ((Int.gcd n 0 : Nat) : Int)
          rw [Int.gcd_zero_right]
          show n.natAbs = Int.gcd 0 (n.natAbs : Int)
          rw [Int.gcd_zero_left]
          omega
        | 1, hx =>
          cases hx
          refine ⟨m, rfl, ?_⟩
          show Int.gcd n m = Int.gcd ((n.natAbs : Nat) : Int) ((Int.gcd m 0 : Nat) : Int)
          rw [Int.gcd_zero_right]
          rfl
      obtain ⟨z, rfl, hz⟩ := hx'
      refine iName ?_
      refine iSeq ?_
      refine ⟨.int ((gcdTo n m i : Nat) : Int), rfl, .int z, rfl, z, rfl, _, _, rfl, ?_⟩
      rw [gcd_abs]
      dsimp only
      refine iSeq ?_
      refine ⟨fun j σ' H2 => ∃ x y : Int, σ' = [some (.ref L), some (.int ((gcdTo n m i : Nat) : Int)), some (.int z), some (.int x), some (.int y)] ∧ 0 ≤ x ∧ 0 ≤ y ∧ y.natAbs = j ∧ Int.gcd x y = gcdTo n m (i + 1) ∧ H2 = H', ⟨_, _, _, rfl, Int.natCast_nonneg _, Int.natCast_nonneg _, rfl, hz.symm, rfl⟩, ?_⟩
      rintro j σ' H2 ⟨x, y, rfl, hx0, hy, rfl, hg, rfl⟩
      refine ⟨.int y, rfl, rfl, _, rfl, ?_⟩
      by_cases e : y = 0
      · subst e
        refine iteF ?_
        refine ⟨.int x, rfl, ⟨some (.int z), some (.int x), some (.int 0), ?_⟩, rfl⟩
        rw [← hg, Int.gcd_zero_right]
        have : ((x.natAbs : Nat) : Int) = x := by omega
        rw [this]
        rfl
      · have e1 : decide (V.int y = V.int 0) = false := decide_eq_false fun z => e (V.int.inj z)
        rw [e1]
        refine iteT ⟨fun σ2 H2' => ∃ x2 y2 : Int, σ2 = [some (.ref L), some (.int ((gcdTo n m i : Nat) : Int)), some (.int z), some (.int x2), some (.int y2)] ∧ 0 ≤ x2 ∧ 0 ≤ y2 ∧ y2.natAbs < y.natAbs ∧ Int.gcd x2 y2 = gcdTo n m (i + 1) ∧ H2' = H2, fun σ2 H2' h => ?_, ?_⟩
        · obtain ⟨x2, y2, h1, h0, h2, h3, h4, h5⟩ := h
          exact ⟨y2.natAbs, h3, x2, y2, h1, h0, h2, rfl, h4, h5⟩
        · have y0 : 0 < y := by omega
          refine ⟨.int y, rfl, .int x, rfl, .int y, rfl, x, y, rfl, rfl, y0, _, _, rfl, ?_⟩
          have l1 := Int.emod_nonneg x e
          have l2 := Int.emod_lt_of_pos x y0
          exact ⟨y, x % y, rfl, hy, l1, by omega, (gcd_step x y).trans hg, rfl⟩
    · obtain ⟨⟨v2, v3, v4, rfl⟩, rfl⟩ := h
      exact ⟨_, rfl, q⟩
end
end P01
namespace P01
open PySem PySem.Spec PyProof.Rows L2 AskG
abbrev lInt : Stmt := topS 24
abbrev lNum : Stmt := topS 25
abbrev lName : Stmt := topS 26
abbrev lPair : Stmt := topS 27
abbrev lCell : Stmt := topS 28
theorem scLInt : FnScope ["_law_item"] ["_law_item"] (defScope lInt) := ⟨rfl, rfl, rfl, by decide +kernel, rfl, by decide +kernel, by decide +kernel⟩
theorem scLNum : FnScope ["_law_item"] ["_law_item"] (defScope lNum) := ⟨rfl, rfl, rfl, by decide +kernel, rfl, by decide +kernel, by decide +kernel⟩
theorem scLName : FnScope ["_law_item", "_law_sign"] ["_law_item"] (defScope lName) := ⟨rfl, rfl, rfl, by decide +kernel, rfl, by decide +kernel, by decide +kernel⟩
theorem scLPair : FnScope ["_law_item"] ["_law_item"] (defScope lPair) := ⟨rfl, rfl, rfl, by decide +kernel, rfl, by decide +kernel, by decide +kernel⟩
theorem scLCell : FnScope ["_law_item"] ["_law_item"] (defScope lCell) := ⟨rfl, rfl, rfl, by decide +kernel, rfl, by decide +kernel, by decide +kernel⟩
section
variable {P : Program} {w : World} {K : PySem.W.Frag} {mg : Str → Option Value} {base : Heap}
variable {fI fN fM fQ fC fW fR : Addr} {fdI fdN fdM fdQ fdC fdW fdR : FuncData}
theorem ok_lInt {f : Addr} {fd : FuncData} {k : Nat} (F : Fun K "_law_integer" "_law_integer" lInt f fd) (mi : mg "isinstance" = none) (mn : mg "int" = none) (mb : mg "bool" = none) : FnG P w K mg base (k + 1) f fd ["_law_item"] (prKind isIntD) := by
  refine okG F scLInt (fun vs H Q h => ?_) (fun cdv A outer s H vs Q hr h => ?_)
  · obtain ⟨_, _, _, rfl, _⟩ := h
    rfl
  · obtain ⟨v, d, D, rfl, hd, hs, q⟩ := h
    refine ⟨_, pss_one (ps_ret (pe_and (pe_callB call_isi (by rfl) mi (by decide +kernel) (pa_cons (pv 0) (pa_cons (pe_bltn (v := .ty "int") (by rfl) mn (by decide +kernel) rfl) pa_nil)))
      (pe_one (pe_not (pe_callB call_isi (by rfl) mi (by decide +kernel) (pa_cons (pv 0) (pa_cons (pe_bltn (v := .ty "bool") (by rfl) mb (by decide +kernel) rfl) pa_nil))))))), ?_⟩
    refine iRet (iAndV (isi_call (K := K) (i := 0) (a := tyN d) (b := "int") (r := intB d) (x := v) rfl hd.ty (kit_int d) ⟨_, rfl, ?_⟩))
    have q' := q H (Same.refl _)
    refine and_by (fun e => ?_) (fun e => ?_)
    · refine iNotV (isi_call (K := K) (i := 0) (a := tyN d) (b := "bool") (r := boolB d) (x := v) rfl hd.ty (kit_bool d) ⟨_, rfl, ?_⟩)
      unfold isIntD at q'
      rw [e, Bool.true_and] at q'
      exact q'
    · unfold isIntD at q'
      rw [e, Bool.false_and] at q'
      exact q'
theorem ok_lPair {f : Addr} {fd : FuncData} {k : Nat} (F : Fun K "_law_pair" "_law_pair" lPair f fd) (mi : mg "isinstance" = none) (mt : mg "tuple" = none) (ml : mg "len" = none) : FnG P w K mg base (k + 1) f fd ["_law_item"] (prKind isPairD) := by
  refine okG F scLPair (fun vs H Q h => ?_) (fun cdv A outer s H vs Q hr h => ?_)
  · obtain ⟨_, _, _, rfl, _⟩ := h
    rfl
  · obtain ⟨v, d, D, rfl, hd, hs, q⟩ := h
    refine ⟨_, pss_one (ps_ret (pe_and (pe_callB call_isi (by rfl) mi (by decide +kernel) (pa_cons (pv 0) (pa_cons (pe_bltn (v := .ty "tuple") (by rfl) mt (by decide +kernel) rfl) pa_nil)))
      (pe_one (pe_cmpR op_eq (pe_callB call_len_seq (by rfl) ml PySem.boot_len (pa_cons (pv 0) pa_nil)) pe_int (nomark _))))), ?_⟩
    refine iRet (iAndV (isi_call (K := K) (i := 0) (a := tyN d) (b := "tuple") (r := tupB d) (x := v) rfl hd.ty (kit_tup d) ⟨_, rfl, ?_⟩))
    have q' := q H (Same.refl _)
    refine and_by (fun e => ?_) (fun e => ?_)
    · cases d with
      | tuple ds =>
        obtain ⟨a, xs, rfl, ha, t⟩ := hd.tup_inv
        refine ⟨.ref a, rfl, a, _, rfl, .inr (sqT ha), rfl, ?_⟩
        have e2 : decide (V.int (xs.length : Int) = V.int 2) = decide (ds.length = 2) := by
          rw [← t.len]
          refine decide_eq_decide.mpr ⟨fun z => ?_, fun z => ?_⟩
          · have := V.int.inj z
            omega
          · rw [z]
            rfl
        show Q (.bl (decide (V.int (xs.length : Int) = V.int 2))) H
        rw [e2]
        exact q'
      | _ => cases e
    · cases d with
      | tuple ds => cases e
      | _ => exact q'
theorem ok_lNum {f : Addr} {fd : FuncData} {k : Nat} (F : Fun K "_law_number" "_law_number" lNum f fd) (FI : Fun K "_law_integer" "_law_integer" lInt fI fdI) (bI : Binds K fdI ["_law_item"] []) (gI : mg "_law_integer" = some (.ref fI)) (GI : FnG P w K mg base (k + 1) fI fdI ["_law_item"] (prKind isIntD)) : FnG P w K mg base (k + 2) f fd ["_law_item"] (prKind isNumD) := by
  refine okG F scLNum (fun vs H Q h => ?_) (fun cdv A outer s H vs Q hr h => ?_)
  · obtain ⟨_, _, _, rfl, _⟩ := h
    rfl
  · obtain ⟨v, d, D, rfl, hd, hs, q⟩ := h
    refine ⟨_, pss_one (ps_ret (pe_and (pe_g GI hr (by rfl) gI FI.kp bI .nil (pa_cons (pv 0) pa_nil)) (pe_one (pe_cmpR op_ge (pv 0) pe_int (nomark _))))), ?_⟩
    refine iRet (iAndV ⟨v, rfl, v, d, D, rfl, hd, hs, fun H' sm => ⟨_, rfl, ?_⟩⟩)
    have q' := q H' sm
    refine and_by (fun e => ?_) (fun e => ?_)
    · obtain ⟨i, rfl⟩ := int_of e
      obtain rfl := hd.int_inv
      exact ⟨.int i, rfl, i, 0, rfl, rfl, q'⟩
    · unfold isNumD at q'
      rw [e, Bool.false_and] at q'
      exact q'
theorem ok_lCell {f : Addr} {fd : FuncData} {k : Nat} (F : Fun K "_law_cell" "_law_cell" lCell f fd)
    (FQ : Fun K "_law_pair" "_law_pair" lPair fQ fdQ) (bQ : Binds K fdQ ["_law_item"] []) (gQ : mg "_law_pair" = some (.ref fQ)) (GQ : FnG P w K mg base (k + 1) fQ fdQ ["_law_item"] (prKind isPairD))
    (FM : Fun K "_law_name" "_law_name" lName fM fdM) (bM : Binds K fdM ["_law_item"] []) (gM : mg "_law_name" = some (.ref fM)) (GM : FnG P w K mg base (k + 1) fM fdM ["_law_item"] (prKind isNameD))
    (FN : Fun K "_law_number" "_law_number" lNum fN fdN) (bN : Binds K fdN ["_law_item"] []) (gN : mg "_law_number" = some (.ref fN)) (GN : FnG P w K mg base (k + 2) fN fdN ["_law_item"] (prKind isNumD)) : FnG P w K mg base (k + 3) f fd ["_law_item"] (prKind isCellD) := by
  refine okG F scLCell (fun vs H Q h => ?_) (fun cdv A outer s H vs Q hr h => ?_)
  · obtain ⟨_, _, _, rfl, _⟩ := h
    rfl
  · obtain ⟨v, d, D, rfl, hd, hs, q⟩ := h
    have hr1 : RG (k + 1) (A.deeper (envOfC "_law_cell" (defScope lCell) s.heap.objs.size f cdv)) := hr.mono (by omega)
    refine ⟨_, pss_one (ps_ret (pe_and (pe_g GQ hr1 (by rfl) gQ FQ.kp bQ .nil (pa_cons (pv 0) pa_nil)) (pe_and (pe_g GM hr1 (by rfl) gM FM.kp bM .nil (pa_cons (pe_ix (ix_tup : IxR _ (rIxT K)) (pv 0) pe_int (fun _ _ => rfl)) pa_nil))
      (pe_one (pe_g GN hr (by rfl) gN FN.kp bN .nil (pa_cons (pe_ix (ix_tup : IxR _ (rIxT K)) (pv 0) pe_int (fun _ _ => rfl)) pa_nil)))))), ?_⟩
    refine iRet (iAndV ⟨v, rfl, v, d, D, rfl, hd, hs, fun H1 s1 => ⟨_, rfl, ?_⟩⟩)
    refine and_by (fun e => ?_) (fun e => ?_)
    · obtain ⟨x, y, rfl⟩ := pair_of e
      obtain ⟨a, p1, p2, rfl, ha, h1, h2⟩ := hd.pair_inv
      obtain ⟨_, sm⟩ := small_tup hs
      have sx : smallD x = true := smallDs_at (i := 0) sm rfl
      have sy : smallD y = true := smallDs_at (i := 1) sm rfl
      refine iAndV ⟨.ref a, rfl, a, _, 0, p1, rfl, rfl, sqT (s1 _ _ ha), atI_nat (j := 0) rfl, p1, x, D, rfl, h1.keep (KeepD.of s1), sx, fun H2 s2 => ⟨_, rfl, ?_⟩⟩
      have s12 := s1.trans s2
      refine and_by (fun e2 => ?_) (fun e2 => ?_)
      · refine ⟨.ref a, rfl, a, _, 1, p2, rfl, rfl, sqT (s12 _ _ ha), atI_nat (j := 1) rfl, p2, y, D, rfl, h2.keep (KeepD.of s12), sy, fun H3 s3 => ?_⟩
        have q' := q H3 (s12.trans s3)
        unfold isCellD at q'
        rw [e, itemD0, itemD1, e2, Bool.true_and, Bool.true_and] at q'
        exact q'
      · have q' := q H2 s12
        unfold isCellD at q'
        rw [itemD0, e2, Bool.false_and, Bool.and_false] at q'
        exact q'
    · have q' := q H1 s1
      unfold isCellD at q'
      rw [e, Bool.false_and] at q'
      exact q'
/-- the signs that are no lowercase letters -/
def oddS (z : Str) : List Nat := z.cps.toList.filter fun n => !(decide (97 ≤ n) && decide (n ≤ 122))
def one (n : Nat) : Str := ⟨#[n]⟩
theorem letters_are : ∀ n : Nat, n ∈ lettersD.cps.toList ↔ 97 ≤ n ∧ n ≤ 122 := by
  intro n
  have e : lettersD.cps.toList = [97, 98, 99, 100, 101, 102, 103, 104, 105, 106, 107, 108, 109, 110, 111, 112, 113, 114, 115, 116, 117, 118, 119, 120, 121, 122] := by decide +kernel
  rw [e]
  constructor
  · intro h
    simp only [List.mem_cons, List.not_mem_nil, or_false] at h
    omega
  · intro h
    simp only [List.mem_cons, List.not_mem_nil, or_false]
    omega
theorem odd_none {z : Str} (l1 : 1 ≤ z.length) (l2 : z.length ≤ 8) : nameS z = (oddS z).isEmpty := by
  unfold nameS oddS
  rw [decide_eq_true l1, decide_eq_true l2, Bool.true_and, Bool.true_and]
  rw [Bool.eq_iff_iff, List.all_eq_true, List.isEmpty_iff, List.filter_eq_nil_iff]
  refine forall_congr' fun n => imp_congr_right fun _ => ?_
  rw [decide_eq_true_iff, letters_are n]
  cases h1 : decide (97 ≤ n) <;> cases h2 : decide (n ≤ 122) <;> simp_all
end
end P01
namespace P01
open PySem PySem.Spec PyProof.Rows L2 AskG
/-! cell <= cell -/
def rLeC : R2 := fun x y H Q => ∃ (a b : Addr) (c d : Cell), x = .ref a ∧ y = .ref b ∧ CellAt H a c ∧ CellAt H b d ∧ Q (.bl (!ltC d c)) H
theorem op_leC {X : Cx} (hu : X.A.units < cLine) : OpR X (compareOp .LtE) rLeC := by
  intro pins s σ H x y v u Q I rx ry h
  obtain ⟨a, b, c, d, rfl, rfl, ha, hb, q⟩ := h
  cases rx
  cases ry
  obtain ⟨a', t, t', e, ht⟩ := isCl_of I.hok ha
  cases e
  obtain ⟨b', u, u', e, hu2⟩ := isCl_of I.hok hb
  cases e
  have R := Ob.RcOp.tuples_le (A := X.A) (s := s) (e := fun j => if j = 0 then c.1 == d.1 else c.2 == d.2)
    (r := fun j => if j = 0 then !decide (d.1.cps.toList < c.1.cps.toList) else decide (c.2 ≤ d.2)) ht hu2 hu
    (fun j h1 h2 => by
      have h1 : j < 2 := h1
      match j, h1 with
      | 0, _ => exact SeqAt.EqAt.str_str c.1 t d.1 u
      | 1, _ => exact SeqAt.EqAt.int_int c.2 t' d.2 u')
    (fun j h1 h2 _ => by
      have h1 : j < 2 := h1
      match j, h1 with
      | 0, _ => exact fun _ _ _ _ h => PySem.P.le_str h
      | 1, _ => exact fun _ _ _ _ h => PyProof.Rows.le_int h)
  have e : Ob.lexAt (fun j => if j = 0 then c.1 == d.1 else c.2 == d.2) (fun j => if j = 0 then !decide (d.1.cps.toList < c.1.cps.toList) else decide (c.2 ≤ d.2)) (decide (2 ≤ 2)) 0 (min 2 2) = !ltC d c := by
    show (if (c.1 == d.1) = true then (if (c.2 == d.2) = true then decide (2 ≤ 2) else decide (c.2 ≤ d.2)) else !decide (d.1.cps.toList < c.1.cps.toList)) = !ltC d c
    unfold ltC
    by_cases e1 : c.1 = d.1
    · rw [if_pos (beq_iff_eq.mpr e1), if_pos e1.symm]
      by_cases e2 : c.2 = d.2
      · rw [if_pos (beq_iff_eq.mpr e2), e2, decide_eq_false (Int.lt_irrefl _)]
        rfl
      · rw [if_neg fun z => e2 (beq_iff_eq.mp z)]
        by_cases e3 : c.2 ≤ d.2
        · rw [decide_eq_true e3, decide_eq_false (by omega : ¬ d.2 < c.2)]
          rfl
        · rw [decide_eq_false e3, decide_eq_true (by omega : d.2 < c.2)]
          rfl
    · rw [if_neg fun z => e1 (beq_iff_eq.mp z), if_neg (fun z => e1 z.symm)]
  have R2 : Ob.RcOp .LtE X.A s (.ref a) (.ref b) (!ltC d c) := by
    rw [← e]
    exact R
  have z : wpAny (model X.prog X.w) X.A (compareOp .LtE (.ref a) (.ref b)) (EP X pins σ Q) X.xe s :=
    R2 X.prog X.w X.xe (EP X pins σ Q) ⟨.bl _, H, I, rfl, q⟩
  exact z
section
variable {P : Program} {w : World} {K : PySem.W.Frag} {mg : Str → Option Value} {base : Heap}
theorem eqv_nil (l : List PyData) : PyData.eqv (.list l) (.list []) = l.isEmpty := by
  cases l <;> rfl
/-- l == [] -/
theorem eq_empty {H : Hp} {L E : Addr} {l : List PyData} {Q : VK} (h : Dp K H (.ref L) (.list l)) (hs : SeqAt.shaped (.list l) = true) (hE : H E = some (.lst [])) (q : Q (.bl l.isEmpty) H) : rEqD K (.ref L) (.ref E) H Q := by
  refine ⟨.list l, .list [], h, .lst (sqL hE) .nil, hs, shaped_nil, ?_⟩
  rw [eqv_nil]
  exact q
theorem dp_strs {H : Hp} : ∀ l : List Nat, DpAll K H (l.map fun n => V.str (one n)) (l.map fun n => PyData.str (one n))
  | [] => .nil
  | n :: l => .cons (.str _) (dp_strs l)
theorem shaped_strs {l : List Nat} (h : ∀ n ∈ l, n < 0x110000) : SeqAt.shaped (.list (l.map fun n => PyData.str (one n))) = true := by
  have h1 : PyData.canLayAll0 (l.map fun n => PyData.str (one n)) = true := can_all fun n hn => by
    show (#[n] : Array Nat).all (· < 0x110000) = true
    simp [h n hn]
  have h2 : PyData.depthAll (l.map fun n => PyData.str (one n)) ≤ 0 := depth_all fun n _ => Nat.le_refl 0
  show (PyData.canLayAll0 (l.map fun n => PyData.str (one n)) && decide (PyData.depthAll (l.map fun n => PyData.str (one n)) + 1 ≤ 64)) = true
  rw [h1, decide_eq_true (by omega)]
  rfl
theorem ok_lName {f : Addr} {fd : FuncData} {k : Nat} (F : Fun K "_law_name" "_law_name" lName f fd) (mi : mg "isinstance" = none) (mst : mg "str" = none) (ml : mg "len" = none) (mo : mg "ord" = none) : FnG P w K mg base (k + 1) f fd ["_law_item"] (prKind isNameD) := by
  refine okG F scLName (fun vs H Q h => ?_) (fun cdv A outer s H vs Q hr h => ?_)
  · obtain ⟨_, _, _, rfl, _⟩ := h
    rfl
  · obtain ⟨v, d, D, rfl, hd, hs, q⟩ := h
    have hun := hr.room.units
    refine ⟨_, pss_cons (ps_if (PW.pt (pw_or (pt_not (pt_val (pe_callB call_isi (by rfl) mi (by decide +kernel) (pa_cons (pv 0) (pa_cons (pe_bltn (v := .ty "str") (by rfl) mst (by decide +kernel) rfl) pa_nil)))))
        (pw_or1 (pt_not (pt_chain op_lt op_lt pe_int (pe_callB call_len_str (by rfl) ml PySem.boot_len (pa_cons (pv 0) pa_nil)) pe_int))))) (pss_one (ps_ret pe_bl)) pss_nil)
      (pss_one (ps_ret (pe_cmpR (op_eqD hun) (pe_lc (own := [("_law_sign", 1)]) (g := gName 1) rfl scLName.nd (pi_str (pv 0)) (blkOk_by (N := ["_law_item", "_law_sign"]) (sc := defScope lName) (by decide +kernel))
        (fun _ _ _ _ _ => pg_name (i := 1) scLName.nd rfl (.inl rfl)) (fun _ _ _ _ _ => pts_one (pt_not (pt_chain op_le op_le pe_int (pe_callB call_ord (by rfl) mo (by decide +kernel) (pa_cons (pv 1) pa_nil)) pe_int))) (fun _ _ _ _ _ => pv 1)) (pe_lst pa_nil) (nomark _)))), ?_⟩
    have big := sizeBig
    refine iSeq ?_
    refine iIfS (iOr (iNot (iB (isi_call (K := K) (i := 0) (a := tyN d) (b := "str") (r := strB d) (x := v) rfl hd.ty (kit_str d) ⟨_, rfl, ?_⟩))))
    cases d with
    | str z =>
      obtain rfl := hd.str_inv
      have hz := small_str hs
      refine iteF ?_
      refine iNot ⟨.str z, rfl, z, rfl, by omega, 0, _, rfl, rfl, _, rfl, ?_⟩
      have q0 : ∀ H', Same H H' → nameS z = false → Q (.bl false) H' := fun H' sm e => by
        have h : Q (.bl (nameS z)) H' := q H' sm
        rw [e] at h
        exact h
      refine and_by (fun e1 => ?_) (fun e1 => ?_)
      · refine ⟨_, 9, rfl, rfl, _, rfl, ?_⟩
        have l1 : 1 ≤ z.length := by
          have := of_decide_eq_true e1
          omega
        by_cases l2 : z.length ≤ 8
        · rw [decide_eq_true (by omega : ((z.length : Nat) : Int) < 9)]
          refine iteF ?_
          refine iNext ?_
          dsimp only
          refine iRet (iOp ?_)
          refine ⟨.str z, rfl, z, rfl, fun L hL => ?_⟩
          have sz : z.cps.size ≤ 8 := l2
          refine lc_it (walk_str (z := z)) (fun i H' => Same H H' ∧ H' L = some (.lst (((z.cps.toList.take i).filter fun n => !(decide (97 ≤ n) && decide (n ≤ 122))).map fun n => V.str (one n)))) ⟨same_new hL, upd_same⟩ (fun _ _ _ _ => trivial) (fun i x H' H2 hi h hy => ?_) (fun H' h => ?_)
          · obtain ⟨rfl, n, hn, rfl⟩ := hy
            have hn' : z.cps.toList[i]? = some n := by
              rw [Array.getElem?_toList]
              exact hn
            have et : (z.cps.toList.take (i + 1)).filter (fun n => !(decide (97 ≤ n) && decide (n ≤ 122))) = (z.cps.toList.take i).filter (fun n => !(decide (97 ≤ n) && decide (n ≤ 122))) ++ [n].filter (fun n => !(decide (97 ≤ n) && decide (n ≤ 122))) := by
              rw [List.take_add_one, hn', List.filter_append]
              rfl
            refine ⟨wipe1, iNot ⟨_, rfl, ⟨#[n]⟩, rfl, rfl, 97, _, rfl, rfl, _, rfl, ?_⟩⟩
            have keepC : (!(decide (97 ≤ n) && decide (n ≤ 122))) = true → ∃ acc, H2 L = some (.lst acc) ∧ acc.length < sizeLine ∧ (Same H (upd H2 L (.lst (acc ++ [V.str (one n)]))) ∧ (upd H2 L (.lst (acc ++ [V.str (one n)]))) L = some (.lst (((z.cps.toList.take (i + 1)).filter fun n => !(decide (97 ≤ n) && decide (n ≤ 122))).map fun n => V.str (one n)))) := fun e => by
              refine ⟨_, h.2, ?_, fun b o eo => ?_, ?_⟩
              · rw [List.length_map]
                have := List.length_filter_le (fun n => !(decide (97 ≤ n) && decide (n ≤ 122))) (z.cps.toList.take i)
                rw [List.length_take] at this
                omega
              · rw [upd_ne (ne_of_none eo hL)]
                exact h.1 _ _ eo
              · rw [upd_same, et, List.filter_cons, if_pos e, List.map_append]
                rfl
            have dropC : (!(decide (97 ≤ n) && decide (n ≤ 122))) = false → Same H H2 ∧ H2 L = some (.lst (((z.cps.toList.take (i + 1)).filter fun n => !(decide (97 ≤ n) && decide (n ≤ 122))).map fun n => V.str (one n))) := fun e => by
              refine ⟨h.1, ?_⟩
              rw [et, List.filter_cons, if_neg (by rw [e]; exact Bool.noConfusion)]
              rw [List.filter_nil, List.append_nil]
              exact h.2
            show if decide ((97 : Int) ≤ ((n : Nat) : Int)) = true then _ else _
            by_cases a1 : 97 ≤ n
            · rw [decide_eq_true (by omega : (97 : Int) ≤ ((n : Nat) : Int))]
              by_cases a2 : n ≤ 122
              · refine iteT ⟨_, 122, rfl, rfl, true, ?_, iteF (dropC (by rw [decide_eq_true a1, decide_eq_true a2]; rfl))⟩
                show V.bl (decide (((n : Nat) : Int) ≤ 122)) = V.bl true
                rw [decide_eq_true (by omega : ((n : Nat) : Int) ≤ 122)]
              · refine iteT ⟨_, 122, rfl, rfl, false, ?_, iteT ⟨_, rfl, keepC (by rw [decide_eq_false a2, Bool.and_false]; rfl)⟩⟩
                show V.bl (decide (((n : Nat) : Int) ≤ 122)) = V.bl false
                rw [decide_eq_false (by omega : ¬ ((n : Nat) : Int) ≤ 122)]
            · rw [decide_eq_false (by omega : ¬ (97 : Int) ≤ ((n : Nat) : Int))]
              exact iteF ⟨false, rfl, iteT ⟨_, rfl, keepC (by rw [decide_eq_false a1, Bool.false_and]; rfl)⟩⟩
          · have e3 : z.cps.toList.take z.cps.size = z.cps.toList := by
              rw [← Array.length_toList]
              exact List.take_length
            have h2 : H' L = some (.lst ((oddS z).map fun n => V.str (one n))) := by
              have := h.2
              rw [e3] at this
              exact this
            refine ⟨Nat.zero_le _, fun E hE => ?_⟩
            have sE := same_new (o := .lst []) hE
            have lay := small_strOk hs
            refine eq_empty (l := (oddS z).map fun n => PyData.str (one n)) (.lst (sqL (sE _ _ h2)) (dp_strs _)) (shaped_strs fun n hn => ?_) upd_same ?_
            · have hm : n ∈ z.cps.toList := (List.mem_filter.mp hn).1
              have := Array.all_eq_true'.mp lay n (Array.mem_toList_iff.mp hm)
              exact of_decide_eq_true this
            · have e5 : ((oddS z).map fun n => PyData.str (one n)).isEmpty = nameS z := by
                rw [odd_none l1 l2]
                cases oddS z <;> rfl
              rw [e5]
              exact q _ (h.1.trans sE)
        · rw [decide_eq_false (by omega : ¬ ((z.length : Nat) : Int) < 9)]
          refine iteT ?_
          refine q0 _ (Same.refl _) ?_
          unfold nameS
          rw [decide_eq_false l2, Bool.and_false, Bool.false_and]
      · refine ⟨false, rfl, iteT (q0 _ (Same.refl _) ?_)⟩
        unfold nameS
        have l1 : ¬ 1 ≤ z.length := by
          have := of_decide_eq_false e1
          omega
        rw [decide_eq_false l1, Bool.false_and, Bool.false_and]
    | _ => exact iteT (q H (Same.refl _))
end
end P01
namespace P01
open PySem PySem.Spec PyProof.Rows L2 AskG
abbrev lWt : Stmt := topS 29
abbrev lRows : Stmt := topS 30
abbrev lRatio : Stmt := topS 31
theorem scLWt : FnScope ["_law_item", "_law_pair_here", "_law_k"] ["_law_item"] (defScope lWt) := ⟨rfl, rfl, rfl, by decide +kernel, rfl, by decide +kernel, by decide +kernel⟩
theorem scLRows : FnScope ["_law_item", "_law_line_here"] ["_law_item"] (defScope lRows) := ⟨rfl, rfl, rfl, by decide +kernel, rfl, by decide +kernel, by decide +kernel⟩
theorem scLRatio : FnScope ["_law_item"] ["_law_item"] (defScope lRatio) := ⟨rfl, rfl, rfl, by decide +kernel, rfl, by decide +kernel, by decide +kernel⟩
theorem asc_is (cs : List Cell) : ascD cs = ((List.range (cs.length - 1)).filter fun j => !ltAt cs j).isEmpty := by
  unfold ascD
  rw [Bool.eq_iff_iff, List.isEmpty_iff, List.filter_eq_nil_iff, List.all_eq_true]
  constructor
  · intro h j hj
    have := h (ltAt cs j) (List.mem_map_of_mem hj)
    rw [show ltAt cs j = true from this]
    exact Bool.noConfusion
  · intro h b hb
    obtain ⟨j, hj, rfl⟩ := List.mem_map.mp hb
    have := h j hj
    cases e : ltAt cs j with
    | true => rfl
    | false =>
      rw [e] at this
      exact absurd rfl this
theorem not_all {ds : List PyData} {d : PyData} {f : PyData → Bool} (h : d ∈ ds) (e : f d = false) : ds.all f = false := by
  cases g : ds.all f with
  | false => rfl
  | true =>
    have := List.all_eq_true.mp g d h
    rw [e] at this
    cases this
section
variable {P : Program} {w : World} {K : PySem.W.Frag} {mg : Str → Option Value} {base : Heap}
variable {fI fN fM fQ fC fW fR fG : Addr} {fdI fdN fdM fdQ fdC fdW fdR fdG : FuncData}
theorem ok_lWt {f : Addr} {fd : FuncData} {k : Nat} (F : Fun K "_law_weighted" "_law_weighted" lWt f fd)
    (FQ : Fun K "_law_pair" "_law_pair" lPair fQ fdQ) (bQ : Binds K fdQ ["_law_item"] []) (gQ : mg "_law_pair" = some (.ref fQ)) (GQ : FnG P w K mg base (k + 1) fQ fdQ ["_law_item"] (prKind isPairD))
    (FC : Fun K "_law_cell" "_law_cell" lCell fC fdC) (bC : Binds K fdC ["_law_item"] []) (gC : mg "_law_cell" = some (.ref fC)) (GC : FnG P w K mg base (k + 3) fC fdC ["_law_item"] (prKind isCellD))
    (FI : Fun K "_law_integer" "_law_integer" lInt fI fdI) (bI : Binds K fdI ["_law_item"] []) (gI : mg "_law_integer" = some (.ref fI)) (GI : FnG P w K mg base (k + 1) fI fdI ["_law_item"] (prKind isIntD))
    (mi : mg "isinstance" = none) (mt : mg "tuple" = none) (ml : mg "len" = none) (mr : mg "range" = none) : FnG P w K mg base (k + 4) f fd ["_law_item"] (prKind isRowD) := by
  refine okG F scLWt (fun vs H Q h => ?_) (fun cdv A outer s H vs Q hr h => ?_)
  · obtain ⟨_, _, _, rfl, _⟩ := h
    rfl
  · obtain ⟨v, d, D, rfl, hd, hs, q⟩ := h
    have hu := hr.room.units0
    have hun := hr.room.units
    have hr1 : RG (k + 1) (A.deeper (envOfC "_law_weighted" (defScope lWt) s.heap.objs.size f cdv)) := hr.mono (by omega)
    refine ⟨_, pss_cons (ps_if (pt_not (pt_val (pe_callB call_isi (by rfl) mi (by decide +kernel) (pa_cons (pv 0) (pa_cons (pe_bltn (v := .ty "tuple") (by rfl) mt (by decide +kernel) rfl) pa_nil))))) (pss_one (ps_ret pe_bl)) pss_nil)
      (pss_cons (ps_for PassesOwn.never rfl (pi_tup (pv 0)) (pg_name (i := 1) scLWt.nd rfl (.inl rfl))
        (pss_one (ps_if (PW.pt (pw_or (pt_not (pt_val (pe_g GQ hr1 (by rfl) gQ FQ.kp bQ .nil (pa_cons (pv 1) pa_nil))))
          (pw_or (pt_not (pt_val (pe_g GC hr (by rfl) gC FC.kp bC .nil (pa_cons (pe_ix (ix_tup : IxR _ (rIxT K)) (pv 1) pe_int (fun _ _ => rfl)) pa_nil))))
          (pw_or (pt_not (pt_val (pe_g GI hr1 (by rfl) gI FI.kp bI .nil (pa_cons (pe_ix (ix_tup : IxR _ (rIxT K)) (pv 1) pe_int (fun _ _ => rfl)) pa_nil))))
          (pw_or1 (pt_cmpR op_eq (pe_ix (ix_tup : IxR _ (rIxT K)) (pv 1) pe_int (fun _ _ => rfl)) pe_int (nomark _))))))) (pss_one (ps_ret pe_bl)) pss_nil)))
      (pss_one (ps_ret (pe_cmpR (op_eqD hun) (pe_lc (own := [("_law_k", 2)]) (g := gName 2) rfl scLWt.nd (pi_range2 rfl mr (pa_cons pe_int (pa_cons (pe_callB call_len_seq (by rfl) ml PySem.boot_len (pa_cons (pv 0) pa_nil)) pa_nil)))
        (blkOk_by (N := ["_law_item", "_law_pair_here", "_law_k"]) (sc := defScope lWt) (by decide +kernel)) (fun _ _ _ _ _ => pg_name (i := 2) scLWt.nd rfl (.inl rfl))
        (fun _ _ _ _ _ => pts_one (pt_cmpR (op_leC hu) (pe_ix (ix_tup : IxR _ (rIxT K)) (pe_ix (ix_tup : IxR _ (rIxT K)) (pv 0) (pv 2) (fun _ _ => rfl)) pe_int (fun _ _ => rfl)) (pe_ix (ix_tup : IxR _ (rIxT K)) (pe_ix (ix_tup : IxR _ (rIxT K)) (pv 0) (pe_op op_sub (pv 2) pe_int) (fun _ _ => rfl)) pe_int (fun _ _ => rfl)) (nomark _)))
        (fun _ _ _ _ _ => pv 2)) (pe_lst pa_nil) (nomark _))))), ?_⟩
    have big := sizeBig
    refine iSeq ?_
    refine iIfS (iNot (iB (isi_call (K := K) (i := 0) (a := tyN d) (b := "tuple") (r := tupB d) (x := v) rfl hd.ty (kit_tup d) ⟨_, rfl, ?_⟩)))
    cases d with
    | tuple ds =>
      obtain ⟨a, xs, rfl, ha, hds⟩ := hd.tup_inv
      obtain ⟨sl, sds⟩ := small_tup hs
      have xl := hds.len
      refine iteF ?_
      refine iNext ?_
      dsimp only
      refine iSeq ?_
      refine ⟨.ref a, rfl, a, rfl, ⟨_, sqT ha⟩, ?_⟩
      refine for_tup (K := K) (xs := xs) (fun i σ' H' => (∃ v1, σ' = [some (.ref a), v1, none]) ∧ Same H H' ∧ (ds.take i).all isWtD = true) ⟨⟨none, rfl⟩, Same.refl _, rfl⟩ (fun i σ' H' _ h => sqT (h.2.1 _ _ ha)) (fun i x σ' H' hx h => ?_) (fun σ' H' h => ?_)
      · obtain ⟨⟨v1, rfl⟩, sm, hall⟩ := h
        obtain ⟨d, hdi, hdx⟩ := hds.at hx
        have dm : d ∈ ds := List.mem_of_getElem? hdi
        have sd := smallDs_at sds hdi
        have q0 : ∀ H'', Same H H'' → isWtD d = false → Q (.bl false) H'' := fun H'' s2 e => by
          have q' : Q (.bl (ds.all isWtD && ascD (keys (rowOfD ds)))) H'' := q H'' s2
          rw [not_all dm e, Bool.false_and] at q'
          exact q'
        refine iName ?_
        refine iIfS (iOr (iNot (iB ⟨x, rfl, x, d, D, rfl, hdx.keep (KeepD.of sm), sd, fun H1 s1 => ⟨_, rfl, ?_⟩⟩)))
        have t1 := sm.trans s1
        cases e : isPairD d with
        | false =>
          refine iteT (q0 H1 t1 ?_)
          unfold isWtD
          rw [e, Bool.false_and]
        | true =>
          obtain ⟨y, z, rfl⟩ := pair_of e
          obtain ⟨b, p1, p2, rfl, hb, h1, h2⟩ := hdx.pair_inv
          obtain ⟨_, ssm⟩ := small_tup sd
          have sy : smallD y = true := smallDs_at (i := 0) ssm rfl
          have sz : smallD z = true := smallDs_at (i := 1) ssm rfl
          refine iteF ?_
          refine iOr (iNot (iB ⟨.ref b, rfl, b, _, 0, p1, rfl, rfl, sqT (t1 _ _ hb), atI_nat (j := 0) rfl, p1, y, D, rfl, h1.keep (KeepD.of t1), sy, fun H2 s2 => ⟨_, rfl, ?_⟩⟩))
          have t2 := t1.trans s2
          cases e2 : isCellD y with
          | false =>
            refine iteT (q0 H2 t2 ?_)
            unfold isWtD
            rw [itemD0, e2, Bool.false_and, Bool.and_false]
          | true =>
            refine iteF ?_
            refine iOr (iNot (iB ⟨.ref b, rfl, b, _, 1, p2, rfl, rfl, sqT (t2 _ _ hb), atI_nat (j := 1) rfl, p2, z, D, rfl, h2.keep (KeepD.of t2), sz, fun H3 s3 => ⟨_, rfl, ?_⟩⟩))
            have t3 := t2.trans s3
            cases e3 : isIntD z with
            | false =>
              refine iteT (q0 H3 t3 ?_)
              unfold isWtD
              rw [itemD1, e3, Bool.false_and, Bool.and_false, Bool.and_false]
            | true =>
              refine iteF ?_
              obtain ⟨j, rfl⟩ := int_of e3
              obtain rfl := h2.int_inv
              refine ⟨.ref b, rfl, b, _, 1, .int j, rfl, rfl, sqT (t3 _ _ hb), atI_nat (j := 1) rfl, rfl, _, rfl, ?_⟩
              by_cases z0 : j = 0
              · subst z0
                refine iteT (q0 H3 t3 ?_)
                unfold isWtD
                rw [itemD1]
                show (_ && (_ && (_ && false))) = false
                rw [Bool.and_false, Bool.and_false, Bool.and_false]
              · have e4 : decide (V.int j = V.int 0) = false := decide_eq_false fun w => z0 (V.int.inj w)
                rw [e4]
                refine iteF ⟨⟨_, rfl⟩, t3, ?_⟩
                have wt : isWtD (.tuple [y, .int j]) = true := by
                  unfold isWtD
                  rw [e, itemD0, itemD1, e2, e3]
                  show (true && (true && (true && decide (j ≠ 0)))) = true
                  rw [decide_eq_true z0]
                  rfl
                rw [List.take_add_one, hdi, List.all_append, hall]
                show (true && (isWtD (.tuple [y, .int j]) && true)) = true
                rw [wt]
                rfl
      · obtain ⟨⟨v1, rfl⟩, sm, hall⟩ := h
        dsimp only
        rw [xl, List.take_length] at hall
        obtain ⟨ps, rfl, hp⟩ := row_of hds hall
        have q1 : ∀ H', Same H H' → Q (.bl (ascD (keys (rowOfD ds)))) H' := fun H' sm => by
          have q' : Q (.bl (ds.all isWtD && ascD (keys (rowOfD ds)))) H' := q H' sm
          rw [hall, Bool.true_and] at q'
          exact q'
        have pl : ps.length = (rowOfD ds).length := Paired.length hp
        have rl : (rowOfD ds).length = ds.length := List.length_map _
        generalize rowOfD ds = ρ at hp q1 pl rl
        have kl : (keys ρ).length = ps.length := (List.length_map _).trans pl.symm
        refine iRet (iOp ?_)
        refine ⟨.ref a, rfl, a, _, rfl, .inr (sqT (sm _ _ ha)), 1, ((ps.map V.ref).length : Int), rfl, ⟨by decide, by decide, by omega, by rw [List.length_map]; omega⟩, fun L hL => ?_⟩
        have en : (((ps.map V.ref).length : Int) - 1).toNat = (keys ρ).length - 1 := by
          rw [List.length_map, kl]
          omega
        rw [en]
        refine lc_range (lo := 1) (n := (keys ρ).length - 1) (fun i H2 => Same H' H2 ∧ H2 L = some (.lst ((((List.range i).filter fun j => !ltAt (keys ρ) j).map fun j : Nat => (1 + (j : Int))).map V.int))) ⟨same_new hL, upd_same⟩ (fun i H2 hi h => ?_) (fun H2 h => ?_)
        · obtain ⟨sm2, hl2⟩ := h
          have t2 := sm.trans sm2
          have i1 : i < ps.length := by omega
          have i2 : i + 1 < ps.length := by omega
          obtain ⟨y1, hy1, b1, g1, w1⟩ := paired_at' hp (List.getElem?_eq_getElem i1)
          obtain ⟨y2, hy2, b2, g2, w2⟩ := paired_at' hp (List.getElem?_eq_getElem i2)
          have a2 : atI (ps.map V.ref) (1 + (i : Int)) = some (.ref ps[i + 1]) := by
            have e : (1 + (i : Int)) = ((i + 1 : Nat) : Int) := by omega
            rw [e]
            exact atI_nat (by rw [List.getElem?_map, List.getElem?_eq_getElem i2]; rfl)
          have a1 : atI (ps.map V.ref) (1 + (i : Int) - 1) = some (.ref ps[i]) := by
            have e : (1 + (i : Int) - 1) = ((i : Nat) : Int) := by omega
            rw [e]
            exact atI_nat (by rw [List.getElem?_map, List.getElem?_eq_getElem i1]; rfl)
          have lt : ltC y1.1 y2.1 = ltAt (keys ρ) i := by
            unfold ltAt
            rw [List.getD_eq_getElem?_getD, List.getD_eq_getElem?_getD]
            unfold keys
            rw [List.getElem?_map, List.getElem?_map, hy1, hy2]
            rfl
          have er : (List.range (i + 1)).filter (fun j => !ltAt (keys ρ) j) = (List.range i).filter (fun j => !ltAt (keys ρ) j) ++ [i].filter (fun j => !ltAt (keys ρ) j) := by
            rw [List.range_succ, List.filter_append]
          refine ⟨wipe1, .ref a, rfl, .int (1 + (i : Int)), rfl, a, _, _, .ref ps[i + 1], rfl, rfl, sqT (t2 _ _ ha), a2, ps[i + 1], _, 0, .ref b2, rfl, rfl, sqT (t2 _ _ g2), atI_nat (j := 0) rfl, .ref a, rfl, .int (1 + (i : Int)), rfl, _, 1, rfl, rfl, a, _, _, .ref ps[i], rfl, rfl, sqT (t2 _ _ ha), a1, ps[i], _, 0, .ref b1, rfl, rfl, sqT (t2 _ _ g1), atI_nat (j := 0) rfl,
            b2, b1, y2.1, y1.1, rfl, rfl, t2 _ _ w2, t2 _ _ w1, _, rfl, ?_⟩
          rw [lt]
          cases e : ltAt (keys ρ) i with
          | true =>
            refine iteF ⟨sm2, ?_⟩
            rw [er, List.filter_cons, e, if_neg (by decide), List.filter_nil, List.append_nil]
            exact hl2
          | false =>
            refine iteT ⟨.int (1 + (i : Int)), rfl, _, hl2, ?_, fun b o eo => ?_, ?_⟩
            · rw [List.length_map, List.length_map]
              have := List.length_filter_le (fun j => !ltAt (keys ρ) j) (List.range i)
              rw [List.length_range] at this
              omega
            · rw [upd_ne (ne_of_none eo hL)]
              exact sm2 _ _ eo
            · rw [upd_same, er, List.filter_cons, e, if_pos (by decide), List.filter_nil, List.map_append, List.map_append]
              rfl
        · refine ⟨Nat.zero_le _, fun E hE => ?_⟩
          have sE := same_new (o := .lst []) hE
          refine eq_empty (l := (((List.range ((keys ρ).length - 1)).filter fun j => !ltAt (keys ρ) j).map fun j : Nat => (1 + (j : Int))).map PyData.int) (.lst (sqL (sE _ _ h.2)) (dp_ints _)) (shaped_ints _) upd_same ?_
          have e5 : ((((List.range ((keys ρ).length - 1)).filter fun j => !ltAt (keys ρ) j).map fun j : Nat => (1 + (j : Int))).map PyData.int).isEmpty = ascD (keys ρ) := by
            rw [asc_is]
            cases (List.range ((keys ρ).length - 1)).filter fun j => !ltAt (keys ρ) j <;> rfl
          rw [e5]
          exact q1 _ ((sm.trans h.1).trans sE)
    | _ => exact iteT (q H (Same.refl _))
end
end P01
namespace P01
open PySem PySem.Spec PyProof.Rows L2 AskG
/-- a check of one value that is not too deep -/
def prKindN (f : PyData → Bool) : Pr := fun vs H Q => ∃ (v : V) (d : PyData) (D : Addr), vs = [v] ∧ DH D H v d ∧ smallD d = true ∧ d.depth ≤ 40 ∧ ∀ H', Same H H' → Q (.bl (f d)) H'
theorem shaped_list {es : List PyData} (h : ∀ e ∈ es, smallD e = true ∧ e.depth ≤ 40) : SeqAt.shaped (.list es) = true := by
  have h1 : PyData.canLayAll0 (es.map id) = true := can_all fun e he => small_lay (h e he).1
  have h2 : PyData.depthAll (es.map id) ≤ 40 := depth_all fun e he => (h e he).2
  rw [List.map_id] at h1 h2
  show (PyData.canLayAll0 es && decide (PyData.depthAll es + 1 ≤ 64)) = true
  rw [h1, decide_eq_true (by omega)]
  rfl
section
variable {P : Program} {w : World} {K : PySem.W.Frag} {mg : Str → Option Value} {base : Heap}
variable {fI fN fM fQ fC fW fR fG : Addr} {fdI fdN fdM fdQ fdC fdW fdR fdG : FuncData}
theorem ok_lRows {f : Addr} {fd : FuncData} {k : Nat} (F : Fun K "_law_rows_kind" "_law_rows_kind" lRows f fd)
    (FW : Fun K "_law_weighted" "_law_weighted" lWt fW fdW) (bW : Binds K fdW ["_law_item"] []) (gW : mg "_law_weighted" = some (.ref fW)) (GW : FnG P w K mg base (k + 4) fW fdW ["_law_item"] (prKind isRowD))
    (mi : mg "isinstance" = none) (mt : mg "tuple" = none) : FnG P w K mg base (k + 5) f fd ["_law_item"] (prKindN areRowsD) := by
  refine okG F scLRows (fun vs H Q h => ?_) (fun cdv A outer s H vs Q hr h => ?_)
  · obtain ⟨_, _, _, rfl, _⟩ := h
    rfl
  · obtain ⟨v, d, D, rfl, hd, hs, hdep, q⟩ := h
    have hun := hr.room.units
    refine ⟨_, pss_one (ps_ret (pe_and (pe_callB call_isi (by rfl) mi (by decide +kernel) (pa_cons (pv 0) (pa_cons (pe_bltn (v := .ty "tuple") (by rfl) mt (by decide +kernel) rfl) pa_nil)))
      (pe_one (pe_cmpR (op_eqD hun) (pe_lc (own := [("_law_line_here", 1)]) (g := gName 1) rfl scLRows.nd (pi_tup (pv 0)) (blkOk_by (N := ["_law_item", "_law_line_here"]) (sc := defScope lRows) (by decide +kernel))
          (fun _ _ _ _ _ => pg_name (i := 1) scLRows.nd rfl (.inl rfl)) (fun _ _ _ _ _ => pts_one (pt_not (pt_val (pe_g GW hr (by rfl) gW FW.kp bW .nil (pa_cons (pv 1) pa_nil))))) (fun _ _ _ _ _ => pv 1)) (pe_lst pa_nil) (nomark _))))), ?_⟩
    refine iRet (iAndV (isi_call (K := K) (i := 0) (a := tyN d) (b := "tuple") (r := tupB d) (x := v) rfl hd.ty (kit_tup d) ⟨_, rfl, ?_⟩))
    cases d with
    | tuple ds =>
      obtain ⟨a, xs, rfl, ha, hds⟩ := hd.tup_inv
      obtain ⟨sl, sds⟩ := small_tup hs
      have xl := hds.len
      have big := sizeBig
      refine iteT ?_
      refine iOp ?_
      refine ⟨.ref a, rfl, a, rfl, ⟨_, sqT ha⟩, fun L hL => ?_⟩
      have hdL : DHs L H xs ds := hds.shun hL
      refine lc_tup (xs := xs) (fun i H' => Same H H' ∧ ∃ ys es, H' L = some (.lst ys) ∧ DHs L H' ys es ∧ es = (ds.take i).filter (fun d => !isRowD d) ∧ ys.length ≤ i) ⟨same_new hL, [], [], upd_same, .nil, rfl, Nat.le_refl _⟩ (fun i H' _ h => sqT (h.1 _ _ ha)) (fun i x H' hx h => ?_) (fun H' h => ?_)
      · obtain ⟨sm, ys, es, hys, hye, ees, hyl⟩ := h
        have il := (List.getElem?_eq_some_iff.mp hx).1
        obtain ⟨d, hdi, hdx⟩ := hdL.at hx
        have et : (ds.take (i + 1)).filter (fun d => !isRowD d) = (ds.take i).filter (fun d => !isRowD d) ++ [d].filter (fun d => !isRowD d) := by
          rw [List.take_add_one, hdi, List.filter_append]
          rfl
        refine ⟨wipe1, iNot (iB ⟨x, rfl, x, d, L, rfl, hdx.keep (KeepD.of sm), smallDs_at sds hdi, fun H2 s2 => ⟨_, rfl, ?_⟩⟩)⟩
        have t2 := sm.trans s2
        have hys2 := s2 _ _ hys
        cases e : isRowD d with
        | true =>
          refine iteF ⟨t2, ys, es, hys2, hye.keep (KeepD.of s2), ?_, by omega⟩
          rw [et, List.filter_cons, e, if_neg (by decide), List.filter_nil, List.append_nil]
          exact ees
        | false =>
          have kp : KeepD L H2 (upd H2 L (.lst (ys ++ [x]))) := ⟨fun b xs e => by
            rw [upd_ne (fun z => by rw [z, hys2] at e; cases e)]
            exact e, fun b xs n e => by
            rw [upd_ne n]
            exact e⟩
          refine iteT ⟨x, rfl, ys, hys2, by omega, fun b o eo => ?_, ys ++ [x], es ++ [d], upd_same, ((hye.keep (KeepD.of s2)).keep kp).app (.cons ((hdx.keep (KeepD.of t2)).keep kp) .nil), ?_, by rw [List.length_append]; show ys.length + 1 ≤ i + 1; omega⟩
          · rw [upd_ne (ne_of_none eo hL)]
            exact t2 _ _ eo
          · rw [et, List.filter_cons, e, if_pos (by decide), List.filter_nil, ees]
      · obtain ⟨sm, ys, es, hys, hye, ees, hyl⟩ := h
        rw [xl, List.take_length] at ees
        refine ⟨Nat.zero_le _, fun E hE => ?_⟩
        have sE := same_new (o := .lst []) hE
        have hsub : ∀ e ∈ es, smallD e = true ∧ e.depth ≤ 40 := fun e he => by
          rw [ees] at he
          have hm := (List.mem_filter.mp he).1
          obtain ⟨j, hj⟩ := List.getElem?_of_mem hm
          refine ⟨smallDs_at sds hj, ?_⟩
          have h1 := PyData.depth_le_depthAll ds e hm
          have h2 : PyData.depthAll ds + 1 ≤ 40 := hdep
          omega
        refine eq_empty (l := es) (.lst (sqL (sE _ _ hys)) ((hye.keep (KeepD.of sE)).dp)) (shaped_list hsub) upd_same ?_
        have e5 : es.isEmpty = ds.all isRowD := by
          rw [ees, Bool.eq_iff_iff, List.isEmpty_iff, List.filter_eq_nil_iff, List.all_eq_true]
          refine forall_congr' fun d => imp_congr_right fun _ => ?_
          cases isRowD d <;> simp
        rw [e5]
        exact q _ (sm.trans sE)
    | _ => exact iteF (q H (Same.refl _))
theorem ok_lRatio {f : Addr} {fd : FuncData} {k : Nat} (F : Fun K "_law_ratio" "_law_ratio" lRatio f fd)
    (FQ : Fun K "_law_pair" "_law_pair" lPair fQ fdQ) (bQ : Binds K fdQ ["_law_item"] []) (gQ : mg "_law_pair" = some (.ref fQ)) (GQ : FnG P w K mg base (k + 1) fQ fdQ ["_law_item"] (prKind isPairD))
    (FI : Fun K "_law_integer" "_law_integer" lInt fI fdI) (bI : Binds K fdI ["_law_item"] []) (gI : mg "_law_integer" = some (.ref fI)) (GI : FnG P w K mg base (k + 1) fI fdI ["_law_item"] (prKind isIntD))
    (FG : Fun K "_law_gcd" "_law_gcd" sGcdL fG fdG) (bG : Binds K fdG ["_law_some"] []) (gG : mg "_law_gcd" = some (.ref fG)) (GG : FnG P w K mg base (k + 1) fG fdG ["_law_some"] prGcdL) :
    FnG P w K mg base (k + 2) f fd ["_law_item"] (prKind isFracD) := by
  refine okG F scLRatio (fun vs H Q h => ?_) (fun cdv A outer s H vs Q hr h => ?_)
  · obtain ⟨_, _, _, rfl, _⟩ := h
    rfl
  · obtain ⟨v, d, D, rfl, hd, hs, q⟩ := h
    refine ⟨_, pss_cons (ps_if (PW.pt (pw_or (pt_not (pt_val (pe_g GQ hr (by rfl) gQ FQ.kp bQ .nil (pa_cons (pv 0) pa_nil))))
        (pw_or (pt_not (pt_val (pe_g GI hr (by rfl) gI FI.kp bI .nil (pa_cons (pe_ix (ix_tup : IxR _ (rIxT K)) (pv 0) pe_int (fun _ _ => rfl)) pa_nil))))
        (pw_or (pt_not (pt_val (pe_g GI hr (by rfl) gI FI.kp bI .nil (pa_cons (pe_ix (ix_tup : IxR _ (rIxT K)) (pv 0) pe_int (fun _ _ => rfl)) pa_nil))))
        (pw_or1 (pt_cmpR op_lt (pe_ix (ix_tup : IxR _ (rIxT K)) (pv 0) pe_int (fun _ _ => rfl)) pe_int (nomark _))))))) (pss_one (ps_ret pe_bl)) pss_nil)
      (pss_one (ps_ret (pe_cmpR op_eq (pe_g GG hr (by rfl) gG FG.kp bG .nil (pa_cons (pe_lst (pa_cons (pe_ix (ix_tup : IxR _ (rIxT K)) (pv 0) pe_int (fun _ _ => rfl)) (pa_cons (pe_ix (ix_tup : IxR _ (rIxT K)) (pv 0) pe_int (fun _ _ => rfl)) pa_nil))) pa_nil)) pe_int (nomark _)))), ?_⟩
    refine iSeq ?_
    refine iIfS (iOr (iNot (iB ⟨v, rfl, v, d, D, rfl, hd, hs, fun H1 s1 => ⟨_, rfl, ?_⟩⟩)))
    cases e : isPairD d with
    | false =>
      refine iteT ?_
      have q' := q H1 s1
      unfold isFracD at q'
      rw [e, Bool.false_and] at q'
      exact q'
    | true =>
      obtain ⟨x, y, rfl⟩ := pair_of e
      obtain ⟨a, p1, p2, rfl, ha, h1, h2⟩ := hd.pair_inv
      obtain ⟨_, sm⟩ := small_tup hs
      have sx : smallD x = true := smallDs_at (i := 0) sm rfl
      have sy : smallD y = true := smallDs_at (i := 1) sm rfl
      refine iteF ?_
      refine iOr (iNot (iB ⟨.ref a, rfl, a, _, 0, p1, rfl, rfl, sqT (s1 _ _ ha), atI_nat (j := 0) rfl, p1, x, D, rfl, h1.keep (KeepD.of s1), sx, fun H2 s2 => ⟨_, rfl, ?_⟩⟩))
      have s12 := s1.trans s2
      cases e2 : isIntD x with
      | false =>
        refine iteT ?_
        have q' := q H2 s12
        unfold isFracD at q'
        rw [itemD0, e2, Bool.false_and, Bool.and_false] at q'
        exact q'
      | true =>
        refine iteF ?_
        refine iOr (iNot (iB ⟨.ref a, rfl, a, _, 1, p2, rfl, rfl, sqT (s12 _ _ ha), atI_nat (j := 1) rfl, p2, y, D, rfl, h2.keep (KeepD.of s12), sy, fun H3 s3 => ⟨_, rfl, ?_⟩⟩))
        have s13 := s12.trans s3
        have qq : ∀ H', Same H H' → Q (.bl (isIntD y && fracOf (intOf x) (intOf y))) H' := fun H' sm => by
          have q' := q H' sm
          unfold isFracD at q'
          rw [e, itemD0, itemD1, e2, Bool.true_and, Bool.true_and] at q'
          exact q'
        cases e3 : isIntD y with
        | false =>
          refine iteT ?_
          have q' := qq H3 s13
          rw [e3, Bool.false_and] at q'
          exact q'
        | true =>
          refine iteF ?_
          obtain ⟨n, rfl⟩ := int_of e2
          obtain ⟨m, rfl⟩ := int_of e3
          obtain rfl := h1.int_inv
          obtain rfl := h2.int_inv
          have q2 : ∀ H', Same H H' → Q (.bl (decide (1 ≤ m) && decide (Int.gcd n m = 1))) H' := fun H' sm => by
            have q' := qq H' sm
            rw [e3, Bool.true_and] at q'
            exact q'
          refine ⟨.ref a, rfl, a, _, 1, .int m, rfl, rfl, sqT (s13 _ _ ha), atI_nat (j := 1) rfl, m, 1, rfl, rfl, _, rfl, ?_⟩
          by_cases m1 : 1 ≤ m
          · rw [decide_eq_false (by omega : ¬ m < 1)]
            refine iteF ?_
            refine iNext ?_
            dsimp only
            refine ⟨.ref a, rfl, a, _, 0, .int n, rfl, rfl, sqT (s13 _ _ ha), atI_nat (j := 0) rfl, .ref a, rfl, a, _, 1, .int m, rfl, rfl, sqT (s13 _ _ ha), atI_nat (j := 1) rfl, by show 2 ≤ sizeLine; decide, fun l hl => ?_⟩
            refine ⟨l, n, m, rfl, upd_same, rfl, ?_⟩
            have q3 := q2 _ (s13.trans (same_new (o := .lst [.int n, .int m]) hl))
            rw [decide_eq_true m1, Bool.true_and] at q3
            have e5 : decide (V.int ((Int.gcd n m : Nat) : Int) = V.int 1) = decide (Int.gcd n m = 1) := by
              refine decide_eq_decide.mpr ⟨fun z => ?_, fun z => ?_⟩
              · have := V.int.inj z
                omega
              · rw [z]
                rfl
            show Q (.bl (decide (V.int ((Int.gcd n m : Nat) : Int) = V.int 1))) _
            rw [e5]
            exact q3
          · rw [decide_eq_true (by omega : m < 1)]
            refine iteT ?_
            have q3 := q2 H3 s13
            rw [decide_eq_false m1, Bool.false_and] at q3
            exact q3
end
end P01
namespace P01
open PySem PySem.Spec PyProof.Rows L2 AskG
abbrev sFeed : Stmt := topS 15
theorem scFeed : FnScope ["_law_script"] ["_law_script"] (defScope sFeed) := ⟨rfl, rfl, rfl, by decide +kernel, rfl, by decide +kernel, by decide +kernel⟩
abbrev sDraw : Stmt := topS 16
theorem scDraw : FnScope ["_law_feed_here", "_law_many", "_law_digit", "_law_at", "_law_cell_here", "_law_mixed"] ["_law_feed_here", "_law_many"] (defScope sDraw) := ⟨rfl, rfl, rfl, by decide +kernel, rfl, by decide +kernel, by decide +kernel⟩
def feedKvs (L : Addr) (at' left n : Int) : List (Key × V) := [(Sum.inr "cells", .ref L), (Sum.inr "at", .int at'), (Sum.inr "left", .int left), (Sum.inr "count", .int n)]
def FeedAt (H : Hp) (F L : Addr) : Prop := ∃ (ns : List Int) (at' left n : Int), H F = some (.dK (feedKvs L at' left n)) ∧ H L = some (.lst (ns.map V.int))
/-- all but the feed stays -/
def KeepF (F : Addr) (H H' : Hp) : Prop := ∀ b o, b ≠ F → H b = some o → H' b = some o
theorem KeepF.refl (F : Addr) (H : Hp) : KeepF F H H := fun _ _ _ e => e
theorem KeepF.trans {F : Addr} {H H1 H2 : Hp} (h : KeepF F H H1) (g : KeepF F H1 H2) : KeepF F H H2 := fun b o n e => g b o n (h b o n e)
theorem KeepF.of {F : Addr} {H H' : Hp} (h : Same H H') : KeepF F H H' := fun b o _ e => h b o e
theorem KeepF.tup {F L : Addr} {H H' : Hp} (h : KeepF F H H') (f : FeedAt H F L) : KeepT H H' := fun b xs e => by
  obtain ⟨_, _, _, _, hF, _⟩ := f
  exact h b _ (ne_of e hF fun z => nomatch z) e
theorem FeedAt.same {F L : Addr} {H H' : Hp} (f : FeedAt H F L) (h : Same H H') : FeedAt H' F L := by
  obtain ⟨ns, a, l, n, h1, h2⟩ := f
  exact ⟨ns, a, l, n, h _ _ h1, h _ _ h2⟩
section
variable (L : Addr) (a l n x : Int)
theorem g_count : valV (feedKvs L a l n) (Sum.inr "count") = some (.int n) := rfl
theorem g_left : valV (feedKvs L a l n) (Sum.inr "left") = some (.int l) := rfl
theorem g_at : valV (feedKvs L a l n) (Sum.inr "at") = some (.int a) := rfl
theorem g_cells : valV (feedKvs L a l n) (Sum.inr "cells") = some (.ref L) := rfl
theorem p_count : putK (feedKvs L a l n) (Sum.inr "count") (.int x) = feedKvs L a l x := rfl
theorem p_left : putK (feedKvs L a l n) (Sum.inr "left") (.int x) = feedKvs L a x n := rfl
theorem p_at : putK (feedKvs L a l n) (Sum.inr "at") (.int x) = feedKvs L x l n := rfl
end
theorem dg_count {H : Hp} {F L : Addr} {a l n : Int} (h : H F = some (.dK (feedKvs L a l n))) : DGet H F (.str "count") (some (.int n)) := DGet.k (k := Sum.inr "count") h
theorem dg_left {H : Hp} {F L : Addr} {a l n : Int} (h : H F = some (.dK (feedKvs L a l n))) : DGet H F (.str "left") (some (.int l)) := DGet.k (k := Sum.inr "left") h
theorem dg_at {H : Hp} {F L : Addr} {a l n : Int} (h : H F = some (.dK (feedKvs L a l n))) : DGet H F (.str "at") (some (.int a)) := DGet.k (k := Sum.inr "at") h
theorem dg_cells {H : Hp} {F L : Addr} {a l n : Int} (h : H F = some (.dK (feedKvs L a l n))) : DGet H F (.str "cells") (some (.ref L)) := DGet.k (k := Sum.inr "cells") h
theorem four : (feedKvs 0 0 0 0).length < sizeLine := by
  show 4 < sizeLine
  decide
theorem dp_count {H : Hp} {F L : Addr} {a l n x : Int} (h : H F = some (.dK (feedKvs L a l n))) : DPut H F (.str "count") (.int x) (upd H F (.dK (feedKvs L a l x))) := DPut.k (k := Sum.inr "count") h four
theorem dp_left {H : Hp} {F L : Addr} {a l n x : Int} (h : H F = some (.dK (feedKvs L a l n))) : DPut H F (.str "left") (.int x) (upd H F (.dK (feedKvs L a x n))) := DPut.k (k := Sum.inr "left") h four
theorem dp_at {H : Hp} {F L : Addr} {a l n x : Int} (h : H F = some (.dK (feedKvs L a l n))) : DPut H F (.str "at") (.int x) (upd H F (.dK (feedKvs L x l n))) := DPut.k (k := Sum.inr "at") h four
section
variable {P : Program} {w : World} {K : PySem.W.Frag} {mg : Str → Option Value} {base : Heap}
def prFeed (K : PySem.W.Frag) : Pr := fun vs H Q => ∃ (a : Addr) (ns : List Int), vs = [.ref a] ∧ SqL K H a (ns.map V.int) ∧ ∀ H' F L, Same H H' → FeedAt H' F L → Q (.ref F) H'
theorem cut63 (ns : List Int) : ∃ ms : List Int, cutV (ns.map V.int) none (some 63) = ms.map V.int := by
  unfold cutV
  rw [← List.map_drop, ← List.map_take]
  exact ⟨_, rfl⟩
theorem ok_feed {f : Addr} {fd : FuncData} {k : Nat} (F : Fun K "_law_feed" "_law_feed" sFeed f fd) (ml : mg "list" = none) : FnG P w K mg base (k + 1) f fd ["_law_script"] (prFeed K) := by
  refine okG F scFeed (fun vs H Q h => ?_) (fun cdv A outer s H vs Q hr h => ?_)
  · obtain ⟨_, _, rfl, _⟩ := h
    rfl
  · obtain ⟨a, ns, rfl, hS, q⟩ := h
    refine ⟨_, pss_one (ps_ret (pe_disp (pps_cons pe_str (pe_callTy call_list_of (by rfl) ml (by decide +kernel) (pa_cons (pe_slice sl_list (pv 0) po_none (po_some pe_int)) pa_nil))
      (pps_cons pe_str pe_int (pps_cons pe_str pe_int (pps_cons pe_str pe_int pps_nil)))) (by rfl) (by rfl) (fun z => by cases z) (by decide))), ?_⟩
    obtain ⟨ms, hms⟩ := cut63 ns
    refine iRet (fun p hp => ?_)
    have s1 : Same H (upd H p (.dK [])) := same_new hp
    refine ⟨.ref a, rfl, 63, rfl, a, ns.map V.int, rfl, s1.seq hS, fun c hc => ?_⟩
    rw [hms]
    have s2 : Same (upd H p (.dK [])) (upd (upd H p (.dK [])) c (.lst (ms.map V.int))) := same_new hc
    refine ⟨c, ms.map V.int, rfl, .inl (sqL upd_same), fun l hl => ?_⟩
    have s3 : Same (upd (upd H p (.dK [])) c (.lst (ms.map V.int))) (upd (upd (upd H p (.dK [])) c (.lst (ms.map V.int))) l (.lst (ms.map V.int))) := same_new hl
    have hpp : (upd (upd (upd H p (.dK [])) c (.lst (ms.map V.int))) l (.lst (ms.map V.int))) p = some (.dK []) := s3 _ _ (s2 _ _ upd_same)
    refine ⟨hpp, feedKvs l 0 0 0, rfl, by show 4 ≤ 15; decide, ?_⟩
    have npl : l ≠ p := fun e => by
      rw [e, s2 _ _ upd_same] at hl
      cases hl
    refine q _ p l (fun b o e => ?_) ⟨ms, 0, 0, 0, upd_same, ?_⟩
    · rw [upd_ne (ne_of_none e hp)]
      exact s3 _ _ (s2 _ _ (s1 _ _ e))
    · rw [upd_ne npl, upd_same]
end
end P01
namespace P01
open PySem PySem.Spec PyProof.Rows L2 AskG
section
variable {P : Program} {w : World} {K : PySem.W.Frag} {mg : Str → Option Value} {base : Heap}
def prDraw : Pr := fun vs H Q => ∃ (F L : Addr) (m : Int), vs = [.ref F, .int m] ∧ FeedAt H F L ∧ 0 < m ∧ m < 1000 ∧
  ∀ d H', 0 ≤ d → d < m → KeepF F H H' → FeedAt H' F L → Q (.int d) H'
theorem ok_draw {f : Addr} {fd : FuncData} {k : Nat} (F : Fun K "_law_draw" "_law_draw" sDraw f fd) (ml : mg "len" = none) : FnG P w K mg base (k + 1) f fd ["_law_feed_here", "_law_many"] prDraw := by
  refine okG F scDraw (fun vs H Q h => ?_) (fun cdv A outer s H vs Q hr h => ?_)
  · obtain ⟨_, _, _, rfl, _⟩ := h
    rfl
  · obtain ⟨F, L, m, rfl, ⟨ns, a, l, n, hF, hL⟩, m1, m2, q⟩ := h
    have hu := hu_of hr.room
    refine ⟨_, pss_cons (ps_dput hu (pv 0) pe_str (pe_op op_add (pe_dget hu (pv 0) pe_str (fun _ _ => rfl)) pe_int) rfl)
      (pss_cons (ps_if (pt_cmpR op_gt (pe_dget hu (pv 0) pe_str (fun _ _ => rfl)) pe_int (nomark _))
        (pss_cons (ps_set (i := 2) scDraw.nd rfl (.inl rfl) (pe_op op_mod (pe_dget hu (pv 0) pe_str (fun _ _ => rfl)) (pv 1)))
          (pss_cons (ps_dput hu (pv 0) pe_str (pe_op op_fdiv (pe_dget hu (pv 0) pe_str (fun _ _ => rfl)) (pv 1)) rfl)
          (pss_one (ps_ret (pv 2))))) pss_nil)
      (pss_cons (ps_set (i := 3) scDraw.nd rfl (.inl rfl) (pe_dget hu (pv 0) pe_str (fun _ _ => rfl)))
      (pss_cons (ps_dput hu (pv 0) pe_str (pe_op op_add (pv 3) pe_int) rfl)
      (pss_cons (ps_set (i := 4) scDraw.nd rfl (.inl rfl) (pe_ifExp (pt_cmpR (op_neD hr.room.units) (pe_dget hu (pv 0) pe_str (fun _ _ => rfl)) (pe_lst pa_nil) (nomark _))
        (pe_ix ix_list (pe_dget hu (pv 0) pe_str (fun _ _ => rfl)) (pe_op op_mod (pv 3) (pe_callB call_len_seq (by rfl) ml PySem.boot_len (pa_cons (pe_dget hu (pv 0) pe_str (fun _ _ => rfl)) pa_nil))) (fun _ _ => rfl)) pe_int))
      (pss_cons (ps_if (PW.pt (pw_and (pt_cmpR op_ge (pv 4) (pe_op op_pow pe_int pe_int) (nomark _)) (pw_and1 (pt_cmpR op_lt (pv 3) (pe_callB call_len_seq (by rfl) ml PySem.boot_len (pa_cons (pe_dget hu (pv 0) pe_str (fun _ _ => rfl)) pa_nil)) (nomark _)))))
        (pss_cons (ps_dput hu (pv 0) pe_str (pe_op op_fdiv (pv 4) (pv 1)) rfl) (pss_one (ps_ret (pe_op op_mod (pv 4) (pv 1))))) pss_nil)
      (pss_cons (ps_set (i := 5) scDraw.nd rfl (.inl rfl) (pe_op op_mod (pe_op op_add (pe_op op_add (pe_op op_mod (pv 4) pe_int) (pe_op op_mul pe_int (pe_dget hu (pv 0) pe_str (fun _ _ => rfl)))) pe_int) pe_int))
      (pss_cons (ps_set (i := 5) scDraw.nd rfl (.inl rfl) (pe_op op_mod (pe_op op_add (pe_op op_add (pe_op op_mul (pv 5) (pv 5)) (pe_op op_mul pe_int (pe_dget hu (pv 0) pe_str (fun _ _ => rfl)))) pe_int) pe_int))
      (pss_one (ps_ret (pe_op op_mod (pe_op op_fdiv (pe_op op_mod (pe_op op_add (pe_op op_mul (pv 5) (pv 5)) (pe_op op_mul pe_int (pv 5))) pe_int) pe_int) (pv 1))))))))))), ?_⟩
    have nLF : L ≠ F := ne_of hL hF fun z => nomatch z
    -- count
    refine ⟨.ref F, rfl, F, .int n, rfl, dg_count hF, n, 1, rfl, rfl, .ref F, rfl, F, _, rfl, dp_count hF, ?_⟩
    have hF1 : (upd H F (.dK (feedKvs L a l (n + 1)))) F = some (.dK (feedKvs L a l (n + 1))) := upd_same
    have hL1 : (upd H F (.dK (feedKvs L a l (n + 1)))) L = some (.lst (ns.map V.int)) := by
      rw [upd_ne nLF]
      exact hL
    have k1 : KeepF F H (upd H F (.dK (feedKvs L a l (n + 1)))) := fun b o h e => by
      rw [upd_ne h]
      exact e
    generalize upd H F (.dK (feedKvs L a l (n + 1))) = H1 at hF1 hL1 k1 ⊢
    -- left
    refine ⟨.ref F, rfl, F, .int l, rfl, dg_left hF1, l, 0, rfl, rfl, _, rfl, ite2 (fun e => ?_) (fun e => ?_)⟩
    · refine ⟨.ref F, rfl, F, .int l, rfl, dg_left hF1, .int m, rfl, l, m, rfl, rfl, m1, ?_⟩
      refine ⟨.ref F, rfl, F, .int l, rfl, dg_left hF1, .int m, rfl, l, m, rfl, rfl, ⟨m1, by omega⟩, .ref F, rfl, F, _, rfl, dp_left hF1, ?_⟩
      refine ⟨.int (l % m), rfl, q _ _ (Int.emod_nonneg _ (by omega)) (Int.emod_lt_of_pos _ m1) (k1.trans fun b o h e => ?_) ⟨ns, a, l / m, n + 1, upd_same, ?_⟩⟩
      · rw [upd_ne h]
        exact e
      · rw [upd_ne nLF]
        exact hL1
    · -- at
      refine ⟨.ref F, rfl, F, .int a, rfl, dg_at hF1, ?_⟩
      refine ⟨.int a, rfl, a, 1, rfl, rfl, .ref F, rfl, F, _, rfl, dp_at hF1, ?_⟩
      have hF2 : (upd H1 F (.dK (feedKvs L (a + 1) l (n + 1)))) F = some (.dK (feedKvs L (a + 1) l (n + 1))) := upd_same
      have hL2 : (upd H1 F (.dK (feedKvs L (a + 1) l (n + 1)))) L = some (.lst (ns.map V.int)) := by
        rw [upd_ne nLF]
        exact hL1
      have k2 : KeepF F H (upd H1 F (.dK (feedKvs L (a + 1) l (n + 1)))) := k1.trans fun b o h e => by
        rw [upd_ne h]
        exact e
      generalize upd H1 F (.dK (feedKvs L (a + 1) l (n + 1))) = H2 at hF2 hL2 k2 ⊢
      -- the cell
      dsimp only
      refine iSeq (iAsg ?_)
      refine split_k (fun v H3 => ∃ c, v = .int c ∧ H3 F = some (.dK (feedKvs L (a + 1) l (n + 1))) ∧ H3 L = some (.lst (ns.map V.int)) ∧ KeepF F H H3) (fun Q' hQ' => ?_) (fun v H3 hv => ?_)
      · refine ⟨.ref F, rfl, F, .ref L, rfl, dg_cells hF2, Nat.zero_le _, fun p hp => ?_⟩
        have s3 : Same H2 (upd H2 p (.lst [])) := same_new hp
        have k3 : KeepF F H (upd H2 p (.lst [])) := k2.trans (KeepF.of s3)
        refine ⟨.list (ns.map PyData.int), .list [], .lst (sqL (s3 _ _ hL2)) (dp_ints ns), .lst (sqL upd_same) .nil, shaped_ints ns, shaped_nil, _, rfl, ?_⟩
        cases ns with
        | nil => exact iteF (hQ' _ _ ⟨47, rfl, s3 _ _ hF2, s3 _ _ hL2, k3⟩)
        | cons x ns =>
          refine iteT ?_
          refine ⟨.ref F, rfl, F, .ref L, rfl, dg_cells (s3 _ _ hF2), .int a, rfl, .ref F, rfl, F, .ref L, rfl, dg_cells (s3 _ _ hF2), L, _, rfl, .inl (sqL (s3 _ _ hL2)), a, (((x :: ns).map V.int).length : Int), rfl, rfl, ?_, ?_⟩
          · rw [List.length_map, List.length_cons]
            show (0 : Int) < ((ns.length + 1 : Nat) : Int)
            omega
          · have hlen : (0 : Int) < (((x :: ns).map V.int).length : Int) := by
              rw [List.length_map, List.length_cons]
              omega
            have h0 := Int.emod_nonneg a (show (((x :: ns).map V.int).length : Int) ≠ 0 by omega)
            have h1 := Int.emod_lt_of_pos a hlen
            obtain ⟨jn, ej⟩ : ∃ jn : Nat, a % (((x :: ns).map V.int).length : Int) = (jn : Int) := ⟨(a % (((x :: ns).map V.int).length : Int)).toNat, by omega⟩
            have hj : jn < ((x :: ns).map V.int).length := by omega
            have hjn : jn < (x :: ns).length := by rw [List.length_map] at hj; exact hj
            refine ⟨L, _, _, .int (x :: ns)[jn], rfl, rfl, sqL (s3 _ _ hL2), (by rw [ej]; exact atI_nat (j := jn) (by rw [List.getElem?_map, List.getElem?_eq_getElem hjn]; rfl)), hQ' _ _ ⟨_, rfl, s3 _ _ hF2, s3 _ _ hL2, k3⟩⟩
      · obtain ⟨c, rfl, hF3, hL3, k3⟩ := hv
        -- if cell >= 10 ** 18 and at < len(cells)
        refine iName ?_
        dsimp only
        refine iSeq ?_
        refine split_s (fun σ' H' => σ' = [some (.ref F), some (.int m), none, some (.int a), some (.int c), none] ∧ H' = H3) (fun nx hnx => ?_) (fun σ' H' hx => ?_)
        · refine ⟨.int c, rfl, 10, 18, rfl, rfl, ⟨by decide, by decide, by decide⟩, c, _, rfl, rfl, _, rfl, ite2 (fun e1 => ?_) (fun e1 => ?_)⟩
          · refine ⟨.int a, rfl, .ref F, rfl, F, .ref L, rfl, dg_cells hF3, L, _, rfl, .inl (sqL hL3), a, _, rfl, rfl, _, rfl, ite2 (fun e2 => ?_) (fun e2 => ?_)⟩
            · refine ⟨.int c, rfl, .int m, rfl, c, m, rfl, rfl, ⟨m1, by omega⟩, .ref F, rfl, F, _, rfl, dp_left hF3, ?_⟩
              refine ⟨.int c, rfl, .int m, rfl, c, m, rfl, rfl, m1, q _ _ (Int.emod_nonneg _ (by omega)) (Int.emod_lt_of_pos _ m1) (k3.trans fun b o h e => ?_) ⟨ns, a + 1, c / m, n + 1, upd_same, ?_⟩⟩
              · rw [upd_ne h]
                exact e
              · rw [upd_ne nLF]
                exact hL3
            · exact hnx _ _ ⟨rfl, rfl⟩
          · exact iteF (hnx _ _ ⟨rfl, rfl⟩)
        · obtain ⟨rfl, rfl⟩ := hx
          dsimp only
          -- mixed
          refine ⟨.int c, rfl, c, 1000000447, rfl, rfl, (by decide : (0 : Int) < 1000000447), .ref F, rfl, F, .int (n + 1), rfl, dg_count hF3, 140009, n + 1, rfl, rfl, .inl ⟨by decide, by decide⟩, _, _, rfl, rfl, _, 89, rfl, rfl, _, 2147483423, rfl, rfl, (by decide : (0 : Int) < 2147483423), ?_⟩
          dsimp only
          have b0 := Int.emod_nonneg (c % 1000000447 + 140009 * (n + 1) + 89) (show (2147483423 : Int) ≠ 0 by decide)
          have b1 := Int.emod_lt_of_pos (c % 1000000447 + 140009 * (n + 1) + 89) (show (0 : Int) < 2147483423 by decide)
          generalize (c % 1000000447 + 140009 * (n + 1) + 89) % 2147483423 = x at b0 b1 ⊢
          refine ⟨.int x, rfl, .int x, rfl, x, x, rfl, rfl, .inl ⟨by omega, by omega⟩, .ref F, rfl, F, .int (n + 1), rfl, dg_count hF3, 3600091, n + 1, rfl, rfl, .inl ⟨by decide, by decide⟩, _, _, rfl, rfl, _, 61, rfl, rfl, _, 2147483399, rfl, rfl, (by decide : (0 : Int) < 2147483399), ?_⟩
          dsimp only
          have d0 := Int.emod_nonneg (x * x + 3600091 * (n + 1) + 61) (show (2147483399 : Int) ≠ 0 by decide)
          have d1 := Int.emod_lt_of_pos (x * x + 3600091 * (n + 1) + 61) (show (0 : Int) < 2147483399 by decide)
          generalize (x * x + 3600091 * (n + 1) + 61) % 2147483399 = y at d0 d1 ⊢
          refine ⟨.int y, rfl, .int y, rfl, y, y, rfl, rfl, .inl ⟨by omega, by omega⟩, .int y, rfl, 73, y, rfl, rfl, .inl ⟨by decide, by decide⟩, _, _, rfl, rfl, _, 2147483353, rfl, rfl, (by decide : (0 : Int) < 2147483353), _, 16, rfl, rfl, ⟨by decide, by decide⟩, .int m, rfl, _, m, rfl, rfl, m1, ?_⟩
          exact q _ _ (Int.emod_nonneg _ (by omega)) (Int.emod_lt_of_pos _ m1) k3 ⟨ns, a + 1, l, n + 1, hF3, hL3⟩
end
end P01
namespace P01
open PySem PySem.Spec PyProof.Rows L2 AskG
abbrev sPlaces : Stmt := topS 17
theorem scPlaces : FnScope [] [] (defScope sPlaces) := ⟨rfl, rfl, rfl, by decide +kernel, rfl, by decide +kernel, by decide +kernel⟩
abbrev sTidy : Stmt := topS 18
theorem scTidy : FnScope ["_law_weights", "_law_cell_here"] ["_law_weights"] (defScope sTidy) := ⟨rfl, rfl, rfl, by decide +kernel, rfl, by decide +kernel, by decide +kernel⟩
abbrev sPlus : Stmt := topS 19
theorem scPlus : FnScope ["_law_one", "_law_other", "_law_times", "_law_weights", "_law_cell_here", "_law_weight"] ["_law_one", "_law_other", "_law_times"] (defScope sPlus) := ⟨rfl, rfl, rfl, by decide +kernel, rfl, by decide +kernel, by decide +kernel⟩
abbrev sSmall : Stmt := topS 20
theorem scSmall : FnScope ["_law_line_here", "_law_pair_here"] ["_law_line_here"] (defScope sSmall) := ⟨rfl, rfl, rfl, by decide +kernel, rfl, by decide +kernel, by decide +kernel⟩
def places : List Cell := [("a", 0), ("a", 1), ("a", 9), ("b", 0), ("b", 7), ("zzzzzzzz", 9)]
def places7 : List Cell := places ++ [((("b" : Str), 8) : Cell)]
theorem cells_ok : ∀ c ∈ places7, CellOk c := by
  have h : places7.all cellB = true := by decide +kernel
  exact fun c hc => cellOk_of (List.all_eq_true.mp h c hc)
/-- a list of cells, made new -/
def CellsAt (H : Hp) (p : Addr) (cs : List Cell) : Prop := ∃ bs : List Addr, H p = some (.lst (bs.map V.ref)) ∧ Paired (CellAt H) bs cs
section
variable {P : Program} {w : World} {K : PySem.W.Frag} {mg : Str → Option Value} {base : Heap}
def prPlaces : Pr := fun vs H Q => vs = [] ∧ ∀ H' p, Same H H' → H p = none → CellsAt H' p places → Q (.ref p) H'
/-- one cell written out -/
abbrev tCell (x : Str) (n : Int) : TE := tTup (tCons (tC (.str x)) (tCons (tC (.int n)) tNil))
theorem pe_cell {X : Cx} {x : Str} {n : Int} {k1 k2 p1 p2 p3 j} : PE X (.Tuple [.Constant (.str x) k1 p1, .Constant (.int n) k2 p2] j p3) (tCell x n) := pe_tup (pa_cons pe_str (pa_cons pe_int pa_nil))
def tCells : List Cell → TA
  | [] => tNil
  | c :: cs => tCons (tCell c.1 c.2) (tCells cs)
theorem cells_made {σ : L2.St} : ∀ (cs : List Cell) {H : Hp} {Q : List V → Hp → Prop}, (∀ H' bs, Same H H' → Paired (CellAt H') bs cs → Q (bs.map V.ref) H') → tCells cs σ H Q
  | [], H, Q, h => h H [] (Same.refl _) .nil
  | c :: cs, H, Q, h => by
    refine ⟨by show 2 ≤ sizeLine; decide, fun p hp => ?_⟩
    have s1 : Same H (upd H p (.tup [.str c.1, .int c.2])) := same_new hp
    refine cells_made cs fun H' bs sm hb => h H' (p :: bs) (s1.trans sm) (.cons (sm _ _ upd_same) hb)
theorem ok_places {f : Addr} {fd : FuncData} {k : Nat} (F : Fun K "_law_places" "_law_places" sPlaces f fd) : FnG P w K mg base (k + 1) f fd [] prPlaces := by
  refine okG F scPlaces (fun vs H Q h => ?_) (fun cdv A outer s H vs Q hr h => ?_)
  · rw [h.1]
    rfl
  · obtain ⟨rfl, q⟩ := h
    refine ⟨_, pss_one (ps_ret (pe_lst (pa_cons pe_cell (pa_cons pe_cell (pa_cons pe_cell (pa_cons pe_cell (pa_cons pe_cell (pa_cons pe_cell pa_nil)))))))), ?_⟩
    refine cells_made (σ := start [] []) places fun H' bs sm hb => ?_
    refine ⟨by rw [List.length_map, Paired.length hb]; show 6 ≤ sizeLine; decide, fun p hp => ?_⟩
    refine q _ p (sm.trans (same_new hp)) (sm.free hp) ⟨bs, upd_same, Paired.mapP hb fun _ _ z => z.keep (KeepT.new hp)⟩
/-! ### tidy -/
def prTidy : Pr := fun vs H Q => ∃ (D : Addr) (m : RowD), vs = [.ref D] ∧ H D = some (.dT (dk m)) ∧ (keys m).Nodup ∧ m.length ≤ 1000 ∧ ∀ H' p, Same H H' → RowAt H' p (tidy m) → Q (.ref p) H'
theorem ok_tidyF {f : Addr} {fd : FuncData} {k : Nat} (F : Fun K "_law_tidy" "_law_tidy" sTidy f fd) (ms : mg "sorted" = none) (mt : mg "tuple" = none) : FnG P w K mg base (k + 1) f fd ["_law_weights"] prTidy := by
  refine okG F scTidy (fun vs H Q h => ?_) (fun cdv A outer s H vs Q hr h => ?_)
  · obtain ⟨_, _, rfl, _⟩ := h
    rfl
  · obtain ⟨D, m, rfl, hD, n, hz, q⟩ := h
    have hu := hu_of hr.room
    refine ⟨_, pss_one (ps_ret (pe_callTy call_tuple_of (by rfl) mt (by decide +kernel) (pa_cons (pe_lc (own := [("_law_cell_here", 1)]) (g := gName 1) rfl scTidy.nd
          (pi_list (pe_callB (cr_sortT rfl) (by rfl) ms (by decide +kernel) (pa_cons (pv 0) pa_nil)))
          (blkOk_by (N := ["_law_weights", "_law_cell_here"]) (sc := defScope sTidy) (by decide +kernel)) (fun _ _ _ _ _ => pg_name (i := 1) scTidy.nd rfl (.inl rfl))
          (fun _ _ _ _ _ => pts_one (pt_cmpR op_ne (pe_dget hu (pv 0) (pv 1) (fun _ _ => rfl)) pe_int (nomark _)))
          (fun _ _ _ _ _ => pe_tup (pa_cons (pv 1) (pa_cons (pe_dget hu (pv 0) (pv 1) (fun _ _ => rfl)) pa_nil)))) pa_nil))), ?_⟩
    refine iRet (iCB (iCons ?_))
    refine lc_tidy (K := K) (iw := 0) (ic := 1) (D := D) (m := m) rfl (by decide) (by show 1 < 2; decide) hD n hz fun H' L ps sm hL hps hpp => ?_
    exact ⟨L, _, rfl, .inl ⟨sqL hps, fun p hp => q _ p (sm.trans (same_new hp)) (row_of_list (L := L) hp hpp)⟩⟩
/-! ### plus -/
def prPlus : Pr := fun vs H Q => ∃ (a b : Addr) (ρ π : RowD) (t : Int), vs = [.ref a, .ref b, .int t] ∧ RowAt H a ρ ∧ RowAt H b π ∧ ρ.length ≤ 100 ∧ π.length ≤ 100 ∧ -(2 ^ 64) < t ∧ t < 2 ^ 64 ∧
  ∀ H' p, Same H H' → RowAt H' p (addR ρ π t) → Q (.ref p) H'
theorem pairs_dict {H : Hp} : ∀ {ps : List Addr} {ρ : RowD}, Paired (PairRow H) ps ρ → Paired (PairAt' K H) ps (dk ρ)
  | _, _, .nil => .nil
  | _, _, .cons h t => by
    obtain ⟨b, h1, h2⟩ := h
    exact .cons ⟨b, sqT h1, h2⟩ (pairs_dict t)
theorem putAll_dk : ∀ (ρ m : RowD), putAll (dk m) (dk ρ) = dk (ρ.foldl (fun m x => putC m x.1 x.2) m)
  | [], _ => rfl
  | x :: ρ, m => by
    show putAll (putK (dk m) (ck x.1) (.int x.2)) (dk ρ) = _
    rw [dk_put]
    exact putAll_dk ρ _
theorem ok_plus {f fT : Addr} {fd fdT : FuncData} {k : Nat} (F : Fun K "_law_plus" "_law_plus" sPlus f fd) (FT : Fun K "_law_tidy" "_law_tidy" sTidy fT fdT) (bT : Binds K fdT ["_law_weights"] []) (gT : mg "_law_tidy" = some (.ref fT))
    (ms : mg "sorted" = none) (mt : mg "tuple" = none) (md : mg "dict" = none) (ml : mg "list" = none) : FnG P w K mg base (k + 2) f fd ["_law_one", "_law_other", "_law_times"] prPlus := by
  have GT : FnG P w K mg base (k + 1) fT fdT ["_law_weights"] prTidy := ok_tidyF FT ms mt
  refine okG F scPlus (fun vs H Q h => ?_) (fun cdv A outer s H vs Q hr h => ?_)
  · obtain ⟨_, _, _, _, _, rfl, _⟩ := h
    rfl
  · obtain ⟨a, b, ρ, π, t, rfl, hA, hB, lA, lB, t1, t2, q⟩ := h
    have hu := hu_of hr.room
    refine ⟨_, pss_cons (ps_set (i := 3) scPlus.nd rfl (.inl rfl) (pe_callTy (call_dictT rfl hr.room) (by rfl) md (by decide +kernel) (pa_cons (pe_callTy call_list_of (by rfl) ml (by decide +kernel) (pa_cons (pv 0) pa_nil)) pa_nil)))
      (pss_cons (ps_for PassesOwn.never rfl (pi_tup (pv 1)) (pg_tup rfl (pgs_cons (pg_name (i := 4) scPlus.nd rfl (.inl rfl)) (pgs_cons (pg_name (i := 5) scPlus.nd rfl (.inl rfl)) pgs_nil)))
        (pss_one (ps_dput hu (pv 3) (pv 4) (pe_op op_add (pe_dget2 hu (pv 3) (pv 4) pe_int ⟨rfl, rfl, rfl, rfl⟩) (pe_op op_mul (pv 2) (pv 5))) rfl)))
      (pss_one (ps_ret (pe_g GT hr (by rfl) gT FT.kp bT .nil (pa_cons (pv 3) pa_nil))))), ?_⟩
    obtain ⟨ps, hr1, hp⟩ := hA
    refine ⟨.ref a, rfl, a, _, rfl, .inr (sqT hr1), fun l hl => ?_⟩
    have s1 : Same H (upd H l (.lst (ps.map V.ref))) := same_new hl
    refine ⟨l, ps, dk ρ, rfl, sqL upd_same, pairs_dict (Paired.mapP hp fun _ _ z => z.keep (KeepT.of s1)), fun D hD => ?_⟩
    have ed : putAll [] (dk ρ) = dk (ofRow ρ) := putAll_dk ρ []
    rw [ed]
    have s2 : Same (upd H l (.lst (ps.map V.ref))) (upd (upd H l (.lst (ps.map V.ref))) D (.dT (dk (ofRow ρ)))) := same_new hD
    have lo := ofRow_length ρ
    refine iName ?_
    dsimp only
    refine iSeq ?_
    refine for_add (K := K) (σ := [some (.ref a), some (.ref b), some (.int t), some (.ref D), none, none]) (io := 1) (iw := 3) (a := 4) (b := 5) (r := b) (Dd := D) (π := π) (m := ofRow ρ) (t := t) rfl rfl (by decide) (by decide) (by simp) (by simp) (by decide) (hB.keep (KeepT.of (s1.trans s2))) upd_same (by omega)
      (fun σ' H' c w m' bb Q hmem hj ha hb hD' hc hq => ?_) (fun σ' hj hl => ?_)
    · refine ⟨.ref D, hj 3 (by decide) (by decide), D, rfl, .inr ⟨_, .inl hD'⟩, .ref bb, ha, _, dget_of hD' hc, .int t, hj 2 (by decide) (by decide), .int w, hb, t, w, rfl, rfl, .inl ⟨t1, t2⟩, get0 m' c, t * w, ?_, rfl, hq⟩
      show ((getO m' c).map V.int).getD (.int 0) = .int (get0 m' c)
      unfold get0
      cases getO m' c <;> rfl
    · rw [upd_upd]
      have n := addF_nodup (ofRow_nodup ρ) π t
      have al := addF_length (ofRow ρ) π t
      refine ⟨.ref D, hj 3 (by decide) (by decide), D, addF (ofRow ρ) π t, rfl, upd_same, n, by omega, fun H' p sm hp => q H' p (fun c o e => ?_) hp⟩
      refine sm _ _ ?_
      have e1 := s1 _ _ e
      rw [upd_ne (ne_of_none e1 hD)]
      exact e1
end
end P01
namespace P01
open PySem PySem.Spec PyProof.Rows L2 AskG
abbrev sLine : Stmt := topS 21
theorem scLine : FnScope ["_law_feed_here", "_law_weights", "_law_cell_here"] ["_law_feed_here"] (defScope sLine) := ⟨rfl, rfl, rfl, by decide +kernel, rfl, by decide +kernel, by decide +kernel⟩
theorem log_small {x : Int} (h1 : -(2 ^ 200) < x) (h2 : x < 2 ^ 200) : x.natAbs.log2 < 1920 := by
  by_cases e : x.natAbs = 0
  · rw [e]
    decide
  · have : x.natAbs < 2 ^ 200 := by omega
    have := (Nat.log2_lt e).mpr this
    omega
theorem DrawnR.row {cs : List Cell} {B : Int} {ρ : RowD} (h : DrawnR cs B ρ) (hl : cs.length ≤ 40) (hc : ∀ c ∈ cs, CellOk c) (e : B ≤ 2 ^ 64) : RowOk ρ :=
  ⟨by have := h.many; omega, fun x hx => hc _ (h.on _ (List.mem_map_of_mem hx)), fun x hx => by
    have := h.at' hx
    have b : (2 : Int) ^ 64 < 2 ^ 200 := by decide
    exact log_small (by omega) (by omega)⟩
section
variable {P : Program} {w : World} {K : PySem.W.Frag} {mg : Str → Option Value} {base : Heap}
def prSmall : Pr := fun vs H Q => ∃ (a : Addr) (ρ : RowD), vs = [.ref a] ∧ RowAt H a ρ ∧ ρ.length ≤ 100 ∧ (∀ x ∈ ρ, CellOk x.1) ∧ ∀ b H', Same H H' → Q (.bl b) H'
theorem ok_small {f : Addr} {fd : FuncData} {k : Nat} (F : Fun K "_law_small" "_law_small" sSmall f fd) : FnG P w K mg base (k + 1) f fd ["_law_line_here"] prSmall := by
  refine okG F scSmall (fun vs H Q h => ?_) (fun cdv A outer s H vs Q hr h => ?_)
  · obtain ⟨_, _, rfl, _⟩ := h
    rfl
  · obtain ⟨a, ρ, rfl, ⟨qs, hr1, hp⟩, lA, hc, q⟩ := h
    refine ⟨_, pss_one (ps_ret (pe_cmpR (op_eqD hr.room.units) (pe_lc (own := [("_law_pair_here", 1)]) (g := gName 1) rfl scSmall.nd (pi_tup (pv 0))
      (blkOk_by (N := ["_law_line_here", "_law_pair_here"]) (sc := defScope sSmall) (by decide +kernel)) (fun _ _ _ _ _ => pg_name (i := 1) scSmall.nd rfl (.inl rfl))
      (fun _ _ _ _ _ => pts_one (pt_not (pt_chain op_lt op_lt (pe_un un_neg pe_int) (pe_ix (ix_tup : IxR _ (rIxT K)) (pv 1) pe_int (fun _ _ => rfl)) pe_int)))
      (fun _ _ _ _ _ => pv 1)) (pe_lst pa_nil) (nomark _))), ?_⟩
    refine iRet (iOp ?_)
    refine lc_pairsT (K := K) (i := 0) (a := 1) (σ := [some (.ref a), none]) (fun x => !(decide (-4 < x.2) && decide (x.2 < 4))) rfl hr1 hp (by show 1 < 2; decide) (by omega) (fun σ' H' p x Q _ sm hp hj hx hq => ?_) (fun H' L ps sm hL hps hpp => ?_)
    · obtain ⟨b, h1, h2⟩ := hx
      refine ⟨4, rfl, .ref p, hp, p, _, 1, .int x.2, rfl, rfl, sqT h1, atI_nat (j := 1) rfl, -4, x.2, rfl, rfl, decide (-4 < x.2), rfl, ?_⟩
      by_cases e : -4 < x.2
      · rw [decide_eq_true e]
        refine iteT ⟨x.2, 4, rfl, rfl, _, rfl, ?_⟩
        have := hq H' (Same.refl _)
        rw [decide_eq_true e, Bool.true_and] at this
        exact this
      · rw [decide_eq_false e]
        refine iteF ⟨_, rfl, ?_⟩
        have := hq H' (Same.refl _)
        rw [decide_eq_false e, Bool.false_and] at this
        exact this
    · refine ⟨Nat.zero_le _, fun p hp => ?_⟩
      have s2 : Same H' (upd H' p (.lst [])) := same_new hp
      refine ⟨.list ((ρ.filter fun x => !(decide (-4 < x.2) && decide (x.2 < 4))).map AskG.pairD), .list [], .lst (sqL (s2 _ _ hps)) (dp_all (f := AskG.pairD) (R := PairRow _) (fun _ _ z => dp_pair z) (Paired.mapP hpp fun _ _ z => z.keep (KeepT.of s2))), .lst (sqL upd_same) .nil, shaped_pairs fun x hx => hc x (List.mem_filter.mp hx).1, shaped_nil, q _ _ (sm.trans s2)⟩
/-! ### dicts filled by draws -/
theorem for_fill {iw ic : Nat} {σ : L2.St} {H : Hp} {Dn : Ends} {Dd F L p : Addr} {cs : List Cell} {B : Int} {tv : TE}
    (hiw : σ[iw]? = some (some (.ref Dd))) (wc : iw ≠ ic) (hc : ic < σ.length) (C : CellsAt H p cs) (n : cs.Nodup) (hz : cs.length ≤ 100) (hD : H Dd = some (.dT [])) (hF : FeedAt H F L)
    (htv : ∀ (σ' : L2.St) (H' : Hp) (Q : VK), (∀ j, j ≠ ic → σ'[j]? = σ[j]?) → FeedAt H' F L → (∀ x H'', -B ≤ x → x ≤ B → KeepF F H' H'' → FeedAt H'' F L → Q (.int x) H'') → tv σ' H' Q)
    (q : ∀ σ' H' m, (∀ j, j ≠ ic → σ'[j]? = σ[j]?) → (∀ b o, b ≠ F → b ≠ Dd → H b = some o → H' b = some o) → FeedAt H' F L → H' Dd = some (.dT (dk m)) → keys m = cs → (∀ x ∈ m, -B ≤ x.2 ∧ x.2 ≤ B) → Dn.nx σ' H') :
    ∃ W : Nat → Nat → L2.St → Hp → Prop, (∃ m, W 0 m σ H) ∧ ∀ i m σ H, W i m σ H →
      ((Itl K p).stop i H ∧ Dn.nx σ H) ∨ ((Itl K p).go i H ∧ ∃ N : L2.St → Hp → Prop, (∀ σ' H', N σ' H' → ∃ m', m' < m ∧ W (i + 1) m' σ' H') ∧ ∀ x H', (Itl K p).yld i H x H' → gName ic x σ H' fun σ2 H2 => sDPut (tVar iw) (tVar ic) tv { Dn with nx := N, ct := N, bk := Dn.nx } σ2 H2) := by
  obtain ⟨bs, hp, hb⟩ := C
  have nDF : Dd ≠ F := by
    obtain ⟨_, _, _, _, h, _⟩ := hF
    exact ne_of hD h fun z => nomatch z
  have npF : p ≠ F := by
    obtain ⟨_, _, _, _, h, _⟩ := hF
    exact ne_of hp h fun z => nomatch z
  have npD : p ≠ Dd := ne_of hp hD fun z => nomatch z
  refine for_list (K := K) (a := p) (xs := bs.map V.ref) (fun i σ' H' => (∀ j, j ≠ ic → σ'[j]? = σ[j]?) ∧ σ'.length = σ.length ∧ (∀ b o, b ≠ F → b ≠ Dd → H b = some o → H' b = some o) ∧ FeedAt H' F L ∧
      ∃ m, H' Dd = some (.dT (dk m)) ∧ keys m = cs.take i ∧ ∀ x ∈ m, -B ≤ x.2 ∧ x.2 ≤ B)
    ⟨fun _ _ => rfl, rfl, fun _ _ _ _ e => e, hF, [], hD, rfl, fun x hx => absurd hx (by simp)⟩ (fun i σ' H' _ h => sqL (h.2.2.1 _ _ npF npD hp)) (fun i x σ' H' hx h => ?_) (fun σ' H' h => ?_)
  · obtain ⟨hj, hl, kp, hF', m, hD', hm, hB⟩ := h
    rw [List.getElem?_map] at hx
    cases hbi : bs[i]? with
    | none =>
      rw [hbi] at hx
      cases hx
    | some b =>
      rw [hbi] at hx
      have ex : V.ref b = x := Option.some.inj hx
      subst ex
      obtain ⟨c, hci, hcb⟩ := paired_at' hb hbi
      have hj' : ∀ j, j ≠ ic → (σ'.set ic (some (.ref b)))[j]? = σ[j]? := fun j h => by
        rw [List.getElem?_set_ne (fun e => h e.symm)]
        exact hj j h
      refine htv _ _ _ hj' hF' fun y H2 y1 y2 k2 hF2 => ?_
      have kt2 : KeepT H' H2 := k2.tup hF'
      have hcb2 : CellAt H2 b c := by
        have nbF : b ≠ F := by
          obtain ⟨_, _, _, _, h, _⟩ := hF
          exact ne_of hcb h fun z => nomatch z
        exact kt2 _ _ (kp _ _ nbF (ne_of hcb hD fun z => nomatch z) hcb)
      have hD2 : H2 Dd = some (.dT (dk m)) := k2 _ _ nDF hD'
      have nc : c ∉ keys m := by
        rw [hm]
        intro hc'
        have i1 : i < cs.length := (List.getElem?_eq_some_iff.mp hci).1
        have n2 := n
        rw [← List.take_append_drop i cs, List.drop_eq_getElem_cons i1] at n2
        have e2 : cs[i] = c := (List.getElem?_eq_some_iff.mp hci).2
        exact (List.nodup_append.mp n2).2.2 c hc' c (by rw [e2]; exact List.mem_cons_self) rfl
      have ml : m.length ≤ 100 := by
        have := congrArg List.length hm
        unfold keys at this
        rw [List.length_map, List.length_take] at this
        omega
      have big := sizeBig
      refine ⟨.ref Dd, by rw [hj' iw wc]; exact hiw, .ref b, List.getElem?_set_self (by rw [hl]; exact hc), Dd, _, rfl, DPut.t (k := ck c) hD2 (by rw [ck_kV]; exact hcb2) (by rw [dk_length]; omega), ?_⟩
      refine ⟨hj', by rw [List.length_set]; exact hl, fun b' o' h1 h2 e => ?_, ?_, putC m c y, ?_, ?_, fun x hx => ?_⟩
      · rw [upd_ne h2]
        exact k2 _ _ h1 (kp _ _ h1 h2 e)
      · obtain ⟨ns, a, l, n', h1, h2⟩ := hF2
        refine ⟨ns, a, l, n', ?_, ?_⟩
        · rw [upd_ne nDF.symm]
          exact h1
        · rw [upd_ne (ne_of h2 hD2 fun z => nomatch z)]
          exact h2
      · rw [upd_same, dk_put]
      · rw [keys_put, if_neg nc, hm, List.take_add_one, hci]
        rfl
      · rcases mem_put hx with h | h
        · exact hB x h
        · rw [h]
          exact ⟨y1, y2⟩
  · obtain ⟨hj, hl, kp, hF', m, hD', hm, hB⟩ := h
    have e : cs.take (bs.map V.ref).length = cs := List.take_of_length_le (by rw [List.length_map, Paired.length hb]; exact Nat.le_refl _)
    rw [e] at hm
    exact q σ' H' m hj kp hF' hD' hm hB

theorem cells_nodup : places.Nodup := by decide +kernel
theorem cells7_nodup : places7.Nodup := by decide +kernel
def prLine (cs : List Cell) (B : Int) : Pr := fun vs H Q => ∃ F L, vs = [.ref F] ∧ FeedAt H F L ∧ ∀ H' p ρ, KeepF F H H' → FeedAt H' F L → RowAt H' p ρ → DrawnR cs B ρ → Q (.ref p) H'
theorem at_int (l : List Int) {d : Int} (h0 : 0 ≤ d) (h1 : d < (l.length : Int)) : ∃ x, x ∈ l ∧ atI (l.map V.int) d = some (.int x) := by
  obtain ⟨n, rfl⟩ : ∃ n : Nat, d = (n : Int) := ⟨d.toNat, by omega⟩
  have hn : n < l.length := by omega
  refine ⟨l[n], List.getElem_mem hn, atI_nat (j := n) ?_⟩
  rw [List.getElem?_map, List.getElem?_eq_getElem hn]
  rfl
section
variable {fP fD fT : Addr} {fdP fdD fdT : FuncData}
theorem ok_line {f : Addr} {fd : FuncData} {k : Nat} (F : Fun K "_law_line" "_law_line" sLine f fd)
    (FP : Fun K "_law_places" "_law_places" sPlaces fP fdP) (bP : Binds K fdP [] []) (gP : mg "_law_places" = some (.ref fP))
    (FD : Fun K "_law_draw" "_law_draw" sDraw fD fdD) (bD : Binds K fdD ["_law_feed_here", "_law_many"] []) (gD : mg "_law_draw" = some (.ref fD))
    (FT : Fun K "_law_tidy" "_law_tidy" sTidy fT fdT) (bT : Binds K fdT ["_law_weights"] []) (gT : mg "_law_tidy" = some (.ref fT))
    (ms : mg "sorted" = none) (mt : mg "tuple" = none) (ml : mg "len" = none) : FnG P w K mg base (k + 2) f fd ["_law_feed_here"] (prLine places 3) := by
  have GP : FnG P w K mg base (k + 1) fP fdP [] prPlaces := ok_places FP
  have GD : FnG P w K mg base (k + 1) fD fdD ["_law_feed_here", "_law_many"] prDraw := ok_draw FD ml
  have GT : FnG P w K mg base (k + 1) fT fdT ["_law_weights"] prTidy := ok_tidyF FT ms mt
  refine okG F scLine (fun vs H Q h => ?_) (fun cdv A outer s H vs Q hr h => ?_)
  · obtain ⟨_, _, rfl, _⟩ := h
    rfl
  · obtain ⟨F, L, rfl, hF, q⟩ := h
    have hu := hu_of hr.room
    refine ⟨_, pss_cons (ps_set (i := 1) scLine.nd rfl (.inl rfl) pe_dnewT)
      (pss_cons (ps_for PassesOwn.never rfl (pi_list (pe_g0 GP hr (by rfl) gP FP.kp bP .nil)) (pg_name (i := 2) scLine.nd rfl (.inl rfl))
        (pss_one (ps_dput hu (pv 1) (pv 2) (pe_ix ix_list (pe_lst (pa_cons pe_int (pa_cons pe_int (pa_cons pe_int (pa_cons pe_int (pa_cons pe_int (pa_cons pe_int (pa_cons (pe_un un_neg pe_int) (pa_cons pe_int (pa_cons (pe_un un_neg pe_int) (pa_cons pe_int (pa_cons (pe_un un_neg pe_int) pa_nil))))))))))))
          (pe_g GD hr (by rfl) gD FD.kp bD .nil (pa_cons (pv 0) (pa_cons pe_int pa_nil))) (fun _ _ => rfl)) rfl)))
      (pss_one (ps_ret (pe_g GT hr (by rfl) gT FT.kp bT .nil (pa_cons (pv 1) pa_nil))))), ?_⟩
    refine iSeq (iAsg (fun D hD => ?_))
    have s1 : Same H (upd H D (.dT [])) := same_new hD
    refine iName ?_
    dsimp only
    refine iSeq ?_
    refine ⟨rfl, fun H2 p s2 hp hC => ⟨p, rfl, ⟨_, sqL hC.choose_spec.1⟩, ?_⟩⟩
    have hF2 : FeedAt H2 F L := (hF.same s1).same s2
    refine for_fill (K := K) (iw := 1) (ic := 2) (σ := [some (.ref F), some (.ref D), none]) (H := H2) (Dd := D) (F := F) (B := 3) rfl (by decide) (by show 2 < 3; decide) hC cells_nodup (by decide) (s2 _ _ upd_same) hF2 (fun σ' H' Q' hj hF' hq => ?_) (fun σ' H' m hj kp hF' hD' hm hB => ?_)
    · refine ⟨1, rfl, 2, rfl, 3, rfl, by show 11 ≤ sizeLine; decide, fun t ht => ?_⟩
      have s3 : Same H' (upd H' t (.lst ([0, 0, 0, 0, 1, 1, -1, 2, -2, 3, -3].map V.int))) := same_new ht
      refine ⟨.ref F, hj 0 (by decide), F, L, 11, rfl, hF'.same s3, by decide, by decide, fun d H4 d0 d1 k4 hF4 => ?_⟩
      obtain ⟨x, hx, hat⟩ := at_int [0, 0, 0, 0, 1, 1, -1, 2, -2, 3, -3] d0 d1
      have ntF : t ≠ F := by
        obtain ⟨_, _, _, _, h, _⟩ := hF'
        exact (ne_of_none h ht).symm
      refine ⟨t, _, d, .int x, rfl, rfl, sqL (k4 _ _ ntF upd_same), hat, hq x H4 ?_ ?_ ((KeepF.of s3).trans k4) hF4⟩
      · simp at hx
        omega
      · simp at hx
        omega
    · refine ⟨.ref D, hj 1 (by decide), D, m, rfl, hD', by rw [hm]; exact cells_nodup, ?_, fun H5 r sm hr => q H5 r _ (fun b o hb e => ?_) (hF'.same sm) hr (drawn_tidy hm cells_nodup (by decide) hB)⟩
      · have := congrArg List.length hm
        unfold keys at this
        rw [List.length_map] at this
        rw [this]
        decide
      · exact sm _ _ (kp _ _ hb (ne_of_none e hD) (s2 _ _ (s1 _ _ e)))
end
end
end P01
namespace P01
open PySem PySem.Spec PyProof.Rows L2 AskG
abbrev sSys : Stmt := topS 22
theorem scSys : FnScope ["_law_feed_here", "_law_most", "_law_found", "_law_k", "_law_way", "_law_fresh"] ["_law_feed_here", "_law_most"] (defScope sSys) := ⟨rfl, rfl, rfl, by decide +kernel, rfl, by decide +kernel, by decide +kernel⟩
theorem shaped_rows {ρs : List RowD} (h : ∀ ρ ∈ ρs, ∀ x ∈ ρ, CellOk x.1) : SeqAt.shaped (.list (ρs.map rowPD)) = true := by
  have h1 : PyData.canLayAll0 (ρs.map rowPD) = true := can_all fun ρ hρ => by
    show PyData.canLayAll0 (ρ.map AskG.pairD) = true
    refine can_all fun x hx => ?_
    show (((PyData.strOk x.1.1) && (true && true)) && (true && true)) = true
    rw [(h ρ hρ x hx).ok]
    rfl
  have h2 : PyData.depthAll (ρs.map rowPD) ≤ 3 := depth_all fun ρ _ => by
    show PyData.depthAll (ρ.map AskG.pairD) + 1 ≤ 3
    have : PyData.depthAll (ρ.map AskG.pairD) ≤ 2 := depth_all fun x _ => by
      show max (max 0 (max 0 0) + 1) (max 0 0) + 1 ≤ 2
      decide
    omega
  show (PyData.canLayAll0 (ρs.map rowPD) && decide (PyData.depthAll (ρs.map rowPD) + 1 ≤ 64)) = true
  rw [h1, decide_eq_true (by omega)]
  rfl
theorem atI_neg {α : Type} {xs : List α} {k : Nat} {v : α} (h1 : 1 ≤ k) (h2 : k ≤ xs.length) (h : xs[xs.length - k]? = some v) : atI xs (-(k : Int)) = some v := by
  unfold atI
  have e : ixN xs.length (-(k : Int)) = some (xs.length - k) := by
    unfold ixN
    rw [if_neg (by omega), if_pos (by omega)]
    congr 1
    omega
  rw [e]
  exact h
/-- the state within a turn: all but the feed stays, the found rows stand -/
structure Mid (H0 : Hp) (F L Lf : Addr) (rs : List Addr) (ρs : List RowD) (H : Hp) : Prop where
  keep : KeepF F H0 H
  feed : FeedAt H F L
  apart : L ≠ Lf
  list : H Lf = some (.lst (rs.map V.ref))
  rows : Paired (RowAt H) rs ρs
theorem Mid.step {H0 H H' : Hp} {F L Lf : Addr} {rs : List Addr} {ρs : List RowD} (h : Mid H0 F L Lf rs ρs H) (k : KeepF F H H') (f : FeedAt H' F L) : Mid H0 F L Lf rs ρs H' := by
  have nLF : Lf ≠ F := by
    obtain ⟨_, _, _, _, e, _⟩ := h.feed
    exact ne_of h.list e fun z => nomatch z
  exact ⟨h.keep.trans k, f, h.apart, k _ _ nLF h.list, Paired.mapP h.rows fun _ _ z => z.keep (k.tup h.feed)⟩
theorem Mid.same {H0 H H' : Hp} {F L Lf : Addr} {rs : List Addr} {ρs : List RowD} (h : Mid H0 F L Lf rs ρs H) (k : Same H H') : Mid H0 F L Lf rs ρs H' := h.step (KeepF.of k) (h.feed.same k)
def SysAt (H : Hp) (s : Addr) (ρs : List RowD) : Prop := ∃ rs : List Addr, H s = some (.tup (rs.map V.ref)) ∧ Paired (RowAt H) rs ρs
theorem SysAt.keep {H H' : Hp} {s : Addr} {ρs : List RowD} (h : SysAt H s ρs) (k : KeepT H H') : SysAt H' s ρs := by
  obtain ⟨rs, h1, h2⟩ := h
  exact ⟨rs, k _ _ h1, Paired.mapP h2 fun _ _ z => z.keep k⟩
section
variable {P : Program} {w : World} {K : PySem.W.Frag} {mg : Str → Option Value} {base : Heap}
def prSys : Pr := fun vs H Q => ∃ (F L : Addr) (m : Int), vs = [.ref F, .int m] ∧ FeedAt H F L ∧ 0 ≤ m ∧ m ≤ 6 ∧
  ∀ H' s ρs, KeepF F H H' → FeedAt H' F L → SysAt H' s ρs → ρs.length ≤ 6 → (∀ ρ ∈ ρs, DrawnR places 200 ρ) → Q (.ref s) H'
variable {fP fD fT fL fS fU : Addr} {fdP fdD fdT fdL fdS fdU : FuncData}
theorem ok_sys {f : Addr} {fd : FuncData} {k : Nat} (F : Fun K "_law_system" "_law_system" sSys f fd)
    (FP : Fun K "_law_places" "_law_places" sPlaces fP fdP) (bP : Binds K fdP [] []) (gP : mg "_law_places" = some (.ref fP))
    (FD : Fun K "_law_draw" "_law_draw" sDraw fD fdD) (bD : Binds K fdD ["_law_feed_here", "_law_many"] []) (gD : mg "_law_draw" = some (.ref fD))
    (FT : Fun K "_law_tidy" "_law_tidy" sTidy fT fdT) (bT : Binds K fdT ["_law_weights"] []) (gT : mg "_law_tidy" = some (.ref fT))
    (FL : Fun K "_law_line" "_law_line" sLine fL fdL) (bL : Binds K fdL ["_law_feed_here"] []) (gL : mg "_law_line" = some (.ref fL))
    (FS : Fun K "_law_small" "_law_small" sSmall fS fdS) (bS : Binds K fdS ["_law_line_here"] []) (gS : mg "_law_small" = some (.ref fS))
    (FU : Fun K "_law_plus" "_law_plus" sPlus fU fdU) (bU : Binds K fdU ["_law_one", "_law_other", "_law_times"] []) (gU : mg "_law_plus" = some (.ref fU))
    (ms : mg "sorted" = none) (mt : mg "tuple" = none) (ml : mg "len" = none) (md : mg "dict" = none) (mls : mg "list" = none) (mr : mg "range" = none) : FnG P w K mg base (k + 3) f fd ["_law_feed_here", "_law_most"] prSys := by
  have GD : FnG P w K mg base (k + 1) fD fdD ["_law_feed_here", "_law_many"] prDraw := ok_draw FD ml
  have GL : FnG P w K mg base (k + 2) fL fdL ["_law_feed_here"] (prLine places 3) := ok_line FL FP bP gP FD bD gD FT bT gT ms mt ml
  have GS : FnG P w K mg base (k + 1) fS fdS ["_law_line_here"] prSmall := ok_small FS
  have GU : FnG P w K mg base (k + 2) fU fdU ["_law_one", "_law_other", "_law_times"] prPlus := ok_plus FU FT bT gT ms mt md mls
  refine okG F scSys (fun vs H Q h => ?_) (fun cdv A outer s H vs Q hr h => ?_)
  · obtain ⟨_, _, _, rfl, _⟩ := h
    rfl
  · obtain ⟨F, L, m, rfl, hF, m1, m2, q⟩ := h
    have hu := hu_of hr.room
    have hr1 : RG (k + 1) (A.deeper (envOfC "_law_system" (defScope sSys) s.heap.objs.size f cdv)) := hr.mono (by omega)
    refine ⟨_, pss_cons (ps_set (i := 2) scSys.nd rfl (.inl rfl) (pe_lst pa_nil))
      (pss_cons (ps_for PassesOwn.never rfl (pi_range1 rfl mr (pa_cons (pe_g GD hr1 (by rfl) gD FD.kp bD .nil (pa_cons (pv 0) (pa_cons (pe_op op_add (pv 1) pe_int) pa_nil))) pa_nil)) (pg_name (i := 3) scSys.nd rfl (.inl rfl))
        (pss_cons (ps_par (by rfl) scSys.nd (i := 4) (j := 5) rfl rfl (by decide) rfl rfl (pa_cons (pe_g GD hr1 (by rfl) gD FD.kp bD .nil (pa_cons (pv 0) (pa_cons pe_int pa_nil))) (pa_cons (pe_g GL hr (by rfl) gL FL.kp bL .nil (pa_cons (pv 0) pa_nil)) pa_nil)) (by rfl))
        (pss_cons (ps_if (PW.pt (pw_and (pt_cmpR op_eq (pv 4) pe_int (nomark _)) (pw_and1 (pt_cmpR (op_neD hr.room.units) (pv 2) (pe_lst pa_nil) (nomark _)))))
          (pss_one (ps_set (i := 5) scSys.nd rfl (.inl rfl) (pe_ix ix_list (pv 2) (pe_g GD hr1 (by rfl) gD FD.kp bD .nil (pa_cons (pv 0) (pa_cons (pe_callB call_len_seq (by rfl) ml PySem.boot_len (pa_cons (pv 2) pa_nil)) pa_nil))) (fun _ _ => rfl)))) pss_nil)
        (pss_cons (ps_if (pt_cmpR op_eq (pv 4) pe_int (nomark _)) (pss_one (ps_set (i := 5) scSys.nd rfl (.inl rfl) (pe_tup pa_nil))) pss_nil)
        (pss_cons (ps_if (PW.pt (pw_and (pt_cmpR op_eq (pv 4) pe_int (nomark _)) (pw_and (pt_cmpR op_gt (pe_callB call_len_seq (by rfl) ml PySem.boot_len (pa_cons (pv 2) pa_nil)) pe_int (nomark _))
            (pw_and1 (pt_val (pe_g GS hr1 (by rfl) gS FS.kp bS .nil (pa_cons (pe_g GU hr (by rfl) gU FU.kp bU .nil (pa_cons (pe_ix ix_list (pv 2) (pe_un un_neg pe_int) (fun _ _ => rfl)) (pa_cons (pe_ix ix_list (pv 2) (pe_un un_neg pe_int) (fun _ _ => rfl)) (pa_cons pe_int pa_nil)))) pa_nil)))))))
          (pss_one (ps_set (i := 5) scSys.nd rfl (.inl rfl) (pe_g GU hr (by rfl) gU FU.kp bU .nil (pa_cons (pe_ix ix_list (pv 2) (pe_un un_neg pe_int) (fun _ _ => rfl)) (pa_cons (pe_ix ix_list (pv 2) (pe_un un_neg pe_int) (fun _ _ => rfl)) (pa_cons pe_int pa_nil)))))) pss_nil)
        (pss_one (ps_expr (pe_bm PySem.F.plainAttrs_list PySem.F.slot_list_append PySem.F.type_list_append mt_append (pv 2) (pa_cons (pv 5) pa_nil)))))))))
      (pss_one (ps_ret (pe_callTy call_tuple_of (by rfl) mt (by decide +kernel) (pa_cons (pv 2) pa_nil))))), ?_⟩
    refine iSeq (iAsg ⟨Nat.zero_le _, fun Lf hLf => ?_⟩)
    have s1 : Same H (upd H Lf (.lst [])) := same_new hLf
    refine iName ?_
    dsimp only
    refine iSeq ?_
    refine ⟨.ref F, rfl, .int m, rfl, m, 1, rfl, rfl, F, L, m + 1, rfl, hF.same s1, by omega, by omega, fun d H2 d0 d1 k2 hF2 => ?_⟩
    have nLF : Lf ≠ F := by
      obtain ⟨_, _, _, _, h, _⟩ := hF
      exact (ne_of_none h hLf).symm
    have nLL : L ≠ Lf := by
      obtain ⟨_, _, _, _, _, h⟩ := hF
      exact ne_of_none h hLf
    refine ⟨d, rfl, by omega, by omega, ?_⟩
    refine for_range (lo := 0) (n := d.toNat) (fun i σ' H' => (∃ v3 v4 v5, σ' = [some (.ref F), some (.int m), some (.ref Lf), v3, v4, v5]) ∧ ∃ rs ρs, Mid H F L Lf rs ρs H' ∧ ρs.length = i ∧ ∀ ρ ∈ ρs, DrawnR places (3 * 2 ^ i) ρ)
      ⟨⟨none, none, none, rfl⟩, [], [], ⟨(KeepF.of s1).trans k2, hF2, nLL, k2 _ _ nLF upd_same, .nil⟩, rfl, fun _ h => absurd h (by simp)⟩ (fun i σ' H' hi h => ?_) (fun σ' H' h => ?_)
    · obtain ⟨⟨v3, v4, v5, rfl⟩, rs, ρs, M, hl, hD⟩ := h
      have i6 : i < 6 := by omega
      have p6 : (3 * 2 ^ i : Int) + 3 * 2 ^ i = 3 * 2 ^ (i + 1) := by
        rw [Int.pow_succ]
        omega
      have pp : (3 : Int) ≤ 3 * 2 ^ i ∧ (3 * 2 ^ i : Int) ≤ 3 * 2 ^ (i + 1) := by
        have h1 : ∀ i : Nat, (1 : Int) ≤ 2 ^ i := by
          intro i
          induction i with
          | zero => decide
          | succ j ih =>
            rw [Int.pow_succ]
            omega
        have := h1 i
        constructor
        · omega
        · rw [← p6]
          omega
      have hrl : rs.length = i := by rw [← hl]; exact Paired.length M.rows
      have hcell : ∀ ρ ∈ ρs, ∀ x ∈ ρ, CellOk x.1 := fun ρ hρ x hx => cells_ok _ (List.mem_append_left _ ((hD ρ hρ).on _ (List.mem_map_of_mem hx)))
      refine iName ?_
      refine iSeq ?_
      -- way, fresh
      refine ⟨.ref F, rfl, F, L, 8, rfl, M.feed, by decide, by decide, fun wy H3 w0 w1 k3 hF3 => ?_⟩
      have M3 := M.step k3 hF3
      refine ⟨.ref F, rfl, F, L, rfl, hF3, fun H4 r ρ k4 hF4 hr4 hd4 => ?_⟩
      have M4 := M3.step k4 hF4
      refine ⟨.int wy, .ref r, rfl, ?_⟩
      dsimp only
      -- a found one
      refine iSeq ?_
      refine split_s (fun σ' H' => ∃ r ρ, σ' = [some (.ref F), some (.int m), some (.ref Lf), some (.int (0 + i)), some (.int wy), some (.ref r)] ∧ Mid H F L Lf rs ρs H' ∧ RowAt H' r ρ ∧ DrawnR places (3 * 2 ^ i) ρ) (fun nx hnx => ?_) (fun σ' H' hx => ?_)
      · refine ⟨.int wy, rfl, rfl, _, rfl, ite2 (fun e => ?_) (fun e => ?_)⟩
        · refine ⟨.ref Lf, rfl, Nat.zero_le _, fun p hp => ?_⟩
          have s5 : Same H4 (upd H4 p (.lst [])) := same_new hp
          have M5 := M4.same s5
          refine ⟨.list (ρs.map rowPD), .list [], .lst (sqL M5.list) (dp_all (f := rowPD) (R := RowAt _) (fun _ _ z => dp_row z) M5.rows), .lst (sqL upd_same) .nil, shaped_rows hcell, shaped_nil, _, rfl, ?_⟩
          cases hρ : ρs with
          | nil => exact iteF (hnx _ _ ⟨r, ρ, rfl, M5, hr4.keep (KeepT.of s5), hd4.mono pp.1⟩)
          | cons ρ1 ρr =>
            have hne : 0 < rs.length := by
              rw [hrl, ← hl, hρ, List.length_cons]
              omega
            refine iteT ?_
            refine ⟨.ref Lf, rfl, .ref F, rfl, .ref Lf, rfl, Lf, _, rfl, .inl (sqL M5.list), F, L, ((rs.map V.ref).length : Int), rfl, M5.feed, by rw [List.length_map]; omega, by rw [List.length_map]; omega, fun j H6 j0 j1 k6 hF6 => ?_⟩
            have M6 := M5.step k6 hF6
            rw [List.length_map] at j1
            obtain ⟨jn, rfl⟩ : ∃ jn : Nat, j = (jn : Int) := ⟨j.toNat, by omega⟩
            have hjn : jn < rs.length := by omega
            obtain ⟨ρj, hj1, hj2⟩ := paired_at' M6.rows (List.getElem?_eq_getElem hjn)
            refine ⟨Lf, _, _, .ref rs[jn], rfl, rfl, sqL M6.list, atI_nat (j := jn) (by rw [List.getElem?_map, List.getElem?_eq_getElem hjn]; rfl), ?_⟩
            exact hnx _ _ ⟨rs[jn], ρj, rfl, M6, hj2, hD ρj (List.mem_of_getElem? hj1)⟩
        · exact iteF (hnx _ _ ⟨r, ρ, rfl, M4, hr4, hd4.mono pp.1⟩)
      · clear hr4 hd4 M4 M3
        obtain ⟨r, ρ, rfl, M4, hr4, hd4⟩ := hx
        dsimp only
        -- ()
        refine iSeq ?_
        refine split_s (fun σ' H' => ∃ r ρ, σ' = [some (.ref F), some (.int m), some (.ref Lf), some (.int (0 + i)), some (.int wy), some (.ref r)] ∧ Mid H F L Lf rs ρs H' ∧ RowAt H' r ρ ∧ DrawnR places (3 * 2 ^ i) ρ) (fun nx hnx => ?_) (fun σ' H' hx => ?_)
        · refine ⟨.int wy, rfl, rfl, _, rfl, ite2 (fun e => ?_) (fun e => ?_)⟩
          · refine ⟨Nat.zero_le _, fun p hp => ?_⟩
            exact hnx _ _ ⟨p, [], rfl, M4.same (same_new hp), ⟨[], upd_same, .nil⟩, drawn_nil (by omega)⟩
          · exact hnx _ _ ⟨r, ρ, rfl, M4, hr4, hd4⟩
        · clear hr4 hd4 M4
          obtain ⟨r, ρ, rfl, M4, hr4, hd4⟩ := hx
          dsimp only
          -- a sum
          have sums : ∀ (H5 : Hp), Mid H F L Lf rs ρs H5 → 1 < rs.length → ∀ (Q' : VK), (∀ H6 p π, Same H5 H6 → RowAt H6 p π → DrawnR places (3 * 2 ^ (i + 1)) π → Q' (.ref p) H6) →
              tCallG prPlus [] (tCons (tOp (rIxL K) (tVar 2) (tUn (rU fun i => V.int (-i)) (tC (.int 1)))) (tCons (tOp (rIxL K) (tVar 2) (tUn (rU fun i => V.int (-i)) (tC (.int 2)))) (tCons (tC (.int 1)) tNil)))
                [some (.ref F), some (.int m), some (.ref Lf), some (.int (0 + i)), some (.int wy), some (.ref r)] H5 Q' := by
            intro H5 M5 h2 Q' hq
            have e1 : rs.length - 1 < rs.length := by omega
            have e2 : rs.length - 2 < rs.length := by omega
            obtain ⟨ρ1, h11, h12⟩ := paired_at' M5.rows (List.getElem?_eq_getElem e1)
            obtain ⟨ρ2, h21, h22⟩ := paired_at' M5.rows (List.getElem?_eq_getElem e2)
            have d1 := hD ρ1 (List.mem_of_getElem? h11)
            have d2 := hD ρ2 (List.mem_of_getElem? h21)
            have a1 : atI (rs.map V.ref) (-1) = some (.ref rs[rs.length - 1]) := atI_neg (k := 1) (by decide) (by rw [List.length_map]; omega) (by rw [List.length_map, List.getElem?_map, List.getElem?_eq_getElem e1]; rfl)
            have a2 : atI (rs.map V.ref) (-2) = some (.ref rs[rs.length - 2]) := atI_neg (k := 2) (by decide) (by rw [List.length_map]; omega) (by rw [List.length_map, List.getElem?_map, List.getElem?_eq_getElem e2]; rfl)
            have l1 := d1.many
            have l2 := d2.many
            have lp : places.length = 6 := rfl
            refine ⟨.ref Lf, rfl, 1, rfl, Lf, _, _, _, rfl, rfl, sqL M5.list, a1, .ref Lf, rfl, 2, rfl, Lf, _, _, _, rfl, rfl, sqL M5.list, a2, _, _, ρ1, ρ2, 1, rfl, h12, h22, by omega, by omega, by decide, by decide, fun H6 p sm hp => ?_⟩
            refine hq H6 p _ sm hp ?_
            have := d1.sum d2
            rw [p6] at this
            exact this
          refine iSeq ?_
          refine split_s (fun σ' H' => ∃ r ρ, σ' = [some (.ref F), some (.int m), some (.ref Lf), some (.int (0 + i)), some (.int wy), some (.ref r)] ∧ Mid H F L Lf rs ρs H' ∧ RowAt H' r ρ ∧ DrawnR places (3 * 2 ^ (i + 1)) ρ) (fun nx hnx => ?_) (fun σ' H' hx => ?_)
          · refine ⟨.int wy, rfl, rfl, _, rfl, ite2 (fun e => ?_) (fun e => ?_)⟩
            · refine ⟨.ref Lf, rfl, Lf, _, rfl, .inl (sqL M4.list), _, 1, rfl, rfl, _, rfl, ite2 (fun e2 => ?_) (fun e2 => ?_)⟩
              · have h2 : 1 < rs.length := by
                  have := of_decide_eq_true e2
                  rw [List.length_map] at this
                  omega
                refine sums _ M4 h2 _ fun H6 p π sm hp hd => ?_
                have M6 := M4.same sm
                have lp : places.length = 6 := rfl
                have := hd.many
                refine ⟨p, π, rfl, hp, by omega, fun x hx => cells_ok _ (List.mem_append_left _ (hd.on _ (List.mem_map_of_mem hx))), fun b H7 sm7 => ⟨b, rfl, ?_⟩⟩
                have M7 := M6.same sm7
                refine ite2 (fun e3 => ?_) (fun e3 => ?_)
                · refine sums H7 M7 h2 _ fun H8 p8 π8 sm8 hp8 hd8 => ?_
                  exact hnx _ _ ⟨p8, π8, rfl, M7.same sm8, hp8, hd8⟩
                · exact hnx _ _ ⟨r, ρ, rfl, M7, (hr4.keep (KeepT.of sm)).keep (KeepT.of sm7), hd4.mono pp.2⟩
              · exact iteF (hnx _ _ ⟨r, ρ, rfl, M4, hr4, hd4.mono pp.2⟩)
            · exact iteF (hnx _ _ ⟨r, ρ, rfl, M4, hr4, hd4.mono pp.2⟩)
          · clear hr4 hd4 M4
            obtain ⟨r, ρ, rfl, M4, hr4, hd4⟩ := hx
            dsimp only
            -- append
            have big := sizeBig
            refine ⟨.ref Lf, rfl, .inl ⟨rfl, _, sqL M4.list⟩, .ref r, rfl, Lf, _, _, rfl, rfl, M4.list, by rw [List.length_map]; omega, ?_⟩
            refine ⟨⟨_, _, _, rfl⟩, rs ++ [r], ρs ++ [ρ], ?_, by rw [List.length_append, hl]; rfl, fun π hπ => ?_⟩
            · have kp : KeepT _ (upd _ Lf (.lst (rs.map V.ref ++ [.ref r]))) := KeepT.put M4.list fun _ z => nomatch z
              refine ⟨fun b o hb e => ?_, ?_, nLL, ?_, Paired.snoc (Paired.mapP M4.rows fun _ _ z => z.keep kp) (hr4.keep kp)⟩
              · rw [upd_ne (ne_of_none e hLf)]
                exact M4.keep b o hb e
              · obtain ⟨ns, a, l, n, h1, h2⟩ := M4.feed
                refine ⟨ns, a, l, n, ?_, ?_⟩
                · rw [upd_ne nLF.symm]
                  exact h1
                · rw [upd_ne nLL]
                  exact h2
              · rw [upd_same, List.map_append]
                rfl
            · rcases List.mem_append.mp hπ with h | h
              · exact (hD π h).mono pp.2
              · rw [List.mem_singleton.mp h]
                exact hd4
    · obtain ⟨⟨v3, v4, v5, rfl⟩, rs, ρs, M, hl, hD⟩ := h
      dsimp only
      refine ⟨.ref Lf, rfl, Lf, _, rfl, .inl ⟨sqL M.list, fun p hp => ?_⟩⟩
      have s5 : Same _ (upd _ p (.tup (rs.map V.ref))) := same_new hp
      refine q _ p ρs (M.keep.trans (KeepF.of s5)) (M.feed.same s5) ⟨rs, upd_same, Paired.mapP M.rows fun _ _ z => z.keep (KeepT.of s5)⟩ (by omega) fun ρ hρ => (hD ρ hρ).mono ?_
      have : d.toNat ≤ 6 := by omega
      have mono : ∀ n : Nat, n ≤ 6 → (3 * 2 ^ n : Int) ≤ 200 := by decide
      exact mono _ this
end
end P01
namespace P01
open PySem PySem.Spec PyProof.Rows L2 AskG
abbrev sOdd : Stmt := topS 32
theorem scOdd : FnScope ["_law_feed_here", "_law_odd_here"] ["_law_feed_here"] (defScope sOdd) := ⟨rfl, rfl, rfl, by decide +kernel, rfl, by decide +kernel, by decide +kernel⟩
/-- what a thing of the law may be -/
abbrev Mild (k n : Nat) (d : PyData) : Prop := Of 100 (10 ^ 59) k n d
def cellA : PyData := .tuple [.str "a", .int 0]
def oddL : List PyData := [.none, .bool true, .bool false, .int 0, .int (-1), .int 1, .str "", .str "a", .tuple [], .list [], cellA, .tuple [cellA, .int 1], .tuple [.tuple [cellA, .int 1]], .str "lost", .tuple [.int 1, .int 2], .tuple [.int 0, .int 1], .tuple [.int 2, .int 4], .int (10 ^ 59)]
theorem odd_mild : ∀ d ∈ oddL, Mild 4 400 d := by
  have h : ∀ d ∈ oddL, okS d = true ∧ bigD d ≤ 100 ∧ topD d ≤ 10 ^ 59 ∧ d.depth ≤ 4 ∧ wtD d ≤ 400 := by
    unfold oddL cellA
    intro d hd
    simp only [List.mem_cons, List.not_mem_nil, or_false] at hd
    rcases hd with rfl | rfl | rfl | rfl | rfl | rfl | rfl | rfl | rfl | rfl | rfl | rfl | rfl | rfl | rfl | rfl | rfl | rfl <;> decide +kernel
  exact fun d hd => ⟨(h d hd).1, (h d hd).2.1, (h d hd).2.2.1, (h d hd).2.2.2.1, (h d hd).2.2.2.2⟩
/-- taken addresses are no part of what is new -/
def NewV (H H' : Hp) (v : V) (d : PyData) : Prop := ∀ D, (∃ o, H D = some o) → DH D H' v d
section
variable {P : Program} {w : World} {K : PySem.W.Frag} {mg : Str → Option Value} {base : Heap}
def prOdd : Pr := fun vs H Q => ∃ F L, vs = [.ref F] ∧ FeedAt H F L ∧ ∀ H' v d, KeepF F H H' → FeedAt H' F L → NewV H H' v d → Mild 4 400 d → Q v H'
variable {fD : Addr} {fdD : FuncData}
theorem ok_odd {f : Addr} {fd : FuncData} {k : Nat} (F : Fun K "_law_odd" "_law_odd" sOdd f fd)
    (FD : Fun K "_law_draw" "_law_draw" sDraw fD fdD) (bD : Binds K fdD ["_law_feed_here", "_law_many"] []) (gD : mg "_law_draw" = some (.ref fD)) (ml : mg "len" = none) : FnG P w K mg base (k + 2) f fd ["_law_feed_here"] prOdd := by
  have GD : FnG P w K mg base (k + 1) fD fdD ["_law_feed_here", "_law_many"] prDraw := ok_draw FD ml
  refine okG F scOdd (fun vs H Q h => ?_) (fun cdv A outer s H vs Q hr h => ?_)
  · obtain ⟨_, _, rfl, _⟩ := h
    rfl
  · obtain ⟨F, L, rfl, hF, q⟩ := h
    refine ⟨_, pss_cons (ps_set (i := 1) scOdd.nd rfl (.inl rfl) (pe_lst (pa_cons pe_non (pa_cons pe_bl (pa_cons pe_bl (pa_cons pe_int (pa_cons (pe_un un_neg pe_int) (pa_cons pe_int (pa_cons pe_str (pa_cons pe_str (pa_cons (pe_tup pa_nil) (pa_cons (pe_lst pa_nil) (pa_cons pe_cell (pa_cons (pe_tup (pa_cons pe_cell (pa_cons pe_int pa_nil))) (pa_cons (pe_tup (pa_cons (pe_tup (pa_cons pe_cell (pa_cons pe_int pa_nil))) pa_nil)) (pa_cons pe_str (pa_cons (pe_tup (pa_cons pe_int (pa_cons pe_int pa_nil))) pa_nil)))))))))))))))))
      (pss_one (ps_ret (pe_ix (ix_list : IxR _ (rIxL K)) (pe_op op_cat (pv 1) (pe_lst (pa_cons (pe_tup (pa_cons pe_int (pa_cons pe_int pa_nil))) (pa_cons (pe_tup (pa_cons pe_int (pa_cons pe_int pa_nil))) (pa_cons (pe_op op_pow pe_int pe_int) pa_nil)))))
        (pe_g GD hr (by rfl) gD FD.kp bD .nil (pa_cons (pv 0) (pa_cons pe_int pa_nil))) (fun _ _ => rfl)))), ?_⟩
    refine iSeq (iAsg ?_)
    refine ⟨1, rfl, Nat.zero_le _, fun a1 h1 => ?_⟩
    have s1 := same_new (o := .tup []) h1
    refine ⟨Nat.zero_le _, fun a2 h2 => ?_⟩
    have s2 := same_new (o := .lst []) h2
    refine ⟨by show 2 ≤ sizeLine; decide, fun a3 h3 => ?_⟩
    have s3 := same_new (o := .tup [.str "a", .int 0]) h3
    refine ⟨by show 2 ≤ sizeLine; decide, fun a4 h4 => ⟨by show 2 ≤ sizeLine; decide, fun a5 h5 => ?_⟩⟩
    have s4 := same_new (o := .tup [.str "a", .int 0]) h4
    have s5 := same_new (o := .tup [.ref a4, .int 1]) h5
    refine ⟨by show 2 ≤ sizeLine; decide, fun a6 h6 => ⟨by show 2 ≤ sizeLine; decide, fun a7 h7 => ⟨by show 1 ≤ sizeLine; decide, fun a8 h8 => ?_⟩⟩⟩
    have s6 := same_new (o := .tup [.str "a", .int 0]) h6
    have s7 := same_new (o := .tup [.ref a6, .int 1]) h7
    have s8 := same_new (o := .tup [.ref a7]) h8
    refine ⟨by show 2 ≤ sizeLine; decide, fun a9 h9 => ?_⟩
    have s9 := same_new (o := .tup [.int 1, .int 2]) h9
    refine ⟨by show 15 ≤ sizeLine; decide, fun a10 h10 => ?_⟩
    have s10 := same_new (o := .lst [.non, .bl true, .bl false, .int 0, .int (-1), .int 1, .str "", .str "a", .ref a1, .ref a2, .ref a3, .ref a5, .ref a8, .str "lost", .ref a9]) h10
    have r9 := s9.trans s10
    have r8 := s8.trans r9
    have r7 := s7.trans r8
    have r6 := s6.trans r7
    have r5 := s5.trans r6
    have r4 := s4.trans r5
    have r3 := s3.trans r4
    have r2 := s2.trans r3
    have r1 := s1.trans r2
    have f1 := r2 a1 _ upd_same
    have f2 := r3 a2 _ upd_same
    have f3 := r4 a3 _ upd_same
    have f4 := r5 a4 _ upd_same
    have f5 := r6 a5 _ upd_same
    have f6 := r7 a6 _ upd_same
    have f7 := r8 a7 _ upd_same
    have f8 := r9 a8 _ upd_same
    have f9 := s10 a9 _ upd_same
    have f10 : (upd (upd (upd (upd (upd (upd (upd (upd (upd (upd H a1 (.tup [])) a2 (.lst [])) a3 (.tup [.str "a", .int 0])) a4 (.tup [.str "a", .int 0])) a5 (.tup [.ref a4, .int 1])) a6 (.tup [.str "a", .int 0])) a7 (.tup [.ref a6, .int 1])) a8 (.tup [.ref a7])) a9 (.tup [.int 1, .int 2])) a10 (.lst [.non, .bl true, .bl false, .int 0, .int (-1), .int 1, .str "", .str "a", .ref a1, .ref a2, .ref a3, .ref a5, .ref a8, .str "lost", .ref a9])) a10 = some (.lst [.non, .bl true, .bl false, .int 0, .int (-1), .int 1, .str "", .str "a", .ref a1, .ref a2, .ref a3, .ref a5, .ref a8, .str "lost", .ref a9]) := upd_same
    have n2 : ∀ D, (∃ o, H D = some o) → a2 ≠ D := fun D ⟨o, ho⟩ z => by
      subst z
      have := s1 _ _ ho
      rw [h2] at this
      cases this
    clear s1 s2 s3 s4 s5 s6 s7 s8 s9 s10 r2 r3 r4 r5 r6 r7 r8 r9
    generalize (upd (upd (upd (upd (upd (upd (upd (upd (upd (upd H a1 (.tup [])) a2 (.lst [])) a3 (.tup [.str "a", .int 0])) a4 (.tup [.str "a", .int 0])) a5 (.tup [.ref a4, .int 1])) a6 (.tup [.str "a", .int 0])) a7 (.tup [.ref a6, .int 1])) a8 (.tup [.ref a7])) a9 (.tup [.int 1, .int 2])) a10 (.lst [.non, .bl true, .bl false, .int 0, .int (-1), .int 1, .str "", .str "a", .ref a1, .ref a2, .ref a3, .ref a5, .ref a8, .str "lost", .ref a9])) = G at r1 f1 f2 f3 f4 f5 f6 f7 f8 f9 f10 ⊢
    refine iName ?_
    try dsimp only
    refine iRet (iOp ?_)
    refine iOp ?_
    refine ⟨.ref a10, rfl, by show 2 ≤ sizeLine; decide, fun b1 hb1 => ⟨by show 2 ≤ sizeLine; decide, fun b2 hb2 => ?_⟩⟩
    have t1 := same_new (o := .tup [.int 0, .int 1]) hb1
    have t2 := same_new (o := .tup [.int 2, .int 4]) hb2
    refine ⟨10, 59, rfl, rfl, ⟨by decide, by decide, by decide⟩, by show 3 ≤ sizeLine; decide, fun b3 hb3 => ?_⟩
    have t3 := same_new (o := .lst [.ref b1, .ref b2, .int ((10 : Int) ^ (59 : Int).toNat)]) hb3
    have t13 := (t1.trans t2).trans t3
    refine ⟨a10, b3, _, _, rfl, rfl, t13 _ _ f10, upd_same, by show 15 + 3 ≤ sizeLine; decide, fun c hc => ?_⟩
    have t4 := same_new (o := .lst ([.non, .bl true, .bl false, .int 0, .int (-1), .int 1, .str "", .str "a", .ref a1, .ref a2, .ref a3, .ref a5, .ref a8, .str "lost", .ref a9] ++ [.ref b1, .ref b2, .int ((10 : Int) ^ (59 : Int).toNat)])) hc
    have e1 := (t13.trans t4)
    have g1 := ((t2.trans t3).trans t4) b1 _ upd_same
    have g2 := (t3.trans t4) b2 _ upd_same
    have gc : (upd (upd (upd (upd G b1 (.tup [.int 0, .int 1])) b2 (.tup [.int 2, .int 4])) b3 (.lst [.ref b1, .ref b2, .int ((10 : Int) ^ (59 : Int).toNat)])) c (.lst ([.non, .bl true, .bl false, .int 0, .int (-1), .int 1, .str "", .str "a", .ref a1, .ref a2, .ref a3, .ref a5, .ref a8, .str "lost", .ref a9] ++ [.ref b1, .ref b2, .int ((10 : Int) ^ (59 : Int).toNat)]))) c = some (.lst ([.non, .bl true, .bl false, .int 0, .int (-1), .int 1, .str "", .str "a", .ref a1, .ref a2, .ref a3, .ref a5, .ref a8, .str "lost", .ref a9] ++ [.ref b1, .ref b2, .int ((10 : Int) ^ (59 : Int).toNat)])) := upd_same
    clear t1 t2 t3 t4 t13
    generalize (upd (upd (upd (upd G b1 (.tup [.int 0, .int 1])) b2 (.tup [.int 2, .int 4])) b3 (.lst [.ref b1, .ref b2, .int ((10 : Int) ^ (59 : Int).toNat)])) c (.lst ([.non, .bl true, .bl false, .int 0, .int (-1), .int 1, .str "", .str "a", .ref a1, .ref a2, .ref a3, .ref a5, .ref a8, .str "lost", .ref a9] ++ [.ref b1, .ref b2, .int ((10 : Int) ^ (59 : Int).toNat)]))) = G2 at e1 g1 g2 gc ⊢
    have re := r1.trans e1
    have all : ∀ D, (∃ o, H D = some o) → DHs D G2 ([.non, .bl true, .bl false, .int 0, .int (-1), .int 1, .str "", .str "a", .ref a1, .ref a2, .ref a3, .ref a5, .ref a8, .str "lost", .ref a9] ++ [.ref b1, .ref b2, .int ((10 : Int) ^ (59 : Int).toNat)]) oddL := fun D hD => by
      have c3 : ∀ a, G2 a = some (.tup [.str "a", .int 0]) → DH D G2 (.ref a) cellA := fun a ha => .tup ha (.cons (.str _) (.cons (.int _) .nil))
      have p5 : ∀ a b, G2 b = some (.tup [.str "a", .int 0]) → G2 a = some (.tup [.ref b, .int 1]) → DH D G2 (.ref a) (.tuple [cellA, .int 1]) := fun a b hb ha => .tup ha (.cons (c3 b hb) (.cons (.int _) .nil))
      refine .cons .non (.cons (.bl _) (.cons (.bl _) (.cons (.int _) (.cons (.int _) (.cons (.int _) (.cons (.str _) (.cons (.str _) (.cons (.tup (e1 _ _ f1) .nil) (.cons (.lst (n2 D hD) (e1 _ _ f2) .nil) (.cons (c3 a3 (e1 _ _ f3)) (.cons (p5 a5 a4 (e1 _ _ f4) (e1 _ _ f5)) (.cons (.tup (e1 _ _ f8) (.cons (p5 a7 a6 (e1 _ _ f6) (e1 _ _ f7)) .nil)) (.cons (.str _) (.cons (.tup (e1 _ _ f9) (.cons (.int _) (.cons (.int _) .nil))) (.cons (.tup g1 (.cons (.int _) (.cons (.int _) .nil))) (.cons (.tup g2 (.cons (.int _) (.cons (.int _) .nil))) (.cons (.int _) .nil)))))))))))))))))
    refine ⟨.ref F, rfl, F, L, 18, rfl, hF.same re, by decide, by decide, fun d H' d0 d1 k' hF' => ?_⟩
    have hFG := hF.same re
    have ncF : c ≠ F := fun z => by
      obtain ⟨_, _, _, _, h, _⟩ := hFG
      rw [z, h] at gc
      cases gc
    obtain ⟨n, rfl⟩ : ∃ n : Nat, d = (n : Int) := ⟨d.toNat, by omega⟩
    have hn : n < 18 := by omega
    have hlen : ([.non, .bl true, .bl false, .int 0, .int (-1), .int 1, .str "", .str "a", .ref a1, .ref a2, .ref a3, .ref a5, .ref a8, .str "lost", .ref a9] ++ [.ref b1, .ref b2, .int ((10 : Int) ^ (59 : Int).toNat)] : List V).length = 18 := rfl
    generalize ([.non, .bl true, .bl false, .int 0, .int (-1), .int 1, .str "", .str "a", .ref a1, .ref a2, .ref a3, .ref a5, .ref a8, .str "lost", .ref a9] ++ [.ref b1, .ref b2, .int ((10 : Int) ^ (59 : Int).toNat)] : List V) = xs at all gc hlen
    have hx : xs[n]? = some xs[n] := List.getElem?_eq_getElem (by omega)
    have kd : ∀ D, KeepD D G2 H' := fun D => ⟨fun b ys e => k' b _ (fun z => by
      obtain ⟨_, _, _, _, h, _⟩ := hFG
      rw [z, h] at e
      cases e) e, fun b ys _ e => k' b _ (fun z => by
      obtain ⟨_, _, _, _, h, _⟩ := hFG
      rw [z, h] at e
      cases e) e⟩
    obtain ⟨d, hd, _⟩ := (all F (by
      obtain ⟨_, _, _, _, h, _⟩ := hF
      exact ⟨_, h⟩)).at hx
    refine ⟨c, xs, _, xs[n], rfl, rfl, sqL (k' _ _ ncF gc), atI_nat hx, q H' xs[n] d ((KeepF.of re).trans k') hF' (fun D hD => ?_) (odd_mild d (List.mem_of_getElem? hd))⟩
    obtain ⟨d2, hd2, hh⟩ := (all D hD).at hx
    rw [hd] at hd2
    cases hd2
    exact hh.keep (kd D)
end
end P01
namespace P01
open PySem PySem.Spec PyProof.Rows L2 AskG
abbrev sBent : Stmt := topS 33
theorem scBent : FnScope ["_law_feed_here", "_law_item", "_law_at", "_law_way", "_law_some"] ["_law_feed_here", "_law_item"] (defScope sBent) := ⟨rfl, rfl, rfl, by decide +kernel, rfl, by decide +kernel, by decide +kernel⟩
theorem KeepF.kd {F L D : Addr} {H H' : Hp} (k : KeepF F H H') (f : FeedAt H F L) : KeepD D H H' := by
  obtain ⟨_, _, _, _, h, _⟩ := f
  exact ⟨fun b xs e => k b _ (ne_of e h fun z => nomatch z) e, fun b xs _ e => k b _ (ne_of e h fun z => nomatch z) e⟩
theorem KeepF.taken {F L D : Addr} {H H' : Hp} (k : KeepF F H H') (f : FeedAt H' F L) (h : Taken H D) : Taken H' D := by
  by_cases e : D = F
  · obtain ⟨_, _, _, _, h, _⟩ := f
    rw [e]
    exact ⟨_, h⟩
  · obtain ⟨o, ho⟩ := h
    exact ⟨o, k _ _ e ho⟩
theorem iNext {D : Ends} {σ : L2.St} {H : Hp} (h : D.nx σ H) : tNext D σ H := h
theorem iAnd {t u : TT} {σ : L2.St} {H : Hp} {Q : Bool → Hp → Prop} (h : t σ H fun c H1 => if c = true then u σ H1 Q else Q false H1) : tAnd t u σ H Q := h
def prBent : Nat → Pr
  | 0 => fun _ _ _ => False
  | n + 1 => fun vs H Q => ∃ (F L : Addr) (v : V) (d : PyData) (D : Addr) (b t k m : Nat), vs = [.ref F, v] ∧ FeedAt H F L ∧ Taken H D ∧ DH D H v d ∧ Of b t k m d ∧ k ≤ n ∧ 100 ≤ b ∧ b ≤ 310 ∧ 10 ^ 59 ≤ t ∧ t < 10 ^ 79 ∧
    ∀ H' r d', KeepF F H H' → FeedAt H' F L → DH D H' r d' → Of (3 * b + 8) (t + 1) (k + 4) (3 * m + 1000) d' → Q r H'
section
variable {P : Program} {w : World} {K : PySem.W.Frag} {mg : Str → Option Value} {base : Heap}
variable {fD fO : Addr} {fdD fdO : FuncData}
theorem bent_non {f : Addr} {fd : FuncData} {n : Nat} {cdv : Value} {A : Around} {outer : List Env} {s0 : Shared} {H : Hp} {Q : VK}
    (hr : RG (n + 3) (A.deeper (envOfC "_law_bent" (defScope sBent) s0.heap.objs.size f cdv)))
    (F : Fun K "_law_bent" "_law_bent" sBent f fd) (bB : Binds K fd ["_law_feed_here", "_law_item"] []) (gB : mg "_law_bent" = some (.ref f))
    (GB : FnG P w K mg base (n + 3) f fd ["_law_feed_here", "_law_item"] (prBent n))
    (FD : Fun K "_law_draw" "_law_draw" sDraw fD fdD) (bD : Binds K fdD ["_law_feed_here", "_law_many"] []) (gD : mg "_law_draw" = some (.ref fD))
    (FO : Fun K "_law_odd" "_law_odd" sOdd fO fdO) (bO : Binds K fdO ["_law_feed_here"] []) (gO : mg "_law_odd" = some (.ref fO))
    (mi : mg "isinstance" = none) (mt : mg "tuple" = none) (mst : mg "str" = none) (mn : mg "int" = none) (ml : mg "len" = none) (mls : mg "list" = none) (n40 : n ≤ 40)
    {Fa L D : Addr} {v : V} {b t k m : Nat} (hF : FeedAt H Fa L) (hT : Taken H D) (hd : DH D H v (.none)) (ho : Of b t k m (.none)) (hk : k ≤ n) (b0 : 100 ≤ b) (b1 : b ≤ 310) (t0 : 10 ^ 59 ≤ t) (t1 : t < 10 ^ 79)
    (q : ∀ H' r d', KeepF Fa H H' → FeedAt H' Fa L → DH D H' r d' → Of (3 * b + 8) (t + 1) (k + 4) (3 * m + 1000) d' → Q r H') :
    ∃ ts, PSs (cxOf CX0 P w K mg base ["_law_feed_here", "_law_item", "_law_at", "_law_way", "_law_some"] "_law_bent" (defScope sBent) f cdv A outer s0 H E0).nox (defBody sBent) ts ∧
      ts { nx := fun _ H' => Q .non H', rt := Q } (start ["_law_feed_here", "_law_item", "_law_at", "_law_way", "_law_some"] [.ref Fa, v]) H := by
  have GD : FnG P w K mg base (0 + 1) fD fdD ["_law_feed_here", "_law_many"] prDraw := ok_draw FD ml
  have GO : FnG P w K mg base (0 + 2) fO fdO ["_law_feed_here"] prOdd := ok_odd FO FD bD gD ml
  have hr1 : RG (0 + 1) (A.deeper (envOfC "_law_bent" (defScope sBent) s0.heap.objs.size f cdv)) := hr.mono (by omega)
  have hr2 : RG (0 + 2) (A.deeper (envOfC "_law_bent" (defScope sBent) s0.heap.objs.size f cdv)) := hr.mono (by omega)
  have hun := hr.room.units
  have big := sizeBig
  refine ⟨_, pss_cons (ps_if (PW.pt (pw_and (pt_val (pe_callB call_isi (by rfl) mi (by decide +kernel) (pa_cons (pv 1) (pa_cons (pe_bltn (v := .ty "tuple") (by rfl) mt (by decide +kernel) rfl) pa_nil)))) (pw_and (pt_cmpR (op_neD hun) (pv 1) (pe_tup pa_nil) (nomark _)) (pw_and1 (pt_cmpR op_gt (pe_g GD hr1 (by rfl) gD FD.kp bD .nil (pa_cons (pv 0) (pa_cons pe_int pa_nil))) pe_int (nomark _))))))
      pss_never pss_nil)
    (pss_cons (ps_set (i := 3) scBent.nd rfl (.inl rfl) (pe_g GD hr1 (by rfl) gD FD.kp bD .nil (pa_cons (pv 0) (pa_cons pe_int pa_nil))))
    (pss_cons (ps_if (PW.pt (pw_and (pt_val (pe_callB call_isi (by rfl) mi (by decide +kernel) (pa_cons (pv 1) (pa_cons (pe_bltn (v := .ty "tuple") (by rfl) mt (by decide +kernel) rfl) pa_nil)))) (pw_and1 (pt_cmpR op_lt (pv 3) pe_int (nomark _)))))
      pss_never pss_nil)
    (pss_cons (ps_if (PW.pt (pw_and (pt_val (pe_callB call_isi (by rfl) mi (by decide +kernel) (pa_cons (pv 1) (pa_cons (pe_bltn (v := .ty "str") (by rfl) mst (by decide +kernel) rfl) pa_nil)))) (pw_and1 (pt_cmpR op_lt (pv 3) pe_int (nomark _)))))
      pss_never pss_nil)
    (pss_cons (ps_if (PW.pt (pw_and (pt_val (pe_callB call_isi (by rfl) mi (by decide +kernel) (pa_cons (pv 1) (pa_cons (pe_bltn (v := .ty "int") (by rfl) mn (by decide +kernel) rfl) pa_nil)))) (pw_and1 (pt_cmpR op_lt (pv 3) pe_int (nomark _)))))
      pss_never pss_nil)
    (pss_one (ps_ret (pe_g GO hr2 (by rfl) gO FO.kp bO .nil (pa_cons (pv 0) pa_nil)))))))), ?_⟩
  refine iSeq (iIfS (iAnd (iB (isi_call (K := K) (i := 1) (a := tyN _) (b := "tuple") (x := v) rfl hd.ty (kit_tup _) ⟨_, rfl, ?_⟩))))
  refine iteF (iteF (iNext ?_))
  dsimp only
  refine iSeq (iAsg ⟨.ref Fa, rfl, Fa, L, 9, rfl, hF, by decide, by decide, fun w H1 w0 w1 k1 hF1 => ?_⟩)
  refine iName ?_
  dsimp only
  have hd1 := hd.keep (k1.kd (D := D) hF)
  have hT1 := k1.taken hF1 hT
  have fin : prOdd [.ref Fa] H1 Q := ⟨Fa, L, rfl, hF1, fun H2 r d' k2 hF2 hn hm => q H2 r d' (k1.trans k2) hF2 (hn D hT1) (hm.mono (by omega) (by omega) (by omega) (by omega))⟩
  refine iSeq (iIfS (iAnd (iB (isi_call (K := K) (i := 1) (a := tyN _) (b := "tuple") (x := v) rfl hd1.ty (kit_tup _) ⟨_, rfl, ?_⟩))))
  refine iteF (iteF (iNext ?_))
  dsimp only
  refine iSeq (iIfS (iAnd (iB (isi_call (K := K) (i := 1) (a := tyN _) (b := "str") (x := v) rfl hd1.ty (kit_str _) ⟨_, rfl, ?_⟩))))
  refine iteF (iteF (iNext ?_))
  dsimp only
  refine iSeq (iIfS (iAnd (iB (isi_call (K := K) (i := 1) (a := tyN _) (b := "int") (x := v) rfl hd1.ty (kit_int _) ⟨_, rfl, ?_⟩))))
  refine iteF (iteF (iNext ?_))
  dsimp only
  exact iRet ⟨.ref Fa, rfl, fin⟩
theorem bent_lst {f : Addr} {fd : FuncData} {n : Nat} {cdv : Value} {A : Around} {outer : List Env} {s0 : Shared} {H : Hp} {Q : VK}
    (hr : RG (n + 3) (A.deeper (envOfC "_law_bent" (defScope sBent) s0.heap.objs.size f cdv)))
    (F : Fun K "_law_bent" "_law_bent" sBent f fd) (bB : Binds K fd ["_law_feed_here", "_law_item"] []) (gB : mg "_law_bent" = some (.ref f))
    (GB : FnG P w K mg base (n + 3) f fd ["_law_feed_here", "_law_item"] (prBent n))
    (FD : Fun K "_law_draw" "_law_draw" sDraw fD fdD) (bD : Binds K fdD ["_law_feed_here", "_law_many"] []) (gD : mg "_law_draw" = some (.ref fD))
    (FO : Fun K "_law_odd" "_law_odd" sOdd fO fdO) (bO : Binds K fdO ["_law_feed_here"] []) (gO : mg "_law_odd" = some (.ref fO))
    (mi : mg "isinstance" = none) (mt : mg "tuple" = none) (mst : mg "str" = none) (mn : mg "int" = none) (ml : mg "len" = none) (mls : mg "list" = none) (n40 : n ≤ 40)
    {es : List PyData} {Fa L D : Addr} {v : V} {b t k m : Nat} (hF : FeedAt H Fa L) (hT : Taken H D) (hd : DH D H v (.list es)) (ho : Of b t k m (.list es)) (hk : k ≤ n) (b0 : 100 ≤ b) (b1 : b ≤ 310) (t0 : 10 ^ 59 ≤ t) (t1 : t < 10 ^ 79)
    (q : ∀ H' r d', KeepF Fa H H' → FeedAt H' Fa L → DH D H' r d' → Of (3 * b + 8) (t + 1) (k + 4) (3 * m + 1000) d' → Q r H') :
    ∃ ts, PSs (cxOf CX0 P w K mg base ["_law_feed_here", "_law_item", "_law_at", "_law_way", "_law_some"] "_law_bent" (defScope sBent) f cdv A outer s0 H E0).nox (defBody sBent) ts ∧
      ts { nx := fun _ H' => Q .non H', rt := Q } (start ["_law_feed_here", "_law_item", "_law_at", "_law_way", "_law_some"] [.ref Fa, v]) H := by
  have GD : FnG P w K mg base (0 + 1) fD fdD ["_law_feed_here", "_law_many"] prDraw := ok_draw FD ml
  have GO : FnG P w K mg base (0 + 2) fO fdO ["_law_feed_here"] prOdd := ok_odd FO FD bD gD ml
  have hr1 : RG (0 + 1) (A.deeper (envOfC "_law_bent" (defScope sBent) s0.heap.objs.size f cdv)) := hr.mono (by omega)
  have hr2 : RG (0 + 2) (A.deeper (envOfC "_law_bent" (defScope sBent) s0.heap.objs.size f cdv)) := hr.mono (by omega)
  have hun := hr.room.units
  have big := sizeBig
  refine ⟨_, pss_cons (ps_if (PW.pt (pw_and (pt_val (pe_callB call_isi (by rfl) mi (by decide +kernel) (pa_cons (pv 1) (pa_cons (pe_bltn (v := .ty "tuple") (by rfl) mt (by decide +kernel) rfl) pa_nil)))) (pw_and (pt_cmpR (op_neD hun) (pv 1) (pe_tup pa_nil) (nomark _)) (pw_and1 (pt_cmpR op_gt (pe_g GD hr1 (by rfl) gD FD.kp bD .nil (pa_cons (pv 0) (pa_cons pe_int pa_nil))) pe_int (nomark _))))))
      pss_never pss_nil)
    (pss_cons (ps_set (i := 3) scBent.nd rfl (.inl rfl) (pe_g GD hr1 (by rfl) gD FD.kp bD .nil (pa_cons (pv 0) (pa_cons pe_int pa_nil))))
    (pss_cons (ps_if (PW.pt (pw_and (pt_val (pe_callB call_isi (by rfl) mi (by decide +kernel) (pa_cons (pv 1) (pa_cons (pe_bltn (v := .ty "tuple") (by rfl) mt (by decide +kernel) rfl) pa_nil)))) (pw_and1 (pt_cmpR op_lt (pv 3) pe_int (nomark _)))))
      pss_never pss_nil)
    (pss_cons (ps_if (PW.pt (pw_and (pt_val (pe_callB call_isi (by rfl) mi (by decide +kernel) (pa_cons (pv 1) (pa_cons (pe_bltn (v := .ty "str") (by rfl) mst (by decide +kernel) rfl) pa_nil)))) (pw_and1 (pt_cmpR op_lt (pv 3) pe_int (nomark _)))))
      pss_never pss_nil)
    (pss_cons (ps_if (PW.pt (pw_and (pt_val (pe_callB call_isi (by rfl) mi (by decide +kernel) (pa_cons (pv 1) (pa_cons (pe_bltn (v := .ty "int") (by rfl) mn (by decide +kernel) rfl) pa_nil)))) (pw_and1 (pt_cmpR op_lt (pv 3) pe_int (nomark _)))))
      pss_never pss_nil)
    (pss_one (ps_ret (pe_g GO hr2 (by rfl) gO FO.kp bO .nil (pa_cons (pv 0) pa_nil)))))))), ?_⟩
  refine iSeq (iIfS (iAnd (iB (isi_call (K := K) (i := 1) (a := tyN _) (b := "tuple") (x := v) rfl hd.ty (kit_tup _) ⟨_, rfl, ?_⟩))))
  refine iteF (iteF (iNext ?_))
  dsimp only
  refine iSeq (iAsg ⟨.ref Fa, rfl, Fa, L, 9, rfl, hF, by decide, by decide, fun w H1 w0 w1 k1 hF1 => ?_⟩)
  refine iName ?_
  dsimp only
  have hd1 := hd.keep (k1.kd (D := D) hF)
  have hT1 := k1.taken hF1 hT
  have fin : prOdd [.ref Fa] H1 Q := ⟨Fa, L, rfl, hF1, fun H2 r d' k2 hF2 hn hm => q H2 r d' (k1.trans k2) hF2 (hn D hT1) (hm.mono (by omega) (by omega) (by omega) (by omega))⟩
  refine iSeq (iIfS (iAnd (iB (isi_call (K := K) (i := 1) (a := tyN _) (b := "tuple") (x := v) rfl hd1.ty (kit_tup _) ⟨_, rfl, ?_⟩))))
  refine iteF (iteF (iNext ?_))
  dsimp only
  refine iSeq (iIfS (iAnd (iB (isi_call (K := K) (i := 1) (a := tyN _) (b := "str") (x := v) rfl hd1.ty (kit_str _) ⟨_, rfl, ?_⟩))))
  refine iteF (iteF (iNext ?_))
  dsimp only
  refine iSeq (iIfS (iAnd (iB (isi_call (K := K) (i := 1) (a := tyN _) (b := "int") (x := v) rfl hd1.ty (kit_int _) ⟨_, rfl, ?_⟩))))
  refine iteF (iteF (iNext ?_))
  dsimp only
  exact iRet ⟨.ref Fa, rfl, fin⟩
theorem bent_str {f : Addr} {fd : FuncData} {n : Nat} {cdv : Value} {A : Around} {outer : List Env} {s0 : Shared} {H : Hp} {Q : VK}
    (hr : RG (n + 3) (A.deeper (envOfC "_law_bent" (defScope sBent) s0.heap.objs.size f cdv)))
    (F : Fun K "_law_bent" "_law_bent" sBent f fd) (bB : Binds K fd ["_law_feed_here", "_law_item"] []) (gB : mg "_law_bent" = some (.ref f))
    (GB : FnG P w K mg base (n + 3) f fd ["_law_feed_here", "_law_item"] (prBent n))
    (FD : Fun K "_law_draw" "_law_draw" sDraw fD fdD) (bD : Binds K fdD ["_law_feed_here", "_law_many"] []) (gD : mg "_law_draw" = some (.ref fD))
    (FO : Fun K "_law_odd" "_law_odd" sOdd fO fdO) (bO : Binds K fdO ["_law_feed_here"] []) (gO : mg "_law_odd" = some (.ref fO))
    (mi : mg "isinstance" = none) (mt : mg "tuple" = none) (mst : mg "str" = none) (mn : mg "int" = none) (ml : mg "len" = none) (mls : mg "list" = none) (n40 : n ≤ 40)
    {s : Str} {Fa L D : Addr} {v : V} {b t k m : Nat} (hF : FeedAt H Fa L) (hT : Taken H D) (hd : DH D H v (.str s)) (ho : Of b t k m (.str s)) (hk : k ≤ n) (b0 : 100 ≤ b) (b1 : b ≤ 310) (t0 : 10 ^ 59 ≤ t) (t1 : t < 10 ^ 79)
    (q : ∀ H' r d', KeepF Fa H H' → FeedAt H' Fa L → DH D H' r d' → Of (3 * b + 8) (t + 1) (k + 4) (3 * m + 1000) d' → Q r H') :
    ∃ ts, PSs (cxOf CX0 P w K mg base ["_law_feed_here", "_law_item", "_law_at", "_law_way", "_law_some"] "_law_bent" (defScope sBent) f cdv A outer s0 H E0).nox (defBody sBent) ts ∧
      ts { nx := fun _ H' => Q .non H', rt := Q } (start ["_law_feed_here", "_law_item", "_law_at", "_law_way", "_law_some"] [.ref Fa, v]) H := by
  have GD : FnG P w K mg base (0 + 1) fD fdD ["_law_feed_here", "_law_many"] prDraw := ok_draw FD ml
  have GO : FnG P w K mg base (0 + 2) fO fdO ["_law_feed_here"] prOdd := ok_odd FO FD bD gD ml
  have hr1 : RG (0 + 1) (A.deeper (envOfC "_law_bent" (defScope sBent) s0.heap.objs.size f cdv)) := hr.mono (by omega)
  have hr2 : RG (0 + 2) (A.deeper (envOfC "_law_bent" (defScope sBent) s0.heap.objs.size f cdv)) := hr.mono (by omega)
  have hun := hr.room.units
  have big := sizeBig
  have sb : s.length ≤ 310 := Nat.le_trans (str_len ho).2.1 b1
  refine ⟨_, pss_cons (ps_if (PW.pt (pw_and (pt_val (pe_callB call_isi (by rfl) mi (by decide +kernel) (pa_cons (pv 1) (pa_cons (pe_bltn (v := .ty "tuple") (by rfl) mt (by decide +kernel) rfl) pa_nil)))) (pw_and (pt_cmpR (op_neD hun) (pv 1) (pe_tup pa_nil) (nomark _)) (pw_and1 (pt_cmpR op_gt (pe_g GD hr1 (by rfl) gD FD.kp bD .nil (pa_cons (pv 0) (pa_cons pe_int pa_nil))) pe_int (nomark _))))))
      pss_never pss_nil)
    (pss_cons (ps_set (i := 3) scBent.nd rfl (.inl rfl) (pe_g GD hr1 (by rfl) gD FD.kp bD .nil (pa_cons (pv 0) (pa_cons pe_int pa_nil))))
    (pss_cons (ps_if (PW.pt (pw_and (pt_val (pe_callB call_isi (by rfl) mi (by decide +kernel) (pa_cons (pv 1) (pa_cons (pe_bltn (v := .ty "tuple") (by rfl) mt (by decide +kernel) rfl) pa_nil)))) (pw_and1 (pt_cmpR op_lt (pv 3) pe_int (nomark _)))))
      pss_never pss_nil)
    (pss_cons (ps_if (PW.pt (pw_and (pt_val (pe_callB call_isi (by rfl) mi (by decide +kernel) (pa_cons (pv 1) (pa_cons (pe_bltn (v := .ty "str") (by rfl) mst (by decide +kernel) rfl) pa_nil)))) (pw_and1 (pt_cmpR op_lt (pv 3) pe_int (nomark _)))))
      (pss_one (ps_ret (pe_ix (ix_list : IxR _ (rIxL K)) (from_lst (i := 1) (D := D) (d0 := .str s) (from_cons (PE.less (t' := tFrom 1 D _ (.str (s ++ "a"))) (pe_op op_add_str (pv 1) pe_str) (fun σ H Q q => ⟨_, src_str q.1, s, _, rfl, rfl, by show s.length + 1 ≤ sizeLine; omega, q.2 H _ (Same.refl _) (.str _)⟩)) (from_cons (PE.less (t' := tFrom 1 D _ (.str (cutS s none (some (-1))))) (pe_slice sl_str (pv 1) po_none (po_some (pe_un un_neg pe_int))) (fun σ H Q q => ⟨_, src_str q.1, 1, rfl, -1, rfl, s, rfl, by omega, q.2 H _ (Same.refl _) (.str _)⟩)) (from_cons (PE.less (t' := tFrom 1 D _ (.str (Txt.upper s))) (pe_upper (pv 1)) (fun σ H Q q => ⟨_, src_str q.1, ⟨s, rfl⟩, s, rfl, rfl, by omega, q.2 H _ (Same.refl _) (.str _)⟩)) (from_cons (PE.less (t' := tFrom 1 D _ (.str (s ++ " "))) (pe_op op_add_str (pv 1) pe_str) (fun σ H Q q => ⟨_, src_str q.1, s, _, rfl, rfl, by show s.length + 1 ≤ sizeLine; omega, q.2 H _ (Same.refl _) (.str _)⟩)) (from_cons (from_lst (from_cons (from_var (pv 1)) from_nil) (by show 1 ≤ 1000; decide)) (from_cons (PE.less (t' := tFrom 1 D _ (.str (s ++ "abcdefgh"))) (pe_op op_add_str (pv 1) pe_str) (fun σ H Q q => ⟨_, src_str q.1, s, _, rfl, rfl, by show s.length + 8 ≤ sizeLine; omega, q.2 H _ (Same.refl _) (.str _)⟩)) from_nil)))))) (by show 6 ≤ 1000; decide)) (pv 3) (fun _ _ => rfl)))) pss_nil)
    (pss_cons (ps_if (PW.pt (pw_and (pt_val (pe_callB call_isi (by rfl) mi (by decide +kernel) (pa_cons (pv 1) (pa_cons (pe_bltn (v := .ty "int") (by rfl) mn (by decide +kernel) rfl) pa_nil)))) (pw_and1 (pt_cmpR op_lt (pv 3) pe_int (nomark _)))))
      pss_never pss_nil)
    (pss_one (ps_ret (pe_g GO hr2 (by rfl) gO FO.kp bO .nil (pa_cons (pv 0) pa_nil)))))))), ?_⟩
  refine iSeq (iIfS (iAnd (iB (isi_call (K := K) (i := 1) (a := tyN _) (b := "tuple") (x := v) rfl hd.ty (kit_tup _) ⟨_, rfl, ?_⟩))))
  refine iteF (iteF (iNext ?_))
  dsimp only
  refine iSeq (iAsg ⟨.ref Fa, rfl, Fa, L, 9, rfl, hF, by decide, by decide, fun w H1 w0 w1 k1 hF1 => ?_⟩)
  refine iName ?_
  dsimp only
  have hd1 := hd.keep (k1.kd (D := D) hF)
  have hT1 := k1.taken hF1 hT
  have fin : prOdd [.ref Fa] H1 Q := ⟨Fa, L, rfl, hF1, fun H2 r d' k2 hF2 hn hm => q H2 r d' (k1.trans k2) hF2 (hn D hT1) (hm.mono (by omega) (by omega) (by omega) (by omega))⟩
  refine iSeq (iIfS (iAnd (iB (isi_call (K := K) (i := 1) (a := tyN _) (b := "tuple") (x := v) rfl hd1.ty (kit_tup _) ⟨_, rfl, ?_⟩))))
  refine iteF (iteF (iNext ?_))
  dsimp only
  refine iSeq (iIfS (iAnd (iB (isi_call (K := K) (i := 1) (a := tyN _) (b := "str") (x := v) rfl hd1.ty (kit_str _) ⟨_, rfl, ?_⟩))))
  refine iteT ⟨.int w, rfl, w, 6, rfl, rfl, _, rfl, ite2 (fun e => ?_) (fun e => iNext ?_)⟩
  · refine iRet (iOp ⟨⟨⟨v, rfl, hd1⟩, hT1⟩, fun H2 v2 s2 h2 => ?_⟩)
    obtain ⟨p, ys, rfl, _, hp, hys⟩ := h2.lst_inv
    have w6 : w < 6 := of_decide_eq_true e
    obtain ⟨r, d', hat, hmem, hr'⟩ := pickD hys w0 w6
    refine ⟨.int w, rfl, p, ys, w, r, rfl, rfl, sqL hp, hat, q H2 r d' (k1.trans (KeepF.of s2)) (hF1.same s2) hr' ?_⟩
    obtain ⟨sa, sb, sn⟩ := str_len ho
    have up := len_upper s
    have cl := cutS_len s none (some (-1))
    simp only [List.mem_cons, List.not_mem_nil, or_false] at hmem
    rcases hmem with rfl | rfl | rfl | rfl | rfl | rfl
    · exact Of.str (asc_app sa (by decide)) (by rw [PySem.Str.length_append]; show s.length + 1 ≤ _; omega) (by rw [PySem.Str.length_append]; show 10 * (s.length + 1) + 2 ≤ _; omega)
    · exact Of.str (asc_cut sa _ _) (by omega) (by omega)
    · exact Of.str (asc_upper sa) (by omega) (by omega)
    · exact Of.str (asc_app sa (by decide)) (by rw [PySem.Str.length_append]; show s.length + 1 ≤ _; omega) (by rw [PySem.Str.length_append]; show 10 * (s.length + 1) + 2 ≤ _; omega)
    · exact (Of.lst (All.cons ho (All.nil (n := 0))) (by show 1 ≤ b; omega)).mono (by omega) (by omega) (by omega) (by show m + 0 + 2 * 1 + 3 ≤ _; omega)
    · exact Of.str (asc_app sa (by decide)) (by rw [PySem.Str.length_append]; show s.length + 8 ≤ _; omega) (by rw [PySem.Str.length_append]; show 10 * (s.length + 8) + 2 ≤ _; omega)
  · dsimp only
    refine iSeq (iIfS (iAnd (iB (isi_call (K := K) (i := 1) (a := tyN _) (b := "int") (x := v) rfl hd1.ty (kit_int _) ⟨_, rfl, ?_⟩))))
    refine iteF (iteF (iNext ?_))
    dsimp only
    exact iRet ⟨.ref Fa, rfl, fin⟩
theorem bent_int {f : Addr} {fd : FuncData} {n : Nat} {cdv : Value} {A : Around} {outer : List Env} {s0 : Shared} {H : Hp} {Q : VK}
    (hr : RG (n + 3) (A.deeper (envOfC "_law_bent" (defScope sBent) s0.heap.objs.size f cdv)))
    (F : Fun K "_law_bent" "_law_bent" sBent f fd) (bB : Binds K fd ["_law_feed_here", "_law_item"] []) (gB : mg "_law_bent" = some (.ref f))
    (GB : FnG P w K mg base (n + 3) f fd ["_law_feed_here", "_law_item"] (prBent n))
    (FD : Fun K "_law_draw" "_law_draw" sDraw fD fdD) (bD : Binds K fdD ["_law_feed_here", "_law_many"] []) (gD : mg "_law_draw" = some (.ref fD))
    (FO : Fun K "_law_odd" "_law_odd" sOdd fO fdO) (bO : Binds K fdO ["_law_feed_here"] []) (gO : mg "_law_odd" = some (.ref fO))
    (mi : mg "isinstance" = none) (mt : mg "tuple" = none) (mst : mg "str" = none) (mn : mg "int" = none) (ml : mg "len" = none) (mls : mg "list" = none) (n40 : n ≤ 40)
    {j : Int} {Fa L D : Addr} {v : V} {b t k m : Nat} (hF : FeedAt H Fa L) (hT : Taken H D) (hd : DH D H v (.int j)) (ho : Of b t k m (.int j)) (hk : k ≤ n) (b0 : 100 ≤ b) (b1 : b ≤ 310) (t0 : 10 ^ 59 ≤ t) (t1 : t < 10 ^ 79)
    (q : ∀ H' r d', KeepF Fa H H' → FeedAt H' Fa L → DH D H' r d' → Of (3 * b + 8) (t + 1) (k + 4) (3 * m + 1000) d' → Q r H') :
    ∃ ts, PSs (cxOf CX0 P w K mg base ["_law_feed_here", "_law_item", "_law_at", "_law_way", "_law_some"] "_law_bent" (defScope sBent) f cdv A outer s0 H E0).nox (defBody sBent) ts ∧
      ts { nx := fun _ H' => Q .non H', rt := Q } (start ["_law_feed_here", "_law_item", "_law_at", "_law_way", "_law_some"] [.ref Fa, v]) H := by
  have GD : FnG P w K mg base (0 + 1) fD fdD ["_law_feed_here", "_law_many"] prDraw := ok_draw FD ml
  have GO : FnG P w K mg base (0 + 2) fO fdO ["_law_feed_here"] prOdd := ok_odd FO FD bD gD ml
  have hr1 : RG (0 + 1) (A.deeper (envOfC "_law_bent" (defScope sBent) s0.heap.objs.size f cdv)) := hr.mono (by omega)
  have hr2 : RG (0 + 2) (A.deeper (envOfC "_law_bent" (defScope sBent) s0.heap.objs.size f cdv)) := hr.mono (by omega)
  have hun := hr.room.units
  have big := sizeBig
  have hlog : j.natAbs.log2 < 1920 := by
    have h2 : j.natAbs < 2 ^ 1900 := Nat.lt_of_le_of_lt ho.top (Nat.lt_trans t1 (by decide))
    by_cases z : j.natAbs = 0
    · rw [z]
      decide
    · have := (Nat.log2_lt z).mpr h2
      omega
  refine ⟨_, pss_cons (ps_if (PW.pt (pw_and (pt_val (pe_callB call_isi (by rfl) mi (by decide +kernel) (pa_cons (pv 1) (pa_cons (pe_bltn (v := .ty "tuple") (by rfl) mt (by decide +kernel) rfl) pa_nil)))) (pw_and (pt_cmpR (op_neD hun) (pv 1) (pe_tup pa_nil) (nomark _)) (pw_and1 (pt_cmpR op_gt (pe_g GD hr1 (by rfl) gD FD.kp bD .nil (pa_cons (pv 0) (pa_cons pe_int pa_nil))) pe_int (nomark _))))))
      pss_never pss_nil)
    (pss_cons (ps_set (i := 3) scBent.nd rfl (.inl rfl) (pe_g GD hr1 (by rfl) gD FD.kp bD .nil (pa_cons (pv 0) (pa_cons pe_int pa_nil))))
    (pss_cons (ps_if (PW.pt (pw_and (pt_val (pe_callB call_isi (by rfl) mi (by decide +kernel) (pa_cons (pv 1) (pa_cons (pe_bltn (v := .ty "tuple") (by rfl) mt (by decide +kernel) rfl) pa_nil)))) (pw_and1 (pt_cmpR op_lt (pv 3) pe_int (nomark _)))))
      pss_never pss_nil)
    (pss_cons (ps_if (PW.pt (pw_and (pt_val (pe_callB call_isi (by rfl) mi (by decide +kernel) (pa_cons (pv 1) (pa_cons (pe_bltn (v := .ty "str") (by rfl) mst (by decide +kernel) rfl) pa_nil)))) (pw_and1 (pt_cmpR op_lt (pv 3) pe_int (nomark _)))))
      pss_never pss_nil)
    (pss_cons (ps_if (PW.pt (pw_and (pt_val (pe_callB call_isi (by rfl) mi (by decide +kernel) (pa_cons (pv 1) (pa_cons (pe_bltn (v := .ty "int") (by rfl) mn (by decide +kernel) rfl) pa_nil)))) (pw_and1 (pt_cmpR op_lt (pv 3) pe_int (nomark _)))))
      (pss_one (ps_ret (pe_ix (ix_list : IxR _ (rIxL K)) (from_lst (i := 1) (D := D) (d0 := .int j) (from_cons (PE.less (t' := tFrom 1 D _ (.int (j + 1))) (pe_op op_add (pv 1) pe_int) (fun σ H Q q => ⟨_, src_int q.1, j, 1, rfl, rfl, q.2 H _ (Same.refl _) (.int _)⟩)) (from_cons (PE.less (t' := tFrom 1 D _ (.int (j - 1))) (pe_op op_sub (pv 1) pe_int) (fun σ H Q q => ⟨_, src_int q.1, j, 1, rfl, rfl, q.2 H _ (Same.refl _) (.int _)⟩)) (from_cons (PE.less (t' := tFrom 1 D _ (.bool (decide (V.int j = V.int 1)))) (pe_cmpR op_eq (pv 1) pe_int (nomark _)) (fun σ H Q q => ⟨_, src_int q.1, rfl, q.2 H _ (Same.refl _) (.bl _)⟩)) (from_cons (PE.less (t' := tFrom 1 D _ (.str (toString j))) (pe_callTy call_str_int (by rfl) mst (by decide +kernel) (pa_cons (pv 1) pa_nil)) (fun σ H Q q => ⟨_, src_int q.1, j, rfl, hlog, q.2 H _ (Same.refl _) (.str _)⟩)) (from_cons (PE.less (t' := tFrom 1 D _ (.int (0 - j))) (pe_op op_sub pe_int (pv 1)) (fun σ H Q q => ⟨_, src_int q.1, 0, j, rfl, rfl, q.2 H _ (Same.refl _) (.int _)⟩)) (from_cons (from_lst (from_cons (from_var (pv 1)) from_nil) (by show 1 ≤ 1000; decide)) from_nil)))))) (by show 6 ≤ 1000; decide)) (pv 3) (fun _ _ => rfl)))) pss_nil)
    (pss_one (ps_ret (pe_g GO hr2 (by rfl) gO FO.kp bO .nil (pa_cons (pv 0) pa_nil)))))))), ?_⟩
  refine iSeq (iIfS (iAnd (iB (isi_call (K := K) (i := 1) (a := tyN _) (b := "tuple") (x := v) rfl hd.ty (kit_tup _) ⟨_, rfl, ?_⟩))))
  refine iteF (iteF (iNext ?_))
  dsimp only
  refine iSeq (iAsg ⟨.ref Fa, rfl, Fa, L, 9, rfl, hF, by decide, by decide, fun w H1 w0 w1 k1 hF1 => ?_⟩)
  refine iName ?_
  dsimp only
  have hd1 := hd.keep (k1.kd (D := D) hF)
  have hT1 := k1.taken hF1 hT
  have fin : prOdd [.ref Fa] H1 Q := ⟨Fa, L, rfl, hF1, fun H2 r d' k2 hF2 hn hm => q H2 r d' (k1.trans k2) hF2 (hn D hT1) (hm.mono (by omega) (by omega) (by omega) (by omega))⟩
  refine iSeq (iIfS (iAnd (iB (isi_call (K := K) (i := 1) (a := tyN _) (b := "tuple") (x := v) rfl hd1.ty (kit_tup _) ⟨_, rfl, ?_⟩))))
  refine iteF (iteF (iNext ?_))
  dsimp only
  refine iSeq (iIfS (iAnd (iB (isi_call (K := K) (i := 1) (a := tyN _) (b := "str") (x := v) rfl hd1.ty (kit_str _) ⟨_, rfl, ?_⟩))))
  refine iteF (iteF (iNext ?_))
  dsimp only
  refine iSeq (iIfS (iAnd (iB (isi_call (K := K) (i := 1) (a := tyN _) (b := "int") (x := v) rfl hd1.ty (kit_int _) ⟨_, rfl, ?_⟩))))
  refine iteT ⟨.int w, rfl, w, 6, rfl, rfl, _, rfl, ite2 (fun e => ?_) (fun e => iNext ?_)⟩
  · refine iRet (iOp ⟨⟨⟨v, rfl, hd1⟩, hT1⟩, fun H2 v2 s2 h2 => ?_⟩)
    obtain ⟨p, ys, rfl, _, hp, hys⟩ := h2.lst_inv
    have w6 : w < 6 := of_decide_eq_true e
    obtain ⟨r, d', hat, hmem, hr'⟩ := pickD hys w0 w6
    refine ⟨.int w, rfl, p, ys, w, r, rfl, rfl, sqL hp, hat, q H2 r d' (k1.trans (KeepF.of s2)) (hF1.same s2) hr' ?_⟩
    have ti : j.natAbs ≤ t := ho.top
    have wi : 81 ≤ m := ho.wt
    have tl : (toString j : Str).length ≤ 81 := by
      rw [PySem.ofString_length]
      exact PySem.int_text_length_le10 (k := 80) (by decide) (by omega)
    simp only [List.mem_cons, List.not_mem_nil, or_false] at hmem
    rcases hmem with rfl | rfl | rfl | rfl | rfl | rfl
    · exact Of.int (by omega) (by omega)
    · exact Of.int (by omega) (by omega)
    · exact Of.bl (by omega)
    · exact Of.str (asc_int j) (by omega) (by omega)
    · exact Of.int (by omega) (by omega)
    · exact (Of.lst (All.cons ho (All.nil (n := 0))) (by show 1 ≤ b; omega)).mono (by omega) (by omega) (by omega) (by show m + 0 + 2 * 1 + 3 ≤ _; omega)
  · dsimp only
    exact iRet ⟨.ref Fa, rfl, fin⟩
theorem bent_bl {f : Addr} {fd : FuncData} {n : Nat} {cdv : Value} {A : Around} {outer : List Env} {s0 : Shared} {H : Hp} {Q : VK}
    (hr : RG (n + 3) (A.deeper (envOfC "_law_bent" (defScope sBent) s0.heap.objs.size f cdv)))
    (F : Fun K "_law_bent" "_law_bent" sBent f fd) (bB : Binds K fd ["_law_feed_here", "_law_item"] []) (gB : mg "_law_bent" = some (.ref f))
    (GB : FnG P w K mg base (n + 3) f fd ["_law_feed_here", "_law_item"] (prBent n))
    (FD : Fun K "_law_draw" "_law_draw" sDraw fD fdD) (bD : Binds K fdD ["_law_feed_here", "_law_many"] []) (gD : mg "_law_draw" = some (.ref fD))
    (FO : Fun K "_law_odd" "_law_odd" sOdd fO fdO) (bO : Binds K fdO ["_law_feed_here"] []) (gO : mg "_law_odd" = some (.ref fO))
    (mi : mg "isinstance" = none) (mt : mg "tuple" = none) (mst : mg "str" = none) (mn : mg "int" = none) (ml : mg "len" = none) (mls : mg "list" = none) (n40 : n ≤ 40)
    {c : Bool} {Fa L D : Addr} {v : V} {b t k m : Nat} (hF : FeedAt H Fa L) (hT : Taken H D) (hd : DH D H v (.bool c)) (ho : Of b t k m (.bool c)) (hk : k ≤ n) (b0 : 100 ≤ b) (b1 : b ≤ 310) (t0 : 10 ^ 59 ≤ t) (t1 : t < 10 ^ 79)
    (q : ∀ H' r d', KeepF Fa H H' → FeedAt H' Fa L → DH D H' r d' → Of (3 * b + 8) (t + 1) (k + 4) (3 * m + 1000) d' → Q r H') :
    ∃ ts, PSs (cxOf CX0 P w K mg base ["_law_feed_here", "_law_item", "_law_at", "_law_way", "_law_some"] "_law_bent" (defScope sBent) f cdv A outer s0 H E0).nox (defBody sBent) ts ∧
      ts { nx := fun _ H' => Q .non H', rt := Q } (start ["_law_feed_here", "_law_item", "_law_at", "_law_way", "_law_some"] [.ref Fa, v]) H := by
  have GD : FnG P w K mg base (0 + 1) fD fdD ["_law_feed_here", "_law_many"] prDraw := ok_draw FD ml
  have GO : FnG P w K mg base (0 + 2) fO fdO ["_law_feed_here"] prOdd := ok_odd FO FD bD gD ml
  have hr1 : RG (0 + 1) (A.deeper (envOfC "_law_bent" (defScope sBent) s0.heap.objs.size f cdv)) := hr.mono (by omega)
  have hr2 : RG (0 + 2) (A.deeper (envOfC "_law_bent" (defScope sBent) s0.heap.objs.size f cdv)) := hr.mono (by omega)
  have hun := hr.room.units
  have big := sizeBig
  refine ⟨_, pss_cons (ps_if (PW.pt (pw_and (pt_val (pe_callB call_isi (by rfl) mi (by decide +kernel) (pa_cons (pv 1) (pa_cons (pe_bltn (v := .ty "tuple") (by rfl) mt (by decide +kernel) rfl) pa_nil)))) (pw_and (pt_cmpR (op_neD hun) (pv 1) (pe_tup pa_nil) (nomark _)) (pw_and1 (pt_cmpR op_gt (pe_g GD hr1 (by rfl) gD FD.kp bD .nil (pa_cons (pv 0) (pa_cons pe_int pa_nil))) pe_int (nomark _))))))
      pss_never pss_nil)
    (pss_cons (ps_set (i := 3) scBent.nd rfl (.inl rfl) (pe_g GD hr1 (by rfl) gD FD.kp bD .nil (pa_cons (pv 0) (pa_cons pe_int pa_nil))))
    (pss_cons (ps_if (PW.pt (pw_and (pt_val (pe_callB call_isi (by rfl) mi (by decide +kernel) (pa_cons (pv 1) (pa_cons (pe_bltn (v := .ty "tuple") (by rfl) mt (by decide +kernel) rfl) pa_nil)))) (pw_and1 (pt_cmpR op_lt (pv 3) pe_int (nomark _)))))
      pss_never pss_nil)
    (pss_cons (ps_if (PW.pt (pw_and (pt_val (pe_callB call_isi (by rfl) mi (by decide +kernel) (pa_cons (pv 1) (pa_cons (pe_bltn (v := .ty "str") (by rfl) mst (by decide +kernel) rfl) pa_nil)))) (pw_and1 (pt_cmpR op_lt (pv 3) pe_int (nomark _)))))
      pss_never pss_nil)
    (pss_cons (ps_if (PW.pt (pw_and (pt_val (pe_callB call_isi (by rfl) mi (by decide +kernel) (pa_cons (pv 1) (pa_cons (pe_bltn (v := .ty "int") (by rfl) mn (by decide +kernel) rfl) pa_nil)))) (pw_and1 (pt_cmpR op_lt (pv 3) pe_int (nomark _)))))
      (pss_one (ps_ret (pe_ix (ix_list : IxR _ (rIxL K)) (from_lst (i := 1) (D := D) (d0 := .bool c) (from_cons (PE.less (t' := tFrom 1 D _ (.int (AskG.b1 c + 1))) (pe_op op_add_bi (pv 1) pe_int) (fun σ H Q q => ⟨_, src_bl q.1, c, 1, rfl, rfl, q.2 H _ (Same.refl _) (.int _)⟩)) (from_cons (PE.less (t' := tFrom 1 D _ (.int (AskG.b1 c - 1))) (pe_op op_sub_bi (pv 1) pe_int) (fun σ H Q q => ⟨_, src_bl q.1, c, 1, rfl, rfl, q.2 H _ (Same.refl _) (.int _)⟩)) (from_cons (PE.less (t' := tFrom 1 D _ (.bool (AskG.b1 c == 1))) (pe_cmpR op_eq_bi (pv 1) pe_int (nomark _)) (fun σ H Q q => ⟨_, src_bl q.1, c, 1, rfl, rfl, q.2 H _ (Same.refl _) (.bl _)⟩)) (from_cons (PE.less (t' := tFrom 1 D _ (.str (if c then "True" else "False"))) (pe_callTy call_str_bl (by rfl) mst (by decide +kernel) (pa_cons (pv 1) pa_nil)) (fun σ H Q q => ⟨_, src_bl q.1, c, rfl, q.2 H _ (Same.refl _) (.str _)⟩)) (from_cons (PE.less (t' := tFrom 1 D _ (.int (0 - AskG.b1 c))) (pe_op op_sub_ib pe_int (pv 1)) (fun σ H Q q => ⟨_, src_bl q.1, 0, c, rfl, rfl, q.2 H _ (Same.refl _) (.int _)⟩)) (from_cons (from_lst (from_cons (from_var (pv 1)) from_nil) (by show 1 ≤ 1000; decide)) from_nil)))))) (by show 6 ≤ 1000; decide)) (pv 3) (fun _ _ => rfl)))) pss_nil)
    (pss_one (ps_ret (pe_g GO hr2 (by rfl) gO FO.kp bO .nil (pa_cons (pv 0) pa_nil)))))))), ?_⟩
  refine iSeq (iIfS (iAnd (iB (isi_call (K := K) (i := 1) (a := tyN _) (b := "tuple") (x := v) rfl hd.ty (kit_tup _) ⟨_, rfl, ?_⟩))))
  refine iteF (iteF (iNext ?_))
  dsimp only
  refine iSeq (iAsg ⟨.ref Fa, rfl, Fa, L, 9, rfl, hF, by decide, by decide, fun w H1 w0 w1 k1 hF1 => ?_⟩)
  refine iName ?_
  dsimp only
  have hd1 := hd.keep (k1.kd (D := D) hF)
  have hT1 := k1.taken hF1 hT
  have fin : prOdd [.ref Fa] H1 Q := ⟨Fa, L, rfl, hF1, fun H2 r d' k2 hF2 hn hm => q H2 r d' (k1.trans k2) hF2 (hn D hT1) (hm.mono (by omega) (by omega) (by omega) (by omega))⟩
  refine iSeq (iIfS (iAnd (iB (isi_call (K := K) (i := 1) (a := tyN _) (b := "tuple") (x := v) rfl hd1.ty (kit_tup _) ⟨_, rfl, ?_⟩))))
  refine iteF (iteF (iNext ?_))
  dsimp only
  refine iSeq (iIfS (iAnd (iB (isi_call (K := K) (i := 1) (a := tyN _) (b := "str") (x := v) rfl hd1.ty (kit_str _) ⟨_, rfl, ?_⟩))))
  refine iteF (iteF (iNext ?_))
  dsimp only
  refine iSeq (iIfS (iAnd (iB (isi_call (K := K) (i := 1) (a := tyN _) (b := "int") (x := v) rfl hd1.ty (kit_int _) ⟨_, rfl, ?_⟩))))
  refine iteT ⟨.int w, rfl, w, 6, rfl, rfl, _, rfl, ite2 (fun e => ?_) (fun e => iNext ?_)⟩
  · refine iRet (iOp ⟨⟨⟨v, rfl, hd1⟩, hT1⟩, fun H2 v2 s2 h2 => ?_⟩)
    obtain ⟨p, ys, rfl, _, hp, hys⟩ := h2.lst_inv
    have w6 : w < 6 := of_decide_eq_true e
    obtain ⟨r, d', hat, hmem, hr'⟩ := pickD hys w0 w6
    refine ⟨.int w, rfl, p, ys, w, r, rfl, rfl, sqL hp, hat, q H2 r d' (k1.trans (KeepF.of s2)) (hF1.same s2) hr' ?_⟩
    have c1 : AskG.b1 c = 0 ∨ AskG.b1 c = 1 := by cases c <;> simp [AskG.b1]
    simp only [List.mem_cons, List.not_mem_nil, or_false] at hmem
    rcases hmem with rfl | rfl | rfl | rfl | rfl | rfl
    · exact Of.int (by omega) (by omega)
    · exact Of.int (by omega) (by omega)
    · exact Of.bl (by omega)
    · refine Of.str (by cases c <;> decide) ?_ ?_
      · cases c
        · show 5 ≤ _; omega
        · show 4 ≤ _; omega
      · cases c
        · show 10 * 5 + 2 ≤ _; omega
        · show 10 * 4 + 2 ≤ _; omega
    · exact Of.int (by omega) (by omega)
    · exact (Of.lst (All.cons ho (All.nil (n := 0))) (by show 1 ≤ b; omega)).mono (by omega) (by omega) (by omega) (by show m + 0 + 2 * 1 + 3 ≤ _; omega)
  · dsimp only
    exact iRet ⟨.ref Fa, rfl, fin⟩
end
end P01
namespace P01
open PySem PySem.Spec PyProof.Rows L2 AskG
section
variable {P : Program} {w : World} {K : PySem.W.Frag} {mg : Str → Option Value} {base : Heap}
variable {fD fO : Addr} {fdD fdO : FuncData}
theorem bent_tup {f : Addr} {fd : FuncData} {n : Nat} {cdv : Value} {A : Around} {outer : List Env} {s0 : Shared} {H : Hp} {Q : VK}
    (hr : RG (n + 3) (A.deeper (envOfC "_law_bent" (defScope sBent) s0.heap.objs.size f cdv)))
    (F : Fun K "_law_bent" "_law_bent" sBent f fd) (bB : Binds K fd ["_law_feed_here", "_law_item"] []) (gB : mg "_law_bent" = some (.ref f))
    (GB : FnG P w K mg base (n + 3) f fd ["_law_feed_here", "_law_item"] (prBent n))
    (FD : Fun K "_law_draw" "_law_draw" sDraw fD fdD) (bD : Binds K fdD ["_law_feed_here", "_law_many"] []) (gD : mg "_law_draw" = some (.ref fD))
    (FO : Fun K "_law_odd" "_law_odd" sOdd fO fdO) (bO : Binds K fdO ["_law_feed_here"] []) (gO : mg "_law_odd" = some (.ref fO))
    (mi : mg "isinstance" = none) (mt : mg "tuple" = none) (mst : mg "str" = none) (mn : mg "int" = none) (ml : mg "len" = none) (mls : mg "list" = none) (n40 : n ≤ 40)
    {ds : List PyData} {Fa L D : Addr} {v : V} {b t k m : Nat} (hF : FeedAt H Fa L) (hT : Taken H D) (hd : DH D H v (.tuple ds)) (ho : Of b t k m (.tuple ds)) (hk : k ≤ n) (b0 : 100 ≤ b) (b1 : b ≤ 310) (t0 : 10 ^ 59 ≤ t) (t1 : t < 10 ^ 79)
    (q : ∀ H' r d', KeepF Fa H H' → FeedAt H' Fa L → DH D H' r d' → Of (3 * b + 8) (t + 1) (k + 4) (3 * m + 1000) d' → Q r H') :
    ∃ ts, PSs (cxOf CX0 P w K mg base ["_law_feed_here", "_law_item", "_law_at", "_law_way", "_law_some"] "_law_bent" (defScope sBent) f cdv A outer s0 H E0).nox (defBody sBent) ts ∧
      ts { nx := fun _ H' => Q .non H', rt := Q } (start ["_law_feed_here", "_law_item", "_law_at", "_law_way", "_law_some"] [.ref Fa, v]) H := by
  have GD : FnG P w K mg base (0 + 1) fD fdD ["_law_feed_here", "_law_many"] prDraw := ok_draw FD ml
  have GO : FnG P w K mg base (0 + 2) fO fdO ["_law_feed_here"] prOdd := ok_odd FO FD bD gD ml
  have hr1 : RG (0 + 1) (A.deeper (envOfC "_law_bent" (defScope sBent) s0.heap.objs.size f cdv)) := hr.mono (by omega)
  have hr2 : RG (0 + 2) (A.deeper (envOfC "_law_bent" (defScope sBent) s0.heap.objs.size f cdv)) := hr.mono (by omega)
  have hun := hr.room.units
  have big := sizeBig
  obtain ⟨k', rfl⟩ : ∃ k', k = k' + 1 := ⟨k - 1, by
    have : PyData.depthAll ds + 1 ≤ k := ho.dep
    omega⟩
  obtain ⟨n', rfl⟩ : ∃ n', n = n' + 1 := ⟨n - 1, by omega⟩
  obtain ⟨hall, hlen, hwt⟩ := ho.items
  have lds : ds.length ≤ 310 := Nat.le_trans hlen b1
  have hsh : SeqAt.shaped (.tuple ds) = true := by
    have h1 : smallDs ds = true := smalls_by hall.ok (Nat.le_trans hall.big (by omega))
    show (PyData.canLayAll0 ds && decide (PyData.depthAll ds + 1 ≤ 64)) = true
    rw [small_lays h1, decide_eq_true (by have := hall.dep; omega)]
    rfl
  have ee : PyData.eqv (.tuple ds) (.tuple []) = ds.isEmpty := by cases ds <;> rfl
  obtain ⟨a, xs, rfl, ha, hdx⟩ := hd.tup_inv
  have xl := hdx.len
  refine ⟨_, pss_cons (ps_if (PW.pt (pw_and (pt_val (pe_callB call_isi (by rfl) mi (by decide +kernel) (pa_cons (pv 1) (pa_cons (pe_bltn (v := .ty "tuple") (by rfl) mt (by decide +kernel) rfl) pa_nil)))) (pw_and (pt_cmpR (op_neD hun) (pv 1) (pe_tup pa_nil) (nomark _)) (pw_and1 (pt_cmpR op_gt (pe_g GD hr1 (by rfl) gD FD.kp bD .nil (pa_cons (pv 0) (pa_cons pe_int pa_nil))) pe_int (nomark _))))))
        (pss_cons (ps_set (i := 2) scBent.nd rfl (.inl rfl) (pe_g GD hr1 (by rfl) gD FD.kp bD .nil (pa_cons (pv 0) (pa_cons (pe_callB call_len_seq (by rfl) ml PySem.boot_len (pa_cons (pv 1) pa_nil)) pa_nil))))
        (pss_one (ps_ret (pe_op op_catA (pe_op op_catA (pe_slice sl_tupA (pv 1) po_none (po_some (pv 2))) (pe_tup (pa_cons (pe_g GB hr (by rfl) gB F.kp bB .nil (pa_cons (pv 0) (pa_cons (pe_ix (ix_tup : IxR _ (rIxT K)) (pv 1) (pv 2) (fun _ _ => rfl)) pa_nil))) pa_nil)))
          (pe_slice sl_tupA (pv 1) (po_some (pe_op op_add (pv 2) pe_int)) po_none))))) pss_nil)
      (pss_cons (ps_set (i := 3) scBent.nd rfl (.inl rfl) (pe_g GD hr1 (by rfl) gD FD.kp bD .nil (pa_cons (pv 0) (pa_cons pe_int pa_nil))))
      (pss_cons (ps_if (PW.pt (pw_and (pt_val (pe_callB call_isi (by rfl) mi (by decide +kernel) (pa_cons (pv 1) (pa_cons (pe_bltn (v := .ty "tuple") (by rfl) mt (by decide +kernel) rfl) pa_nil)))) (pw_and1 (pt_cmpR op_lt (pv 3) pe_int (nomark _)))))
        (pss_cons (ps_set (i := 4) scBent.nd rfl (.inl rfl) (from_lst (i := 1) (D := D) (d0 := .tuple ds) (from_cons (PE.less (t' := tFrom 1 D (.tuple ds) (.list ds)) (pe_callTy call_list_of (by rfl) mls (by decide +kernel) (pa_cons (pv 1) pa_nil)) (fun σ H Q q => by
          obtain ⟨a, xs, hv, ha, hd⟩ := src_tup q.1
          exact ⟨_, hv, a, xs, rfl, .inr (sqT ha), fun l hl => q.2 _ _ (same_new hl) (.lst (q.1.2.ne hl) upd_same (hd.keep (KeepD.of (same_new hl))))⟩)) (from_cons (PE.less (t' := tFrom 1 D (.tuple ds) (.tuple (cutD ds (some 1) none))) (pe_slice sl_tupA (pv 1) (po_some pe_int) po_none) (fun σ H Q q => by
          obtain ⟨a, xs, hv, ha, hd⟩ := src_tup q.1
          exact ⟨_, hv, 1, rfl, sl_fromN ha hd q.2⟩)) (from_cons (PE.less (t' := tFrom 1 D (.tuple ds) (.tuple (cutD ds none (some (-1))))) (pe_slice sl_tupA (pv 1) po_none (po_some (pe_un un_neg pe_int))) (fun σ H Q q => by
          obtain ⟨a, xs, hv, ha, hd⟩ := src_tup q.1
          exact ⟨_, hv, 1, rfl, -1, rfl, sl_from ha hd q.2⟩)) (from_cons (PE.less (t' := tFrom 1 D (.tuple ds) (.tuple (ds ++ cutD ds (some (-1)) none))) (pe_op op_catA (pv 1) (pe_slice sl_tupA (pv 1) (po_some (pe_un un_neg pe_int)) po_none)) (fun σ H Q q => by
          obtain ⟨a, xs, hv, ha, hd⟩ := src_tup q.1
          exact ⟨_, hv, _, hv, 1, rfl, -1, rfl, sl_fromN ha hd (fun H' v s' h' => by
            obtain ⟨b, ys, rfl, hb, he⟩ := h'.tup_inv
            exact cat_from (s' _ _ ha) (hd.keep (KeepD.of s')) hb he (by omega) (by have := cutD_len ds (some (-1)) none; omega) (fun H2 v2 s2 h2 => q.2 _ _ (s'.trans s2) h2))⟩)) from_nil)))) (by show 4 ≤ 1000; decide)))
        (pss_one (ps_ret (pe_ix (ix_list : IxR _ (rIxL K)) (pe_op op_cat (pv 4) (from_lst (i := 1) (D := D) (d0 := .tuple ds) (from_cons (PE.less (t' := tFrom 1 D (.tuple ds) (.tuple ds.reverse)) (pe_revT (pv 1)) (fun σ H Q q => by
          obtain ⟨a, xs, hv, ha, hd⟩ := src_tup q.1
          exact ⟨_, hv, a, xs, rfl, sqT ha, fun p hp => q.2 _ _ (same_new hp) (.tup upd_same (hd.rev.keep (KeepD.of (same_new hp))))⟩)) (from_cons (from_tup (from_cons (from_var (pv 1)) from_nil) (by show 1 ≤ 1000; decide)) (from_cons (PE.less (t' := tFrom 1 D (.tuple ds) (.tuple (ds ++ [.none]))) (pe_op op_catA (pv 1) (pe_tup (pa_cons pe_non pa_nil))) (fun σ H Q q => by
          obtain ⟨a, xs, hv, ha, hd⟩ := src_tup q.1
          exact ⟨_, hv, by show 1 ≤ sizeLine; omega, fun p hp => cat_from (same_new hp _ _ ha) (hd.keep (KeepD.of (same_new hp))) upd_same (.cons .non .nil) (by omega) (by decide) (fun H2 v2 s2 h2 => q.2 _ _ ((same_new hp).trans s2) h2)⟩)) from_nil))) (by show 3 ≤ 1000; decide))) (pv 3) (fun _ _ => rfl))))) pss_nil)
      (pss_cons (ps_if (PW.pt (pw_and (pt_val (pe_callB call_isi (by rfl) mi (by decide +kernel) (pa_cons (pv 1) (pa_cons (pe_bltn (v := .ty "str") (by rfl) mst (by decide +kernel) rfl) pa_nil)))) (pw_and1 (pt_cmpR op_lt (pv 3) pe_int (nomark _)))))
        pss_never pss_nil)
      (pss_cons (ps_if (PW.pt (pw_and (pt_val (pe_callB call_isi (by rfl) mi (by decide +kernel) (pa_cons (pv 1) (pa_cons (pe_bltn (v := .ty "int") (by rfl) mn (by decide +kernel) rfl) pa_nil)))) (pw_and1 (pt_cmpR op_lt (pv 3) pe_int (nomark _)))))
        pss_never pss_nil)
      (pss_one (ps_ret (pe_g GO hr2 (by rfl) gO FO.kp bO .nil (pa_cons (pv 0) pa_nil)))))))), ?_⟩
  refine iSeq ?_
  refine split_s (fun σ' H' => σ' = [some (.ref Fa), some (.ref a), none, none, none] ∧ KeepF Fa H H' ∧ FeedAt H' Fa L) (fun nx hnx => ?_) (fun σ' H' hx => ?_)
  · refine iIfS (iAnd (iB (isi_call (K := K) (i := 1) (a := tyN _) (b := "tuple") (x := .ref a) rfl hd.ty (kit_tup _) ⟨_, rfl, ?_⟩)))
    refine iteT ?_
    refine iAnd ⟨.ref a, rfl, Nat.zero_le _, fun p hp => ⟨.tuple ds, .tuple [], (hd.keep (KeepD.of (same_new hp))).dp, .tup (sqT upd_same) .nil, hsh, by decide, _, rfl, ?_⟩⟩
    have s1 := same_new (o := .tup []) hp
    have hF1 := hF.same s1
    rw [ee]
    cases hE : ds.isEmpty with
    | true => exact iteF (iteF (hnx _ _ ⟨rfl, KeepF.of s1, hF1⟩))
    | false =>
      have l0 : 0 < ds.length := by
        cases ds with
        | nil => cases hE
        | cons _ _ => exact Nat.succ_pos _
      refine iteT ⟨.ref Fa, rfl, Fa, L, 5, rfl, hF1, by decide, by decide, fun w5 H2 _ _ k2 hF2 => ⟨w5, 0, rfl, rfl, _, rfl, ite2 (fun e => ?_) (fun e => hnx _ _ ⟨rfl, (KeepF.of s1).trans k2, hF2⟩)⟩⟩
      clear ee hE e
      have k12 := (KeepF.of (F := Fa) s1).trans k2
      have kd2 := (k12.kd (D := D) hF)
      refine iSeq (iAsg ⟨.ref Fa, rfl, .ref a, rfl, a, xs, rfl, .inr (sqT (kd2.tup _ _ ha)), Fa, L, (xs.length : Int), rfl, hF2, by omega, by omega, fun at' H3 at0 at1 k3 hF3 => ?_⟩)
      refine iName ?_
      dsimp only
      have k13 := k12.trans k3
      have kd3 := (k13.kd (D := D) hF)
      have ha3 := kd3.tup _ _ ha
      have hd3 := hdx.keep kd3
      have hT3 := k13.taken hF3 hT
      obtain ⟨n0, rfl⟩ : ∃ n0 : Nat, at' = (n0 : Int) := ⟨at'.toNat, by omega⟩
      have n0l : n0 < xs.length := by omega
      have hx : xs[n0]? = some xs[n0] := List.getElem?_eq_getElem n0l
      obtain ⟨dx, hdi, hdh⟩ := hd3.at hx
      generalize xs[n0] = x at hx hdh
      refine iRet (iOp (iOp ⟨.ref a, rfl, .int n0, rfl, n0, rfl, sl_from ha3 hd3 (fun H4 v4 s4 h4 => ?_)⟩))
      have hF4 := hF3.same s4
      refine ⟨.ref Fa, rfl, .ref a, rfl, .int n0, rfl, a, xs, n0, x, rfl, rfl, sqT (s4 _ _ ha3), atI_nat hx, Fa, L, x, dx, D, b, t, k', wtD dx, rfl, hF4, hT3.keep s4, hdh.keep (KeepD.of s4), (hall.at hdi).exact, by omega, b0, b1, t0, t1, fun H5 r d' k5 hF5 hr5 ho5 => ?_⟩
      refine ⟨by show 1 ≤ sizeLine; omega, fun p5 hp5 => ?_⟩
      have s5 := same_new (o := .tup [r]) hp5
      have kd45 := k5.kd (D := D) hF4
      obtain ⟨a4, ys4, rfl, ha4, hd4⟩ := h4.tup_inv
      have cl1 := cutD_len ds none (some (n0 : Int))
      have cl2 := cutD_len ds (some ((n0 : Int) + 1)) none
      refine cat_from (s5 _ _ (kd45.tup _ _ ha4)) ((hd4.keep kd45).keep (KeepD.of s5)) upd_same (.cons (hr5.keep (KeepD.of s5)) .nil) (by omega) (by show 1 ≤ 1000; decide) (fun H6 v6 s6 h6 => ?_)
      have s56 := s5.trans s6
      have ha6 := s56 _ _ (kd45.tup _ _ (s4 _ _ ha3))
      have hd6 := ((hd3.keep (KeepD.of s4)).keep kd45).keep (KeepD.of s56)
      refine ⟨.ref a, rfl, .int n0, rfl, n0, 1, rfl, rfl, (n0 : Int) + 1, rfl, sl_fromN ha6 hd6 (fun H7 v7 s7 h7 => ?_)⟩
      obtain ⟨a6, ys6, rfl, ha6', hd6'⟩ := h6.tup_inv
      obtain ⟨a7, ys7, rfl, ha7, hd7⟩ := h7.tup_inv
      have s57 := s56.trans s7
      refine cat_from (s7 _ _ ha6') (hd6'.keep (KeepD.of s7)) ha7 hd7 (by rw [List.length_append]; show _ + 1 ≤ 1000; omega) (by omega) (fun H8 v8 s8 h8 => ?_)
      have s58 := s57.trans s8
      refine q H8 v8 _ (k13.trans ((KeepF.of s4).trans (k5.trans (KeepF.of s58)))) (hF5.same s58) h8 ?_
      have n0d : n0 < ds.length := by omega
      have e1 : cutD ds none (some (n0 : Int)) = ds.take n0 := cutD_pre ds n0 (by omega)
      have e2 : cutD ds (some ((n0 : Int) + 1)) none = ds.drop (n0 + 1) := by
        have : (n0 : Int) + 1 = ((n0 + 1 : Nat) : Int) := by omega
        rw [this]
        exact cutD_post ds (n0 + 1) (by omega)
      rw [e1, e2]
      have ws := wt_split hdi
      have A1 : All (3 * b + 8) (t + 1) (k' + 4) (wtDs (ds.take n0)) (ds.take n0) := (hall.take n0).exact.mono (by omega) (by omega) (by omega) (Nat.le_refl _)
      have A2 : All (3 * b + 8) (t + 1) (k' + 4) (wtDs (ds.drop (n0 + 1))) (ds.drop (n0 + 1)) := (hall.drop (n0 + 1)).exact.mono (by omega) (by omega) (by omega) (Nat.le_refl _)
      have A3 := All.app (All.app A1 (All.cons ho5 (All.nil (n := 0)))) A2
      have ll : (ds.take n0 ++ [d'] ++ ds.drop (n0 + 1)).length = ds.length := by
        rw [List.length_append, List.length_append, List.length_take, List.length_drop]
        show min n0 ds.length + 1 + _ = _
        omega
      refine (Of.tup A3 (by rw [ll]; omega)).mono (Nat.le_refl _) (Nat.le_refl _) (by omega) ?_
      rw [ll]
      omega
  · obtain ⟨rfl, k0, hF0⟩ := hx
    dsimp only
    refine iSeq (iAsg ⟨.ref Fa, rfl, Fa, L, 9, rfl, hF0, by decide, by decide, fun w H1 w0 w1 k1 hF1 => ?_⟩)
    refine iName ?_
    dsimp only
    have k01 := k0.trans k1
    have hd1 := hd.keep (k01.kd (D := D) hF)
    have hT1 := k01.taken hF1 hT
    have fin : prOdd [.ref Fa] H1 Q := ⟨Fa, L, rfl, hF1, fun H2 r d' k2 hF2 hn hm => q H2 r d' (k01.trans k2) hF2 (hn D hT1) (hm.mono (by omega) (by omega) (by omega) (by omega))⟩
    refine iSeq (iIfS (iAnd (iB (isi_call (K := K) (i := 1) (a := tyN _) (b := "tuple") (x := .ref a) rfl hd1.ty (kit_tup _) ⟨_, rfl, ?_⟩))))
    refine iteT ⟨.int w, rfl, w, 7, rfl, rfl, _, rfl, ite2 (fun e => ?_) (fun e => iNext ?_)⟩
    · have w7 : w < 7 := of_decide_eq_true e
      refine iSeq (iAsg ⟨⟨⟨.ref a, rfl, hd1⟩, hT1⟩, fun H2 v2 s2 h2 => ?_⟩)
      refine iName ?_
      dsimp only
      obtain ⟨p2, ys2, rfl, np2, hp2, hys2⟩ := h2.lst_inv
      refine iRet (iOp (iOp ⟨.ref p2, rfl, ⟨⟨.ref a, rfl, hd1.keep (KeepD.of s2)⟩, hT1.keep s2⟩, fun H3 v3 s3 h3 => ?_⟩))
      obtain ⟨p3, ys3, rfl, np3, hp3, hys3⟩ := h3.lst_inv
      have l2 : ys2.length = 4 := hys2.len
      have l3 : ys3.length = 3 := hys3.len
      refine ⟨p2, p3, _, _, rfl, rfl, s3 _ _ hp2, hp3, by omega, fun c hc => ?_⟩
      have s4 := same_new (o := .lst (ys2 ++ ys3)) hc
      obtain ⟨r, d', hat, hmem, hr'⟩ := pickD (((hys2.keep (KeepD.of s3)).app hys3).keep (KeepD.of s4)) w0 w7
      have s24 := (s2.trans s3).trans s4
      refine ⟨.int w, rfl, c, _, w, r, rfl, rfl, sqL upd_same, hat, q _ r d' (k01.trans (KeepF.of s24)) (hF1.same s24) hr' ?_⟩
      clear hat hr' fin
      have cl1 := cutD_len ds (some 1) none
      have cl2 := cutD_len ds none (some (-1))
      have cl3 := cutD_len ds (some (-1)) none
      have M : ∀ {es : List PyData} {N : Nat}, All b t k' N es → es.length ≤ 3 * b + 8 → N + 2 * es.length + 3 ≤ 3 * m + 1000 → Of (3 * b + 8) (t + 1) (k' + 1 + 4) (3 * m + 1000) (.tuple es) := fun h l z =>
        (Of.tup (h.mono (by omega) (by omega) (Nat.le_refl _) (Nat.le_refl _)) l).mono (Nat.le_refl _) (Nat.le_refl _) (by omega) z
      simp only [List.mem_cons, List.not_mem_nil, or_false, List.mem_append] at hmem
      rcases hmem with (rfl | rfl | rfl | rfl) | rfl | rfl | rfl
      · exact (⟨ho.ok, ho.big, ho.top, ho.dep, ho.wt⟩ : Of b t (k' + 1) m (.list ds)).mono (by omega) (by omega) (by omega) (by omega)
      · exact M (hall.cut _ _) (by omega) (by omega)
      · exact M (hall.cut _ _) (by omega) (by omega)
      · have wc : wtDs (cutD ds (some (-1)) none) ≤ wtDs ds := (hall.exact.cut (some (-1)) none).wt
        exact M (All.app hall.exact (hall.exact.cut _ _)) (by rw [List.length_append]; omega) (by rw [List.length_append]; omega)
      · exact M hall.rev (by rw [List.length_reverse]; omega) (by rw [List.length_reverse]; omega)
      · refine (Of.tup (All.cons ho (All.nil (n := 0))) (by show 1 ≤ b; omega)).mono (by omega) (by omega) (by omega) ?_
        show m + 0 + 2 * 1 + 3 ≤ _
        omega
      · exact M (All.app hall.exact (All.cons (Of.non (n := 5) (Nat.le_refl _)) (All.nil (n := 0)))) (by rw [List.length_append]; show _ + 1 ≤ _; omega) (by rw [List.length_append]; show _ + (5 + 0) + 2 * (_ + 1) + 3 ≤ _; omega)
    · dsimp only
      refine iSeq (iIfS (iAnd (iB (isi_call (K := K) (i := 1) (a := tyN _) (b := "str") (x := .ref a) rfl hd1.ty (kit_str _) ⟨_, rfl, ?_⟩))))
      refine iteF (iteF (iNext ?_))
      dsimp only
      refine iSeq (iIfS (iAnd (iB (isi_call (K := K) (i := 1) (a := tyN _) (b := "int") (x := .ref a) rfl hd1.ty (kit_int _) ⟨_, rfl, ?_⟩))))
      refine iteF (iteF (iNext ?_))
      dsimp only
      exact iRet ⟨.ref Fa, rfl, fin⟩
end
end P01
namespace P01
open PySem PySem.Spec PyProof.Rows L2 AskG
section
variable {P : Program} {w : World} {K : PySem.W.Frag} {mg : Str → Option Value} {base : Heap}
variable {fD fO : Addr} {fdD fdO : FuncData}
theorem ok_bent {f : Addr} {fd : FuncData}
    (F : Fun K "_law_bent" "_law_bent" sBent f fd) (bB : Binds K fd ["_law_feed_here", "_law_item"] []) (gB : mg "_law_bent" = some (.ref f))
    (FD : Fun K "_law_draw" "_law_draw" sDraw fD fdD) (bD : Binds K fdD ["_law_feed_here", "_law_many"] []) (gD : mg "_law_draw" = some (.ref fD))
    (FO : Fun K "_law_odd" "_law_odd" sOdd fO fdO) (bO : Binds K fdO ["_law_feed_here"] []) (gO : mg "_law_odd" = some (.ref fO))
    (mi : mg "isinstance" = none) (mt : mg "tuple" = none) (mst : mg "str" = none) (mn : mg "int" = none) (ml : mg "len" = none) (mls : mg "list" = none) :
    ∀ n : Nat, n ≤ 41 → FnG P w K mg base (n + 3) f fd ["_law_feed_here", "_law_item"] (prBent n)
  | 0, _ => ⟨fun _ _ _ h => h.elim, fun _ _ _ _ _ _ _ _ _ _ _ _ h => h.elim⟩
  | n + 1, hn => by
    have GB := ok_bent F bB gB FD bD gD FO bO gO mi mt mst mn ml mls n (by omega)
    have G : FnG P w K mg base (n + 3 + 1) f fd ["_law_feed_here", "_law_item"] (prBent (n + 1)) := by
      refine okG F scBent (fun vs H Q h => ?_) (fun cdv A outer s H vs Q hr h => ?_)
      · obtain ⟨_, _, _, _, _, _, _, _, _, rfl, _⟩ := h
        rfl
      · obtain ⟨Fa, L, v, d, D, b, t, k, m, rfl, hF, hT, hd, ho, hk, b0, b1, t0, t1, q⟩ := h
        cases d with
        | none => exact bent_non hr F bB gB GB FD bD gD FO bO gO mi mt mst mn ml mls (by omega) hF hT hd ho hk b0 b1 t0 t1 q
        | bool c => exact bent_bl hr F bB gB GB FD bD gD FO bO gO mi mt mst mn ml mls (by omega) hF hT hd ho hk b0 b1 t0 t1 q
        | int j => exact bent_int hr F bB gB GB FD bD gD FO bO gO mi mt mst mn ml mls (by omega) hF hT hd ho hk b0 b1 t0 t1 q
        | str s => exact bent_str hr F bB gB GB FD bD gD FO bO gO mi mt mst mn ml mls (by omega) hF hT hd ho hk b0 b1 t0 t1 q
        | list es => exact bent_lst hr F bB gB GB FD bD gD FO bO gO mi mt mst mn ml mls (by omega) hF hT hd ho hk b0 b1 t0 t1 q
        | tuple ds => exact bent_tup hr F bB gB GB FD bD gD FO bO gO mi mt mst mn ml mls (by omega) hF hT hd ho hk b0 b1 t0 t1 q
        | dict _ => cases hd
    exact G
end
abbrev sPlain : Stmt := topS 34
theorem scPlain : FnScope ["_law_far", "_law_found", "_law_some", "_law_ratio_here"] [] (defScope sPlain) := ⟨rfl, rfl, rfl, by decide +kernel, rfl, by decide +kernel, by decide +kernel⟩
def far : Int := 10 ^ 58
def lFar : Unit → List (Nat × PyData) := fun _ => [(0, .int far)]
def lRat : List PyData → List (Nat × PyData) := fun r => [(3, .tuple r), (0, .int far)]
def pl0 : List PyData := [.none, .int 0, .int 1, .int (-1), .bool true, .bool false, .int far, .int (0 - far), .str "", .str "a", .str "abcdefgh", .str "abcdefghi", .str "Ash", .str "a b", .str "a1", .str "~"]
def pl1 : List PyData := [.tuple [], .list [], .tuple [.tuple []], .tuple [.tuple [], .tuple []], .list [.tuple []], .tuple [.tuple [], .none]]
def pl2 : List PyData := [.tuple [.str "a"], .tuple [.str "a", .int 0], .tuple [.str "a", .int (-1)], .tuple [.str "a", .bool true], .tuple [.str "A", .int 0], .tuple [.int 0, .str "a"]]
def pl3 : List PyData := [.list [.str "a", .int 0], .tuple [.str "a", .int 0, .int 0], .tuple [.str "a", .int far], .tuple [.str "", .int 0]]
def pl4 : List PyData := [.tuple [.str "abcdefghi", .int 0], .tuple [.str "a", .str "0"], .tuple [.tuple [.str "a", .int 0]], .tuple [.str "a", .none]]
def rat0 : List (List PyData) := [[.int 0, .int 1], [.int 1, .int 1], [.int (-1), .int 1], [.int 2, .int 4], [.int 3, .int 2], [.int (-3), .int 2], [.int 0, .int 2], [.int 1, .int 0], [.int 1, .int (-1)], [.bool true, .int 1], [.int 1, .bool true]]
def plZ : List PyData := [.tuple [.int far, .int (far + 1)], .tuple [.int far, .int 2], .tuple [.int 6, .int 4], .tuple [.int 9, .int 6], .tuple [.int (-4), .int 6], .tuple [.int 1, .int 2, .int 3], .tuple [.int 1], .tuple [.int 3, .int far]]
def rats : List (List PyData) := rat0 ++ [[.int 0, .int 0]]
def ratD (r : List PyData) : List PyData := [.tuple r, .tuple [.tuple r], .list r]
def plainA : List PyData := pl0 ++ pl1 ++ pl2 ++ pl3 ++ pl4
def plainD : List PyData := plainA ++ rats.flatMap ratD ++ plZ
theorem plain_all : All 100 (10 ^ 59) 6 60000 plainD := ⟨by decide +kernel, by decide +kernel, by decide +kernel, by decide +kernel, by decide +kernel⟩
section
variable {P : Program} {w : World} {K : PySem.W.Frag} {mg : Str → Option Value} {base : Heap}
/-- a new list of data -/
def prList (ds : List PyData) : Pr := fun vs H Q => vs = [] ∧ (∃ D, Taken H D) ∧ ∀ H' p D ys, Same H H' → H' p = some (.lst ys) → DHs D H' ys ds → Q (.ref p) H'
theorem ok_plain {f : Addr} {fd : FuncData} {k : Nat} (F : Fun K "_law_plain_values" "_law_plain_values" sPlain f fd) (mls : mg "list" = none) : FnG P w K mg base (k + 1) f fd [] (prList plainD) := by
  refine okG F scPlain (fun vs H Q h => by rw [h.1]; rfl) (fun cdv A outer s H vs Q hr h => ?_)
  obtain ⟨rfl, _, q⟩ := h
  have big := sizeBig
  refine ⟨_, pss_cons (ps_set (i := 0) scPlain.nd rfl (.inl rfl) (pe_op op_pow pe_int pe_int))
      (pss_cons (ps_set (i := 1) scPlain.nd rfl (.inl rfl) (pe_lst (pa_cons pe_non (pa_cons pe_int (pa_cons pe_int (pa_cons (pe_un un_neg pe_int) (pa_cons pe_bl (pa_cons pe_bl (pa_cons (pv 0) (pa_cons (pe_op op_sub pe_int (pv 0)) (pa_cons pe_str (pa_cons pe_str (pa_cons pe_str (pa_cons pe_str (pa_cons pe_str (pa_cons pe_str (pa_cons pe_str (pa_cons pe_str pa_nil))))))))))))))))))
      (pss_cons (ps_expr (pe_bm PySem.F.plainAttrs_list PySem.F.slot_list_extend PySem.F.type_list_extend mt_extend (pv 1) (pa_cons (show PE _ _ (tFm lFar fun _ => .list pl1) from (fm_lst (fm_cons (fm_tup fm_nil (fun _ => by show 0 ≤ 1000; decide)) (fm_cons (fm_lst fm_nil (fun _ => by show 0 ≤ 1000; decide)) (fm_cons (fm_tup (fm_cons (fm_tup fm_nil (fun _ => by show 0 ≤ 1000; decide)) fm_nil) (fun _ => by show 1 ≤ 1000; decide)) (fm_cons (fm_tup (fm_cons (fm_tup fm_nil (fun _ => by show 0 ≤ 1000; decide)) (fm_cons (fm_tup fm_nil (fun _ => by show 0 ≤ 1000; decide)) fm_nil)) (fun _ => by show 2 ≤ 1000; decide)) (fm_cons (fm_lst (fm_cons (fm_tup fm_nil (fun _ => by show 0 ≤ 1000; decide)) fm_nil) (fun _ => by show 1 ≤ 1000; decide)) (fm_cons (fm_tup (fm_cons (fm_tup fm_nil (fun _ => by show 0 ≤ 1000; decide)) (fm_cons (fm_new (new_non pe_non)) fm_nil)) (fun _ => by show 2 ≤ 1000; decide)) fm_nil)))))) (fun _ => by show 6 ≤ 1000; decide))) pa_nil)))
      (pss_cons (ps_expr (pe_bm PySem.F.plainAttrs_list PySem.F.slot_list_extend PySem.F.type_list_extend mt_extend (pv 1) (pa_cons (show PE _ _ (tFm lFar fun _ => .list pl2) from (fm_lst (fm_cons (fm_tup (fm_cons (fm_new (new_str pe_str)) fm_nil) (fun _ => by show 1 ≤ 1000; decide)) (fm_cons (fm_tup (fm_cons (fm_new (new_str pe_str)) (fm_cons (fm_new (new_int pe_int)) fm_nil)) (fun _ => by show 2 ≤ 1000; decide)) (fm_cons (fm_tup (fm_cons (fm_new (new_str pe_str)) (fm_cons (fm_new (new_neg (pe_un un_neg pe_int))) fm_nil)) (fun _ => by show 2 ≤ 1000; decide)) (fm_cons (fm_tup (fm_cons (fm_new (new_str pe_str)) (fm_cons (fm_new (new_bl pe_bl)) fm_nil)) (fun _ => by show 2 ≤ 1000; decide)) (fm_cons (fm_tup (fm_cons (fm_new (new_str pe_str)) (fm_cons (fm_new (new_int pe_int)) fm_nil)) (fun _ => by show 2 ≤ 1000; decide)) (fm_cons (fm_tup (fm_cons (fm_new (new_int pe_int)) (fm_cons (fm_new (new_str pe_str)) fm_nil)) (fun _ => by show 2 ≤ 1000; decide)) fm_nil)))))) (fun _ => by show 6 ≤ 1000; decide))) pa_nil)))
      (pss_cons (ps_expr (pe_bm PySem.F.plainAttrs_list PySem.F.slot_list_extend PySem.F.type_list_extend mt_extend (pv 1) (pa_cons (show PE _ _ (tFm lFar fun _ => .list pl3) from (fm_lst (fm_cons (fm_lst (fm_cons (fm_new (new_str pe_str)) (fm_cons (fm_new (new_int pe_int)) fm_nil)) (fun _ => by show 2 ≤ 1000; decide)) (fm_cons (fm_tup (fm_cons (fm_new (new_str pe_str)) (fm_cons (fm_new (new_int pe_int)) (fm_cons (fm_new (new_int pe_int)) fm_nil))) (fun _ => by show 3 ≤ 1000; decide)) (fm_cons (fm_tup (fm_cons (fm_new (new_str pe_str)) (fm_cons (fm_var (pv 0) (fun _ => (.head _))) fm_nil)) (fun _ => by show 2 ≤ 1000; decide)) (fm_cons (fm_tup (fm_cons (fm_new (new_str pe_str)) (fm_cons (fm_new (new_int pe_int)) fm_nil)) (fun _ => by show 2 ≤ 1000; decide)) fm_nil)))) (fun _ => by show 4 ≤ 1000; decide))) pa_nil)))
      (pss_cons (ps_expr (pe_bm PySem.F.plainAttrs_list PySem.F.slot_list_extend PySem.F.type_list_extend mt_extend (pv 1) (pa_cons (show PE _ _ (tFm lFar fun _ => .list pl4) from (fm_lst (fm_cons (fm_tup (fm_cons (fm_new (new_str pe_str)) (fm_cons (fm_new (new_int pe_int)) fm_nil)) (fun _ => by show 2 ≤ 1000; decide)) (fm_cons (fm_tup (fm_cons (fm_new (new_str pe_str)) (fm_cons (fm_new (new_str pe_str)) fm_nil)) (fun _ => by show 2 ≤ 1000; decide)) (fm_cons (fm_tup (fm_cons (fm_tup (fm_cons (fm_new (new_str pe_str)) (fm_cons (fm_new (new_int pe_int)) fm_nil)) (fun _ => by show 2 ≤ 1000; decide)) fm_nil) (fun _ => by show 1 ≤ 1000; decide)) (fm_cons (fm_tup (fm_cons (fm_new (new_str pe_str)) (fm_cons (fm_new (new_non pe_non)) fm_nil)) (fun _ => by show 2 ≤ 1000; decide)) fm_nil)))) (fun _ => by show 4 ≤ 1000; decide))) pa_nil)))
      (pss_cons (ps_set (i := 2) scPlain.nd rfl (.inl rfl) (show PE _ _ (tFm lFar fun _ => .list (rat0.map .tuple)) from (fm_lst (fm_cons (fm_tup (fm_cons (fm_new (new_int pe_int)) (fm_cons (fm_new (new_int pe_int)) fm_nil)) (fun _ => by show 2 ≤ 1000; decide)) (fm_cons (fm_tup (fm_cons (fm_new (new_int pe_int)) (fm_cons (fm_new (new_int pe_int)) fm_nil)) (fun _ => by show 2 ≤ 1000; decide)) (fm_cons (fm_tup (fm_cons (fm_new (new_neg (pe_un un_neg pe_int))) (fm_cons (fm_new (new_int pe_int)) fm_nil)) (fun _ => by show 2 ≤ 1000; decide)) (fm_cons (fm_tup (fm_cons (fm_new (new_int pe_int)) (fm_cons (fm_new (new_int pe_int)) fm_nil)) (fun _ => by show 2 ≤ 1000; decide)) (fm_cons (fm_tup (fm_cons (fm_new (new_int pe_int)) (fm_cons (fm_new (new_int pe_int)) fm_nil)) (fun _ => by show 2 ≤ 1000; decide)) (fm_cons (fm_tup (fm_cons (fm_new (new_neg (pe_un un_neg pe_int))) (fm_cons (fm_new (new_int pe_int)) fm_nil)) (fun _ => by show 2 ≤ 1000; decide)) (fm_cons (fm_tup (fm_cons (fm_new (new_int pe_int)) (fm_cons (fm_new (new_int pe_int)) fm_nil)) (fun _ => by show 2 ≤ 1000; decide)) (fm_cons (fm_tup (fm_cons (fm_new (new_int pe_int)) (fm_cons (fm_new (new_int pe_int)) fm_nil)) (fun _ => by show 2 ≤ 1000; decide)) (fm_cons (fm_tup (fm_cons (fm_new (new_int pe_int)) (fm_cons (fm_new (new_neg (pe_un un_neg pe_int))) fm_nil)) (fun _ => by show 2 ≤ 1000; decide)) (fm_cons (fm_tup (fm_cons (fm_new (new_bl pe_bl)) (fm_cons (fm_new (new_int pe_int)) fm_nil)) (fun _ => by show 2 ≤ 1000; decide)) (fm_cons (fm_tup (fm_cons (fm_new (new_int pe_int)) (fm_cons (fm_new (new_bl pe_bl)) fm_nil)) (fun _ => by show 2 ≤ 1000; decide)) fm_nil))))))))))) (fun _ => by show 11 ≤ 1000; decide))))
      (pss_cons (ps_for PassesOwn.never rfl (pi_list (pe_op op_cat (pv 2) (show PE _ _ (tFm lFar fun _ => .list [.tuple [.int 0, .int 0]]) from (fm_lst (fm_cons (fm_tup (fm_cons (fm_new (new_int pe_int)) (fm_cons (fm_new (new_int pe_int)) fm_nil)) (fun _ => by show 2 ≤ 1000; decide)) fm_nil) (fun _ => by show 1 ≤ 1000; decide))))) (pg_name (i := 3) scPlain.nd rfl (.inl rfl)) (pss_one (ps_expr (pe_bm PySem.F.plainAttrs_list PySem.F.slot_list_extend PySem.F.type_list_extend mt_extend (pv 1) (pa_cons (fm_lst (l := lRat) (ds := fun r => ratD r) (fm_cons (fm_var (l := lRat) (d := fun r => .tuple r) (pv 3) (fun _ => (.head _))) (fm_cons (fm_tup (fm_cons (fm_var (l := lRat) (d := fun r => .tuple r) (pv 3) (fun _ => (.head _))) fm_nil) (fun _ => by show 1 ≤ 1000; decide)) (fm_cons (PE.less (t' := tFm lRat fun r => .list r) (pe_callTy call_list_of (by rfl) mls (by decide +kernel) (pa_cons (pv 3) pa_nil)) (fun σ H Q ⟨a, D, q⟩ => by
            obtain ⟨b, ys, hv, hb, hd⟩ := q.1.tup (.head _)
            exact ⟨_, hv, b, ys, rfl, .inr (sqT hb), fun l hl => q.2 _ _ (same_new hl) (.lst (q.1.2.ne hl) upd_same (hd.keep (KeepD.of (same_new hl))))⟩)) fm_nil))) (fun _ => by show 3 ≤ 1000; decide)) pa_nil)))))
      (pss_one (ps_ret (pe_op op_cat (pv 1) (show PE _ _ (tFm lFar fun _ => .list plZ) from (fm_lst (fm_cons (fm_tup (fm_cons (fm_var (pv 0) (fun _ => (.head _))) (fm_cons (PE.less (t' := tFm lFar fun _ => .int (far + 1)) (pe_op op_add (pv 0) pe_int) (fun σ H Q ⟨a, D, q⟩ => ⟨_, q.1.int (.head _), far, 1, rfl, rfl, q.2 H _ (Same.refl _) (.int _)⟩)) fm_nil)) (fun _ => by show 2 ≤ 1000; decide)) (fm_cons (fm_tup (fm_cons (fm_var (pv 0) (fun _ => (.head _))) (fm_cons (fm_new (new_int pe_int)) fm_nil)) (fun _ => by show 2 ≤ 1000; decide)) (fm_cons (fm_tup (fm_cons (fm_new (new_int pe_int)) (fm_cons (fm_new (new_int pe_int)) fm_nil)) (fun _ => by show 2 ≤ 1000; decide)) (fm_cons (fm_tup (fm_cons (fm_new (new_int pe_int)) (fm_cons (fm_new (new_int pe_int)) fm_nil)) (fun _ => by show 2 ≤ 1000; decide)) (fm_cons (fm_tup (fm_cons (fm_new (new_neg (pe_un un_neg pe_int))) (fm_cons (fm_new (new_int pe_int)) fm_nil)) (fun _ => by show 2 ≤ 1000; decide)) (fm_cons (fm_tup (fm_cons (fm_new (new_int pe_int)) (fm_cons (fm_new (new_int pe_int)) (fm_cons (fm_new (new_int pe_int)) fm_nil))) (fun _ => by show 3 ≤ 1000; decide)) (fm_cons (fm_tup (fm_cons (fm_new (new_int pe_int)) fm_nil) (fun _ => by show 1 ≤ 1000; decide)) (fm_cons (fm_tup (fm_cons (fm_new (new_int pe_int)) (fm_cons (fm_var (pv 0) (fun _ => (.head _))) fm_nil)) (fun _ => by show 2 ≤ 1000; decide)) fm_nil)))))))) (fun _ => by show 8 ≤ 1000; decide))))))))))))), ?_⟩
  refine iSeq (iAsg ⟨10, 58, rfl, rfl, ⟨by decide, by decide, by decide⟩, ?_⟩)
  refine iName (v := .int far) ?_
  dsimp only
  refine iSeq (iAsg ⟨1, rfl, .int far, rfl, .int far, rfl, 0, far, rfl, rfl, by show 16 ≤ sizeLine; decide, fun Lf hLf => ?_⟩)
  refine iName ?_
  dsimp only
  have h0 : FoundAt H [(0, .int far)] [some (.int far), some (.ref Lf), none, none] Lf pl0 (upd H Lf (.lst [.non, .int 0, .int 1, .int (-1), .bl true, .bl false, .int far, .int (0 - far), .str "", .str "a", .str "abcdefgh", .str "abcdefghi", .str "Ash", .str "a b", .str "a1", .str "~"])) :=
    ⟨hLf, same_new hLf, ⟨_, upd_same, .cons .non (.cons (.int _) (.cons (.int _) (.cons (.int _) (.cons (.bl _) (.cons (.bl _) (.cons (.int _) (.cons (.int _) (.cons (.str _) (.cons (.str _) (.cons (.str _) (.cons (.str _) (.cons (.str _) (.cons (.str _) (.cons (.str _) (.cons (.str _) .nil)))))))))))))))⟩, fun x hx => by
      rw [List.mem_singleton.mp hx]
      exact ⟨_, rfl, .int _⟩, ⟨_, upd_same⟩⟩
  generalize upd H Lf _ = H0 at h0 ⊢
  refine iSeq (iDrop (ext_read (l := lFar) (es := fun _ => pl1) () h0 rfl (by decide) fun _ H1 h1 _ => ?_))
  dsimp only
  refine iSeq (iDrop (ext_read (l := lFar) (es := fun _ => pl2) () h1 rfl (by decide) fun _ H2 h2 _ => ?_))
  dsimp only
  refine iSeq (iDrop (ext_read (l := lFar) (es := fun _ => pl3) () h2 rfl (by decide) fun _ H3 h3 _ => ?_))
  dsimp only
  refine iSeq (iDrop (ext_read (l := lFar) (es := fun _ => pl4) () h3 rfl (by decide) fun _ H4 h4 _ => ?_))
  dsimp only
  have hA : FoundAt H [(0, .int far)] [some (.int far), some (.ref Lf), none, none] Lf plainA H4 := h4
  clear h0 h1 h2 h3 h4
  refine iSeq (iAsg ⟨(), Lf, hA.src, fun H1 v1 s1 g1 => ?_⟩)
  refine iName ?_
  dsimp only
  obtain ⟨p1, ys1, rfl, np1, hp1, hys1⟩ := g1.lst_inv
  obtain ⟨vs0, hv0, hd0⟩ := hA.list
  have src1 : SrcM (lFar ()) Lf [some (.int far), some (.ref Lf), some (.ref p1), none] H1 := ⟨fun x hx => by
      rw [List.mem_singleton.mp hx]
      exact ⟨_, rfl, .int _⟩, hA.src.2.keep s1⟩
  refine iSeq ?_
  refine ⟨.ref p1, rfl, (), Lf, src1, fun H2 v2 s2 g2 => ?_⟩
  obtain ⟨p2, ys2, rfl, np2, hp2, hys2⟩ := g2.lst_inv
  have l1 : ys1.length = 11 := hys1.len
  have l2 : ys2.length = 1 := hys2.len
  refine ⟨p1, p2, ys1, ys2, rfl, rfl, s2 _ _ hp1, hp2, by omega, fun R hR => ?_⟩
  have s3 := same_new (o := .lst (ys1 ++ ys2)) hR
  have s13 := (s1.trans s2).trans s3
  have hT2 : Taken H2 Lf := (hA.src.2.keep s1).keep s2
  have nR := hT2.ne hR
  have hrs : DHs Lf (upd H2 R (.lst (ys1 ++ ys2))) (ys1 ++ ys2) (rats.map .tuple) := ((hys1.keep (KeepD.of s2)).app hys2).keep (KeepD.of s3)
  have hRR : (upd H2 R (.lst (ys1 ++ ys2))) R = some (.lst (ys1 ++ ys2)) := upd_same
  generalize ys1 ++ ys2 = rs at hrs hRR s3 s13 ⊢
  generalize upd H2 R (.lst rs) = H3 at hrs hRR s3 s13 ⊢
  have hB : FoundAt H [(0, .int far)] [some (.int far), some (.ref Lf), some (.ref p1), none] Lf plainA H3 := ⟨hA.new, hA.keep.trans s13, ⟨vs0, s13 _ _ hv0, hd0.keep (KeepD.of s13)⟩, ⟨fun x hx => by
      rw [List.mem_singleton.mp hx]
      exact ⟨_, rfl, .int _⟩, hA.src.2.keep s13⟩⟩
  have rl := hrs.len
  refine ⟨R, rfl, ⟨_, sqL hRR⟩, ?_⟩
  refine for_list (xs := rs) (fun i σ' H' => (∃ v3, σ' = [some (.int far), some (.ref Lf), some (.ref p1), v3]) ∧ FoundAt H [(0, .int far)] σ' Lf (plainA ++ (rats.take i).flatMap ratD) H' ∧ H' R = some (.lst rs) ∧ DHs Lf H' rs (rats.map .tuple)) ⟨⟨none, rfl⟩, by rw [List.take_zero]; exact hB, hRR, hrs⟩ (fun i σ' H' _ h => sqL h.2.2.1) (fun i x σ' H' hx h => ?_) (fun σ' H' h => ?_)
  · obtain ⟨⟨v3, rfl⟩, hC, hR', hrs'⟩ := h
    refine iName ?_
    dsimp only
    obtain ⟨d, hdi, hdx⟩ := hrs'.at hx
    rw [List.getElem?_map] at hdi
    obtain ⟨r, hr', rfl⟩ := Option.map_eq_some_iff.mp hdi
    have il : i < rats.length := (List.getElem?_eq_some_iff.mp hr').1
    have il12 : i < 12 := il
    have fl : ((rats.take i).flatMap ratD).length ≤ 36 := by
      have : ∀ l : List (List PyData), (l.flatMap ratD).length = 3 * l.length := by
        intro l
        induction l with
        | nil => rfl
        | cons a l ih =>
          rw [List.flatMap_cons, List.length_append, ih, List.length_cons]
          show 3 + 3 * l.length = _
          omega
      rw [this, List.length_take]
      omega
    have lA : plainA.length ≤ 60 := by decide
    have hD : FoundAt H (lRat r) [some (.int far), some (.ref Lf), some (.ref p1), some x] Lf (plainA ++ (rats.take i).flatMap ratD) H' := ⟨hC.new, hC.keep, hC.list, ⟨fun y hy => by
        rcases List.mem_cons.mp hy with rfl | hy
        · exact ⟨x, rfl, hdx⟩
        · rw [List.mem_singleton.mp hy]
          exact ⟨_, rfl, .int _⟩, hC.src.2⟩⟩
    refine iDrop (ext_read (l := lRat) (es := fun r => ratD r) r hD rfl (by rw [List.length_append]; show _ + 3 ≤ 1000; omega) fun _ H4 h4 k4 => ?_)
    refine ⟨⟨_, rfl⟩, ⟨h4.new, h4.keep, ?_, ⟨fun y hy => by
        rw [List.mem_singleton.mp hy]
        exact ⟨_, rfl, .int _⟩, h4.src.2⟩⟩, k4.lst _ _ nR hR', hrs'.keep k4⟩
    have et : plainA ++ (rats.take (i + 1)).flatMap ratD = plainA ++ (rats.take i).flatMap ratD ++ ratD r := by
      rw [List.take_add_one, hr', List.flatMap_append, List.append_assoc]
      congr 2
    rw [et]
    exact h4.list
  · obtain ⟨⟨v3, rfl⟩, hC, hR', hrs'⟩ := h
    dsimp only
    have e12 : rats.take rs.length = rats := List.take_of_length_le (by rw [rl, List.length_map]; exact Nat.le_refl _)
    rw [e12] at hC
    refine iRet (cat_read (l := lFar) (es := fun _ => plZ) () hC rfl (by decide) fun p H' ys sH _ _ hp hys => ?_)
    exact q H' p Lf ys sH hp hys
end
end P01
namespace AskG
open PySem PySem.Spec PyProof.Rows L2
theorem DHs.rep {D : Addr} {H : Hp} {vs : List V} {ds : List PyData} (h : DHs D H vs ds) : ∀ n : Nat, DHs D H (List.replicate n vs).flatten (List.replicate n ds).flatten
  | 0 => .nil
  | n + 1 => by
    rw [List.replicate_succ, List.replicate_succ, List.flatten_cons, List.flatten_cons]
    exact h.app (DHs.rep h n)
theorem dh_pair {D : Addr} {H : Hp} {p : Addr} {x : Cell × Int} (h : PairRow H p x) : DH D H (.ref p) (pairD x) := by
  obtain ⟨b, h1, h2⟩ := h
  exact .tup h1 (.cons (.tup h2 (.cons (.str _) (.cons (.int _) .nil))) (.cons (.int _) .nil))
theorem dh_all {D : Addr} {H : Hp} {R : Addr → α → Prop} {f : α → PyData} (h : ∀ p x, R p x → DH D H (.ref p) (f x)) : ∀ {ps : List Addr} {l : List α}, Paired R ps l → DHs D H (ps.map V.ref) (l.map f)
  | _, _, .nil => .nil
  | _, _, .cons h1 t => .cons (h _ _ h1) (dh_all h t)
theorem dh_row {D : Addr} {H : Hp} {r : Addr} {ρ : RowD} (h : RowAt H r ρ) : DH D H (.ref r) (rowPD ρ) := by
  obtain ⟨ps, h1, h2⟩ := h
  exact .tup h1 (dh_all (f := pairD) (R := PairRow H) (fun _ _ z => dh_pair z) h2)
end AskG
namespace P01
open PySem PySem.Spec PyProof.Rows L2 AskG
abbrev sHand : Stmt := topS 35
theorem scHand : FnScope ["_law_one", "_law_other", "_law_third", "_law_found", "_law_great", "_law_k"] [] (defScope sHand) := ⟨rfl, rfl, rfl, by decide +kernel, rfl, by decide +kernel, by decide +kernel⟩
def oneD : PyData := .tuple [.tuple [.str "a", .int 0], .int 1]
def otherD : PyData := .tuple [.tuple [.str "a", .int 1], .int (-3)]
def thirdD : PyData := .tuple [.tuple [.str "b", .int 0], .int 2]
def gRow : RowD := (List.range 60).map fun (k : Nat) => (("ab", (k : Int)), 1 - 2 * ((k : Int) % 2))
def greatL : List PyData := gRow.map AskG.pairD
theorem great_len : greatL.length ≤ 1000 := by decide +kernel
def greatD : PyData := .tuple greatL
def lThree : Unit → List (Nat × PyData) := fun _ => [(0, oneD), (1, otherD), (2, thirdD)]
def lFour : Unit → List (Nat × PyData) := fun _ => [(4, greatD), (0, oneD), (1, otherD), (2, thirdD)]
def hd0 : List PyData := [.tuple [oneD], .tuple [oneD, otherD], .tuple [oneD, otherD, thirdD], .tuple [otherD, oneD], .tuple [oneD, oneD], .tuple [oneD, .tuple [.tuple [.str "a", .int 0], .int 2]], .tuple [thirdD, otherD]]
def hd1 : List PyData := [.tuple [.tuple [.tuple [.str "a", .int 0], .int 0]], .tuple [.tuple [.tuple [.str "a", .int 0], .bool true]], .tuple [.tuple [.tuple [.str "a", .int 0], .str "1"]]]
def hd2 : List PyData := [.tuple [.tuple [.str "a", .int 0, .int 1]], .tuple [.list [.tuple [.str "a", .int 0], .int 1]], .list [oneD]]
def hd3 : List PyData := [.tuple [.tuple [.list [.str "a", .int 0], .int 1]], .tuple [.tuple [.tuple [.str "a", .int (-1)], .int 1]], .tuple [.tuple [.tuple [.str "A", .int 0], .int 1]]]
def hd4 : List PyData := [.tuple [.tuple [.tuple [.str "a", .int 0], .int 1, .int 1]], .tuple [.tuple [.tuple [.str "a", .int 0]]], oneD]
def hd5 : List PyData := [.tuple [.tuple [.tuple [.str "a", .int 2], .int 1], .tuple [.tuple [.str "a", .int 10], .int 1]], .tuple [.tuple [.tuple [.str "a", .int 10], .int 1], .tuple [.tuple [.str "a", .int 2], .int 1]], .tuple [.tuple [.tuple [.str "a", .int 0], .int (10 ^ 59)]]]
def hd6 : List PyData := [greatD, .tuple greatL.reverse, .tuple (greatL ++ cutD greatL (some (-1)) none), .tuple [greatD, .tuple [], .tuple [oneD]], .tuple [.tuple [oneD], .list [oneD]], .tuple (List.replicate (3 : Int).toNat [.tuple [oneD]]).flatten]
def hdZ : List PyData := [.tuple [.tuple [oneD], .tuple [otherD, oneD]], .tuple [.tuple [], .tuple [.tuple [.tuple [.str "a", .int 0], .int 0]]], .tuple [.tuple [oneD], .none], .tuple (List.replicate 30 [.tuple [oneD, otherD]]).flatten]
def handD : List PyData := hd0 ++ hd1 ++ hd2 ++ hd3 ++ hd4 ++ hd5 ++ hd6 ++ hdZ
theorem hand_all : All 100 (10 ^ 59) 6 120000 handD := ⟨by decide +kernel, by decide +kernel, by decide +kernel, by decide +kernel, by decide +kernel⟩
theorem src_of {l : List (Nat × PyData)} {D : Addr} {σ : L2.St} {H : Hp} (t : Taken H D) (h : ∀ x ∈ l, ∃ v, σ[x.1]? = some (some v) ∧ DH D H v x.2) : SrcM l D σ H := ⟨h, t⟩
theorem three_of {D : Addr} {H : Hp} {v0 v1 v2 : V} {x3 x4 x5 : Option V} (t : Taken H D) (h0 : DH D H v0 oneD) (h1 : DH D H v1 otherD) (h2 : DH D H v2 thirdD) : SrcM (lThree ()) D [some v0, some v1, some v2, x3, x4, x5] H := ⟨fun x hx => by
  simp only [lThree, List.mem_cons, List.not_mem_nil, or_false] at hx
  rcases hx with rfl | rfl | rfl
  · exact ⟨_, rfl, h0⟩
  · exact ⟨_, rfl, h1⟩
  · exact ⟨_, rfl, h2⟩, t⟩
theorem SrcM.three {D : Addr} {H : Hp} {v0 v1 v2 : V} {x3 x4 x5 : Option V} (h : SrcM (lThree ()) D [some v0, some v1, some v2, x3, x4, x5] H) : DH D H v0 oneD ∧ DH D H v1 otherD ∧ DH D H v2 thirdD := by
  obtain ⟨a, ha, ha'⟩ := h.1 (0, oneD) (.head _)
  obtain ⟨b, hb, hb'⟩ := h.1 (1, otherD) (.tail _ (.head _))
  obtain ⟨c, hc, hc'⟩ := h.1 (2, thirdD) (.tail _ (.tail _ (.head _)))
  cases ha
  cases hb
  cases hc
  exact ⟨ha', hb', hc'⟩
section
variable {P : Program} {w : World} {K : PySem.W.Frag} {mg : Str → Option Value} {base : Heap}
theorem ok_hand {f : Addr} {fd : FuncData} {k : Nat} (F : Fun K "_law_rows_by_hand" "_law_rows_by_hand" sHand f fd) (mt : mg "tuple" = none) (mr : mg "range" = none) : FnG P w K mg base (k + 1) f fd [] (prList handD) := by
  refine okG F scHand (fun vs H Q h => by rw [h.1]; rfl) (fun cdv A outer s H vs Q hr h => ?_)
  obtain ⟨rfl, ⟨D0, hD0⟩, q⟩ := h
  have big := sizeBig
  refine ⟨_, pss_cons (ps_asg (show PE _ _ (tNew (.tuple [oneD, otherD, thirdD])) from (new_tup (news_cons (new_tup (news_cons (new_tup (news_cons (new_str pe_str) (news_cons (new_int pe_int) news_nil)) (by decide)) (news_cons (new_int pe_int) news_nil)) (by decide)) (news_cons (new_tup (news_cons (new_tup (news_cons (new_str pe_str) (news_cons (new_int pe_int) news_nil)) (by decide)) (news_cons (new_neg (pe_un un_neg pe_int)) news_nil)) (by decide)) (news_cons (new_tup (news_cons (new_tup (news_cons (new_str pe_str) (news_cons (new_int pe_int) news_nil)) (by decide)) (news_cons (new_int pe_int) news_nil)) (by decide)) news_nil))) (by decide))) (pg_tup (by rfl) (pgs_cons (pg_name (i := 0) scHand.nd rfl (.inl rfl)) (pgs_cons (pg_name (i := 1) scHand.nd rfl (.inl rfl)) (pgs_cons (pg_name (i := 2) scHand.nd rfl (.inl rfl)) pgs_nil)))))
      (pss_cons (ps_set (i := 3) scHand.nd rfl (.inl rfl) (pe_lst (show PA _ _ (tFms lThree fun _ => hd0) from (fm_cons (fm_tup (fm_cons (fm_var (pv 0) (fun _ => (.head _))) fm_nil) (fun _ => by show 1 ≤ 1000; decide)) (fm_cons (fm_tup (fm_cons (fm_var (pv 0) (fun _ => (.head _))) (fm_cons (fm_var (pv 1) (fun _ => (.tail _ (.head _)))) fm_nil)) (fun _ => by show 2 ≤ 1000; decide)) (fm_cons (fm_tup (fm_cons (fm_var (pv 0) (fun _ => (.head _))) (fm_cons (fm_var (pv 1) (fun _ => (.tail _ (.head _)))) (fm_cons (fm_var (pv 2) (fun _ => (.tail _ (.tail _ (.head _))))) fm_nil))) (fun _ => by show 3 ≤ 1000; decide)) (fm_cons (fm_tup (fm_cons (fm_var (pv 1) (fun _ => (.tail _ (.head _)))) (fm_cons (fm_var (pv 0) (fun _ => (.head _))) fm_nil)) (fun _ => by show 2 ≤ 1000; decide)) (fm_cons (fm_tup (fm_cons (fm_var (pv 0) (fun _ => (.head _))) (fm_cons (fm_var (pv 0) (fun _ => (.head _))) fm_nil)) (fun _ => by show 2 ≤ 1000; decide)) (fm_cons (fm_tup (fm_cons (fm_var (pv 0) (fun _ => (.head _))) (fm_cons (fm_tup (fm_cons (fm_tup (fm_cons (fm_new (new_str pe_str)) (fm_cons (fm_new (new_int pe_int)) fm_nil)) (fun _ => by show 2 ≤ 1000; decide)) (fm_cons (fm_new (new_int pe_int)) fm_nil)) (fun _ => by show 2 ≤ 1000; decide)) fm_nil)) (fun _ => by show 2 ≤ 1000; decide)) (fm_cons (fm_tup (fm_cons (fm_var (pv 2) (fun _ => (.tail _ (.tail _ (.head _))))) (fm_cons (fm_var (pv 1) (fun _ => (.tail _ (.head _)))) fm_nil)) (fun _ => by show 2 ≤ 1000; decide)) fm_nil))))))))))
      (pss_cons (ps_expr (pe_bm PySem.F.plainAttrs_list PySem.F.slot_list_extend PySem.F.type_list_extend mt_extend (pv 3) (pa_cons (show PE _ _ (tFm lThree fun _ => .list hd1) from (fm_lst (fm_cons (fm_tup (fm_cons (fm_tup (fm_cons (fm_tup (fm_cons (fm_new (new_str pe_str)) (fm_cons (fm_new (new_int pe_int)) fm_nil)) (fun _ => by show 2 ≤ 1000; decide)) (fm_cons (fm_new (new_int pe_int)) fm_nil)) (fun _ => by show 2 ≤ 1000; decide)) fm_nil) (fun _ => by show 1 ≤ 1000; decide)) (fm_cons (fm_tup (fm_cons (fm_tup (fm_cons (fm_tup (fm_cons (fm_new (new_str pe_str)) (fm_cons (fm_new (new_int pe_int)) fm_nil)) (fun _ => by show 2 ≤ 1000; decide)) (fm_cons (fm_new (new_bl pe_bl)) fm_nil)) (fun _ => by show 2 ≤ 1000; decide)) fm_nil) (fun _ => by show 1 ≤ 1000; decide)) (fm_cons (fm_tup (fm_cons (fm_tup (fm_cons (fm_tup (fm_cons (fm_new (new_str pe_str)) (fm_cons (fm_new (new_int pe_int)) fm_nil)) (fun _ => by show 2 ≤ 1000; decide)) (fm_cons (fm_new (new_str pe_str)) fm_nil)) (fun _ => by show 2 ≤ 1000; decide)) fm_nil) (fun _ => by show 1 ≤ 1000; decide)) fm_nil))) (fun _ => by show 3 ≤ 1000; decide))) pa_nil)))
      (pss_cons (ps_expr (pe_bm PySem.F.plainAttrs_list PySem.F.slot_list_extend PySem.F.type_list_extend mt_extend (pv 3) (pa_cons (show PE _ _ (tFm lThree fun _ => .list hd2) from (fm_lst (fm_cons (fm_tup (fm_cons (fm_tup (fm_cons (fm_new (new_str pe_str)) (fm_cons (fm_new (new_int pe_int)) (fm_cons (fm_new (new_int pe_int)) fm_nil))) (fun _ => by show 3 ≤ 1000; decide)) fm_nil) (fun _ => by show 1 ≤ 1000; decide)) (fm_cons (fm_tup (fm_cons (fm_lst (fm_cons (fm_tup (fm_cons (fm_new (new_str pe_str)) (fm_cons (fm_new (new_int pe_int)) fm_nil)) (fun _ => by show 2 ≤ 1000; decide)) (fm_cons (fm_new (new_int pe_int)) fm_nil)) (fun _ => by show 2 ≤ 1000; decide)) fm_nil) (fun _ => by show 1 ≤ 1000; decide)) (fm_cons (fm_lst (fm_cons (fm_var (pv 0) (fun _ => (.head _))) fm_nil) (fun _ => by show 1 ≤ 1000; decide)) fm_nil))) (fun _ => by show 3 ≤ 1000; decide))) pa_nil)))
      (pss_cons (ps_expr (pe_bm PySem.F.plainAttrs_list PySem.F.slot_list_extend PySem.F.type_list_extend mt_extend (pv 3) (pa_cons (show PE _ _ (tFm lThree fun _ => .list hd3) from (fm_lst (fm_cons (fm_tup (fm_cons (fm_tup (fm_cons (fm_lst (fm_cons (fm_new (new_str pe_str)) (fm_cons (fm_new (new_int pe_int)) fm_nil)) (fun _ => by show 2 ≤ 1000; decide)) (fm_cons (fm_new (new_int pe_int)) fm_nil)) (fun _ => by show 2 ≤ 1000; decide)) fm_nil) (fun _ => by show 1 ≤ 1000; decide)) (fm_cons (fm_tup (fm_cons (fm_tup (fm_cons (fm_tup (fm_cons (fm_new (new_str pe_str)) (fm_cons (fm_new (new_neg (pe_un un_neg pe_int))) fm_nil)) (fun _ => by show 2 ≤ 1000; decide)) (fm_cons (fm_new (new_int pe_int)) fm_nil)) (fun _ => by show 2 ≤ 1000; decide)) fm_nil) (fun _ => by show 1 ≤ 1000; decide)) (fm_cons (fm_tup (fm_cons (fm_tup (fm_cons (fm_tup (fm_cons (fm_new (new_str pe_str)) (fm_cons (fm_new (new_int pe_int)) fm_nil)) (fun _ => by show 2 ≤ 1000; decide)) (fm_cons (fm_new (new_int pe_int)) fm_nil)) (fun _ => by show 2 ≤ 1000; decide)) fm_nil) (fun _ => by show 1 ≤ 1000; decide)) fm_nil))) (fun _ => by show 3 ≤ 1000; decide))) pa_nil)))
      (pss_cons (ps_expr (pe_bm PySem.F.plainAttrs_list PySem.F.slot_list_extend PySem.F.type_list_extend mt_extend (pv 3) (pa_cons (show PE _ _ (tFm lThree fun _ => .list hd4) from (fm_lst (fm_cons (fm_tup (fm_cons (fm_tup (fm_cons (fm_tup (fm_cons (fm_new (new_str pe_str)) (fm_cons (fm_new (new_int pe_int)) fm_nil)) (fun _ => by show 2 ≤ 1000; decide)) (fm_cons (fm_new (new_int pe_int)) (fm_cons (fm_new (new_int pe_int)) fm_nil))) (fun _ => by show 3 ≤ 1000; decide)) fm_nil) (fun _ => by show 1 ≤ 1000; decide)) (fm_cons (fm_tup (fm_cons (fm_tup (fm_cons (fm_tup (fm_cons (fm_new (new_str pe_str)) (fm_cons (fm_new (new_int pe_int)) fm_nil)) (fun _ => by show 2 ≤ 1000; decide)) fm_nil) (fun _ => by show 1 ≤ 1000; decide)) fm_nil) (fun _ => by show 1 ≤ 1000; decide)) (fm_cons (fm_var (pv 0) (fun _ => (.head _))) fm_nil))) (fun _ => by show 3 ≤ 1000; decide))) pa_nil)))
      (pss_cons (ps_expr (pe_bm PySem.F.plainAttrs_list PySem.F.slot_list_extend PySem.F.type_list_extend mt_extend (pv 3) (pa_cons (show PE _ _ (tFm lThree fun _ => .list hd5) from (fm_lst (fm_cons (fm_tup (fm_cons (fm_tup (fm_cons (fm_tup (fm_cons (fm_new (new_str pe_str)) (fm_cons (fm_new (new_int pe_int)) fm_nil)) (fun _ => by show 2 ≤ 1000; decide)) (fm_cons (fm_new (new_int pe_int)) fm_nil)) (fun _ => by show 2 ≤ 1000; decide)) (fm_cons (fm_tup (fm_cons (fm_tup (fm_cons (fm_new (new_str pe_str)) (fm_cons (fm_new (new_int pe_int)) fm_nil)) (fun _ => by show 2 ≤ 1000; decide)) (fm_cons (fm_new (new_int pe_int)) fm_nil)) (fun _ => by show 2 ≤ 1000; decide)) fm_nil)) (fun _ => by show 2 ≤ 1000; decide)) (fm_cons (fm_tup (fm_cons (fm_tup (fm_cons (fm_tup (fm_cons (fm_new (new_str pe_str)) (fm_cons (fm_new (new_int pe_int)) fm_nil)) (fun _ => by show 2 ≤ 1000; decide)) (fm_cons (fm_new (new_int pe_int)) fm_nil)) (fun _ => by show 2 ≤ 1000; decide)) (fm_cons (fm_tup (fm_cons (fm_tup (fm_cons (fm_new (new_str pe_str)) (fm_cons (fm_new (new_int pe_int)) fm_nil)) (fun _ => by show 2 ≤ 1000; decide)) (fm_cons (fm_new (new_int pe_int)) fm_nil)) (fun _ => by show 2 ≤ 1000; decide)) fm_nil)) (fun _ => by show 2 ≤ 1000; decide)) (fm_cons (fm_tup (fm_cons (fm_tup (fm_cons (fm_tup (fm_cons (fm_new (new_str pe_str)) (fm_cons (fm_new (new_int pe_int)) fm_nil)) (fun _ => by show 2 ≤ 1000; decide)) (fm_cons (fm_new (PE.less (t' := tNew (.int (10 ^ 59))) (pe_op op_pow pe_int pe_int) fun _ H _ q => ⟨10, 59, rfl, rfl, ⟨by decide, by decide, by decide⟩, q H _ (Same.refl _) fun _ _ => .int _⟩)) fm_nil)) (fun _ => by show 2 ≤ 1000; decide)) fm_nil) (fun _ => by show 1 ≤ 1000; decide)) fm_nil))) (fun _ => by show 3 ≤ 1000; decide))) pa_nil)))
      (pss_cons (ps_set (i := 4) scHand.nd rfl (.inl rfl) (pe_callTy call_tuple_of (by rfl) mt (by decide +kernel) (pa_cons (pe_lc (own := [("_law_k", 5)]) (g := gName 5) (tt := tYes) rfl scHand.nd (pi_range1 rfl mr (pa_cons pe_int pa_nil)) (blkOk_by (N := ["_law_one", "_law_other", "_law_third", "_law_found", "_law_great", "_law_k"]) (sc := defScope sHand) (by decide +kernel)) (fun _ _ _ _ _ => pg_name (i := 5) scHand.nd rfl (.inl rfl)) (fun _ _ _ _ _ => pts_nil) (fun _ _ _ _ _ => pe_tup (pa_cons (pe_tup (pa_cons pe_str (pa_cons (pv 5) pa_nil))) (pa_cons (pe_op op_sub pe_int (pe_op op_mul pe_int (pe_op op_mod (pv 5) pe_int))) pa_nil)))) pa_nil)))
      (pss_cons (ps_expr (pe_bm PySem.F.plainAttrs_list PySem.F.slot_list_extend PySem.F.type_list_extend mt_extend (pv 3) (pa_cons (show PE _ _ (tFm lFour fun _ => .list hd6) from (fm_lst (fm_cons (fm_var (pv 4) (fun _ => (.head _))) (fm_cons (PE.less (t' := tFm lFour fun _ => .tuple greatL.reverse) (pe_revT (pv 4)) (fun σ H Q ⟨a, D, q⟩ => by
        obtain ⟨b, xs, hv, hb, hd⟩ := q.1.tup (.head _)
        exact ⟨_, hv, b, xs, rfl, sqT hb, fun p hp => q.2 _ _ (same_new hp) (.tup upd_same (hd.rev.keep (KeepD.of (same_new hp))))⟩)) (fm_cons (PE.less (t' := tFm lFour fun _ => .tuple (greatL ++ cutD greatL (some (-1)) none)) (pe_op op_catA (pv 4) (pe_slice sl_tupA (pv 4) (po_some (pe_un un_neg pe_int)) po_none)) (fun σ H Q ⟨a, D, q⟩ => by
        obtain ⟨b, xs, hv, hb, hd⟩ := q.1.tup (.head _)
        exact ⟨_, hv, _, hv, 1, rfl, -1, rfl, sl_fromN hb hd (fun H' v s' h' => by
          obtain ⟨c, ys, rfl, hc, he⟩ := h'.tup_inv
          exact cat_from (s' _ _ hb) (hd.keep (KeepD.of s')) hc he great_len (Nat.le_trans (cutD_len _ _ _) great_len) (fun H2 v2 s2 h2 => q.2 _ _ (s'.trans s2) h2))⟩)) (fm_cons (fm_tup (fm_cons (fm_var (pv 4) (fun _ => (.head _))) (fm_cons (fm_tup fm_nil (fun _ => by show 0 ≤ 1000; decide)) (fm_cons (fm_tup (fm_cons (fm_var (pv 0) (fun _ => (.tail _ (.head _)))) fm_nil) (fun _ => by show 1 ≤ 1000; decide)) fm_nil))) (fun _ => by show 3 ≤ 1000; decide)) (fm_cons (fm_tup (fm_cons (fm_tup (fm_cons (fm_var (pv 0) (fun _ => (.tail _ (.head _)))) fm_nil) (fun _ => by show 1 ≤ 1000; decide)) (fm_cons (fm_lst (fm_cons (fm_var (pv 0) (fun _ => (.tail _ (.head _)))) fm_nil) (fun _ => by show 1 ≤ 1000; decide)) fm_nil)) (fun _ => by show 2 ≤ 1000; decide)) (fm_cons (fm_rep (ds := fun _ => [.tuple [oneD]]) (pe_op op_repT (fm_tup (fm_cons (fm_tup (fm_cons (fm_var (pv 0) (fun _ => (.tail _ (.head _)))) fm_nil) (fun _ => by show 1 ≤ 1000; decide)) fm_nil) (fun _ => by show 1 ≤ 1000; decide)) pe_int) (fun _ _ _ h => h) (fun _ z => nomatch z) (by decide) (by decide) (fun _ => by show 1 ≤ 1000; decide)) fm_nil)))))) (fun _ => by show 6 ≤ 1000; decide))) pa_nil)))
      (pss_one (ps_ret (pe_op op_cat (pv 3) (show PE _ _ (tFm lFour fun _ => .list hdZ) from (fm_lst (fm_cons (fm_tup (fm_cons (fm_tup (fm_cons (fm_var (pv 0) (fun _ => (.tail _ (.head _)))) fm_nil) (fun _ => by show 1 ≤ 1000; decide)) (fm_cons (fm_tup (fm_cons (fm_var (pv 1) (fun _ => (.tail _ (.tail _ (.head _))))) (fm_cons (fm_var (pv 0) (fun _ => (.tail _ (.head _)))) fm_nil)) (fun _ => by show 2 ≤ 1000; decide)) fm_nil)) (fun _ => by show 2 ≤ 1000; decide)) (fm_cons (fm_tup (fm_cons (fm_tup fm_nil (fun _ => by show 0 ≤ 1000; decide)) (fm_cons (fm_tup (fm_cons (fm_tup (fm_cons (fm_tup (fm_cons (fm_new (new_str pe_str)) (fm_cons (fm_new (new_int pe_int)) fm_nil)) (fun _ => by show 2 ≤ 1000; decide)) (fm_cons (fm_new (new_int pe_int)) fm_nil)) (fun _ => by show 2 ≤ 1000; decide)) fm_nil) (fun _ => by show 1 ≤ 1000; decide)) fm_nil)) (fun _ => by show 2 ≤ 1000; decide)) (fm_cons (fm_tup (fm_cons (fm_tup (fm_cons (fm_var (pv 0) (fun _ => (.tail _ (.head _)))) fm_nil) (fun _ => by show 1 ≤ 1000; decide)) (fm_cons (fm_new (new_non pe_non)) fm_nil)) (fun _ => by show 2 ≤ 1000; decide)) (fm_cons (PE.less (t' := tFm lFour fun _ => .tuple (List.replicate 30 [.tuple [oneD, otherD]]).flatten) (pe_callTy call_tuple_of (by rfl) mt (by decide +kernel) (pa_cons (pe_op op_rep (fm_lst (fm_cons (fm_tup (fm_cons (fm_var (pv 0) (fun _ => (.tail _ (.head _)))) (fm_cons (fm_var (pv 1) (fun _ => (.tail _ (.tail _ (.head _))))) fm_nil)) (fun _ => by show 2 ≤ 1000; decide)) fm_nil) (fun _ => by show 1 ≤ 1000; decide)) pe_int) pa_nil)) (fun σ H Q ⟨a, D, q⟩ => ⟨a, D, q.1, fun H1 v s1 h1 => by
        obtain ⟨p, ys, rfl, np, hp, hys⟩ := h1.lst_inv
        have l1 : ys.length = 1 := hys.len
        refine ⟨p, 30, ys, rfl, rfl, hp, by decide, by decide, by rw [l1]; show 1 * 30 ≤ sizeLine; decide, fun c hc => ?_⟩
        have s2 := same_new (o := .lst (List.replicate (30 : Int).toNat ys).flatten) hc
        refine ⟨c, _, rfl, .inl ⟨sqL upd_same, fun e he => ?_⟩⟩
        have s3 := same_new (o := .tup (List.replicate (30 : Int).toNat ys).flatten) he
        refine q.2 _ _ ((s1.trans s2).trans s3) (.tup upd_same ?_)
        exact DHs.rep ((hys.keep (KeepD.of s2)).keep (KeepD.of s3)) 30⟩)) fm_nil)))) (fun _ => by show 4 ≤ 1000; decide)))))))))))))), ?_⟩
  refine iSeq (iAsg fun H1 v1 s1 n1 => ?_)
  have d1 := n1 D0 hD0
  obtain ⟨a1, xs1, rfl, ha1, hx1⟩ := d1.tup_inv
  cases hx1 with
  | cons e0 hx1 =>
  cases hx1 with
  | cons e1 hx1 =>
  cases hx1 with
  | cons e2 hx1 =>
  cases hx1
  rename_i v0 v1 v2
  refine ⟨a1, _, rfl, sqT ha1, rfl, v0, _, rfl, v1, _, rfl, v2, _, rfl, rfl, ?_⟩
  dsimp only
  have hT1 := hD0.keep s1
  refine iSeq (iAsg ⟨(), D0, three_of hT1 e0 e1 e2, fun H2 vs2 s2 h2 => ⟨by rw [h2.len]; show 7 ≤ sizeLine; omega, fun Lf hLf => ?_⟩⟩)
  refine iName ?_
  dsimp only
  have s3 := same_new (o := .lst vs2) hLf
  have s23 := s2.trans s3
  have hNew : H Lf = none := by
    cases e : H Lf with
    | none => rfl
    | some o =>
      have := s2 _ _ (s1 _ _ e)
      rw [hLf] at this
      cases this
  have sh : ∀ {v d}, DH D0 H1 v d → DH Lf (upd H2 Lf (.lst vs2)) v d := fun h => ((h.keep (KeepD.of s2)).shun hLf).keep (KeepD.of s3)
  have h0 : FoundAt H (lThree ()) [some v0, some v1, some v2, some (.ref Lf), none, none] Lf hd0 (upd H2 Lf (.lst vs2)) :=
    ⟨hNew, s1.trans s23, ⟨vs2, upd_same, (h2.shun hLf).keep (KeepD.of s3)⟩, three_of ⟨_, upd_same⟩ (sh e0) (sh e1) (sh e2)⟩
  clear sh s3 s23
  generalize upd H2 Lf (.lst vs2) = G0 at h0 ⊢
  refine iSeq (iDrop (ext_read (l := lThree) (es := fun _ => hd1) () h0 rfl (by decide +kernel) fun _ G1 h1 _ => ?_))
  dsimp only
  refine iSeq (iDrop (ext_read (l := lThree) (es := fun _ => hd2) () h1 rfl (by decide +kernel) fun _ G2 h2 _ => ?_))
  dsimp only
  refine iSeq (iDrop (ext_read (l := lThree) (es := fun _ => hd3) () h2 rfl (by decide +kernel) fun _ G3 h3 _ => ?_))
  dsimp only
  refine iSeq (iDrop (ext_read (l := lThree) (es := fun _ => hd4) () h3 rfl (by decide +kernel) fun _ G4 h4 _ => ?_))
  dsimp only
  refine iSeq (iDrop (ext_read (l := lThree) (es := fun _ => hd5) () h4 rfl (by decide +kernel) fun _ G5 h5 _ => ?_))
  dsimp only
  obtain ⟨t0, t1, t2⟩ := SrcM.three h5.src
  obtain ⟨vsA, hvA, hdA⟩ := h5.list
  refine iSeq (iAsg ⟨60, rfl, by decide, by decide, fun Dc hDc => ?_⟩)
  refine lc_range (lo := 0) (n := 60) (fun j H' => Same G5 H' ∧ ∃ ps, H' Dc = some (.lst (ps.map V.ref)) ∧ Paired (PairRow H') ps (gRow.take j)) ⟨same_new hDc, [], upd_same, .nil⟩ (fun j H' hj h => ?_) (fun H' h => ?_)
  · obtain ⟨sm, ps, hps, hpp⟩ := h
    have pl := hpp.length
    refine ⟨wipe1, iYes (iteT ?_)⟩
    refine ⟨.int (0 + (j : Int)), rfl, by show 2 ≤ sizeLine; decide, fun c hc => ?_⟩
    have c1 := same_new (o := .tup [.str "ab", .int (0 + (j : Int))]) hc
    refine ⟨.int (0 + (j : Int)), rfl, 0 + (j : Int), 2, rfl, rfl, (by decide : (0 : Int) < 2), 2, _, rfl, rfl, .inl ⟨by decide, by decide⟩, 1, _, rfl, rfl, by show 2 ≤ sizeLine; decide, fun p hp => ?_⟩
    have c2 := same_new (o := .tup [.ref c, .int (1 - 2 * ((0 + (j : Int)) % 2))]) hp
    have c12 := c1.trans c2
    have hDp := c12 _ _ hps
    refine ⟨_, hDp, by rw [List.length_map]; rw [List.length_take] at pl; omega, fun b o e => ?_, ps ++ [p], by rw [upd_same, List.map_append]; rfl, ?_⟩
    · rw [upd_ne (ne_of_none e hDc)]
      exact c12 _ _ (sm _ _ e)
    · have kp : KeepT _ (upd _ Dc (.lst (ps.map V.ref ++ [.ref p]))) := KeepT.put hDp fun _ z => nomatch z
      have et : gRow.take (j + 1) = gRow.take j ++ ([((("ab" : Str), (j : Int)), 1 - 2 * ((j : Int) % 2))] : RowD) := by
        rw [List.take_add_one]
        congr 1
        have : gRow[j]? = some ((("ab" : Str), (j : Int)), 1 - 2 * ((j : Int) % 2)) := by
          unfold gRow
          rw [List.getElem?_map, List.getElem?_range hj]
          rfl
        rw [this]
        rfl
      rw [et]
      have zj : (0 : Int) + (j : Int) = (j : Int) := Int.zero_add _
      refine Paired.snoc (Paired.mapP hpp fun _ _ z => (z.keep (KeepT.of c12)).keep kp) ⟨c, kp _ _ ?_, kp _ _ ?_⟩
      · rw [upd_same, zj]
      · have := c2 _ _ (upd_same (H := H') (a := c) (o := HO.tup [.str "ab", .int (0 + (j : Int))]))
        rw [zj] at this
        rw [zj]
        exact this
  · obtain ⟨sm, ps, hps, hpp⟩ := h
    rw [show gRow.take 60 = gRow from by decide +kernel] at hpp
    refine ⟨Dc, _, rfl, .inl ⟨sqL hps, fun p hp => ?_⟩⟩
    have s5 := same_new (o := .tup (ps.map V.ref)) hp
    have s45 := sm.trans s5
    have hrow : RowAt (upd H' p (.tup (ps.map V.ref))) p gRow := ⟨ps, upd_same, Paired.mapP hpp fun _ _ z => z.keep (KeepT.of s5)⟩
    refine iName ?_
    dsimp only
    have h5g : FoundAt H (lFour ()) [some v0, some v1, some v2, some (.ref Lf), some (.ref p), none] Lf _ (upd H' p (.tup (ps.map V.ref))) :=
      ⟨h5.new, h5.keep.trans s45, ⟨vsA, s45 _ _ hvA, hdA.keep (KeepD.of s45)⟩, ⟨fun x hx => by
        rcases List.mem_cons.mp hx with rfl | hx
        · exact ⟨_, rfl, dh_row hrow⟩
        · exact (three_of (h5.src.2.keep s45) (t0.keep (KeepD.of s45)) (t1.keep (KeepD.of s45)) (t2.keep (KeepD.of s45))).1 x hx, h5.src.2.keep s45⟩⟩
    refine iSeq (iDrop (ext_read (l := lFour) (es := fun _ => hd6) () h5g rfl (by decide +kernel) fun _ G6 h6 _ => ?_))
    dsimp only
    refine iRet (cat_read (l := lFour) (es := fun _ => hdZ) () h6 rfl (by decide +kernel) fun p H' ys sH _ _ hp hys => ?_)
    exact q H' p Lf ys sH hp hys
end
end P01
namespace P01
open PySem PySem.Spec PyProof.Rows L2 AskG
abbrev sLaw : Stmt := topS 36
theorem scLaw : FnScope ["_law_script", "_law_feed_here", "_law_things", "_law_k", "_law_system_here", "_law_own", "_law_once", "_law_kept", "_law_item", "_law_told", "_law_due"] ["_law_script"] (defScope sLaw) := ⟨rfl, rfl, rfl, by decide +kernel, rfl, by decide +kernel, by decide +kernel⟩
theorem all_map {α : Type} {f : α → PyData} {b t k n : Nat} : ∀ {l : List α}, (∀ x ∈ l, Of b t k n (f x)) → All b t k (l.length * n) (l.map f)
  | [], _ => .nil
  | x :: l, h => (All.cons (h x List.mem_cons_self) (all_map fun y hy => h y (List.mem_cons_of_mem _ hy))).mono (Nat.le_refl _) (Nat.le_refl _) (Nat.le_refl _) (by rw [List.length_cons, Nat.succ_mul]; omega)
theorem cellOf : ∀ c ∈ places, Of 100 (10 ^ 59) 1 170 (AskG.cellD c) := by
  have h : ∀ c ∈ places, okS (AskG.cellD c) = true ∧ bigD (AskG.cellD c) ≤ 100 ∧ topD (AskG.cellD c) ≤ 10 ^ 59 ∧ (AskG.cellD c).depth ≤ 1 ∧ wtD (AskG.cellD c) ≤ 170 := by
    unfold places
    intro c hc
    simp only [List.mem_cons, List.not_mem_nil, or_false] at hc
    rcases hc with rfl | rfl | rfl | rfl | rfl | rfl <;> decide +kernel
  exact fun c hc => ⟨(h c hc).1, (h c hc).2.1, (h c hc).2.2.1, (h c hc).2.2.2.1, (h c hc).2.2.2.2⟩
theorem rowOf {ρ : RowD} (h : DrawnR places 200 ρ) : Of 100 (10 ^ 59) 3 1600 (rowPD ρ) := by
  have m : ρ.length ≤ 6 := h.many
  have A : All 100 (10 ^ 59) 2 (ρ.length * 260) (ρ.map AskG.pairD) := all_map fun x hx => by
    have hc := cellOf x.1 (h.on _ (List.mem_map_of_mem hx))
    have hw := h.lit x.1
    rw [get0_mem (rising_nodup h.ok.up) hx] at hw
    have t : x.2.natAbs ≤ 10 ^ 59 := by
      have : x.2.natAbs ≤ 200 := by omega
      exact Nat.le_trans this (by decide)
    exact (Of.tup (All.cons (hc.mono (Nat.le_refl _) (Nat.le_refl _) (Nat.le_refl _) (Nat.le_refl _)) (All.cons (Of.int (n := 81) t (Nat.le_refl _)) (All.nil (n := 0)))) (by show 2 ≤ 100; decide)).mono (Nat.le_refl _) (Nat.le_refl _) (Nat.le_refl _) (by show 170 + (81 + 0) + 2 * 2 + 3 ≤ 260; decide)
  refine (Of.tup A (by rw [List.length_map]; omega)).mono (Nat.le_refl _) (Nat.le_refl _) (Nat.le_refl _) ?_
  rw [List.length_map]
  omega
def sysPD (ρs : List RowD) : PyData := .tuple (ρs.map rowPD)
theorem sys_of {ρs : List RowD} (l : ρs.length ≤ 6) (h : ∀ ρ ∈ ρs, DrawnR places 200 ρ) : Of 100 (10 ^ 59) 4 12000 (sysPD ρs) := by
  have A : All 100 (10 ^ 59) 3 (ρs.length * 1600) (ρs.map rowPD) := all_map fun ρ hρ => rowOf (h ρ hρ)
  refine (Of.tup A (by rw [List.length_map]; omega)).mono (Nat.le_refl _) (Nat.le_refl _) (Nat.le_refl _) ?_
  rw [List.length_map]
  omega
theorem dh_sys {D : Addr} {H : Hp} {s : Addr} {ρs : List RowD} (h : SysAt H s ρs) : DH D H (.ref s) (sysPD ρs) := by
  obtain ⟨rs, h1, h2⟩ := h
  exact .tup h1 (dh_all (f := rowPD) (R := RowAt H) (fun _ _ z => dh_row z) h2)
/-- what the law bends -/
def OwnOk (d : PyData) : Prop := (∃ es, d = .tuple es) ∧ Of 100 (10 ^ 59) 4 12000 d
/-- the things so far -/
structure Th (F L T : Addr) (c : Nat) (H : Hp) : Prop where
  feed : FeedAt H F L
  apart : L ≠ T
  list : ∃ vs ds, H T = some (.lst vs) ∧ DHs T H vs ds ∧ All 932 (10 ^ 59 + 2) 12 (200000 * c + 200000) ds ∧ ds.length ≤ 200 + 6 * c
theorem Th.taken {F L T : Addr} {c : Nat} {H : Hp} (h : Th F L T c H) : Taken H T := by
  obtain ⟨vs, ds, h1, _⟩ := h.list
  exact ⟨_, h1⟩
theorem Th.ne {F L T : Addr} {c : Nat} {H : Hp} (h : Th F L T c H) : T ≠ F := by
  obtain ⟨vs, ds, h1, _⟩ := h.list
  obtain ⟨_, _, _, _, e, _⟩ := h.feed
  exact ne_of h1 e fun z => nomatch z
theorem Th.step {F L T : Addr} {c : Nat} {H H' : Hp} (h : Th F L T c H) (k : KeepF F H H') (f : FeedAt H' F L) : Th F L T c H' := by
  have n := h.ne
  obtain ⟨vs, ds, h1, h2, h3, h4⟩ := h.list
  exact ⟨f, h.apart, vs, ds, k _ _ n h1, h2.keep (k.kd h.feed), h3, h4⟩
theorem Th.same {F L T : Addr} {c : Nat} {H H' : Hp} (h : Th F L T c H) (k : Same H H') : Th F L T c H' := h.step (KeepF.of k) (h.feed.same k)
theorem kb_one {K : PySem.W.Frag} {x qual : Str} {st : Stmt} {f : Addr} {fd : FuncData} {p : Str} (F : Fun K x qual st f fd)
    (h : ∀ (kV doc pm : Value) (an : Option Addr) (cdv ct a : Value), bindArgs (PySem.W.fnOf x qual (defArgs st) (defBody st) (defScope st) .none kV doc pm an cdv ct) ⟨[], [(p, a)]⟩ = pure [(p, a)]) :
    KBn K fd [p] 0 [p] (fun _ ws => ws) (fun _ zs => zs) := by
  obtain ⟨oc, od, kV, doc, pm, an, cdv, ct, osl, rfl, lk, hcd⟩ := F.ex
  refine ⟨fun s us ws _ hu hw => ?_, fun r rz => rz⟩
  match us, ws, hu, hw with
  | [], [a], _, _ => exact .of_eq (h kV doc pm an cdv ct a)
/-- repr of eight bools -/
def boolsD (bs : List Bool) : PyData := .list (bs.map .bool)
theorem dp_bools {K : PySem.W.Frag} {H : Hp} : ∀ bs : List Bool, DpAll K H (bs.map V.bl) (bs.map PyData.bool)
  | [] => .nil
  | b :: bs => .cons (.bl b) (dp_bools bs)
theorem wt_bools : ∀ bs : List Bool, wtDs (bs.map PyData.bool) = 5 * bs.length ∧ smallDs (bs.map PyData.bool) = true ∧ litDs (bs.map PyData.bool) = true ∧ PyData.depthAll (bs.map PyData.bool) = 0
  | [] => ⟨rfl, rfl, rfl, rfl⟩
  | b :: bs => by
    obtain ⟨h1, h2, h3, h4⟩ := wt_bools bs
    refine ⟨?_, ?_, ?_, ?_⟩
    · show 5 + wtDs (bs.map PyData.bool) = 5 * (bs.length + 1)
      omega
    · show (true && smallDs (bs.map PyData.bool)) = true
      rw [h2]
      rfl
    · show (true && litDs (bs.map PyData.bool)) = true
      rw [h3]
      rfl
    · show max 0 (PyData.depthAll (bs.map PyData.bool)) = 0
      rw [h4]
      rfl
theorem repr_bools {K : PySem.W.Frag} {H : Hp} {a : Addr} {bs : List Bool} {Q : VK} (h : H a = some (.lst (bs.map V.bl))) (l : bs.length = 8) (q : Q (.str (boolsD bs).shown) H) : rRepr K [.ref a] H Q := by
  obtain ⟨h1, h2, h3, h4⟩ := wt_bools bs
  have ls : (bs.map PyData.bool).length = 8 := by rw [List.length_map, l]
  have t := told (d := boolsD bs) (by
    show (decide ((bs.map PyData.bool).length ≤ 1000) && smallDs (bs.map PyData.bool)) = true
    rw [h2, ls]
    rfl) h3
  have tl := t.len
  have wl : wtD (boolsD bs) = 5 * 8 + 2 * 8 + 3 := by
    show wtDs (bs.map PyData.bool) + 2 * (bs.map PyData.bool).length + 3 = _
    rw [h1, ls, l]
  refine ⟨a, boolsD bs, rfl, .lst (sqL h) (dp_bools bs), t.shw, t.nod, ?_, ?_, q⟩
  · show PyData.depthAll (bs.map PyData.bool) + 1 ≤ 60
    rw [h4]
    decide
  · have := sizeBig
    omega
theorem repr_things {K : PySem.W.Frag} {H : Hp} {T : Addr} {vs : List V} {ds : List PyData} {Q : VK} (h : H T = some (.lst vs)) (hd : DHs T H vs ds) (ha : All 932 (10 ^ 59 + 2) 12 3000000 ds) (l : ds.length ≤ 272) (q : Q (.str (PyData.list ds).shown) H) : rRepr K [.ref T] H Q := by
  have t := told (d := .list ds) (by
    show (decide (ds.length ≤ 1000) && smallDs ds) = true
    rw [smalls_by ha.ok (Nat.le_trans ha.big (by decide)), decide_eq_true (by omega)]
    rfl) (lits_by ha.ok (Nat.lt_of_le_of_lt ha.top (by decide)))
  have tl := t.len
  have wl : wtD (.list ds) ≤ 3000000 + 2 * 272 + 3 := by
    show wtDs ds + 2 * ds.length + 3 ≤ _
    have := ha.wt
    omega
  refine ⟨T, .list ds, rfl, .lst (sqL h) hd.dp, t.shw, t.nod, ?_, ?_, q⟩
  · show PyData.depthAll ds + 1 ≤ 60
    have := ha.dep
    omega
  · rw [sizeLine_eq]
    omega
section
variable {P : Program} {w : World} {K : PySem.W.Frag} {mg : Str → Option Value} {base : Heap}
def prLaw (K : PySem.W.Frag) : Pr := fun vs H Q => ∃ (a : Addr) (ns : List Int), vs = [.ref a] ∧ SqL K H a (ns.map V.int) ∧ ∀ H', Q (.bl true) H'
variable {fF fS fB fP fH fPI fPN fPM fPC fPR fPA fPF fPD fLI fLN fLM fLC fLW fLA fLF : Addr} {fdF fdS fdB fdP fdH fdPI fdPN fdPM fdPC fdPR fdPA fdPF fdPD fdLI fdLN fdLM fdLC fdLW fdLA fdLF : FuncData}
theorem none_of {H H' : Hp} {p : Addr} (s : Same H H') (h : H' p = none) : H p = none := by
  cases e : H p with
  | none => rfl
  | some o =>
    rw [s _ _ e] at h
    cases h
theorem ok_law {f : Addr} {fd : FuncData} {k : Nat} (F : Fun K "law" "law" sLaw f fd)
    (FF : Fun K "_law_feed" "_law_feed" sFeed fF fdF) (bF : Binds K fdF ["_law_script"] []) (gF : mg "_law_feed" = some (.ref fF)) (GF : FnG P w K mg base (k + 12) fF fdF ["_law_script"] (prFeed K))
    (FS : Fun K "_law_system" "_law_system" sSys fS fdS) (bS : Binds K fdS ["_law_feed_here", "_law_most"] []) (gS : mg "_law_system" = some (.ref fS)) (GS : FnG P w K mg base (k + 12) fS fdS ["_law_feed_here", "_law_most"] prSys)
    (FB : Fun K "_law_bent" "_law_bent" sBent fB fdB) (bB : Binds K fdB ["_law_feed_here", "_law_item"] []) (gB : mg "_law_bent" = some (.ref fB)) (GB : FnG P w K mg base (k + 12) fB fdB ["_law_feed_here", "_law_item"] (prBent 9))
    (FP : Fun K "_law_plain_values" "_law_plain_values" sPlain fP fdP) (bP : Binds K fdP [] []) (gP : mg "_law_plain_values" = some (.ref fP)) (GP : FnG P w K mg base (k + 12) fP fdP [] (prList plainD))
    (FH : Fun K "_law_rows_by_hand" "_law_rows_by_hand" sHand fH fdH) (bH : Binds K fdH [] []) (gH : mg "_law_rows_by_hand" = some (.ref fH)) (GH : FnG P w K mg base (k + 12) fH fdH [] (prList handD))
    (FPI : Fun K "is_integer" "is_integer" sIsInt fPI fdPI) (bPI : Binds K fdPI ["thing"] []) (gPI : mg "is_integer" = some (.ref fPI)) (GPI : FnG P w K mg base (k + 12) fPI fdPI ["thing"] (prKind isIntD))
    (FPN : Fun K "is_number" "is_number" sIsNum fPN fdPN) (bPN : Binds K fdPN ["thing"] []) (gPN : mg "is_number" = some (.ref fPN)) (GPN : FnG P w K mg base (k + 12) fPN fdPN ["thing"] (prKind isNumD))
    (FPM : Fun K "is_name" "is_name" sIsName fPM fdPM) (bPM : Binds K fdPM ["thing"] []) (gPM : mg "is_name" = some (.ref fPM)) (GPM : FnG P w K mg base (k + 12) fPM fdPM ["thing"] (prKind isNameD))
    (FPC : Fun K "is_cell" "is_cell" sIsCell fPC fdPC) (bPC : Binds K fdPC ["thing"] []) (gPC : mg "is_cell" = some (.ref fPC)) (GPC : FnG P w K mg base (k + 12) fPC fdPC ["thing"] (prKind isCellD))
    (FPR : Fun K "is_row" "is_row" sIsRow fPR fdPR) (bPR : Binds K fdPR ["thing"] []) (gPR : mg "is_row" = some (.ref fPR)) (GPR : FnG P w K mg base (k + 12) fPR fdPR ["thing"] (prKind isRowD))
    (FPA : Fun K "are_rows" "are_rows" sAreRows fPA fdPA) (bPA : Binds K fdPA ["thing"] []) (gPA : mg "are_rows" = some (.ref fPA)) (GPA : FnG P w K mg base (k + 12) fPA fdPA ["thing"] (prKind areRowsD))
    (FPF : Fun K "is_fraction" "is_fraction" sIsFrac fPF fdPF) (bPF : Binds K fdPF ["thing"] []) (gPF : mg "is_fraction" = some (.ref fPF)) (GPF : FnG P w K mg base (k + 12) fPF fdPF ["thing"] (prKind isFracD))
    (FPD : Fun K "is_data" "is_data" sIsData fPD fdPD) (bPD : Binds K fdPD ["thing"] []) (gPD : mg "is_data" = some (.ref fPD)) (GPD : FnG P w K mg base (k + 12) fPD fdPD ["thing"] (prKind isRowD))
    (FLI : Fun K "_law_integer" "_law_integer" lInt fLI fdLI) (bLI : Binds K fdLI ["_law_item"] []) (gLI : mg "_law_integer" = some (.ref fLI)) (GLI : FnG P w K mg base (k + 12) fLI fdLI ["_law_item"] (prKind isIntD))
    (FLN : Fun K "_law_number" "_law_number" lNum fLN fdLN) (bLN : Binds K fdLN ["_law_item"] []) (gLN : mg "_law_number" = some (.ref fLN)) (GLN : FnG P w K mg base (k + 12) fLN fdLN ["_law_item"] (prKind isNumD))
    (FLM : Fun K "_law_name" "_law_name" lName fLM fdLM) (bLM : Binds K fdLM ["_law_item"] []) (gLM : mg "_law_name" = some (.ref fLM)) (GLM : FnG P w K mg base (k + 12) fLM fdLM ["_law_item"] (prKind isNameD))
    (FLC : Fun K "_law_cell" "_law_cell" lCell fLC fdLC) (bLC : Binds K fdLC ["_law_item"] []) (gLC : mg "_law_cell" = some (.ref fLC)) (GLC : FnG P w K mg base (k + 12) fLC fdLC ["_law_item"] (prKind isCellD))
    (FLW : Fun K "_law_weighted" "_law_weighted" lWt fLW fdLW) (bLW : Binds K fdLW ["_law_item"] []) (gLW : mg "_law_weighted" = some (.ref fLW)) (GLW : FnG P w K mg base (k + 12) fLW fdLW ["_law_item"] (prKind isRowD))
    (FLA : Fun K "_law_rows_kind" "_law_rows_kind" lRows fLA fdLA) (bLA : Binds K fdLA ["_law_item"] []) (gLA : mg "_law_rows_kind" = some (.ref fLA)) (GLA : FnG P w K mg base (k + 12) fLA fdLA ["_law_item"] (prKindN areRowsD))
    (FLF : Fun K "_law_ratio" "_law_ratio" lRatio fLF fdLF) (bLF : Binds K fdLF ["_law_item"] []) (gLF : mg "_law_ratio" = some (.ref fLF)) (GLF : FnG P w K mg base (k + 12) fLF fdLF ["_law_item"] (prKind isFracD))
    (mls : mg "list" = none) (mr : mg "range" = none) (mp : mg "repr" = none) : FnG P w K mg base (k + 13) f fd ["_law_script"] (prLaw K) := by
  refine okG F scLaw (fun vs H Q h => ?_) (fun cdv A outer s H vs Q hr h => ?_)
  · obtain ⟨_, _, rfl, _⟩ := h
    rfl
  · obtain ⟨a, ns, rfl, hS, q⟩ := h
    have big := sizeBig
    have kPI : KBn K fdPI ["thing"] 0 ["thing"] (fun _ ws => ws) (fun _ zs => zs) := kb_one FPI fun _ _ _ _ _ _ _ => rfl
    have kPN : KBn K fdPN ["thing"] 0 ["thing"] (fun _ ws => ws) (fun _ zs => zs) := kb_one FPN fun _ _ _ _ _ _ _ => rfl
    have kPM : KBn K fdPM ["thing"] 0 ["thing"] (fun _ ws => ws) (fun _ zs => zs) := kb_one FPM fun _ _ _ _ _ _ _ => rfl
    have kPC : KBn K fdPC ["thing"] 0 ["thing"] (fun _ ws => ws) (fun _ zs => zs) := kb_one FPC fun _ _ _ _ _ _ _ => rfl
    have kPR : KBn K fdPR ["thing"] 0 ["thing"] (fun _ ws => ws) (fun _ zs => zs) := kb_one FPR fun _ _ _ _ _ _ _ => rfl
    have kPA : KBn K fdPA ["thing"] 0 ["thing"] (fun _ ws => ws) (fun _ zs => zs) := kb_one FPA fun _ _ _ _ _ _ _ => rfl
    have kPF : KBn K fdPF ["thing"] 0 ["thing"] (fun _ ws => ws) (fun _ zs => zs) := kb_one FPF fun _ _ _ _ _ _ _ => rfl
    have kPD : KBn K fdPD ["thing"] 0 ["thing"] (fun _ ws => ws) (fun _ zs => zs) := kb_one FPD fun _ _ _ _ _ _ _ => rfl
    refine ⟨_, pss_cons (ps_set (i := 1) scLaw.nd rfl (.inl rfl) (pe_g GF hr (by rfl) gF FF.kp bF .nil (pa_cons (pv 0) pa_nil)))
      (pss_cons (ps_set (i := 2) scLaw.nd rfl (.inl rfl) (pe_op op_cat (pe_g0 GP hr (by rfl) gP FP.kp bP .nil) (pe_g0 GH hr (by rfl) gH FH.kp bH .nil)))
      (pss_cons (ps_for PassesOwn.never rfl (pi_range1 rfl mr (pa_cons pe_int pa_nil)) (pg_name (i := 3) scLaw.nd rfl (.inl rfl))
        (pss_cons (ps_set (i := 4) scLaw.nd rfl (.inl rfl) (pe_g GS hr (by rfl) gS FS.kp bS .nil (pa_cons (pv 1) (pa_cons pe_int pa_nil))))
        (pss_one (ps_for PassesOwn.never rfl (pi_list (pe_op op_cat (pe_lst (pa_cons (pv 4) pa_nil)) (pe_callTy call_list_of (by rfl) mls (by decide +kernel) (pa_cons (pe_slice sl_tupA (pv 4) (po_some (pe_un un_neg pe_int)) po_none) pa_nil)))) (pg_name (i := 5) scLaw.nd rfl (.inl rfl))
          (pss_cons (ps_set (i := 6) scLaw.nd rfl (.inl rfl) (pe_g GB hr (by rfl) gB FB.kp bB .nil (pa_cons (pv 1) (pa_cons (pv 5) pa_nil))))
          (pss_one (ps_expr (pe_bm PySem.F.plainAttrs_list PySem.F.slot_list_extend PySem.F.type_list_extend mt_extend (pv 2) (pa_cons (pe_lst (pa_cons (pv 5) (pa_cons (pv 6) (pa_cons (pe_g GB hr (by rfl) gB FB.kp bB .nil (pa_cons (pv 1) (pa_cons (pv 6) pa_nil))) (pa_cons (pe_callTy call_list_of (by rfl) mls (by decide +kernel) (pa_cons (pv 5) pa_nil)) (pa_cons (pe_revT (pv 5)) (pa_cons (pe_tup (pa_cons (pv 5) pa_nil)) pa_nil))))))) pa_nil)))))))))
      (pss_cons (ps_set (i := 7) scLaw.nd rfl (.inl rfl) (pe_callB (call_repr hr) (by rfl) mp (by decide +kernel) (pa_cons (pv 2) pa_nil)))
      (pss_cons (ps_for PassesOwn.never rfl (pi_list (pv 2)) (pg_name (i := 8) scLaw.nd rfl (.inl rfl))
        (pss_cons (ps_set (i := 9) scLaw.nd rfl (.inl rfl) (pe_lst (pa_cons (pe_g GPI hr (by rfl) gPI FPI.kp bPI .nil (pa_cons (pv 8) pa_nil)) (pa_cons (pe_g GPN hr (by rfl) gPN FPN.kp bPN .nil (pa_cons (pv 8) pa_nil)) (pa_cons (pe_g GPM hr (by rfl) gPM FPM.kp bPM .nil (pa_cons (pv 8) pa_nil)) (pa_cons (pe_g GPC hr (by rfl) gPC FPC.kp bPC .nil (pa_cons (pv 8) pa_nil)) pa_nil))))))
        (pss_cons (ps_expr (pe_bm PySem.F.plainAttrs_list PySem.F.slot_list_extend PySem.F.type_list_extend mt_extend (pv 9) (pa_cons (pe_lst (pa_cons (pe_g GPR hr (by rfl) gPR FPR.kp bPR .nil (pa_cons (pv 8) pa_nil)) (pa_cons (pe_g GPA hr (by rfl) gPA FPA.kp bPA .nil (pa_cons (pv 8) pa_nil)) (pa_cons (pe_g GPF hr (by rfl) gPF FPF.kp bPF .nil (pa_cons (pv 8) pa_nil)) (pa_cons (pe_g GPD hr (by rfl) gPD FPD.kp bPD .nil (pa_cons (pv 8) pa_nil)) pa_nil))))) pa_nil)))
        (pss_cons (ps_set (i := 10) scLaw.nd rfl (.inl rfl) (pe_lst (pa_cons (pe_g GLI hr (by rfl) gLI FLI.kp bLI .nil (pa_cons (pv 8) pa_nil)) (pa_cons (pe_g GLN hr (by rfl) gLN FLN.kp bLN .nil (pa_cons (pv 8) pa_nil)) (pa_cons (pe_g GLM hr (by rfl) gLM FLM.kp bLM .nil (pa_cons (pv 8) pa_nil)) (pa_cons (pe_g GLC hr (by rfl) gLC FLC.kp bLC .nil (pa_cons (pv 8) pa_nil)) pa_nil))))))
        (pss_cons (ps_expr (pe_bm PySem.F.plainAttrs_list PySem.F.slot_list_extend PySem.F.type_list_extend mt_extend (pv 10) (pa_cons (pe_lst (pa_cons (pe_g GLW hr (by rfl) gLW FLW.kp bLW .nil (pa_cons (pv 8) pa_nil)) (pa_cons (pe_g GLA hr (by rfl) gLA FLA.kp bLA .nil (pa_cons (pv 8) pa_nil)) (pa_cons (pe_g GLF hr (by rfl) gLF FLF.kp bLF .nil (pa_cons (pv 8) pa_nil)) (pa_cons (pe_g GLW hr (by rfl) gLW FLW.kp bLW .nil (pa_cons (pv 8) pa_nil)) pa_nil))))) pa_nil)))
        (pss_one (ps_if (pt_cmpR op_ne (pe_callB (call_repr hr) (by rfl) mp (by decide +kernel) (pa_cons (pv 9) pa_nil)) (pe_callB (call_repr hr) (by rfl) mp (by decide +kernel) (pa_cons (pv 10) pa_nil)) (nomark _)) (pss_one (ps_ret pe_bl)) pss_nil)))))))
      (pss_cons (ps_set (i := 9) scLaw.nd rfl (.inl rfl) (pe_lst (pa_cons (pe_gn0 GPI hr (by rfl) gPI FPI.kp kPI (pk_cons (pe_un un_neg pe_int) pk_nil)) (pa_cons (pe_gn0 GPN hr (by rfl) gPN FPN.kp kPN (pk_cons pe_int pk_nil)) (pa_cons (pe_gn0 GPM hr (by rfl) gPM FPM.kp kPM (pk_cons pe_str pk_nil)) (pa_cons (pe_gn0 GPC hr (by rfl) gPC FPC.kp kPC (pk_cons (pe_tup (pa_cons pe_str (pa_cons pe_int pa_nil))) pk_nil)) (pa_cons (pe_gn0 GPR hr (by rfl) gPR FPR.kp kPR (pk_cons (pe_tup pa_nil) pk_nil)) pa_nil)))))))
      (pss_cons (ps_expr (pe_bm PySem.F.plainAttrs_list PySem.F.slot_list_extend PySem.F.type_list_extend mt_extend (pv 9) (pa_cons (pe_lst (pa_cons (pe_gn0 GPA hr (by rfl) gPA FPA.kp kPA (pk_cons (pe_tup (pa_cons (pe_tup pa_nil) pa_nil)) pk_nil)) (pa_cons (pe_gn0 GPF hr (by rfl) gPF FPF.kp kPF (pk_cons (pe_tup (pa_cons pe_int (pa_cons pe_int pa_nil))) pk_nil)) (pa_cons (pe_gn0 GPD hr (by rfl) gPD FPD.kp kPD (pk_cons (pe_tup pa_nil) pk_nil)) pa_nil)))) pa_nil)))
      (pss_one (ps_ret (pe_and (pe_cmpR op_eq (pe_callB (call_repr hr) (by rfl) mp (by decide +kernel) (pa_cons (pv 9) pa_nil)) (pe_callB (call_repr hr) (by rfl) mp (by decide +kernel) (pa_cons (pe_op op_rep (pe_lst (pa_cons pe_bl pa_nil)) pe_int) pa_nil)) (nomark _)) (pe_one (pe_cmpR op_eq (pe_callB (call_repr hr) (by rfl) mp (by decide +kernel) (pa_cons (pv 2) pa_nil)) (pv 7) (nomark _)))))))))))), ?_⟩
    -- the feed
    refine iSeq (iAsg ⟨.ref a, rfl, a, ns, rfl, hS, fun H1 Fd L s1 hF => ?_⟩)
    refine iName ?_
    dsimp only
    have tk1 : ∃ D, Taken H1 D := by
      obtain ⟨_, _, _, _, h, _⟩ := hF
      exact ⟨Fd, _, h⟩
    -- the things by hand
    refine iSeq (iAsg (iOp ?_))
    refine ⟨rfl, tk1, fun H2 p2 D2 ys2 s2 hp2 hy2 => ?_⟩
    have hF2 := hF.same s2
    have tk2 : ∃ D, Taken H2 D := by
      obtain ⟨_, _, _, _, h, _⟩ := hF2
      exact ⟨Fd, _, h⟩
    refine ⟨rfl, tk2, fun H3 p3 D3 ys3 s3 hp3 hy3 => ?_⟩
    have l2 := hy2.len
    have l3 := hy3.len
    have lp : plainD.length ≤ 110 := by decide +kernel
    have lh : handD.length ≤ 60 := by decide +kernel
    refine ⟨p2, p3, ys2, ys3, rfl, rfl, s3 _ _ hp2, hp3, by omega, fun T hT => ?_⟩
    have s4 := same_new (o := .lst (ys2 ++ ys3)) hT
    have th0 : Th Fd L T 0 (upd H3 T (.lst (ys2 ++ ys3))) := by
      refine ⟨(hF2.same s3).same s4, ?_, ys2 ++ ys3, plainD ++ handD, upd_same, ((((hy2.keep (KeepD.of s3)).shun hT).app (hy3.shun hT))).keep (KeepD.of s4), ?_, by rw [List.length_append]; omega⟩
      · obtain ⟨_, _, _, _, _, h⟩ := hF2.same s3
        exact ne_of_none h hT
      exact (All.app plain_all hand_all).mono (by decide) (by omega) (by decide) (by decide)
    generalize upd H3 T (.lst (ys2 ++ ys3)) = H4 at th0 ⊢
    clear s4 s3 s2 hp2 hp3 hy2 hy3 hF2 tk2 tk1 hF s1
    refine iName ?_
    dsimp only
    -- the drawn things
    refine iSeq ?_
    refine split_s (fun σ' H' => (∃ x3 x4 x5 x6, σ' = [some (.ref a), some (.ref Fd), some (.ref T), x3, x4, x5, x6, none, none, none, none]) ∧ Th Fd L T 12 H') (fun nx hnx => ?_) (fun σ' H' hx => ?_)
    · refine ⟨4, rfl, by decide, by decide, ?_⟩
      refine for_range (lo := 0) (n := 4) (fun i σ' H' => (∃ x3 x4 x5 x6, σ' = [some (.ref a), some (.ref Fd), some (.ref T), x3, x4, x5, x6, none, none, none, none]) ∧ ∃ c, c ≤ 3 * i ∧ Th Fd L T c H') ⟨⟨none, none, none, none, rfl⟩, 0, by omega, th0⟩ (fun i σ' H' hi h => ?_) (fun σ' H' h => ?_)
      · obtain ⟨⟨x3, x4, x5, x6, rfl⟩, c, hc, th⟩ := h
        refine iName ?_
        dsimp only
        refine iSeq (iAsg ⟨.ref Fd, rfl, Fd, L, 5, rfl, th.feed, by decide, by decide, fun H5 sy ρs k5 hF5 hsy lρ hρ => ?_⟩)
        refine iName ?_
        dsimp only
        have th5 := th.step k5 hF5
        -- the list of what is bent
        obtain ⟨rs, hs1, hs2⟩ := id hsy
        refine ⟨.ref sy, rfl, by show 1 ≤ sizeLine; omega, fun p6 hp6 => ?_⟩
        have s6 := same_new (o := .lst [.ref sy]) hp6
        have d5 : DHs T H5 (rs.map V.ref) (ρs.map rowPD) := dh_all (f := rowPD) (R := RowAt H5) (fun _ _ z => dh_row z) hs2
        refine ⟨.ref sy, rfl, 2, rfl, -2, rfl, sl_fromN (s6 _ _ hs1) (d5.keep (KeepD.of s6)) (fun H7 v7 s7 h7 => ?_)⟩
        obtain ⟨p7, ys7, rfl, hp7, hy7⟩ := h7.tup_inv
        refine ⟨p7, ys7, rfl, .inr (sqT hp7), fun p8 hp8 => ?_⟩
        have s8 := same_new (o := .lst ys7) hp8
        have l7 : ys7.length ≤ 2 := by
          rw [hy7.len]
          unfold AskG.cutD
          have e2 : ∀ n : Nat, HT.sIx n 0 (some (-2)) = n - 2 := fun n => by
            show (if (-2 : Int) < 0 then ((-2 : Int) + (n : Int)).toNat else min (-2 : Int).toNat n) = n - 2
            rw [if_pos (by decide)]
            omega
          rw [List.length_take, List.length_drop, e2]
          omega
        refine ⟨p6, p8, [.ref sy], ys7, rfl, rfl, s8 _ _ (s7 _ _ upd_same), upd_same, by show 1 + _ ≤ _; omega, fun R hR => ?_⟩
        have s9 := same_new (o := .lst ([.ref sy] ++ ys7)) hR
        have s69 := ((s6.trans s7).trans s8).trans s9
        have nR := (((th5.taken.keep s6).keep s7).keep s8).ne hR
        have hyR : DHs T (upd (upd H7 p8 (.lst ys7)) R (.lst ([.ref sy] ++ ys7))) ([.ref sy] ++ ys7) ([sysPD ρs] ++ cutD (ρs.map rowPD) (some (-2)) none) :=
          DHs.app (.cons ((dh_sys hsy).keep (KeepD.of s69)) .nil) ((hy7.keep (KeepD.of s8)).keep (KeepD.of s9))
        have hRR : (upd (upd H7 p8 (.lst ys7)) R (.lst ([.ref sy] ++ ys7))) R = some (.lst ([.ref sy] ++ ys7)) := upd_same
        have own : ∀ d ∈ [sysPD ρs] ++ cutD (ρs.map rowPD) (some (-2)) none, OwnOk d := by
          intro d hd
          rcases List.mem_append.mp hd with hd | hd
          · rw [List.mem_singleton.mp hd]
            exact ⟨⟨_, rfl⟩, sys_of lρ hρ⟩
          · obtain ⟨ρ, hρ', rfl⟩ := List.mem_map.mp (List.mem_of_mem_drop (List.mem_of_mem_take hd))
            exact ⟨⟨_, rfl⟩, (rowOf (hρ ρ hρ')).mono (Nat.le_refl _) (Nat.le_refl _) (by decide) (by decide)⟩
        have lws : ([.ref sy] ++ ys7 : List V).length ≤ 3 := by
          rw [List.length_append]
          show 1 + _ ≤ 3
          omega
        have th9 := th5.same s69
        generalize ([sysPD ρs] ++ cutD (ρs.map rowPD) (some (-2)) none) = es at hyR own
        generalize ([.ref sy] ++ ys7 : List V) = ws at hyR hRR lws s9 s69 th9 ⊢
        generalize upd (upd H7 p8 (.lst ys7)) R (.lst ws) = H9 at hyR hRR th9 s9 s69 ⊢
        clear s9 s69 s8 s7 s6
        refine ⟨R, rfl, ⟨_, sqL hRR⟩, ?_⟩
        refine for_list (xs := ws) (fun j σ' H' => (∃ x5 x6, σ' = [some (.ref a), some (.ref Fd), some (.ref T), some (.int (0 + i)), some (.ref sy), x5, x6, none, none, none, none]) ∧ Th Fd L T (c + j) H' ∧ H' R = some (.lst ws) ∧ DHs T H' ws es) ⟨⟨_, _, rfl⟩, th9, hRR, hyR⟩ (fun j σ' H' _ h => sqL h.2.2.1) (fun j x σ' H' hx h => ?_) (fun σ' H' h => ?_)
        · obtain ⟨⟨x5, x6, rfl⟩, thj, hRj, hyj⟩ := h
          refine iName ?_
          dsimp only
          obtain ⟨d, hdi, hdx⟩ := hyj.at hx
          obtain ⟨⟨ees, rfl⟩, od⟩ := own d (List.mem_of_getElem? hdi)
          refine iSeq (iAsg ⟨.ref Fd, rfl, x, rfl, Fd, L, x, _, T, 100, 10 ^ 59, 4, 12000, rfl, thj.feed, thj.taken, hdx, od, by decide, by decide, by decide, Nat.le_refl _, by decide, fun Ha ra da ka hFa hra oa => ?_⟩)
          refine iName ?_
          dsimp only
          have tha := thj.step ka hFa
          have nRF : R ≠ Fd := by
            obtain ⟨_, _, _, _, e, _⟩ := thj.feed
            exact ne_of hRj e fun z => nomatch z
          have hRa := ka _ _ nRF hRj
          have hya := hyj.keep (ka.kd (D := T) thj.feed)
          have hxa := hdx.keep (ka.kd (D := T) thj.feed)
          refine ⟨.ref T, rfl, .inl ⟨rfl, _, sqL (tha.list.choose_spec.choose_spec.1)⟩, ?_⟩
          refine ⟨x, rfl, ra, rfl, .ref Fd, rfl, ra, rfl, Fd, L, ra, da, T, 3 * 100 + 8, 10 ^ 59 + 1, 4 + 4, 3 * 12000 + 1000, rfl, hFa, tha.taken, hra, oa, by decide, by decide, by decide, by omega, by decide, fun Hb rb db kb hFb hrb ob => ?_⟩
          have thb := tha.step kb hFb
          have hRb := kb _ _ nRF hRa
          have kdb := kb.kd (D := T) hFa
          have hyb := hya.keep kdb
          have hxb := hxa.keep kdb
          have hab := hra.keep kdb
          obtain ⟨ax, xs, rfl, hax, hdxs⟩ := hxb.tup_inv
          refine ⟨.ref ax, rfl, ax, xs, rfl, .inr (sqT hax), fun lc hlc => ?_⟩
          have sc1 := same_new (o := .lst xs) hlc
          refine ⟨.ref ax, rfl, ax, xs, rfl, sqT (sc1 _ _ hax), fun rv hrv => ?_⟩
          have sc2 := same_new (o := .tup xs.reverse) hrv
          refine ⟨.ref ax, rfl, by show 1 ≤ sizeLine; omega, fun tp htp => ?_⟩
          have sc3 := same_new (o := .tup [.ref ax]) htp
          refine ⟨by show 6 ≤ sizeLine; omega, fun E hE => ?_⟩
          have sc4 := same_new (o := .lst [.ref ax, ra, rb, .ref lc, .ref rv, .ref tp]) hE
          have sc := ((sc1.trans sc2).trans sc3).trans sc4
          have thc := thb.same sc
          obtain ⟨vs, ds, hv, hdv, hall, hlen⟩ := thc.list
          have lv := hdv.len
          have jl := (List.getElem?_eq_some_iff.mp hx).1
          refine ⟨T, E, vs, _, rfl, rfl, hv, upd_same, by show _ + 6 ≤ sizeLine; omega, ?_⟩
          have nlc := thb.taken.ne hlc
          have kc : KeepD T Hb _ := KeepD.of sc
          have six : DHs T _ [.ref ax, ra, rb, .ref lc, .ref rv, .ref tp] [.tuple ees, da, db, .list ees, .tuple ees.reverse, .tuple [.tuple ees]] :=
            .cons (hxb.keep kc) (.cons (hab.keep kc) (.cons (hrb.keep kc) (.cons (.lst nlc ((sc2.trans (sc3.trans sc4)) _ _ upd_same) (hdxs.keep kc)) (.cons (.tup ((sc3.trans sc4) _ _ upd_same) (hdxs.rev.keep kc)) (.cons (.tup (sc4 _ _ upd_same) (.cons (hxb.keep kc) .nil)) .nil)))))
          have kd := keepD_put (ws := vs ++ [.ref ax, ra, rb, .ref lc, .ref rv, .ref tp]) hv
          refine ⟨⟨_, _, rfl⟩, ⟨?_, thc.apart, _, _, upd_same, (hdv.app six).keep kd, ?_, ?_⟩, ?_, (hyb.keep kc).keep kd⟩
          · obtain ⟨ns', a1, l1, n1, e1, e2⟩ := thc.feed
            refine ⟨ns', a1, l1, n1, ?_, ?_⟩
            · rw [upd_ne thc.ne.symm]
              exact e1
            · rw [upd_ne thc.apart]
              exact e2
          · have o6 : All 932 (10 ^ 59 + 2) 12 200000 [.tuple ees, da, db, .list ees, .tuple ees.reverse, .tuple [.tuple ees]] := by
              obtain ⟨ha4, hl4, hw4⟩ := od.items
              have o1 : Of 932 (10 ^ 59 + 2) 12 12000 (.tuple ees) := od.mono (by decide) (by omega) (by decide) (Nat.le_refl _)
              have o4 : Of 932 (10 ^ 59 + 2) 12 12000 (.list ees) := ⟨o1.ok, o1.big, o1.top, o1.dep, o1.wt⟩
              have o5 : Of 932 (10 ^ 59 + 2) 12 12000 (.tuple ees.reverse) := (Of.tup ha4.exact.rev (by rw [List.length_reverse]; exact hl4)).mono (by decide) (by omega) (by decide) (by rw [List.length_reverse]; exact hw4)
              have o6 : Of 932 (10 ^ 59 + 2) 12 12010 (.tuple [.tuple ees]) := (Of.tup (All.cons od (All.nil (n := 0))) (by show 1 ≤ 100; decide)).mono (by decide) (by omega) (by decide) (by show 12000 + 0 + 2 * 1 + 3 ≤ 12010; decide)
              have o2 : Of 932 (10 ^ 59 + 2) 12 37000 da := oa.mono (by decide) (by omega) (by decide) (by decide)
              have o3 : Of 932 (10 ^ 59 + 2) 12 112000 db := ob.mono (by decide) (by omega) (by decide) (by decide)
              exact (All.cons o1 (All.cons o2 (All.cons o3 (All.cons o4 (All.cons o5 (All.cons o6 (All.nil (n := 0)))))))).mono (Nat.le_refl _) (Nat.le_refl _) (Nat.le_refl _) (by decide)
            refine (All.app hall o6).mono (Nat.le_refl _) (Nat.le_refl _) (Nat.le_refl _) ?_
            omega
          · rw [List.length_append]
            show _ + 6 ≤ _
            omega
          · rw [upd_ne nR]
            exact sc _ _ hRb
        · obtain ⟨⟨x5, x6, rfl⟩, thj, hRj, hyj⟩ := h
          exact ⟨⟨_, _, _, _, rfl⟩, c + ws.length, by omega, thj⟩
      · obtain ⟨hs, c, hc, th⟩ := h
        refine hnx _ _ ⟨hs, ⟨th.feed, th.apart, ?_⟩⟩
        obtain ⟨vs, ds, h1, h2, h3, h4⟩ := th.list
        exact ⟨vs, ds, h1, h2, h3.mono (Nat.le_refl _) (Nat.le_refl _) (Nat.le_refl _) (by omega), by omega⟩
    · obtain ⟨⟨x3, x4, x5, x6, rfl⟩, th⟩ := hx
      dsimp only
      clear th0 H4
      obtain ⟨vs, ds, hv, hdv, hall, hlen⟩ := th.list
      have hall3 : All 932 (10 ^ 59 + 2) 12 3000000 ds := hall.mono (Nat.le_refl _) (Nat.le_refl _) (Nat.le_refl _) (by decide)
      -- kept
      refine iSeq (iAsg ⟨.ref T, rfl, ?_⟩)
      try dsimp only
      refine iNil ?_
      try dsimp only
      refine repr_things hv hdv hall3 hlen ?_
      refine iName ?_
      try dsimp only
      -- each thing
      refine iSeq ?_
      refine split_s (fun σ'' H'' => (∃ x8 x9 x10, σ'' = [some (.ref a), some (.ref Fd), some (.ref T), x3, x4, x5, x6, some (.str (PyData.list ds).shown), x8, x9, x10]) ∧ Same H' H'') (fun nx hnx => ?_) (fun σ'' H'' hx => ?_)
      · refine ⟨.ref T, rfl, T, rfl, ⟨_, sqL hv⟩, ?_⟩
        refine for_list (xs := vs) (fun i σ'' H'' => (∃ x8 x9 x10, σ'' = [some (.ref a), some (.ref Fd), some (.ref T), x3, x4, x5, x6, some (.str (PyData.list ds).shown), x8, x9, x10]) ∧ Same H' H'') ⟨⟨none, none, none, rfl⟩, Same.refl _⟩ (fun i σ'' H'' _ h => sqL (h.2 _ _ hv)) (fun i x σ'' H'' hx h => ?_) (fun σ'' H'' h => hnx _ _ h)
        obtain ⟨⟨x8, x9, x10, rfl⟩, sm⟩ := h
        obtain ⟨d, hdi, hdx⟩ := hdv.at hx
        have od := hall3.at hdi
        have hsm : smallD d = true := od.small (by decide)
        have hdp : d.depth ≤ 40 := Nat.le_trans od.dep (by decide)
        have hdx := hdx.keep (KeepD.of sm)
        refine iName ?_
        dsimp only
        refine iSeq (iAsg ?_)
        refine ⟨x, rfl, x, d, T, rfl, hdx, hsm, fun Ha0 sa0 => ?_⟩
        have ta0 := sa0
        refine ⟨x, rfl, x, d, T, rfl, (hdx.keep (KeepD.of ta0)), hsm, fun Ha1 sa1 => ?_⟩
        have ta1 := ta0.trans sa1
        refine ⟨x, rfl, x, d, T, rfl, (hdx.keep (KeepD.of ta1)), hsm, fun Ha2 sa2 => ?_⟩
        have ta2 := ta1.trans sa2
        refine ⟨x, rfl, x, d, T, rfl, (hdx.keep (KeepD.of ta2)), hsm, fun Ha3 sa3 => ?_⟩
        have ta3 := ta2.trans sa3
        refine ⟨by show 4 ≤ sizeLine; omega, fun p1 hp1 => ?_⟩
        have u1 := ta3.trans (same_new (o := .lst [.bl (isIntD d), .bl (isNumD d), .bl (isNameD d), .bl (isCellD d)]) hp1)
        refine iName ?_
        dsimp only
        refine iSeq (iDrop ⟨.ref p1, rfl, .inl ⟨rfl, _, sqL upd_same⟩, ?_⟩)
        refine ⟨x, rfl, x, d, T, rfl, (hdx.keep (KeepD.of u1)), hsm, fun Hb0 sb0 => ?_⟩
        have tb0 := u1.trans sb0
        refine ⟨x, rfl, x, d, T, rfl, (hdx.keep (KeepD.of tb0)), hsm, fun Hb1 sb1 => ?_⟩
        have tb1 := tb0.trans sb1
        refine ⟨x, rfl, x, d, T, rfl, (hdx.keep (KeepD.of tb1)), hsm, fun Hb2 sb2 => ?_⟩
        have tb2 := tb1.trans sb2
        refine ⟨x, rfl, x, d, T, rfl, (hdx.keep (KeepD.of tb2)), hsm, fun Hb3 sb3 => ?_⟩
        have tb3 := tb2.trans sb3
        refine ⟨by show 4 ≤ sizeLine; omega, fun p2 hp2 => ?_⟩
        have w2 := (((sb0.trans sb1).trans sb2).trans sb3).trans (same_new (o := .lst [.bl (isRowD d), .bl (areRowsD d), .bl (isFracD d), .bl (isRowD d)]) hp2)
        refine ⟨p1, p2, _, _, rfl, rfl, w2 _ _ upd_same, upd_same, by show 4 + 4 ≤ sizeLine; omega, ?_⟩
        have n1 : H'' p1 = none := none_of (ta3) hp1
        have n2 : ∀ b o, H'' b = some o → b ≠ p1 := fun b o e => ne_of_none e n1
        have v1 : Same H'' (upd _ p1 (.lst ([.bl (isIntD d), .bl (isNumD d), .bl (isNameD d), .bl (isCellD d)] ++ [.bl (isRowD d), .bl (areRowsD d), .bl (isFracD d), .bl (isRowD d)]))) := fun b o e => by
          rw [upd_ne (n2 b o e)]
          exact w2 _ _ (u1 _ _ e)
        have g1 : (upd (upd Hb3 p2 (.lst [.bl (isRowD d), .bl (areRowsD d), .bl (isFracD d), .bl (isRowD d)])) p1 (.lst ([.bl (isIntD d), .bl (isNumD d), .bl (isNameD d), .bl (isCellD d)] ++ [.bl (isRowD d), .bl (areRowsD d), .bl (isFracD d), .bl (isRowD d)]))) p1 = some (.lst (([isIntD d, isNumD d, isNameD d, isCellD d, isRowD d, areRowsD d, isFracD d, isRowD d]).map V.bl)) := upd_same
        generalize upd (upd Hb3 p2 (.lst [.bl (isRowD d), .bl (areRowsD d), .bl (isFracD d), .bl (isRowD d)])) p1 (.lst ([.bl (isIntD d), .bl (isNumD d), .bl (isNameD d), .bl (isCellD d)] ++ [.bl (isRowD d), .bl (areRowsD d), .bl (isFracD d), .bl (isRowD d)])) = H5 at v1 g1 ⊢
        dsimp only
        refine iSeq (iAsg ?_)
        refine ⟨x, rfl, x, d, T, rfl, (hdx.keep (KeepD.of v1)), hsm, fun Hc0 sc0 => ?_⟩
        have tc0 := v1.trans sc0
        refine ⟨x, rfl, x, d, T, rfl, (hdx.keep (KeepD.of tc0)), hsm, fun Hc1 sc1 => ?_⟩
        have tc1 := tc0.trans sc1
        refine ⟨x, rfl, x, d, T, rfl, (hdx.keep (KeepD.of tc1)), hsm, fun Hc2 sc2 => ?_⟩
        have tc2 := tc1.trans sc2
        refine ⟨x, rfl, x, d, T, rfl, (hdx.keep (KeepD.of tc2)), hsm, fun Hc3 sc3 => ?_⟩
        have tc3 := tc2.trans sc3
        refine ⟨by show 4 ≤ sizeLine; omega, fun p3 hp3 => ?_⟩
        have u3 := tc3.trans (same_new (o := .lst [.bl (isIntD d), .bl (isNumD d), .bl (isNameD d), .bl (isCellD d)]) hp3)
        have z3 := (((sc0.trans sc1).trans sc2).trans sc3).trans (same_new (o := .lst [.bl (isIntD d), .bl (isNumD d), .bl (isNameD d), .bl (isCellD d)]) hp3)
        refine iName ?_
        dsimp only
        refine iSeq (iDrop ⟨.ref p3, rfl, .inl ⟨rfl, _, sqL upd_same⟩, ?_⟩)
        refine ⟨x, rfl, x, d, T, rfl, (hdx.keep (KeepD.of u3)), hsm, fun Hd0 sd0 => ?_⟩
        have td0 := u3.trans sd0
        refine ⟨x, rfl, x, d, T, rfl, (hdx.keep (KeepD.of td0)), hsm, hdp, fun Hd1 sd1 => ?_⟩
        have td1 := td0.trans sd1
        refine ⟨x, rfl, x, d, T, rfl, (hdx.keep (KeepD.of td1)), hsm, fun Hd2 sd2 => ?_⟩
        have td2 := td1.trans sd2
        refine ⟨x, rfl, x, d, T, rfl, (hdx.keep (KeepD.of td2)), hsm, fun Hd3 sd3 => ?_⟩
        have td3 := td2.trans sd3
        refine ⟨by show 4 ≤ sizeLine; omega, fun p4 hp4 => ?_⟩
        have w4 := (((sd0.trans sd1).trans sd2).trans sd3).trans (same_new (o := .lst [.bl (isRowD d), .bl (areRowsD d), .bl (isFracD d), .bl (isRowD d)]) hp4)
        refine ⟨p3, p4, _, _, rfl, rfl, w4 _ _ upd_same, upd_same, by show 4 + 4 ≤ sizeLine; omega, ?_⟩
        have n3 : H5 p3 = none := none_of (((sc0.trans sc1).trans sc2).trans sc3) hp3
        have v3 : Same H5 (upd _ p3 (.lst ([.bl (isIntD d), .bl (isNumD d), .bl (isNameD d), .bl (isCellD d)] ++ [.bl (isRowD d), .bl (areRowsD d), .bl (isFracD d), .bl (isRowD d)]))) := fun b o e => by
          rw [upd_ne (ne_of_none e n3)]
          exact w4 _ _ (z3 _ _ e)
        have g3 : (upd (upd Hd3 p4 (.lst [.bl (isRowD d), .bl (areRowsD d), .bl (isFracD d), .bl (isRowD d)])) p3 (.lst ([.bl (isIntD d), .bl (isNumD d), .bl (isNameD d), .bl (isCellD d)] ++ [.bl (isRowD d), .bl (areRowsD d), .bl (isFracD d), .bl (isRowD d)]))) p3 = some (.lst (([isIntD d, isNumD d, isNameD d, isCellD d, isRowD d, areRowsD d, isFracD d, isRowD d]).map V.bl)) := upd_same
        generalize upd (upd Hd3 p4 (.lst [.bl (isRowD d), .bl (areRowsD d), .bl (isFracD d), .bl (isRowD d)])) p3 (.lst ([.bl (isIntD d), .bl (isNumD d), .bl (isNameD d), .bl (isCellD d)] ++ [.bl (isRowD d), .bl (areRowsD d), .bl (isFracD d), .bl (isRowD d)])) = H6 at v3 g3 ⊢
        dsimp only
        refine iIfS ⟨.ref p1, rfl, ?_⟩
        try dsimp only
        refine iNil ?_
        try dsimp only
        refine repr_bools (v3 _ _ g1) rfl ?_
        refine ⟨.ref p3, rfl, ?_⟩
        try dsimp only
        refine iNil ?_
        try dsimp only
        refine repr_bools g3 rfl ?_
        refine ⟨rfl, _, rfl, ?_⟩
        rw [decide_eq_true rfl]
        exact iteF ⟨⟨_, _, _, rfl⟩, (sm.trans v1).trans v3⟩
      · obtain ⟨⟨x8, x9, x10, rfl⟩, sm⟩ := hx
        dsimp only
        have hv := sm _ _ hv
        have hdv := hdv.keep (KeepD.of sm)
        refine iSeq (iAsg ?_)
        refine ⟨1, rfl, rfl, rfl, .int (-1), .int (-1), T, rfl, .int _, rfl, fun Ha sa => ?_⟩
        refine ⟨rfl, rfl, .int 0, .int 0, T, rfl, .int _, rfl, fun Hb sb => ?_⟩
        refine ⟨rfl, rfl, .str "a", .str "a", T, rfl, .str _, by decide +kernel, fun Hc sc => ?_⟩
        refine ⟨by show 2 ≤ sizeLine; omega, fun c1 hc1 => ?_⟩
        refine ⟨rfl, rfl, .ref c1, cellA, T, rfl, .tup upd_same (.cons (.str _) (.cons (.int _) .nil)), by decide +kernel, fun Hd sd => ?_⟩
        refine ⟨Nat.zero_le _, fun c2 hc2 => ?_⟩
        refine ⟨rfl, rfl, .ref c2, .tuple [], T, rfl, .tup upd_same .nil, by decide +kernel, fun He se => ?_⟩
        refine ⟨by show 5 ≤ sizeLine; omega, fun p1 hp1 => ?_⟩
        have q1 := ((((sa.trans sb).trans sc).trans (same_new (o := .tup [.str "a", .int 0]) hc1)).trans sd).trans ((same_new (o := .tup []) hc2).trans (se.trans (same_new (o := .lst [.bl (isIntD (.int (-1))), .bl (isNumD (.int 0)), .bl (isNameD (.str "a")), .bl (isCellD cellA), .bl (isRowD (.tuple []))]) hp1)))
        have np1 : H'' p1 = none := none_of (((((sa.trans sb).trans sc).trans (same_new (o := .tup [.str "a", .int 0]) hc1)).trans sd).trans ((same_new (o := .tup []) hc2).trans se)) hp1
        refine iName ?_
        dsimp only
        refine iSeq (iDrop ⟨.ref p1, rfl, .inl ⟨rfl, _, sqL upd_same⟩, ?_⟩)
        refine ⟨Nat.zero_le _, fun c3 hc3 => ⟨by show 1 ≤ sizeLine; omega, fun c4 hc4 => ?_⟩⟩
        have r3 := (same_new (o := .tup []) hc3)
        have r4 := (same_new (o := .tup [.ref c3]) hc4)
        refine ⟨rfl, rfl, .ref c4, .tuple [.tuple []], T, rfl, .tup upd_same (.cons (.tup (r4 _ _ upd_same) .nil) .nil), by decide +kernel, fun Hf sf => ?_⟩
        refine ⟨by show 2 ≤ sizeLine; omega, fun c5 hc5 => ?_⟩
        have r5 := (same_new (o := .tup [.int 0, .int 1]) hc5)
        refine ⟨rfl, rfl, .ref c5, .tuple [.int 0, .int 1], T, rfl, .tup upd_same (.cons (.int _) (.cons (.int _) .nil)), by decide +kernel, fun Hg sg => ?_⟩
        refine ⟨Nat.zero_le _, fun c6 hc6 => ?_⟩
        have r6 := (same_new (o := .tup []) hc6)
        refine ⟨rfl, rfl, .ref c6, .tuple [], T, rfl, .tup upd_same .nil, by decide +kernel, fun Hh sh => ?_⟩
        refine ⟨by show 3 ≤ sizeLine; omega, fun p2 hp2 => ?_⟩
        have r7 := (same_new (o := .lst [.bl (areRowsD (.tuple [.tuple []])), .bl (isFracD (.tuple [.int 0, .int 1])), .bl (isRowD (.tuple []))]) hp2)
        have q2 := (((((r3.trans r4).trans sf).trans r5).trans sg).trans r6).trans (sh.trans r7)
        refine ⟨p1, p2, _, _, rfl, rfl, q2 _ _ upd_same, upd_same, by show 5 + 3 ≤ sizeLine; omega, ?_⟩
        have v1 : Same H'' (upd _ p1 (.lst ([.bl (isIntD (.int (-1))), .bl (isNumD (.int 0)), .bl (isNameD (.str "a")), .bl (isCellD cellA), .bl (isRowD (.tuple []))] ++ [.bl (areRowsD (.tuple [.tuple []])), .bl (isFracD (.tuple [.int 0, .int 1])), .bl (isRowD (.tuple []))]))) := fun b o e => by
          rw [upd_ne (ne_of_none e np1)]
          exact q2 _ _ (q1 _ _ e)
        have eb : ([.bl (isIntD (.int (-1))), .bl (isNumD (.int 0)), .bl (isNameD (.str "a")), .bl (isCellD cellA), .bl (isRowD (.tuple []))] ++ [.bl (areRowsD (.tuple [.tuple []])), .bl (isFracD (.tuple [.int 0, .int 1])), .bl (isRowD (.tuple []))] : List V) = (List.replicate 8 true).map V.bl := by
          have e1 : isIntD (.int (-1)) = true := by decide +kernel
          have e2 : isNumD (.int 0) = true := by decide +kernel
          have e3 : isNameD (.str "a") = true := by decide +kernel
          have e4 : isCellD cellA = true := by decide +kernel
          have e5 : isRowD (.tuple []) = true := by decide +kernel
          have e6 : areRowsD (.tuple [.tuple []]) = true := by decide +kernel
          have e7 : isFracD (.tuple [.int 0, .int 1]) = true := by decide +kernel
          rw [e1, e2, e3, e4, e5, e6, e7]
          rfl
        have g1 := upd_same (H := upd Hh p2 (.lst [.bl (areRowsD (.tuple [.tuple []])), .bl (isFracD (.tuple [.int 0, .int 1])), .bl (isRowD (.tuple []))])) (a := p1) (o := .lst ([.bl (isIntD (.int (-1))), .bl (isNumD (.int 0)), .bl (isNameD (.str "a")), .bl (isCellD cellA), .bl (isRowD (.tuple []))] ++ [.bl (areRowsD (.tuple [.tuple []])), .bl (isFracD (.tuple [.int 0, .int 1])), .bl (isRowD (.tuple []))]))
        generalize upd (upd Hh p2 (.lst [.bl (areRowsD (.tuple [.tuple []])), .bl (isFracD (.tuple [.int 0, .int 1])), .bl (isRowD (.tuple []))])) p1 (.lst ([.bl (isIntD (.int (-1))), .bl (isNumD (.int 0)), .bl (isNameD (.str "a")), .bl (isCellD cellA), .bl (isRowD (.tuple []))] ++ [.bl (areRowsD (.tuple [.tuple []])), .bl (isFracD (.tuple [.int 0, .int 1])), .bl (isRowD (.tuple []))])) = H5 at v1 g1 ⊢
        rw [eb] at g1
        dsimp only
        refine iRet (iAndV ?_)
        refine ⟨.ref p1, rfl, ?_⟩
        try dsimp only
        refine iNil ?_
        try dsimp only
        refine repr_bools g1 rfl ?_
        refine ⟨by show 1 ≤ sizeLine; omega, fun l1 hl1 => ?_⟩
        have s7 := same_new (o := .lst [.bl true]) hl1
        refine ⟨l1, 8, _, rfl, rfl, upd_same, by decide, by decide, by show 1 * 8 ≤ sizeLine; omega, fun l2 hl2 => ?_⟩
        have s8 := same_new (o := .lst (List.replicate (8 : Int).toNat [V.bl true]).flatten) hl2
        try dsimp only
        refine iNil ?_
        try dsimp only
        refine repr_bools (bs := List.replicate 8 true) upd_same rfl ?_
        refine ⟨rfl, _, rfl, ?_⟩
        rw [decide_eq_true rfl]
        refine iteT ?_
        have s9 := (v1.trans s7).trans s8
        refine ⟨.ref T, rfl, ?_⟩
        try dsimp only
        refine iNil ?_
        try dsimp only
        refine repr_things (s9 _ _ hv) (hdv.keep (KeepD.of s9)) hall3 hlen ?_
        refine ⟨_, rfl, rfl, ?_⟩
        rw [decide_eq_true rfl]
        exact q _
end
end P01
namespace P01
open PySem PySem.Spec PyProof.Rows L2 AskG
/-- what the top has written -/
theorem all_mk {l : PySem.W.OpenLaw} {w : World} {K : PySem.W.Frag} {h : Heap} {mg : Str → Option Value} {fa : Addr} (X : K.In h) (G : h.Ns mainGlobals mg) (hfa : mg "law" = some (.ref fa))
    {f1 f2 f3 f4 f5 f6 f7 f8 f9 f10 f11 f12 f13 f14 f15 f16 f17 f18 f19 f20 f21 f22 f23 f24 f25 f26 f27 f28 f29 f30 f31 f32 f33 : Addr} {od1 an1 od2 an2 od3 an3 od4 an4 od5 an5 od6 an6 od7 an7 od8 an8 od9 an9 od10 an10 od11 an11 od12 an12 od13 an13 od14 an14 od15 an15 od16 an16 od17 an17 od18 an18 od19 an19 od20 an20 od21 an21 od22 an22 od23 an23 od24 an24 od25 an25 od26 an26 od27 an27 od28 an28 od29 an29 od30 an30 od31 an31 od32 an32 od33 an33 : Option Addr} {sl1 sl2 sl3 sl4 sl5 sl6 sl7 sl8 sl9 sl10 sl11 sl12 sl13 sl14 sl15 sl16 sl17 sl18 sl19 sl20 sl21 sl22 sl23 sl24 sl25 sl26 sl27 sl28 sl29 sl30 sl31 sl32 sl33 : Array (Option Value)} {oc1 kV1 dc1 pm1 cd1 ct1 oc2 kV2 dc2 pm2 cd2 ct2 oc3 kV3 dc3 pm3 cd3 ct3 oc4 kV4 dc4 pm4 cd4 ct4 oc5 kV5 dc5 pm5 cd5 ct5 oc6 kV6 dc6 pm6 cd6 ct6 oc7 kV7 dc7 pm7 cd7 ct7 oc8 kV8 dc8 pm8 cd8 ct8 oc9 kV9 dc9 pm9 cd9 ct9 oc10 kV10 dc10 pm10 cd10 ct10 oc11 kV11 dc11 pm11 cd11 ct11 oc12 kV12 dc12 pm12 cd12 ct12 oc13 kV13 dc13 pm13 cd13 ct13 oc14 kV14 dc14 pm14 cd14 ct14 oc15 kV15 dc15 pm15 cd15 ct15 oc16 kV16 dc16 pm16 cd16 ct16 oc17 kV17 dc17 pm17 cd17 ct17 oc18 kV18 dc18 pm18 cd18 ct18 oc19 kV19 dc19 pm19 cd19 ct19 oc20 kV20 dc20 pm20 cd20 ct20 oc21 kV21 dc21 pm21 cd21 ct21 oc22 kV22 dc22 pm22 cd22 ct22 oc23 kV23 dc23 pm23 cd23 ct23 oc24 kV24 dc24 pm24 cd24 ct24 oc25 kV25 dc25 pm25 cd25 ct25 oc26 kV26 dc26 pm26 cd26 ct26 oc27 kV27 dc27 pm27 cd27 ct27 oc28 kV28 dc28 pm28 cd28 ct28 oc29 kV29 dc29 pm29 cd29 ct29 oc30 kV30 dc30 pm30 cd30 ct30 oc31 kV31 dc31 pm31 cd31 ct31 oc32 kV32 dc32 pm32 cd32 ct32 oc33 kV33 dc33 pm33 cd33 ct33 : Value} {tk : Tok}
    (a1 : PySem.W.nsIn K mainGlobals "common_divisor" = some (some (.ref f1))) (l1 : K.lookup f1 = some ⟨oc1, od1, .func (PySem.W.fnOf "common_divisor" "common_divisor" (defArgs sGcd) (defBody sGcd) (defScope sGcd) .none kV1 dc1 pm1 an1 cd1 ct1), sl1⟩) (c1 : PySem.W.codeIn K cd1 "common_divisor" = true) (k1 : PySem.W.keepIn K (.ref f1) = true)
    (a2 : PySem.W.nsIn K mainGlobals "is_integer" = some (some (.ref f2))) (l2 : K.lookup f2 = some ⟨oc2, od2, .func (PySem.W.fnOf "is_integer" "is_integer" (defArgs sIsInt) (defBody sIsInt) (defScope sIsInt) .none kV2 dc2 pm2 an2 cd2 ct2), sl2⟩) (c2 : PySem.W.codeIn K cd2 "is_integer" = true) (k2 : PySem.W.keepIn K (.ref f2) = true)
    (a3 : PySem.W.nsIn K mainGlobals "is_number" = some (some (.ref f3))) (l3 : K.lookup f3 = some ⟨oc3, od3, .func (PySem.W.fnOf "is_number" "is_number" (defArgs sIsNum) (defBody sIsNum) (defScope sIsNum) .none kV3 dc3 pm3 an3 cd3 ct3), sl3⟩) (c3 : PySem.W.codeIn K cd3 "is_number" = true) (k3 : PySem.W.keepIn K (.ref f3) = true)
    (a4 : PySem.W.nsIn K mainGlobals "is_name" = some (some (.ref f4))) (l4 : K.lookup f4 = some ⟨oc4, od4, .func (PySem.W.fnOf "is_name" "is_name" (defArgs sIsName) (defBody sIsName) (defScope sIsName) .none kV4 dc4 pm4 an4 cd4 ct4), sl4⟩) (c4 : PySem.W.codeIn K cd4 "is_name" = true) (k4 : PySem.W.keepIn K (.ref f4) = true)
    (a5 : PySem.W.nsIn K mainGlobals "is_pair" = some (some (.ref f5))) (l5 : K.lookup f5 = some ⟨oc5, od5, .func (PySem.W.fnOf "is_pair" "is_pair" (defArgs sIsPair) (defBody sIsPair) (defScope sIsPair) .none kV5 dc5 pm5 an5 cd5 ct5), sl5⟩) (c5 : PySem.W.codeIn K cd5 "is_pair" = true) (k5 : PySem.W.keepIn K (.ref f5) = true)
    (a6 : PySem.W.nsIn K mainGlobals "is_cell" = some (some (.ref f6))) (l6 : K.lookup f6 = some ⟨oc6, od6, .func (PySem.W.fnOf "is_cell" "is_cell" (defArgs sIsCell) (defBody sIsCell) (defScope sIsCell) .none kV6 dc6 pm6 an6 cd6 ct6), sl6⟩) (c6 : PySem.W.codeIn K cd6 "is_cell" = true) (k6 : PySem.W.keepIn K (.ref f6) = true)
    (a7 : PySem.W.nsIn K mainGlobals "is_weighted_cell" = some (some (.ref f7))) (l7 : K.lookup f7 = some ⟨oc7, od7, .func (PySem.W.fnOf "is_weighted_cell" "is_weighted_cell" (defArgs sIsWt) (defBody sIsWt) (defScope sIsWt) .none kV7 dc7 pm7 an7 cd7 ct7), sl7⟩) (c7 : PySem.W.codeIn K cd7 "is_weighted_cell" = true) (k7 : PySem.W.keepIn K (.ref f7) = true)
    (a8 : PySem.W.nsIn K mainGlobals "is_row" = some (some (.ref f8))) (l8 : K.lookup f8 = some ⟨oc8, od8, .func (PySem.W.fnOf "is_row" "is_row" (defArgs sIsRow) (defBody sIsRow) (defScope sIsRow) .none kV8 dc8 pm8 an8 cd8 ct8), sl8⟩) (c8 : PySem.W.codeIn K cd8 "is_row" = true) (k8 : PySem.W.keepIn K (.ref f8) = true)
    (a9 : PySem.W.nsIn K mainGlobals "are_rows" = some (some (.ref f9))) (l9 : K.lookup f9 = some ⟨oc9, od9, .func (PySem.W.fnOf "are_rows" "are_rows" (defArgs sAreRows) (defBody sAreRows) (defScope sAreRows) .none kV9 dc9 pm9 an9 cd9 ct9), sl9⟩) (c9 : PySem.W.codeIn K cd9 "are_rows" = true) (k9 : PySem.W.keepIn K (.ref f9) = true)
    (a10 : PySem.W.nsIn K mainGlobals "is_data" = some (some (.ref f10))) (l10 : K.lookup f10 = some ⟨oc10, od10, .func (PySem.W.fnOf "is_data" "is_data" (defArgs sIsData) (defBody sIsData) (defScope sIsData) .none kV10 dc10 pm10 an10 cd10 ct10), sl10⟩) (c10 : PySem.W.codeIn K cd10 "is_data" = true) (k10 : PySem.W.keepIn K (.ref f10) = true)
    (a11 : PySem.W.nsIn K mainGlobals "is_fraction" = some (some (.ref f11))) (l11 : K.lookup f11 = some ⟨oc11, od11, .func (PySem.W.fnOf "is_fraction" "is_fraction" (defArgs sIsFrac) (defBody sIsFrac) (defScope sIsFrac) .none kV11 dc11 pm11 an11 cd11 ct11), sl11⟩) (c11 : PySem.W.codeIn K cd11 "is_fraction" = true) (k11 : PySem.W.keepIn K (.ref f11) = true)
    (a12 : PySem.W.nsIn K mainGlobals "_law_feed" = some (some (.ref f12))) (l12 : K.lookup f12 = some ⟨oc12, od12, .func (PySem.W.fnOf "_law_feed" "_law_feed" (defArgs sFeed) (defBody sFeed) (defScope sFeed) .none kV12 dc12 pm12 an12 cd12 ct12), sl12⟩) (c12 : PySem.W.codeIn K cd12 "_law_feed" = true) (k12 : PySem.W.keepIn K (.ref f12) = true)
    (a13 : PySem.W.nsIn K mainGlobals "_law_draw" = some (some (.ref f13))) (l13 : K.lookup f13 = some ⟨oc13, od13, .func (PySem.W.fnOf "_law_draw" "_law_draw" (defArgs sDraw) (defBody sDraw) (defScope sDraw) .none kV13 dc13 pm13 an13 cd13 ct13), sl13⟩) (c13 : PySem.W.codeIn K cd13 "_law_draw" = true) (k13 : PySem.W.keepIn K (.ref f13) = true)
    (a14 : PySem.W.nsIn K mainGlobals "_law_places" = some (some (.ref f14))) (l14 : K.lookup f14 = some ⟨oc14, od14, .func (PySem.W.fnOf "_law_places" "_law_places" (defArgs sPlaces) (defBody sPlaces) (defScope sPlaces) .none kV14 dc14 pm14 an14 cd14 ct14), sl14⟩) (c14 : PySem.W.codeIn K cd14 "_law_places" = true) (k14 : PySem.W.keepIn K (.ref f14) = true)
    (a15 : PySem.W.nsIn K mainGlobals "_law_tidy" = some (some (.ref f15))) (l15 : K.lookup f15 = some ⟨oc15, od15, .func (PySem.W.fnOf "_law_tidy" "_law_tidy" (defArgs sTidy) (defBody sTidy) (defScope sTidy) .none kV15 dc15 pm15 an15 cd15 ct15), sl15⟩) (c15 : PySem.W.codeIn K cd15 "_law_tidy" = true) (k15 : PySem.W.keepIn K (.ref f15) = true)
    (a16 : PySem.W.nsIn K mainGlobals "_law_plus" = some (some (.ref f16))) (l16 : K.lookup f16 = some ⟨oc16, od16, .func (PySem.W.fnOf "_law_plus" "_law_plus" (defArgs sPlus) (defBody sPlus) (defScope sPlus) .none kV16 dc16 pm16 an16 cd16 ct16), sl16⟩) (c16 : PySem.W.codeIn K cd16 "_law_plus" = true) (k16 : PySem.W.keepIn K (.ref f16) = true)
    (a17 : PySem.W.nsIn K mainGlobals "_law_small" = some (some (.ref f17))) (l17 : K.lookup f17 = some ⟨oc17, od17, .func (PySem.W.fnOf "_law_small" "_law_small" (defArgs sSmall) (defBody sSmall) (defScope sSmall) .none kV17 dc17 pm17 an17 cd17 ct17), sl17⟩) (c17 : PySem.W.codeIn K cd17 "_law_small" = true) (k17 : PySem.W.keepIn K (.ref f17) = true)
    (a18 : PySem.W.nsIn K mainGlobals "_law_line" = some (some (.ref f18))) (l18 : K.lookup f18 = some ⟨oc18, od18, .func (PySem.W.fnOf "_law_line" "_law_line" (defArgs sLine) (defBody sLine) (defScope sLine) .none kV18 dc18 pm18 an18 cd18 ct18), sl18⟩) (c18 : PySem.W.codeIn K cd18 "_law_line" = true) (k18 : PySem.W.keepIn K (.ref f18) = true)
    (a19 : PySem.W.nsIn K mainGlobals "_law_system" = some (some (.ref f19))) (l19 : K.lookup f19 = some ⟨oc19, od19, .func (PySem.W.fnOf "_law_system" "_law_system" (defArgs sSys) (defBody sSys) (defScope sSys) .none kV19 dc19 pm19 an19 cd19 ct19), sl19⟩) (c19 : PySem.W.codeIn K cd19 "_law_system" = true) (k19 : PySem.W.keepIn K (.ref f19) = true)
    (a20 : PySem.W.nsIn K mainGlobals "_law_gcd" = some (some (.ref f20))) (l20 : K.lookup f20 = some ⟨oc20, od20, .func (PySem.W.fnOf "_law_gcd" "_law_gcd" (defArgs sGcdL) (defBody sGcdL) (defScope sGcdL) .none kV20 dc20 pm20 an20 cd20 ct20), sl20⟩) (c20 : PySem.W.codeIn K cd20 "_law_gcd" = true) (k20 : PySem.W.keepIn K (.ref f20) = true)
    (a21 : PySem.W.nsIn K mainGlobals "_law_integer" = some (some (.ref f21))) (l21 : K.lookup f21 = some ⟨oc21, od21, .func (PySem.W.fnOf "_law_integer" "_law_integer" (defArgs lInt) (defBody lInt) (defScope lInt) .none kV21 dc21 pm21 an21 cd21 ct21), sl21⟩) (c21 : PySem.W.codeIn K cd21 "_law_integer" = true) (k21 : PySem.W.keepIn K (.ref f21) = true)
    (a22 : PySem.W.nsIn K mainGlobals "_law_number" = some (some (.ref f22))) (l22 : K.lookup f22 = some ⟨oc22, od22, .func (PySem.W.fnOf "_law_number" "_law_number" (defArgs lNum) (defBody lNum) (defScope lNum) .none kV22 dc22 pm22 an22 cd22 ct22), sl22⟩) (c22 : PySem.W.codeIn K cd22 "_law_number" = true) (k22 : PySem.W.keepIn K (.ref f22) = true)
    (a23 : PySem.W.nsIn K mainGlobals "_law_name" = some (some (.ref f23))) (l23 : K.lookup f23 = some ⟨oc23, od23, .func (PySem.W.fnOf "_law_name" "_law_name" (defArgs lName) (defBody lName) (defScope lName) .none kV23 dc23 pm23 an23 cd23 ct23), sl23⟩) (c23 : PySem.W.codeIn K cd23 "_law_name" = true) (k23 : PySem.W.keepIn K (.ref f23) = true)
    (a24 : PySem.W.nsIn K mainGlobals "_law_pair" = some (some (.ref f24))) (l24 : K.lookup f24 = some ⟨oc24, od24, .func (PySem.W.fnOf "_law_pair" "_law_pair" (defArgs lPair) (defBody lPair) (defScope lPair) .none kV24 dc24 pm24 an24 cd24 ct24), sl24⟩) (c24 : PySem.W.codeIn K cd24 "_law_pair" = true) (k24 : PySem.W.keepIn K (.ref f24) = true)
    (a25 : PySem.W.nsIn K mainGlobals "_law_cell" = some (some (.ref f25))) (l25 : K.lookup f25 = some ⟨oc25, od25, .func (PySem.W.fnOf "_law_cell" "_law_cell" (defArgs lCell) (defBody lCell) (defScope lCell) .none kV25 dc25 pm25 an25 cd25 ct25), sl25⟩) (c25 : PySem.W.codeIn K cd25 "_law_cell" = true) (k25 : PySem.W.keepIn K (.ref f25) = true)
    (a26 : PySem.W.nsIn K mainGlobals "_law_weighted" = some (some (.ref f26))) (l26 : K.lookup f26 = some ⟨oc26, od26, .func (PySem.W.fnOf "_law_weighted" "_law_weighted" (defArgs lWt) (defBody lWt) (defScope lWt) .none kV26 dc26 pm26 an26 cd26 ct26), sl26⟩) (c26 : PySem.W.codeIn K cd26 "_law_weighted" = true) (k26 : PySem.W.keepIn K (.ref f26) = true)
    (a27 : PySem.W.nsIn K mainGlobals "_law_rows_kind" = some (some (.ref f27))) (l27 : K.lookup f27 = some ⟨oc27, od27, .func (PySem.W.fnOf "_law_rows_kind" "_law_rows_kind" (defArgs lRows) (defBody lRows) (defScope lRows) .none kV27 dc27 pm27 an27 cd27 ct27), sl27⟩) (c27 : PySem.W.codeIn K cd27 "_law_rows_kind" = true) (k27 : PySem.W.keepIn K (.ref f27) = true)
    (a28 : PySem.W.nsIn K mainGlobals "_law_ratio" = some (some (.ref f28))) (l28 : K.lookup f28 = some ⟨oc28, od28, .func (PySem.W.fnOf "_law_ratio" "_law_ratio" (defArgs lRatio) (defBody lRatio) (defScope lRatio) .none kV28 dc28 pm28 an28 cd28 ct28), sl28⟩) (c28 : PySem.W.codeIn K cd28 "_law_ratio" = true) (k28 : PySem.W.keepIn K (.ref f28) = true)
    (a29 : PySem.W.nsIn K mainGlobals "_law_odd" = some (some (.ref f29))) (l29 : K.lookup f29 = some ⟨oc29, od29, .func (PySem.W.fnOf "_law_odd" "_law_odd" (defArgs sOdd) (defBody sOdd) (defScope sOdd) .none kV29 dc29 pm29 an29 cd29 ct29), sl29⟩) (c29 : PySem.W.codeIn K cd29 "_law_odd" = true) (k29 : PySem.W.keepIn K (.ref f29) = true)
    (a30 : PySem.W.nsIn K mainGlobals "_law_bent" = some (some (.ref f30))) (l30 : K.lookup f30 = some ⟨oc30, od30, .func (PySem.W.fnOf "_law_bent" "_law_bent" (defArgs sBent) (defBody sBent) (defScope sBent) .none kV30 dc30 pm30 an30 cd30 ct30), sl30⟩) (c30 : PySem.W.codeIn K cd30 "_law_bent" = true) (k30 : PySem.W.keepIn K (.ref f30) = true)
    (a31 : PySem.W.nsIn K mainGlobals "_law_plain_values" = some (some (.ref f31))) (l31 : K.lookup f31 = some ⟨oc31, od31, .func (PySem.W.fnOf "_law_plain_values" "_law_plain_values" (defArgs sPlain) (defBody sPlain) (defScope sPlain) .none kV31 dc31 pm31 an31 cd31 ct31), sl31⟩) (c31 : PySem.W.codeIn K cd31 "_law_plain_values" = true) (k31 : PySem.W.keepIn K (.ref f31) = true)
    (a32 : PySem.W.nsIn K mainGlobals "_law_rows_by_hand" = some (some (.ref f32))) (l32 : K.lookup f32 = some ⟨oc32, od32, .func (PySem.W.fnOf "_law_rows_by_hand" "_law_rows_by_hand" (defArgs sHand) (defBody sHand) (defScope sHand) .none kV32 dc32 pm32 an32 cd32 ct32), sl32⟩) (c32 : PySem.W.codeIn K cd32 "_law_rows_by_hand" = true) (k32 : PySem.W.keepIn K (.ref f32) = true)
    (a33 : PySem.W.nsIn K mainGlobals "law" = some (some (.ref f33))) (l33 : K.lookup f33 = some ⟨oc33, od33, .func (PySem.W.fnOf "law" "law" (defArgs sLaw) (defBody sLaw) (defScope sLaw) .none kV33 dc33 pm33 an33 cd33 ct33), sl33⟩) (c33 : PySem.W.codeIn K cd33 "law" = true) (k33 : PySem.W.keepIn K (.ref f33) = true)
    (z1 : PySem.W.nsIn K mainGlobals "sorted" = some none)
    (z2 : PySem.W.nsIn K mainGlobals "tuple" = some none)
    (z3 : PySem.W.nsIn K mainGlobals "dict" = some none)
    (z4 : PySem.W.nsIn K mainGlobals "list" = some none)
    (z5 : PySem.W.nsIn K mainGlobals "len" = some none)
    (z6 : PySem.W.nsIn K mainGlobals "range" = some none)
    (z7 : PySem.W.nsIn K mainGlobals "isinstance" = some none)
    (z8 : PySem.W.nsIn K mainGlobals "int" = some none)
    (z9 : PySem.W.nsIn K mainGlobals "bool" = some none)
    (z10 : PySem.W.nsIn K mainGlobals "str" = some none)
    (z11 : PySem.W.nsIn K mainGlobals "all" = some none)
    (z12 : PySem.W.nsIn K mainGlobals "zip" = some none)
    (z13 : PySem.W.nsIn K mainGlobals "repr" = some none)
    (z14 : PySem.W.nsIn K mainGlobals "abs" = some none)
    (z15 : PySem.W.nsIn K mainGlobals "ord" = some none)
    (zL : PySem.W.nsIn K mainGlobals "LETTERS" = some (some (.str lettersD tk))) :
    ∃ fd : FuncData, (∀ (s : Shared) (v : Value), BindsTo s fd ⟨[v], []⟩ [("_law_script", v)]) ∧ ∀ base : Heap, K.In base → base.Ns mainGlobals mg → FnG l.prog w K mg base 13 fa fd ["_law_script"] (prLaw K) := by
  have e := hfa.symm.trans (PySem.W.mg_of X G a33)
  cases e
  have F1 := fun_mk (st := sGcd) l1 c1 k1
  have b1 := F1.binds (ps := ["one", "other"]) fun _ _ _ _ _ _ us hl => match us, hl with | [_, _], _ => rfl
  have g1 := PySem.W.mg_of X G a1
  have F2 := fun_mk (st := sIsInt) l2 c2 k2
  have b2 := F2.binds (ps := ["thing"]) fun _ _ _ _ _ _ us hl => match us, hl with | [_], _ => rfl
  have g2 := PySem.W.mg_of X G a2
  have F3 := fun_mk (st := sIsNum) l3 c3 k3
  have b3 := F3.binds (ps := ["thing"]) fun _ _ _ _ _ _ us hl => match us, hl with | [_], _ => rfl
  have g3 := PySem.W.mg_of X G a3
  have F4 := fun_mk (st := sIsName) l4 c4 k4
  have b4 := F4.binds (ps := ["thing"]) fun _ _ _ _ _ _ us hl => match us, hl with | [_], _ => rfl
  have g4 := PySem.W.mg_of X G a4
  have F5 := fun_mk (st := sIsPair) l5 c5 k5
  have b5 := F5.binds (ps := ["thing"]) fun _ _ _ _ _ _ us hl => match us, hl with | [_], _ => rfl
  have g5 := PySem.W.mg_of X G a5
  have F6 := fun_mk (st := sIsCell) l6 c6 k6
  have b6 := F6.binds (ps := ["thing"]) fun _ _ _ _ _ _ us hl => match us, hl with | [_], _ => rfl
  have g6 := PySem.W.mg_of X G a6
  have F7 := fun_mk (st := sIsWt) l7 c7 k7
  have b7 := F7.binds (ps := ["thing"]) fun _ _ _ _ _ _ us hl => match us, hl with | [_], _ => rfl
  have g7 := PySem.W.mg_of X G a7
  have F8 := fun_mk (st := sIsRow) l8 c8 k8
  have b8 := F8.binds (ps := ["thing"]) fun _ _ _ _ _ _ us hl => match us, hl with | [_], _ => rfl
  have g8 := PySem.W.mg_of X G a8
  have F9 := fun_mk (st := sAreRows) l9 c9 k9
  have b9 := F9.binds (ps := ["thing"]) fun _ _ _ _ _ _ us hl => match us, hl with | [_], _ => rfl
  have g9 := PySem.W.mg_of X G a9
  have F10 := fun_mk (st := sIsData) l10 c10 k10
  have b10 := F10.binds (ps := ["thing"]) fun _ _ _ _ _ _ us hl => match us, hl with | [_], _ => rfl
  have g10 := PySem.W.mg_of X G a10
  have F11 := fun_mk (st := sIsFrac) l11 c11 k11
  have b11 := F11.binds (ps := ["thing"]) fun _ _ _ _ _ _ us hl => match us, hl with | [_], _ => rfl
  have g11 := PySem.W.mg_of X G a11
  have F12 := fun_mk (st := sFeed) l12 c12 k12
  have b12 := F12.binds (ps := ["_law_script"]) fun _ _ _ _ _ _ us hl => match us, hl with | [_], _ => rfl
  have g12 := PySem.W.mg_of X G a12
  have F13 := fun_mk (st := sDraw) l13 c13 k13
  have b13 := F13.binds (ps := ["_law_feed_here", "_law_many"]) fun _ _ _ _ _ _ us hl => match us, hl with | [_, _], _ => rfl
  have g13 := PySem.W.mg_of X G a13
  have F14 := fun_mk (st := sPlaces) l14 c14 k14
  have b14 := F14.binds (ps := []) fun _ _ _ _ _ _ us hl => match us, hl with | [], _ => rfl
  have g14 := PySem.W.mg_of X G a14
  have F15 := fun_mk (st := sTidy) l15 c15 k15
  have b15 := F15.binds (ps := ["_law_weights"]) fun _ _ _ _ _ _ us hl => match us, hl with | [_], _ => rfl
  have g15 := PySem.W.mg_of X G a15
  have F16 := fun_mk (st := sPlus) l16 c16 k16
  have b16 := F16.binds (ps := ["_law_one", "_law_other", "_law_times"]) fun _ _ _ _ _ _ us hl => match us, hl with | [_, _, _], _ => rfl
  have g16 := PySem.W.mg_of X G a16
  have F17 := fun_mk (st := sSmall) l17 c17 k17
  have b17 := F17.binds (ps := ["_law_line_here"]) fun _ _ _ _ _ _ us hl => match us, hl with | [_], _ => rfl
  have g17 := PySem.W.mg_of X G a17
  have F18 := fun_mk (st := sLine) l18 c18 k18
  have b18 := F18.binds (ps := ["_law_feed_here"]) fun _ _ _ _ _ _ us hl => match us, hl with | [_], _ => rfl
  have g18 := PySem.W.mg_of X G a18
  have F19 := fun_mk (st := sSys) l19 c19 k19
  have b19 := F19.binds (ps := ["_law_feed_here", "_law_most"]) fun _ _ _ _ _ _ us hl => match us, hl with | [_, _], _ => rfl
  have g19 := PySem.W.mg_of X G a19
  have F20 := fun_mk (st := sGcdL) l20 c20 k20
  have b20 := F20.binds (ps := ["_law_some"]) fun _ _ _ _ _ _ us hl => match us, hl with | [_], _ => rfl
  have g20 := PySem.W.mg_of X G a20
  have F21 := fun_mk (st := lInt) l21 c21 k21
  have b21 := F21.binds (ps := ["_law_item"]) fun _ _ _ _ _ _ us hl => match us, hl with | [_], _ => rfl
  have g21 := PySem.W.mg_of X G a21
  have F22 := fun_mk (st := lNum) l22 c22 k22
  have b22 := F22.binds (ps := ["_law_item"]) fun _ _ _ _ _ _ us hl => match us, hl with | [_], _ => rfl
  have g22 := PySem.W.mg_of X G a22
  have F23 := fun_mk (st := lName) l23 c23 k23
  have b23 := F23.binds (ps := ["_law_item"]) fun _ _ _ _ _ _ us hl => match us, hl with | [_], _ => rfl
  have g23 := PySem.W.mg_of X G a23
  have F24 := fun_mk (st := lPair) l24 c24 k24
  have b24 := F24.binds (ps := ["_law_item"]) fun _ _ _ _ _ _ us hl => match us, hl with | [_], _ => rfl
  have g24 := PySem.W.mg_of X G a24
  have F25 := fun_mk (st := lCell) l25 c25 k25
  have b25 := F25.binds (ps := ["_law_item"]) fun _ _ _ _ _ _ us hl => match us, hl with | [_], _ => rfl
  have g25 := PySem.W.mg_of X G a25
  have F26 := fun_mk (st := lWt) l26 c26 k26
  have b26 := F26.binds (ps := ["_law_item"]) fun _ _ _ _ _ _ us hl => match us, hl with | [_], _ => rfl
  have g26 := PySem.W.mg_of X G a26
  have F27 := fun_mk (st := lRows) l27 c27 k27
  have b27 := F27.binds (ps := ["_law_item"]) fun _ _ _ _ _ _ us hl => match us, hl with | [_], _ => rfl
  have g27 := PySem.W.mg_of X G a27
  have F28 := fun_mk (st := lRatio) l28 c28 k28
  have b28 := F28.binds (ps := ["_law_item"]) fun _ _ _ _ _ _ us hl => match us, hl with | [_], _ => rfl
  have g28 := PySem.W.mg_of X G a28
  have F29 := fun_mk (st := sOdd) l29 c29 k29
  have b29 := F29.binds (ps := ["_law_feed_here"]) fun _ _ _ _ _ _ us hl => match us, hl with | [_], _ => rfl
  have g29 := PySem.W.mg_of X G a29
  have F30 := fun_mk (st := sBent) l30 c30 k30
  have b30 := F30.binds (ps := ["_law_feed_here", "_law_item"]) fun _ _ _ _ _ _ us hl => match us, hl with | [_, _], _ => rfl
  have g30 := PySem.W.mg_of X G a30
  have F31 := fun_mk (st := sPlain) l31 c31 k31
  have b31 := F31.binds (ps := []) fun _ _ _ _ _ _ us hl => match us, hl with | [], _ => rfl
  have g31 := PySem.W.mg_of X G a31
  have F32 := fun_mk (st := sHand) l32 c32 k32
  have b32 := F32.binds (ps := []) fun _ _ _ _ _ _ us hl => match us, hl with | [], _ => rfl
  have g32 := PySem.W.mg_of X G a32
  have F33 := fun_mk (st := sLaw) l33 c33 k33
  have m1 := PySem.W.mg_none_of X G z1
  have m2 := PySem.W.mg_none_of X G z2
  have m3 := PySem.W.mg_none_of X G z3
  have m4 := PySem.W.mg_none_of X G z4
  have m5 := PySem.W.mg_none_of X G z5
  have m6 := PySem.W.mg_none_of X G z6
  have m7 := PySem.W.mg_none_of X G z7
  have m8 := PySem.W.mg_none_of X G z8
  have m9 := PySem.W.mg_none_of X G z9
  have m10 := PySem.W.mg_none_of X G z10
  have m11 := PySem.W.mg_none_of X G z11
  have m12 := PySem.W.mg_none_of X G z12
  have m13 := PySem.W.mg_none_of X G z13
  have m14 := PySem.W.mg_none_of X G z14
  have m15 := PySem.W.mg_none_of X G z15
  have mL := PySem.W.mg_of X G zL
  refine ⟨PySem.W.fnOf "law" "law" (defArgs sLaw) (defBody sLaw) (defScope sLaw) .none kV33 dc33 pm33 an33 cd33 ct33, fun s v => .of_eq rfl, fun base _ _ => ?_⟩
  have GIP : FnG l.prog w K mg base 1 f2 _ ["thing"] (prKind isIntD) := ok_isInt (k := 0) F2 m7 m8 m9
  have GQP : FnG l.prog w K mg base 1 f5 _ ["thing"] (prKind isPairD) := ok_isPair (k := 0) F5 m7 m2 m5
  have GMP : FnG l.prog w K mg base 1 f4 _ ["thing"] (prKind isNameD) := ok_isName (k := 0) F4 m7 m10 m5 m11 mL
  have GNP : FnG l.prog w K mg base 2 f3 _ ["thing"] (prKind isNumD) := ok_isNum (k := 0) F3 F2 b2 g2 GIP
  have GKP : FnG l.prog w K mg base 3 f6 _ ["thing"] (prKind isCellD) := ok_isCell (k := 0) F6 F5 b5 g5 GQP F4 b4 g4 GMP F3 b3 g3 GNP
  have GIL : FnG l.prog w K mg base 1 f21 _ ["_law_item"] (prKind isIntD) := ok_lInt (k := 0) F21 m7 m8 m9
  have GQL : FnG l.prog w K mg base 1 f24 _ ["_law_item"] (prKind isPairD) := ok_lPair (k := 0) F24 m7 m2 m5
  have GML : FnG l.prog w K mg base 1 f23 _ ["_law_item"] (prKind isNameD) := ok_lName (k := 0) F23 m7 m10 m5 m15
  have GNL : FnG l.prog w K mg base 2 f22 _ ["_law_item"] (prKind isNumD) := ok_lNum (k := 0) F22 F21 b21 g21 GIL
  have GKL : FnG l.prog w K mg base 3 f25 _ ["_law_item"] (prKind isCellD) := ok_lCell (k := 0) F25 F24 b24 g24 GQL F23 b23 g23 GML F22 b22 g22 GNL
  have GWP : FnG l.prog w K mg base 4 f7 _ ["thing"] (prKind isWtD) := ok_isWt (k := 0) F7 F5 b5 g5 GQP F6 b6 g6 GKP F2 b2 g2 GIP
  have GRP : FnG l.prog w K mg base 5 f8 _ ["thing"] (prKind isRowD) := ok_isRow (k := 0) F8 F7 b7 g7 GWP m7 m2 m11 m12
  have GAP : FnG l.prog w K mg base 6 f9 _ ["thing"] (prKind areRowsD) := ok_areRows (k := 0) F9 F8 b8 g8 GRP m7 m2 m11
  have GDP : FnG l.prog w K mg base 6 f10 _ ["thing"] (prKind isRowD) := ok_isData (k := 0) F10 F8 b8 g8 GRP
  have GGP : FnG l.prog w K mg base 1 f1 _ ["one", "other"] prGcd := ok_gcd (k := 0) F1 m14
  have GFP : FnG l.prog w K mg base 2 f11 _ ["thing"] (prKind isFracD) := ok_isFrac (k := 0) F11 F5 b5 g5 GQP F2 b2 g2 GIP F1 b1 g1 GGP
  have GWL : FnG l.prog w K mg base 4 f26 _ ["_law_item"] (prKind isRowD) := ok_lWt (k := 0) F26 F24 b24 g24 GQL F25 b25 g25 GKL F21 b21 g21 GIL m7 m2 m5 m6
  have GAL : FnG l.prog w K mg base 5 f27 _ ["_law_item"] (prKindN areRowsD) := ok_lRows (k := 0) F27 F26 b26 g26 GWL m7 m2
  have GGL : FnG l.prog w K mg base 1 f20 _ ["_law_some"] prGcdL := ok_gcdL (k := 0) F20 m14
  have GFL : FnG l.prog w K mg base 2 f28 _ ["_law_item"] (prKind isFracD) := ok_lRatio (k := 0) F28 F24 b24 g24 GQL F21 b21 g21 GIL F20 b20 g20 GGL
  have GS : FnG l.prog w K mg base 3 f19 _ ["_law_feed_here", "_law_most"] prSys := ok_sys (k := 0) F19 F14 b14 g14 F13 b13 g13 F15 b15 g15 F18 b18 g18 F17 b17 g17 F16 b16 g16 m1 m2 m5 m3 m4 m6
  have GF : FnG l.prog w K mg base 1 f12 _ ["_law_script"] (prFeed K) := ok_feed (k := 0) F12 m4
  have GB : FnG l.prog w K mg base 12 f30 _ ["_law_feed_here", "_law_item"] (prBent 9) := ok_bent F30 b30 g30 F13 b13 g13 F29 b29 g29 m7 m2 m10 m8 m5 m4 9 (by decide)
  have GP : FnG l.prog w K mg base 1 f31 _ [] (prList plainD) := ok_plain (k := 0) F31 m4
  have GH : FnG l.prog w K mg base 1 f32 _ [] (prList handD) := ok_hand (k := 0) F32 m2 m6
  exact ok_law (k := 0) F33 F12 b12 g12 (GF.mono (by decide)) F19 b19 g19 (GS.mono (by decide)) F30 b30 g30 GB F31 b31 g31 (GP.mono (by decide)) F32 b32 g32 (GH.mono (by decide)) F2 b2 g2 (GIP.mono (by decide)) F3 b3 g3 (GNP.mono (by decide)) F4 b4 g4 (GMP.mono (by decide)) F6 b6 g6 (GKP.mono (by decide)) F8 b8 g8 (GRP.mono (by decide)) F9 b9 g9 (GAP.mono (by decide)) F11 b11 g11 (GFP.mono (by decide)) F10 b10 g10 (GDP.mono (by decide)) F21 b21 g21 (GIL.mono (by decide)) F22 b22 g22 (GNL.mono (by decide)) F23 b23 g23 (GML.mono (by decide)) F25 b25 g25 (GKL.mono (by decide)) F26 b26 g26 (GWL.mono (by decide)) F27 b27 g27 (GAL.mono (by decide)) F28 b28 g28 (GFL.mono (by decide)) m4 m6 m13
end P01
open PySem PySem.W PyProof.Rows
set_option maxHeartbeats 0 in
theorem PySem.Challenge.cw_askrights_k01_kinds_holds : PySem.Challenge.rw_askrights_k01_kinds.Holds := by
  w_on; o_law; k_head; (case hw => w_witness2)
  k_fill
  refine AskG.walkG (l := PySem.Challenge.rw_askrights_k01_kinds) (n := 63) (k := 13) (x := "_law_script") (pr := P01.prLaw) rfl (by decide) rfl ⟨⟨rfl, by decide, by decide⟩, rfl⟩ (fun w h Y => PySem.W.kIn_of Y) ?F (fun _ _ a ns _ hS => ⟨a, ns, rfl, hS, fun _ => rfl⟩)
  case F =>
    intro w mg fa h KX G hmg
    refine' P01.all_mk KX G hmg ?a1 ?l1 ?c1 ?k1 ?a2 ?l2 ?c2 ?k2 ?a3 ?l3 ?c3 ?k3 ?a4 ?l4 ?c4 ?k4 ?a5 ?l5 ?c5 ?k5 ?a6 ?l6 ?c6 ?k6 ?a7 ?l7 ?c7 ?k7 ?a8 ?l8 ?c8 ?k8 ?a9 ?l9 ?c9 ?k9 ?a10 ?l10 ?c10 ?k10 ?a11 ?l11 ?c11 ?k11 ?a12 ?l12 ?c12 ?k12 ?a13 ?l13 ?c13 ?k13 ?a14 ?l14 ?c14 ?k14 ?a15 ?l15 ?c15 ?k15 ?a16 ?l16 ?c16 ?k16 ?a17 ?l17 ?c17 ?k17 ?a18 ?l18 ?c18 ?k18 ?a19 ?l19 ?c19 ?k19 ?a20 ?l20 ?c20 ?k20 ?a21 ?l21 ?c21 ?k21 ?a22 ?l22 ?c22 ?k22 ?a23 ?l23 ?c23 ?k23 ?a24 ?l24 ?c24 ?k24 ?a25 ?l25 ?c25 ?k25 ?a26 ?l26 ?c26 ?k26 ?a27 ?l27 ?c27 ?k27 ?a28 ?l28 ?c28 ?k28 ?a29 ?l29 ?c29 ?k29 ?a30 ?l30 ?c30 ?k30 ?a31 ?l31 ?c31 ?k31 ?a32 ?l32 ?c32 ?k32 ?a33 ?l33 ?c33 ?k33 ?z1 ?z2 ?z3 ?z4 ?z5 ?z6 ?z7 ?z8 ?z9 ?z10 ?z11 ?z12 ?z13 ?z14 ?z15 ?zL
    (case a1 => k_is)
    (case l1 => k_is)
    (case c1 => k_is)
    (case k1 => k_is)
    (case a2 => k_is)
    (case l2 => k_is)
    (case c2 => k_is)
    (case k2 => k_is)
    (case a3 => k_is)
    (case l3 => k_is)
    (case c3 => k_is)
    (case k3 => k_is)
    (case a4 => k_is)
    (case l4 => k_is)
    (case c4 => k_is)
    (case k4 => k_is)
    (case a5 => k_is)
    (case l5 => k_is)
    (case c5 => k_is)
    (case k5 => k_is)
    (case a6 => k_is)
    (case l6 => k_is)
    (case c6 => k_is)
    (case k6 => k_is)
    (case a7 => k_is)
    (case l7 => k_is)
    (case c7 => k_is)
    (case k7 => k_is)
    (case a8 => k_is)
    (case l8 => k_is)
    (case c8 => k_is)
    (case k8 => k_is)
    (case a9 => k_is)
    (case l9 => k_is)
    (case c9 => k_is)
    (case k9 => k_is)
    (case a10 => k_is)
    (case l10 => k_is)
    (case c10 => k_is)
    (case k10 => k_is)
    (case a11 => k_is)
    (case l11 => k_is)
    (case c11 => k_is)
    (case k11 => k_is)
    (case a12 => k_is)
    (case l12 => k_is)
    (case c12 => k_is)
    (case k12 => k_is)
    (case a13 => k_is)
    (case l13 => k_is)
    (case c13 => k_is)
    (case k13 => k_is)
    (case a14 => k_is)
    (case l14 => k_is)
    (case c14 => k_is)
    (case k14 => k_is)
    (case a15 => k_is)
    (case l15 => k_is)
    (case c15 => k_is)
    (case k15 => k_is)
    (case a16 => k_is)
    (case l16 => k_is)
    (case c16 => k_is)
    (case k16 => k_is)
    (case a17 => k_is)
    (case l17 => k_is)
    (case c17 => k_is)
    (case k17 => k_is)
    (case a18 => k_is)
    (case l18 => k_is)
    (case c18 => k_is)
    (case k18 => k_is)
    (case a19 => k_is)
    (case l19 => k_is)
    (case c19 => k_is)
    (case k19 => k_is)
    (case a20 => k_is)
    (case l20 => k_is)
    (case c20 => k_is)
    (case k20 => k_is)
    (case a21 => k_is)
    (case l21 => k_is)
    (case c21 => k_is)
    (case k21 => k_is)
    (case a22 => k_is)
    (case l22 => k_is)
    (case c22 => k_is)
    (case k22 => k_is)
    (case a23 => k_is)
    (case l23 => k_is)
    (case c23 => k_is)
    (case k23 => k_is)
    (case a24 => k_is)
    (case l24 => k_is)
    (case c24 => k_is)
    (case k24 => k_is)
    (case a25 => k_is)
    (case l25 => k_is)
    (case c25 => k_is)
    (case k25 => k_is)
    (case a26 => k_is)
    (case l26 => k_is)
    (case c26 => k_is)
    (case k26 => k_is)
    (case a27 => k_is)
    (case l27 => k_is)
    (case c27 => k_is)
    (case k27 => k_is)
    (case a28 => k_is)
    (case l28 => k_is)
    (case c28 => k_is)
    (case k28 => k_is)
    (case a29 => k_is)
    (case l29 => k_is)
    (case c29 => k_is)
    (case k29 => k_is)
    (case a30 => k_is)
    (case l30 => k_is)
    (case c30 => k_is)
    (case k30 => k_is)
    (case a31 => k_is)
    (case l31 => k_is)
    (case c31 => k_is)
    (case k31 => k_is)
    (case a32 => k_is)
    (case l32 => k_is)
    (case c32 => k_is)
    (case k32 => k_is)
    (case a33 => k_is)
    (case l33 => k_is)
    (case c33 => k_is)
    (case k33 => k_is)
    (case z1 => k_is)
    (case z2 => k_is)
    (case z3 => k_is)
    (case z4 => k_is)
    (case z5 => k_is)
    (case z6 => k_is)
    (case z7 => k_is)
    (case z8 => k_is)
    (case z9 => k_is)
    (case z10 => k_is)
    (case z11 => k_is)
    (case z12 => k_is)
    (case z13 => k_is)
    (case z14 => k_is)
    (case z15 => k_is)
    (case zL => k_is)
