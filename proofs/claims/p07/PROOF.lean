import PyProof.Rows.All
import Wide.All
import OpenK.AllK
import Wide.FinOn
import PySem.Challenge.RW_firstanswers_k07_whole_texts_of_numbers
import HandS.Base
import HandS.Call
import HandS.List
import HandS.Ends
import HandS.Dict
import HandS.More
import HandS.Defaults
import HandS.Words
import HandS.Star
import PyProof.ReprRoads
import HandS.Nested
import HandS.ExcOwn
import HandS.TryMany
import HandS.EndTab
import HandS.Wide
import HandS.Gcd
import HandS.HeadHook1
import HandS.HeadHook2
import HandS.Exc
import HandS.ExcInit
import HandS.WordsExc
import KE.KExcInit
import PyProof.SumWalkG
import PyProof.WalksMore
import HandS.WordsList
import HandS.TryOnly
import HandS.IsInst
import PyProof.InstEq
import PyProof.StrOps2
import HandS.Deep
import HandS.SlotsOwn
import HandS.ExcIs
import HandS.ExcField
import KE.KExcIs
import HandS.Property
import PyProof.EqKinds
import HandS.HeadHook4
import HandS.Iter
import HandS.ClsMeth
import HandS.Head0
import HandS.Head1
import HandS.Head2
import HandS.Head3
import HandS.Text
import HandS.TupAny
import HandS.Codes
import HandS.StrMore
import KE.IntTextText
import PyProof.Rows.StrDigitsNeg
import HandS.FStr
import PyProof.Rows.StrOr
import KE.DataEq
import HandS.Comp
set_option Elab.async false
set_option linter.all false
set_option maxRecDepth 100000
set_option maxHeartbeats 0
/-! Defs that show data (repr): their promise wants that no show is under way around them. -/
namespace Ver
open PySem PySem.Spec PyProof.Rows L2
/-- a promise for callers around whom nothing is being shown -/
def FnG (P : Program) (w : World) (K : PySem.W.Frag) (mg : Str → Option Value) (base : Heap) (CX : CXT) (k : Nat) (f : Addr) (sp : Sp) : Prop :=
  ∀ (A : Around) (outer : List Env) (s : Shared) (H : Hp) (us : List Value) (vs : List V) (Q : VK) (E : XK), A.guards = some [] → Room k A →
    Env0 P w K mg base A outer s H → Vals vs us → sp vs H Q E → codeAny (model P w) A (.call (.ref f) ⟨us, []⟩) (CR CX outer P w H s Q E) s
section
variable {P : Program} {w : World} {K : PySem.W.Frag} {mg : Str → Option Value} {base : Heap} {CX : CXT} {k : Nat} {f : Addr} {fd : FuncData} {sp : Sp}
variable {x qual : Str} {params : Arguments} {body : List Stmt} {scope : Scope} {N ps : List Str} {kws : List (Str × V)}
theorem FnG.ofR (F : FnR P w K mg base CX k f sp) : FnG P w K mg base CX k f sp := fun A outer s H us vs Q E _ hr e0 r h => F A outer s H us vs Q E hr e0 r h
theorem FnG.mono {j : Nat} (F : FnG P w K mg base CX j f sp) (h : j ≤ k) : FnG P w K mg base CX k f sp := fun A outer s H us vs Q E g hr e0 r q => F A outer s H us vs Q E g (hr.mono h) e0 r q
/-- the rule for such a def, its body as a term -/
theorem okG (F : FunD K x qual params body scope [] kws f fd) (S : FnScope N ps scope)
    (hb : ∀ (s : Shared) (us : List Value), us.length = ps.length → BindsTo s fd ⟨us, []⟩ (ps.zip us)) (len : ∀ vs H Q E, sp vs H Q E → vs.length = ps.length)
    (hbody : ∀ (cdv : Value) (A : Around) (outer : List Env) (s : Shared) (H : Hp) (vs : List V) (Q : VK) (E : XK), A.guards = some [] → Room k (A.deeper (envOfC qual scope s.heap.objs.size f cdv)) → sp vs H Q E →
      ∃ t, PSs (cxOf CX P w K mg base N qual scope f cdv A outer s H E) body t ∧ t { nx := fun _ H' => Q .non H', rt := Q } (start N vs) H) : FnG P w K mg base CX (k + 1) f sp := by
  obtain ⟨⟨oc, od, dV, kV, doc, pm, an, cdv, ct, osl, rfl, lk, hcd, _⟩, _⟩ := F
  intro A outer s H us vs Q E hg hr e0 r hsp
  have hl := len _ _ _ _ hsp
  refine StX.run_bnd (G := fun xs H2 => xs = vs ∧ H2 = H) lk hcd S hr e0 (fun A' Ex Q' q => ?_) fun s2 H2 xs g hr' => ?_
  · exact hb s us (by rw [← r.length]; exact hl) _ A' Ex Q' (q s H vs us e0 Un.refl rfl (fun _ _ z => z) r hl ⟨rfl, rfl⟩)
  · obtain ⟨rfl, rfl⟩ := g
    exact hbody cdv A outer s2 H2 xs Q E hg hr' hsp
end
section
variable {X : Cx} {CX : CXT} {k : Nat} {f : Addr} {sp : Sp} {E : XK} {x : Str} {p pos : Pos} {e : Expr} {es : List Expr} {t : TA}
/-- f(e, ..) -/
theorem pe_callG (F : FnG X.prog X.w X.K X.mg X.base CX k f sp) (hr : Room k X.A) (hgd : X.A.guards = some []) (hg : Gl X x) (hm : X.mg x = some (.ref f)) (hk : PySem.W.keepIn X.K (.ref f) = true) (hx : Passes CX X E)
    (ha : PA X (e :: es) t) (hdb : (x == ("__debug__" : Str)) = false := by decide) (he : starEach (e :: es) X.env = (false, eval e X.env) :: starEach es X.env := by rfl)
    (hpl : (backTo pos (starEach es X.env)).any (·.1) = false := by rfl) : PE X (.Call (.Name x p) (e :: es) [] pos) (fun σ H Q => t σ H fun vs H1 => sp vs H1 Q E) := by
  refine ⟨fun pins s σ H Q I h => wpAny_Call_Name_kw (ld_glob I hg hm (PySem.W.callWith_K (h₀ := X.base) I.ok.mod.kin hk (thn (ha.run pos pins s σ H _ I h) fun us s1 z => ?_) he hpl) hdb)⟩
  obtain ⟨vs, H1, I1, r, q⟩ := z
  refine ⟨I1.kIn, wpAny_call (codeAny_mono (F X.A X.stack s1 H1 us vs Q E hgd hr I1.env0 r q) fun rs s' hq => ?_)⟩
  match rs, hq with
  | .error e', hq => exact hx pins σ H1 s1 e' s' I1 hq
  | .ok (.ret u), hq => exact I1.after hq
  | .ok .next, hq => exact hq.elim
  | .ok .brk, hq => exact hq.elim
  | .ok .cont, hq => exact hq.elim
end
/-- the same rule for a def that lets no exception out -/
theorem ok0 {P : Program} {w : World} {K : PySem.W.Frag} {mg : Str → Option Value} {base : Heap} {k : Nat} {f : Addr} {fd : FuncData} {sp : Sp} {x qual : Str} {params : Arguments} {body : List Stmt} {scope : Scope} {N ps : List Str} {kws : List (Str × V)}
    (F : FunD K x qual params body scope [] kws f fd) (S : FnScope N ps scope)
    (hb : ∀ (s : Shared) (us : List Value), us.length = ps.length → BindsTo s fd ⟨us, []⟩ (ps.zip us)) (len : ∀ vs H Q E, sp vs H Q E → vs.length = ps.length)
    (hbody : ∀ (cdv : Value) (A : Around) (outer : List Env) (s : Shared) (H : Hp) (vs : List V) (Q : VK) (E : XK), A.guards = some [] → Room k (A.deeper (envOfC qual scope s.heap.objs.size f cdv)) → sp vs H Q E →
      ∃ t, PSs (cxOf CX0 P w K mg base N qual scope f cdv A outer s H E).nox body t ∧ t { nx := fun _ H' => Q .non H', rt := Q } (start N vs) H) : FnG P w K mg base CX0 (k + 1) f sp :=
  okG F S hb len fun cdv A outer s H vs Q E hg hr h => by
    obtain ⟨t, ht, q⟩ := hbody cdv A outer s H vs Q E hg hr h
    exact ⟨t, ht.nox, q⟩
section
variable {X : Cx} {CX : CXT} {k : Nat} {f C : Addr} {sp : Sp} {E : XK} {x m : Str} {p pos apos : Pos} {e o : Expr} {es : List Expr} {t : TA} {ta : TE} {pins : List (Addr × Obj)} {σ : L2.St} {H : Hp} {s : Shared} {Q : VK} {us : List Value} {vs : List V}
/-- the callee's run, seen by the caller -/
theorem runG (F : FnG X.prog X.w X.K X.mg X.base CX k f sp) (hr : Room k X.A) (hgd : X.A.guards = some []) (hx : Passes CX X E) (I : Inv X pins σ H s) (r : Vals vs us) (h : sp vs H Q E) :
    wpAny (model X.prog X.w) X.A (call (.ref f) us) (EP X pins σ Q) X.xe s :=
  wpAny_call (codeAny_mono (F X.A X.stack s H us vs Q E hgd hr I.env0 r h) fun rs s' hq => by
    match rs, hq with
    | .error e', hq => exact hx pins σ H s e' s' I hq
    | .ok (.ret u), hq => exact I.after hq
    | .ok .next, hq => exact hq.elim
    | .ok .brk, hq => exact hq.elim
    | .ok .cont, hq => exact hq.elim)
/-- f() -/
theorem pe_callG0 (F : FnG X.prog X.w X.K X.mg X.base CX k f sp) (hr : Room k X.A) (hgd : X.A.guards = some []) (hg : Gl X x) (hm : X.mg x = some (.ref f)) (hk : PySem.W.keepIn X.K (.ref f) = true) (hx : Passes CX X E)
    (hdb : (x == ("__debug__" : Str)) = false := by decide) : PE X (.Call (.Name x p) [] [] pos) (fun _ H Q => sp [] H Q E) :=
  ⟨fun pins s σ H Q I h => wpAny_Call_Name_kw (ld_glob I hg hm (PySem.W.callWith_K0 I.kIn hk (runG (us := []) F hr hgd hx I .nil h)) hdb)⟩
/-- o.m(e, ..) of an instance of the class at C or of any class that has the method at f -/
def tMethG (K : PySem.W.Frag) (m : Str) (f : Addr) (sp : Sp) (E : XK) (ta : TE) (t : TA) : TE := fun σ H Q => ta σ H fun x H1 => ∃ a C dx fs, x = .ref a ∧ H1 a = some (.ins C dx fs) ∧ Cls K C ∧ Meth K C m f ∧ fs.lookup m = none ∧
  t σ H1 fun vs H2 => sp (.ref a :: vs) H2 Q E
theorem pe_methG {pl : Sem Bool} (he : PE X o ta) (hk : PySem.W.keepIn X.K (.ref f) = true) (F : FnG X.prog X.w X.K X.mg X.base CX k f sp) (hr : Room k X.A) (hgd : X.A.guards = some []) (hx : Passes CX X E) (ha : PA X (e :: es) t)
    (hst : starEach (e :: es) X.env = (false, eval e X.env) :: starEach es X.env := by rfl) (hpl : (backTo pos (starEach es X.env)).any (·.1) = false := by rfl)
    (ht : eval (.Call (.Attribute o m apos) (e :: es) [] pos) X.env = (do
      let ov ← eval o X.env
      standAt apos.atName
      let (g, first) ← holding [ov] (getMethod ov m pl)
      callWith pos g first (backTo pos (starEach (e :: es) X.env)) (backToKw pos (keywordEach [] X.env))) := by rfl) :
    PE X (.Call (.Attribute o m apos) (e :: es) [] pos) (tMethG X.K m f sp E ta t) := by
  refine ⟨fun pins s σ H Q I h => PySem.W.methodCall_KW (pl := pl) (thn (he.run pins s σ H _ I h) fun u s1 z => ?_) ht⟩
  obtain ⟨x, H1, I1, rx, a, C, dx, fs, rfl, ea, c, hm, l, q⟩ := z
  cases (show u = Value.ref a from rx)
  refine getmeth_ok I1 ea c hm l (PySem.W.callWith_K (first := [.ref a]) (h₀ := X.base) I.ok.mod.kin hk (thn (ha.run pos pins s1 σ H1 _ I1 q) fun us s2 y => ?_) hst hpl)
  obtain ⟨vs, H2, I2, r, q2⟩ := y
  exact ⟨I2.kIn, runG (us := .ref a :: us) (vs := .ref a :: vs) F hr hgd hx I2 (.cons rfl r) q2⟩
/-- o.m() -/
theorem pe_methG0 {pl : Sem Bool} (he : PE X o ta) (hk : PySem.W.keepIn X.K (.ref f) = true) (F : FnG X.prog X.w X.K X.mg X.base CX k f sp) (hr : Room k X.A) (hgd : X.A.guards = some []) (hx : Passes CX X E)
    (ht : eval (.Call (.Attribute o m apos) [] [] pos) X.env = (do
      let ov ← eval o X.env
      standAt apos.atName
      let (g, first) ← holding [ov] (getMethod ov m pl)
      callWith pos g first (backTo pos (starEach [] X.env)) (backToKw pos (keywordEach [] X.env))) := by rfl) :
    PE X (.Call (.Attribute o m apos) [] [] pos) (tMethG X.K m f sp E ta tNil) := by
  refine ⟨fun pins s σ H Q I h => PySem.W.methodCall_KW (pl := pl) (thn (he.run pins s σ H _ I h) fun u s1 z => ?_) ht⟩
  obtain ⟨x, H1, I1, rx, a, C, dx, fs, rfl, ea, c, hm, l, q⟩ := z
  cases (show u = Value.ref a from rx)
  exact getmeth_ok I1 ea c hm l (PySem.W.callWith_K0 (first := [.ref a]) I1.kIn hk (runG (us := [.ref a]) (vs := [.ref a]) F hr hgd hx I1 (.cons rfl .nil) q))
theorem made_guards {A : Around} (h : A.guards = some []) (C : Addr) (us : List Value) : (A.under (.builtin "type.__call__" ⟨.ref C :: us, []⟩)).guards = some [] := by
  show pushGuards (Code.builtin "type.__call__" ⟨.ref C :: us, []⟩).guards A.guards = some []
  rw [h]
  first
    | rfl
    | decide +kernel
/-- C(e, ..) -/
theorem pe_makeG (M : Mk X.K C f) (F : FnG X.prog X.w X.K X.mg X.base CX k f sp) (hr : Room (k + 1) X.A) (hgd : X.A.guards = some []) (hg : Gl X x) (hm : X.mg x = some (.ref C)) (hx : Passes CX X E) (ha : PA X (e :: es) t)
    (hdb : (x == ("__debug__" : Str)) = false := by decide) (he : starEach (e :: es) X.env = (false, eval e X.env) :: starEach es X.env := by rfl)
    (hpl : (backTo pos (starEach es X.env)).any (·.1) = false := by rfl) : PE X (.Call (.Name x p) (e :: es) [] pos) (StX.tMakeR C sp E t) := by
  refine ⟨fun pins s σ H Q I h => wpAny_Call_Name_kw (ld_glob I hg hm (PySem.W.callWith_K (h₀ := X.base) I.ok.mod.kin M.kp (thn (ha.run pos pins s σ H _ I h) fun us s1 z => ?_) he hpl) hdb)⟩
  obtain ⟨vs, H1, I1, r, q⟩ := z
  refine ⟨I1.kIn, wpAny_call (make_map (f := f) I1.kIn M.makes M.init (beq_iff_eq.mp M.fn) ?_)⟩
  have q2 := q (s1.heap.objs.size + 1) s1.heap.objs.size (I1.hok.fresh (Nat.le_succ _)) (I1.hok.fresh (Nat.le_refl _)) (Nat.ne_of_lt (Nat.lt_succ_self _))
  have I2 := Inv.made (C := C) I1
  refine codeAny_mono (F _ X.stack _ _ (Value.ref (s1.heap.objs.size + 1) :: us) (V.ref (s1.heap.objs.size + 1) :: vs) _ E (made_guards hgd C us) (hr.make C us []) (I2.env0.make C us []) (.cons rfl r) q2) fun rs s' hq => ?_
  match rs, hq with
  | .error e', hq => exact hx pins σ _ _ e' s' I2 hq
  | .ok (.ret u), hq =>
    obtain ⟨v, H', I3, rv, ev, q3⟩ := I2.after hq
    subst ev
    exact ⟨rv, V.ref (s1.heap.objs.size + 1), H', I3, rfl, q3⟩
  | .ok .next, hq => exact hq.elim
  | .ok .brk, hq => exact hq.elim
  | .ok .cont, hq => exact hq.elim
end
/-! ### repr of data -/
section
variable {X : Cx}
/-- repr(x), x data: none, a bool, an int, a text, lists and tuples of such -/
def rRepr (K : PySem.W.Frag) : List V → Hp → VK → Prop := fun xs H Q => ∃ (x : V) (d : PyData), xs = [x] ∧ Dp K H x d ∧ d.showable = true ∧ d.shown.length ≤ sizeLine ∧ d.depth ≤ 60 ∧ Q (.str d.shown) H
mutual
theorem noD {K : PySem.W.Frag} {H : Hp} : ∀ (d : PyData) (v : V), Dp K H v d → d.hasDict = false
  | .none, _, _ => by simp only [PyData.hasDict]
  | .bool _, _, _ => by simp only [PyData.hasDict]
  | .int _, _, _ => by simp only [PyData.hasDict]
  | .str _, _, _ => by simp only [PyData.hasDict]
  | .list ds, _, h => by
    cases h with
    | lst _ ha =>
      simp only [PyData.hasDict]
      exact noDs ds _ ha
  | .tuple ds, _, h => by
    cases h with
    | tup _ ha =>
      simp only [PyData.hasDict]
      exact noDs ds _ ha
  | .dict _, _, h => by cases h
theorem noDs {K : PySem.W.Frag} {H : Hp} : ∀ (ds : List PyData) (vs : List V), DpAll K H vs ds → PyData.hasDictAll ds = false
  | [], _, _ => by simp only [PyData.hasDictAll]
  | d :: ds, _, h => by
    cases h with
    | cons h1 h2 =>
      simp only [PyData.hasDictAll, noD d _ h1, noDs ds _ h2, Bool.or_false]
end
theorem call_repr (hg : X.A.guards = some []) (hu : X.A.units + 64 < cLine) : CallR X (.builtin "repr") (rRepr X.K) := by
  intro pins s σ H xs us Q I r h
  obtain ⟨x, d, rfl, hd, hs, hz, hdp, q⟩ := h
  obtain ⟨u, rfl, rx⟩ := vals1 r
  obtain ⟨as, rd⟩ := Dp.reads I d x u hd rx
  have nd := noD d x hd
  cases rd with
  | none => exact PySem.P.repr_of_none ⟨.str _, H, I.tok _, ⟨_, rfl⟩, by simpa only [PyData.shown] using q⟩
  | bool b => exact PySem.P.repr_of_bool ⟨.str _, H, I.tok _, ⟨_, rfl⟩, by simpa only [PyData.shown] using q⟩
  | int i t => exact PySem.P.repr_of_int (by simpa [PyData.showable] using hs) ⟨.str _, H, I.tok _, ⟨_, rfl⟩, by simpa only [PyData.shown] using q⟩
  | str y t => exact PySem.P.repr_of_str ⟨.str _, H, I.tok _, ⟨_, rfl⟩, by simpa only [PyData.shown] using q⟩ (by simpa only [PyData.shown] using hz)
  | list h1 h2 h3 h4 =>
    exact repr_of_reads' (.list h1 h2 h3 h4) hs (fun z => by rw [nd] at z; cases z) hg (by omega) (fun _ _ z => z) (fun h' u tk hk => ⟨.str _, H, I.kept (t' := tk) hk, ⟨u, rfl⟩, q⟩) hz
  | tuple h1 h2 h3 h4 =>
    exact repr_of_reads' (.tuple h1 h2 h3 h4) hs (fun z => by rw [nd] at z; cases z) hg (by omega) (fun _ _ z => z) (fun h' u tk hk => ⟨.str _, H, I.kept (t' := tk) hk, ⟨u, rfl⟩, q⟩) hz
  | dict h1 h2 h3 h4 h5 => cases hd
end
/-! ### the law's end -/
section
variable {P : Program} {w : World} {K : PySem.W.Frag} {mg mb : Str → Option Value} {k : Nat} {fa a : Addr} {sp : Sp} {s₁ : Shared} {vs : List Value} {ns : List Int}
/-- the law's call over one abstract heap -/
theorem lawOn {H : Hp} (KX : K.In s₁.heap) (hns : s₁.heap.Ns mainGlobals mg) (hb : s₁.heap.Ns builtinsNs mb) (hbb : ∀ x : Str, x ≠ "__name__" → mb x = bootBuiltins x) (hlim : s₁.heap.NoLimit) (hg : s₁.gens = #[])
    (ha : s₁.heap.get? a = some { cls := .type "list", data := .seq vs.toArray }) (hr : Room k callerA)
    (F : ∀ base : Heap, K.In base → base.Ns mainGlobals mg → FnG P w K mg base CX0 k fa sp)
    (hO : Only H) (hsp : sp [.ref a] H (fun v _ => v = .bl true) fun _ _ _ => False) (hok : HOk P w H s₁.heap) (hA : ∀ b, H b ≠ none → b = a) (hK : H a ≠ none → K.lookup a = none) :
    codeAny (model P w) callerA (.call (.ref fa) ⟨[.ref a], []⟩) (fun r s' => r = .ok (.ret (.bool true)) ∧ OldK s₁.heap s'.heap ∧ s'.os = s₁.os ∧ AllBare s'.gens) s₁ := by
  have free : ∀ b o, s₁.heap.get? b = some o → (∀ w n, o.data ≠ Data.seq w n) → H b = none := fun b o e hd => Classical.byContradiction fun z => by
    have eb := hA b z
    rw [eb, ha] at e
    exact hd _ _ (congrArg Obj.data (Option.some.inj e)).symm
  have names : ∀ b m, s₁.heap.Ns b m → (hidT s₁.heap H).Ns b m := fun b m hn => by
    obtain ⟨o, es, ep, e, d, r⟩ := hn
    exact ⟨o, es, ep, hidT_get e (free b o e fun w n z => by rw [d] at z; cases z), d, r⟩
  have KB : K.In (hidT s₁.heap H) := fun b o e => hidT_get (KX b o e) (Classical.byContradiction fun z => by
    have eb := hA b z
    subst eb
    rw [hK z] at e
    cases e)
  have md : Mod K mg (hidT s₁.heap H) := ⟨KB, names _ _ hns, ⟨mb, names _ _ hb, hbb⟩, by obtain ⟨mc, h1, h2⟩ := hlim; exact ⟨mc, names _ _ h1, h2⟩⟩
  have nof : ∀ b, b ∉ frs ([] : List Env) := fun b z => by cases z
  have e0 : Env0 P w K mg (hidT s₁.heap H) callerA [] s₁ H := ⟨rfl, md, fun _ _ e => of_hidT e, Nat.le_of_eq (hidT_size _ _), True.intro, fun b z => absurd z (nof b), hok, .of_eq hg⟩
  refine codeAny_mono (F _ KB (names _ _ hns) callerA [] s₁ H [.ref a] [.ref a] _ _ rfl hr e0 (.cons rfl .nil) hsp) fun rs s' z => ?_
  match rs, z with
  | .error _, z => exact z.elim
  | .ok .next, z => exact z.elim
  | .ok .brk, z => exact z.elim
  | .ok .cont, z => exact z.elim
  | .ok (.ret u), z =>
    obtain ⟨v, H', os, bare, un, ok', rv, ev⟩ := z
    cases (show v = V.bl true from ev)
    cases (show u = Value.bool true from rv)
    refine ⟨rfl, OldK.of_keep fun b o e => ?_, os, bare⟩
    rcases hO b with n | ⟨ob, xs, n⟩
    · exact un.keep b o e n (nof b) (by simp)
    · have h1 := (hok b _ n).1
      have h2 := (ok' b _ (un.frzs b ob _ n)).1
      rw [e] at h1
      cases h1
      exact h2
theorem lawG (KX : K.In s₁.heap) (hns : s₁.heap.Ns mainGlobals mg) (hb : s₁.heap.Ns builtinsNs mb) (hbb : ∀ x : Str, x ≠ "__name__" → mb x = bootBuiltins x) (hlim : s₁.heap.NoLimit) (hg : s₁.gens = #[])
    (ha : s₁.heap.get? a = some { cls := .type "list", data := .seq vs.toArray }) (hi : IntsAre vs ns) (hl : ns.length ≤ sizeLine) (hr : Room k callerA)
    (F : ∀ base : Heap, K.In base → base.Ns mainGlobals mg → FnG P w K mg base CX0 k fa sp)
    (hsp : ∀ H : Hp, Only H → SqL K H a (ns.map V.int) → sp [.ref a] H (fun v _ => v = .bl true) fun _ _ _ => False) :
    codeAny (model P w) callerA (.call (.ref fa) ⟨[.ref a], []⟩) (fun r s' => r = .ok (.ret (.bool true)) ∧ OldK s₁.heap s'.heap ∧ s'.os = s₁.os ∧ AllBare s'.gens) s₁ := by
  have rv := vals_ints hi
  cases ek : K.lookup a with
  | some o =>
    have eo : o = _ := Option.some.inj ((KX a o ek).symm.trans ha)
    have O0 : Only (fun _ => none) := fun _ => .inl rfl
    have S0 : SqL K (fun _ => none) a (ns.map V.int) := .inr ⟨o, vs.toArray, _, ek, by rw [eo], by rw [eo], by rw [eo], by rw [List.size_toArray, ← rv.length, List.length_map]; exact hl, by simpa using rv⟩
    exact lawOn (H := fun _ => none) KX hns hb hbb hlim hg ha hr F O0 (hsp _ O0 S0) (fun b u z => by cases z) (fun b z => absurd rfl z) fun z => absurd rfl z
  | none =>
    let H1 : Hp := fun b => if b = a then some (.frz { cls := .type "list", data := .seq vs.toArray } (.lst (ns.map V.int))) else none
    have at_ : H1 a = some (.frz { cls := .type "list", data := .seq vs.toArray } (.lst (ns.map V.int))) := if_pos rfl
    have off : ∀ b, b ≠ a → H1 b = none := fun b z => if_neg z
    have O1 : Only H1 := fun b => by
      by_cases z : b = a
      · exact .inr ⟨_, _, by rw [z]; exact at_⟩
      · exact .inl (off b z)
    refine lawOn (H := H1) KX hns hb hbb hlim hg ha hr F O1 (hsp _ O1 (.inl (.inr ⟨_, at_⟩))) (fun b u z => ?_) (fun b z => Classical.byContradiction fun q => z (off b q)) fun _ => ek
    by_cases q : b = a
    · subst q
      rw [at_] at z
      cases z
      exact ⟨ha, by rw [List.length_map]; exact hl, vs, _, rv, ha⟩
    · rw [off b q] at z
      cases z
end
/-- the goal that the head leaves -/
theorem walkG {l : PySem.W.OpenLaw} {n k : Nat} {q : Program} {loose : List Str} {XP : (Str → Option Value) → Heap → Prop} {YP : World → Heap → Prop} {d : DefRec}
    (hn : l.most = some n) (hn2 : n ≤ sizeLine) (hdf : d.params.defaults = []) (hr : Room k callerA)
    (F : ∀ (w : World) (mg : Str → Option Value) (fa : Addr) (h : Heap), YP w h → h.Ns mainGlobals mg → mg d.name = some (.ref fa) → ∃ (K : PySem.W.Frag) (sp : Sp), K.In h ∧
      (∀ (H : Hp) (a : Addr) (ns : List Int), ns.length ≤ n → Only H → SqL K H a (ns.map V.int) → sp [.ref a] H (fun v _ => v = .bl true) fun _ _ _ => False) ∧
      ∀ base : Heap, K.In base → base.Ns mainGlobals mg → FnG l.prog w K mg base CX0 k fa sp) :
    PySem.W.WalkO q loose XP YP l.row.toRowW d [] (fun f vs => PySem.call f vs) :=
  Att.attach_call hn hdf fun w s₀ s₁ mg mb fa o pm cd doc a vs ns G Y ho hd hcd hmg hobj hints hlen hg => by
    obtain ⟨K, sp, KX, hsp, hF⟩ := F w mg fa _ Y G.T.g hmg
    exact lawG KX G.T.g G.T.b G.T.builtins G.T.nolimit hg hobj hints (Nat.le_trans hlen hn2) hr hF fun H hO hS => hsp H a ns hlen hO hS
end Ver

/-! Lambdas without parameters that are kept as values. -/
namespace Ver
open PySem PySem.Spec PyProof.Rows L2 LamX NdefX
/-- a lambda's words, what it captured, its code object -/
structure LF where
  qual : Str
  params : Arguments
  body : Expr
  scope : Scope
  cl : List (Str × Addr)
  c : Addr
abbrev LF.nf (F : LF) : NF := ⟨"<lambda>", F.qual, F.params, [], F.scope, F.cl, F.c⟩
/-- such a lambda stands at f -/
def LamO (f : Addr) (F : LF) : HO := .ext fun g => ∃ pm ct : Value,
  g.get? f = some (PySem.W.kla_obj "<lambda>" F.qual F.params F.body F.scope F.cl pm F.c ct)
theorem lamO_tbl {f : Addr} {F : LF} (qs : Array Value) : LamO f F ≠ .tbl qs := by
  intro z
  unfold LamO at z
  cases z
section
variable {X : Cx} {pins : List (Addr × Obj)} {σ : L2.St} {H : Hp} {s : Shared}
/-- a lambda that was just laid is tracked -/
theorem lam_laid {F : LF} {t' : Nat} {pm ct : Value} (I : Inv X pins σ H s) :
    Inv X pins σ (upd H s.heap.objs.size (LamO s.heap.objs.size F))
      { s with toks := t', heap := s.heap.push (PySem.W.kla_obj "<lambda>" F.qual F.params F.body F.scope F.cl pm F.c ct) } := by
  have at_ : (s.heap.push (PySem.W.kla_obj "<lambda>" F.qual F.params F.body F.scope F.cl pm F.c ct)).get? s.heap.objs.size = some (PySem.W.kla_obj "<lambda>" F.qual F.params F.body F.scope F.cl pm F.c ct) := Heap.get?_push_size _ rfl
  exact I.laid (fun b u e => Heap.get?_push_of_some _ e) (Nat.le_refl _) ⟨⟨pm, ct, at_⟩, ⟨_, at_⟩, fun _ _ ⟨p, c, z⟩ st => ⟨p, c, st _ z⟩⟩
/-- what a value made by a lambda brings -/
abbrev LamK (X : Cx) (H : Hp) (T : List (Addr × Str)) (params : Arguments) (body : Expr) (scope : Scope) (Q : Value → Shared → Prop) (pins : List (Addr × Obj)) (σ : L2.St) : Prop :=
  ∀ (f c' : Addr) (H1 : Hp) (s' : Shared), Inv X pins σ H1 s' → ExtN H H1 → Tabs T H1 → H1 f = some (LamO f ⟨X.env.qual ++ "<lambda>", params, body, scope, cloFrom X.env.cells scope.names [], c'⟩) →
    H1 c' = some (CodeO c' (X.env.qual ++ "<lambda>")) → Q (.ref f) s'
theorem lam_new {T : List (Addr × Str)} {c P : Addr} {params : Arguments} {body : Expr} {scope : Scope} {pos : Pos} {E Q : Value → Shared → Prop}
    (I : Inv X pins σ H s) (TB : TabB X.base X.mg c P) (hcode : X.env.code = .ref c) (inT : (P, X.env.qual ++ "<lambda>") ∈ T)
    (one : ∀ p ∈ T, p.1 = P → p.2 = X.env.qual ++ "<lambda>") (hT : Tabs T H) (hdef : defaultsOf params X.env = ([], []))
    (fr : ∀ y ∈ scope.names, y.2 = .free → ∃ a, X.env.cells.lookup y.1 = some a) (h : LamK X H T params body scope Q pins σ) :
    wpAny (model X.prog X.w) X.A (eval (.Lambda params body scope pos) X.env) Q E s := by
  obtain ⟨ps, tabH, tri, named⟩ := hT _ inT
  have tab : s.heap.get? P = some { cls := .none, data := .fields ps } := I.hok P _ tabH
  have blt : s.heap.BuiltinsAt X.mg P := TB.bm.keeps I.bk
  refine PySem.W.kla_eval hdef ?_
  cases e : codeAmong pos ps.toList with
  | some cv =>
    obtain ⟨c', rfl, hco⟩ := named pos cv e
    refine PySem.W.kla_makeFunctionHit (mg := X.mg) (c := c) (P := P) (ps := ps) (closure_ok fr) I.ok.glob
      (I.mod.glob.keeps I.bk) hcode (TB.code.keeps I.bk) tab tri e blt fun ct h' tk hx hsz => ?_
    have I1 : Inv X pins σ H { s with toks := tk, heap := h' } := I.kept hx
    have new : H h'.objs.size = none := I1.hok.fresh (Nat.le_refl _)
    have I2 := lam_laid (t' := tk) (pm := (X.mg "__name__").getD .none) (ct := ct) (F := ⟨X.env.qual ++ "<lambda>", params, body, scope, cloFrom X.env.cells scope.names [], c'⟩) I1
    have up : ∀ b o, H b = some o → upd H h'.objs.size (LamO h'.objs.size ⟨X.env.qual ++ "<lambda>", params, body, scope, cloFrom X.env.cells scope.names [], c'⟩) b = some o :=
      fun b o eb => by rw [upd_ne (ne_of_none eb new), eb]
    exact h _ c' _ _ I2 (ExtN.of up) (hT.ext up) upd_same (up _ _ hco)
  | none =>
    refine PySem.W.kla_makeFunction (mg := X.mg) (c := c) (P := P) (ps := ps) (closure_ok fr) I.ok.glob
      (I.mod.glob.keeps I.bk) hcode (TB.code.keeps I.bk) tab tri e TB.gP blt fun c' ct h' tk hx hge hlt ⟨c2, oc, vs, t, e2, hoc, hd, hv⟩ htb => ?_
    cases e2
    have nC : H c' = none := I.hok.fresh hge
    have I1 := inv_table (t' := tk) (h' := h') (more := #[rawInt pos.line, rawInt pos.col, .ref c']) (q := X.env.qual ++ "<lambda>") I tabH
      (fun b o hb eb => hx b o hb eb) htb hge ⟨oc, vs, t, hoc, hd, hv⟩
    generalize hG : upd (upd H P (.tbl (ps ++ #[rawInt pos.line, rawInt pos.col, .ref c']))) c' (CodeO c' (X.env.qual ++ "<lambda>")) = G at I1
    have gP : G P = some (.tbl (ps ++ #[rawInt pos.line, rawInt pos.col, .ref c'])) := by rw [← hG, upd_ne (ne_of_none tabH nC), upd_same]
    have gC : G c' = some (CodeO c' (X.env.qual ++ "<lambda>")) := by rw [← hG, upd_same]
    have gO : ∀ b o, H b = some o → b ≠ P → G b = some o := fun b o eb nb => by rw [← hG, upd_ne (ne_of_none eb nC), upd_ne nb, eb]
    have ext : ExtN H G := fun b o eb n => gO b o eb fun z => by
      rw [z, tabH] at eb
      exact n ps (Option.some.inj eb).symm
    have T1 : Tabs T G := fun p hp => by
      by_cases hb : p.1 = P
      · rw [one p hp hb, hb]
        have eL : (ps ++ #[rawInt pos.line, rawInt pos.col, .ref c']).toList = ps.toList ++ [rawInt pos.line, rawInt pos.col, .ref c'] := by
          rw [Array.toList_append]
        refine ⟨_, gP, ?_, fun p' cv hcv => ?_⟩
        · rw [eL]
          exact PySem.TriplesOk_snoc _ _ _ _ tri
        · rw [eL] at hcv
          rcases among_app _ tri hcv with z | z
          · obtain ⟨c0, e1, e3⟩ := named p' cv z
            exact ⟨c0, e1, ext _ _ e3 codeO_ne⟩
          · exact ⟨c', z, gC⟩
      · obtain ⟨ps', a1, a2, a3⟩ := hT p hp
        refine ⟨ps', gO _ _ a1 hb, a2, fun p' cv hcv => ?_⟩
        obtain ⟨c0, e1, e3⟩ := a3 p' cv hcv
        exact ⟨c0, e1, ext _ _ e3 codeO_ne⟩
    have new : G h'.objs.size = none := I1.hok.fresh (Nat.le_refl _)
    have I2 := lam_laid (t' := tk) (pm := (X.mg "__name__").getD .none) (ct := ct) (F := ⟨X.env.qual ++ "<lambda>", params, body, scope, cloFrom X.env.cells scope.names [], c'⟩) I1
    have up : ∀ b o, G b = some o → upd G h'.objs.size (LamO h'.objs.size ⟨X.env.qual ++ "<lambda>", params, body, scope, cloFrom X.env.cells scope.names [], c'⟩) b = some o :=
      fun b o eb => by rw [upd_ne (ne_of_none eb new), eb]
    exact h _ c' _ _ I2 (ext.trans (ExtN.of up)) (T1.ext up) upd_same (up _ _ gC)
end
/-! ### the value -/
section
variable {X : Cx}
/-- lambda: body -/
def tLamV (T : List (Addr × Str)) (mk : Addr → LF) : TE := fun σ H Q => Tabs T H ∧ ∀ (f c' : Addr) (H1 : Hp), ExtN H H1 → Tabs T H1 → H1 f = some (LamO f (mk c')) → H1 c' = some (CodeO c' (mk c').qual) → Q (.ref f) H1
theorem pe_lam {T : List (Addr × Str)} {c P : Addr} {params : Arguments} {body : Expr} {scope : Scope} {pos : Pos} {mk : Addr → LF} (TB : TabB X.base X.mg c P) (hcode : X.env.code = .ref c) (inT : (P, X.env.qual ++ "<lambda>") ∈ T)
    (one : ∀ p ∈ T, p.1 = P → p.2 = X.env.qual ++ "<lambda>") (hdef : defaultsOf params X.env = ([], [])) (L : LamS X.env.scope scope)
    (hmk : mk = fun c' => ⟨X.env.qual ++ "<lambda>", params, body, scope, cloFrom X.env.cells scope.names [], c'⟩) :
    PE X (.Lambda params body scope pos) (tLamV T mk) := by
  subst hmk
  refine ⟨fun pins s σ H Q I ⟨hT, h⟩ => lam_new I TB hcode inT one hT hdef (L.has I.ok) fun f c' H1 s' I1 x t hf hc => ?_⟩
  exact ⟨.ref f, H1, I1, rfl, h f c' H1 x t hf hc⟩
end
/-! ### its promise -/
/-- what a lambda promises of a call; ws: what its captured names hold then -/
abbrev LSp := List (Option V) → Hp → VK → XK → Prop
def LOk (P : Program) (w : World) (K : PySem.W.Frag) (mg : Str → Option Value) (base : Heap) (CX : CXT) (k : Nat) (f : Addr) (F : LF) (fr : List Str) (sp : LSp) : Prop :=
  ∀ (A : Around) (outer : List Env) (s : Shared) (H : Hp) (ws : List (Option V)) (Q : VK) (E : XK), A.guards = some [] → Room k A →
    Env0 P w K mg base A outer s H → H f = some (LamO f F) → H F.c = some (CodeO F.c F.qual) → CellsAt F.cl fr ws s.heap H → sp ws H Q E →
    codeAny (model P w) A (.call (.ref f) ⟨[], []⟩) (CR CX outer P w H s Q E) s
section
variable {P : Program} {w : World} {K : PySem.W.Frag} {mg : Str → Option Value} {base : Heap} {CX : CXT} {k j : Nat} {f : Addr} {F : LF} {N fr : List Str} {sp : LSp}
theorem LOk.mono (o : LOk P w K mg base CX j f F fr sp) (h : j ≤ k) : LOk P w K mg base CX k f F fr sp :=
  fun A outer s H ws Q E g hr => o A outer s H ws Q E g (hr.mono h)
/-- by its body -/
theorem lok_of (S : NScope N [] fr F.scope)
    (hb : ∀ pm ct : Value, bindArgs (PySem.W.kla_fn "<lambda>" F.qual F.params F.body F.scope F.cl pm (.ref F.c) ct) ⟨[], []⟩ = pure [])
    (body : ∀ (A : Around) (outer : List Env) (s : Shared) (H : Hp) (ws : List (Option V)) (Q : VK) (E : XK), A.guards = some [] → Room k (A.deeper (envF F.nf f s.heap.objs.size)) →
      ws.length = fr.length → sp ws H Q E → ∃ te : TE, PE (ncx CX P w K mg base N F.nf f A outer s H E) F.body te ∧ te (startF N [] ws) H Q) :
    LOk P w K mg base CX (k + 1) f F fr sp := by
  intro A outer s H ws Q E hg hr e0 hf hc C hsp
  obtain ⟨⟨pm, ct, at_⟩, _, _⟩ := e0.hok f _ hf
  have room : s.heap.NoLimit := e0.mod.nolimit.keeps fun b o e => (e0.bs b o e).1
  obtain ⟨te, ht, hq⟩ := body A outer s H ws Q E hg (hr.deeper _) C.len hsp
  refine PySem.W.kla_callFunE hr.depth at_ rfl S.co S.gen rfl (codeO_at e0.hok hc) ?_
  rw [hb]
  refine wpAny_pure (wpAny_newFunctionEnv S.nocell (fun y hy => absurd hy (by simp)) (fun h₁ hns hsb => ⟨room.fresh _ hsb, ?_⟩) S.kind)
  have kp : ∀ b o, s.heap.get? b = some o → h₁.get? b = some o := fun b o e =>
    hsb.extBut b o (Nat.ne_of_lt (Heap.lt_size e)) (Heap.get?_push_of_some _ e)
  have I := inv_startN (CX := CX) (P := P) (w := w) (K := K) (mg := mg) (base := base) (f := f) (F := F.nf) (E := E) (us := []) (vs := []) (tk := s.toks + ([] : List (Str × Value)).length)
    S hr.hd e0 rfl .nil C hns kp
  show codeAny _ _ (.expr F.body (envF F.nf f s.heap.objs.size)) _ _
  refine PySem.W.kla_codeExpr (wpAny_mono (ht.run [] _ _ H _ I hq) (fun v s' z => ?_) fun _ _ z => z)
  obtain ⟨x, H', J, rv, q⟩ := z
  exact ⟨x, H', J.os, J.bare, J.base, J.hok, rv, q⟩
end
/-! ### its call, by a def that got it -/
theorem cells_on {cl : List (Str × Addr)} {fr : List Str} {ws : List (Option V)} {h h' : Heap} {H H' : Hp} {fs : List Addr} (C : CellsAt cl fr ws h H) (u : Un fs [] H H' h h') : CellsAt cl fr ws h' H' := by
  have cell : ∀ {a : Addr} {v : Option Value}, H a = none → h.IsCell a v → h'.IsCell a v := fun {a v} n ⟨o, ho, hd⟩ => by
    obtain ⟨sl, q⟩ := u.any ho n (by simp)
    exact ⟨_, q, hd⟩
  refine ⟨C.len, fun y a e => ?_, C.inj, fun i y e => ?_⟩
  · obtain ⟨n, v, z⟩ := C.all y a e
    obtain ⟨o, ho, _⟩ := id z
    exact ⟨u.free a o ho n (by simp), v, cell n z⟩
  · obtain ⟨a, ha, hv⟩ := C.has i y e
    refine ⟨a, ha, fun v ev => ?_⟩
    obtain ⟨x, r, z⟩ := hv v ev
    exact ⟨x, r, cell (C.all y a ha).1 z⟩
section
variable {X : Cx} {CX : CXT} {k j i : Nat} {f : Addr} {F : LF} {fr : List Str} {sp : LSp} {E : L2.St → XK} {x : Str} {p pos : Pos} {ws : List (Option V)}
/-- x(), x a name that holds the lambda; the cells are known from the frame's entry on -/
theorem pe_lcall (Fn : LOk X.prog X.w X.K X.mg X.base CX k f F fr sp) (C : CellsAt F.cl fr ws X.s_0.heap X.H_0) (hex : X.ex = []) (hr : Room k X.A) (hgd : X.A.guards = some []) (hx : ∀ σ, PassesAt CX X σ (E σ))
    (hN : X.N[i]? = some x) (hv : Vis X.env.scope x) (hd : (x == ("__debug__" : Str)) = false := by decide) (hcd : (x == ("__classdict__" : Str)) = false := by decide) :
    PE X (.Call (.Name x p) [] [] pos) (fun σ H Q => σ[i]? = some (some (.ref f)) ∧ H f = some (LamO f F) ∧ H F.c = some (CodeO F.c F.qual) ∧ sp ws H Q (E σ)) := by
  refine ⟨fun pins s σ H Q I h => ?_⟩
  obtain ⟨hs, hf, hc, q⟩ := h
  refine wpAny_Call_Name_kw (thn ((pe_var (pos := p) hN hv hd hcd).run pins s σ H (fun v H1 => v = .ref f ∧ H1 = H) I ⟨.ref f, hs, rfl, rfl⟩) fun u s1 ⟨v, H1, I1, r1, e1, e2⟩ => ?_)
  subst e1
  subst e2
  cases (show u = Value.ref f from r1)
  obtain ⟨⟨pm, ct, at_⟩, _, _⟩ := I1.hok f _ hf
  refine PySem.W.callWith_F0 (first := []) ⟨_, _, _, _, at_⟩ ?_
  have C1 : CellsAt F.cl fr ws s1.heap H1 := cells_on (fs := X.fs) C (by
    have u := I1.base
    rw [hex] at u
    exact u)
  exact wpAny_call (codeAny_mono (Fn X.A X.stack s1 H1 ws Q (E σ) hgd hr I1.env0 hf hc C1 q) fun rs s' hq => by
    match rs, hq with
    | .error e', hq => exact hx σ pins H1 s1 e' s' I1 hq
    | .ok (.ret u), hq => exact I1.after hq
    | .ok .next, hq => exact hq.elim
    | .ok .brk, hq => exact hq.elim
    | .ok .cont, hq => exact hq.elim)
end
/-! ### a def that gets a lambda, called where the cells are -/
/-- the promise of the def at g of a call with the lambda F at f -/
def TOk (P : Program) (w : World) (K : PySem.W.Frag) (mg : Str → Option Value) (base : Heap) (CX : CXT) (k : Nat) (g f : Addr) (F : LF) (fr : List Str) (sp : LSp) : Prop :=
  ∀ (A : Around) (outer : List Env) (s : Shared) (H : Hp) (ws : List (Option V)) (Q : VK) (E : XK), A.guards = some [] → Room k A →
    Env0 P w K mg base A outer s H → H f = some (LamO f F) → H F.c = some (CodeO F.c F.qual) → CellsAt F.cl fr ws s.heap H → sp ws H Q E →
    codeAny (model P w) A (.call (.ref g) ⟨[.ref f], []⟩) (CR CX outer P w H s Q E) s
section
variable {P : Program} {w : World} {K : PySem.W.Frag} {mg : Str → Option Value} {base : Heap} {CX : CXT} {k : Nat} {g f : Addr} {F : LF} {fd : FuncData} {fr : List Str} {sp : LSp}
variable {x qual : Str} {params : Arguments} {body : List Stmt} {scope : Scope} {N : List Str} {y : Str} {kws : List (Str × V)}
theorem tok_of (D : FunD K x qual params body scope [] kws g fd) (S : FnScope N [y] scope)
    (hb : ∀ (s : Shared) (us : List Value), us.length = 1 → BindsTo s fd ⟨us, []⟩ (List.zip [y] us))
    (hbody : ∀ (cdv : Value) (A : Around) (outer : List Env) (s : Shared) (H : Hp) (ws : List (Option V)) (Q : VK) (E : XK), A.guards = some [] → Room k (A.deeper (envOfC qual scope s.heap.objs.size g cdv)) →
      H f = some (LamO f F) → H F.c = some (CodeO F.c F.qual) → CellsAt F.cl fr ws s.heap H → sp ws H Q E →
      ∃ t, PSs (cxOf CX P w K mg base N qual scope g cdv A outer s H E) body t ∧ t { nx := fun _ H' => Q .non H', rt := Q } (start N [.ref f]) H) : TOk P w K mg base CX (k + 1) g f F fr sp := by
  obtain ⟨⟨oc, od, dV, kV, doc, pm, an, cdv, ct, osl, rfl, lk, hcd, _⟩, _⟩ := D
  intro A outer s H ws Q E hg hr e0 hf hc C q
  exact run_ofS (us := [.ref f]) (vs := [.ref f]) lk hcd S hr e0 (hb s [.ref f] rfl) (.cons rfl .nil) rfl fun hr' => hbody cdv A outer s H ws Q E hg hr' hf hc C q
end
section
variable {X : Cx} {CX : CXT} {k : Nat} {g : Addr} {E : XK} {x : Str} {p pos : Pos} {e : Expr} {t : TA} {I0 : Type}
/-- x(e), e a lambda of a family -/
theorem pe_tcall {fam : I0 → Addr → LF} {fr : I0 → List Str} {js : I0 → List Nat} {sp : I0 → LSp} (Fn : ∀ i f c', TOk X.prog X.w X.K X.mg X.base CX k g f (fam i c') (fr i) (sp i)) (cp : ∀ i c', X.Ok → Caps X (fam i c').cl (fr i) (js i)) (hr : Room k X.A) (hgd : X.A.guards = some []) (hg : Gl X x)
    (hm : X.mg x = some (.ref g)) (hk : PySem.W.keepIn X.K (.ref g) = true) (hx : Passes CX X E) (ha : PA X [e] t) (hdb : (x == ("__debug__" : Str)) = false := by decide) (he : starEach [e] X.env = (false, eval e X.env) :: starEach [] X.env := by rfl)
    (hpl : (backTo pos (starEach [] X.env)).any (·.1) = false := by rfl) :
    PE X (.Call (.Name x p) [e] [] pos) (fun σ H Q => t σ H fun vs H1 => ∃ i f c', vs = [.ref f] ∧ H1 f = some (LamO f (fam i c')) ∧ H1 (fam i c').c = some (CodeO (fam i c').c (fam i c').qual) ∧ sp i ((js i).map (slotAt σ)) H1 Q E) := by
  refine ⟨fun pins s σ H Q I h => wpAny_Call_Name_kw (ld_glob I hg hm (PySem.W.callWith_K (h₀ := X.base) I.ok.mod.kin hk (thn (ha.run pos pins s σ H _ I h) fun us s1 z => ?_) he hpl) hdb)⟩
  obtain ⟨vs, H1, I1, r, i, f, c', rfl, hf, hc, q⟩ := z
  match us, r with
  | [u], .cons ru .nil =>
    cases (show u = Value.ref f from ru)
    refine ⟨I1.kIn, wpAny_call (codeAny_mono (Fn i f c' X.A X.stack s1 H1 _ Q E hgd hr I1.env0 hf hc (cells_of I1 (cp i c' I1.ok)) q) fun rs s' hq => ?_)⟩
    match rs, hq with
    | .error e', hq => exact hx pins σ H1 s1 e' s' I1 hq
    | .ok (.ret u), hq => exact I1.after hq
    | .ok .next, hq => exact hq.elim
    | .ok .brk, hq => exact hq.elim
    | .ok .cont, hq => exact hq.elim
end
end Ver

/-! Methods called by names; a try with two clauses, the first one with a name; a law's end with the law's own table. -/
namespace Ver
open PySem PySem.Spec PyProof.Rows L2
/-! ### by names -/
/-- f(e, .., k = v, ..), no defaults -/
theorem kbN {K : PySem.W.Frag} {x qual : Str} {params : Arguments} {body : List Stmt} {scope : Scope} {f : Addr} {fd : FuncData} {ps : List Str} (F : FunD K x qual params body scope [] [] f fd) (n : Nat) (ks : List Str) (g : {α : Type} → List α → List α → List α)
    (hrel : ∀ {vs zs : List V} {us ws : List Value}, Vals vs us → Vals zs ws → Vals (g vs zs) (g us ws))
    (h : ∀ (kV doc pm : Value) (an : Option Addr) (cdv ct : Value) (us ws : List Value), us.length = n → ws.length = ks.length → bindArgs (PySem.W.fnOf x qual params body scope .none kV doc pm an cdv ct) ⟨us, ks.zip ws⟩ = pure (ps.zip (g us ws))) :
    KBn K fd ps n ks (fun us ws => g us ws) (fun vs zs => g vs zs) := by
  obtain ⟨oc, od, dV, kV, doc, pm, an, cdv, ct, osl, rfl, lk, hcd, hD, hK⟩ := F.ex
  rcases hD with ⟨_, rfl⟩ | ⟨e, _⟩
  · exact ⟨fun s us ws X l1 l2 => BindsTo.of_looks fun M => by
      rw [h kV doc pm an cdv ct us ws l1 l2]
      exact .of_pure rfl, hrel⟩
  · exact absurd rfl e
/-- a promise of calls with so many places and these names -/
def FnK (P : Program) (w : World) (K : PySem.W.Frag) (mg : Str → Option Value) (base : Heap) (CX : CXT) (k : Nat) (f : Addr) (n : Nat) (ks : List Str) (gV : List V → List V → List V) (sp : Sp) : Prop :=
  ∀ (A : Around) (outer : List Env) (s : Shared) (H : Hp) (us ws : List Value) (vs zs : List V) (Q : VK) (E : XK), A.guards = some [] → Room k A → Env0 P w K mg base A outer s H →
    Vals vs us → us.length = n → Vals zs ws → ws.length = ks.length → sp (gV vs zs) H Q E → codeAny (model P w) A (.call (.ref f) ⟨us, ks.zip ws⟩) (CR CX outer P w H s Q E) s
section
variable {P : Program} {w : World} {K : PySem.W.Frag} {mg : Str → Option Value} {base : Heap} {CX : CXT} {k n : Nat} {f : Addr} {fd : FuncData} {sp : Sp}
variable {x qual : Str} {params : Arguments} {body : List Stmt} {scope : Scope} {N ps ks : List Str} {kws : List (Str × V)} {g : List Value → List Value → List Value} {gV : List V → List V → List V}
theorem okK (F : FunD K x qual params body scope [] kws f fd) (S : FnScope N ps scope) (hb : KBn K fd ps n ks g gV) (len : ∀ vs H Q E, sp vs H Q E → vs.length = ps.length)
    (hbody : ∀ (cdv : Value) (A : Around) (outer : List Env) (s : Shared) (H : Hp) (vs : List V) (Q : VK) (E : XK), A.guards = some [] → Room k (A.deeper (envOfC qual scope s.heap.objs.size f cdv)) → sp vs H Q E →
      ∃ t, PSs (cxOf CX P w K mg base N qual scope f cdv A outer s H E) body t ∧ t { nx := fun _ H' => Q .non H', rt := Q } (start N vs) H) : FnK P w K mg base CX (k + 1) f n ks gV sp := by
  obtain ⟨⟨oc, od, dV, kV, doc, pm, an, cdv, ct, osl, rfl, lk, hcd, _⟩, _⟩ := F
  intro A outer s H us ws vs zs Q E hg hr e0 r ln rz lz hsp
  have KX : K.In s.heap := e0.mod.kin.keeps fun b o e => (e0.bs b o e).1
  refine StX.run_bnd (G := fun xs H2 => xs = gV vs zs ∧ H2 = H) lk hcd S hr e0 (fun A' Ex Q' q => ?_) fun s2 H2 xs z hr' => ?_
  · exact hb.to s us ws KX ln lz _ A' Ex Q' (q s H _ _ e0 Un.refl rfl (fun _ _ z => z) (hb.rel r rz) (len _ _ _ _ hsp) ⟨rfl, rfl⟩)
  · obtain ⟨rfl, rfl⟩ := z
    exact hbody cdv A outer s2 H2 _ Q E hg hr' hsp
end
section
variable {X : Cx} {CX : CXT} {k : Nat} {f : Addr} {sp : Sp} {E : XK} {m : Str} {pos apos : Pos} {o : Expr} {ta : TE} {kws : List Keyword} {ks : List Str} {gV : List V → List V → List V} {tk : TA}
/-- o.m(k = e, ..) -/
def tMethK (K : PySem.W.Frag) (m : Str) (f : Addr) (n : Nat) (gV : List V → List V → List V) (sp : Sp) (E : XK) (ta : TE) (t : TA) : TE := fun σ H Q => ta σ H fun x H1 => ∃ a C dx fs, x = .ref a ∧ H1 a = some (.ins C dx fs) ∧ Cls K C ∧ Meth K C m f ∧ fs.lookup m = none ∧
  t σ H1 fun zs H2 => zs.length = n ∧ sp (gV [.ref a] zs) H2 Q E
theorem pe_methK {pl : Sem Bool} (he : PE X o ta) (hk : PySem.W.keepIn X.K (.ref f) = true) (F : FnK X.prog X.w X.K X.mg X.base CX k f 1 ks gV sp) (hr : Room k X.A) (hgd : X.A.guards = some []) (hx : Passes CX X E) (ha : PK X kws tk)
    (hall : (backToKw pos (keywordEach kws X.env)).all (·.1.isSome) = true := by rfl) (hks : (backToKw pos (keywordEach kws X.env)).filterMap (·.1) = ks := by rfl)
    (hpl : ((backTo pos (starEach [] X.env)).any (·.1) || (backToKw pos (keywordEach kws X.env)).any (·.1.isNone)) = false := by rfl)
    (ht : eval (.Call (.Attribute o m apos) [] kws pos) X.env = (do
      let ov ← eval o X.env
      standAt apos.atName
      let (g, first) ← holding [ov] (getMethod ov m pl)
      callWith pos g first (backTo pos (starEach [] X.env)) (backToKw pos (keywordEach kws X.env))) := by rfl) :
    PE X (.Call (.Attribute o m apos) [] kws pos) (tMethK X.K m f ks.length gV sp E ta tk) := by
  refine ⟨fun pins s σ H Q I h => PySem.W.methodCall_KW (pl := pl) (thn (he.run pins s σ H _ I h) fun u s1 z => ?_) ht⟩
  obtain ⟨x, H1, I1, rx, a, C, dx, fs, rfl, ea, c, hm, l, q⟩ := z
  cases (show u = Value.ref a from rx)
  refine getmeth_ok I1 ea c hm l ?_
  refine PySem.W.callWith_KW0 (first := [.ref a]) (h₀ := X.base) I.ok.mod.kin hk hall ?_ hpl
  refine thn (ha.run pos pins s1 σ H1 _ I1 q) fun ws s2 ⟨zs, H2, I2, rz, lz, q2⟩ => ⟨I2.kIn, ?_⟩
  rw [hks]
  exact wpAny_call (codeAny_mono (F X.A X.stack s2 H2 [.ref a] ws [.ref a] zs Q E hgd hr I2.env0 (.cons rfl .nil) rfl rz (rz.length.symm.trans lz) q2) fun rs s' hq => by
    match rs, hq with
    | .error e', hq => exact hx pins σ H2 s2 e' s' I2 hq
    | .ok (.ret u), hq => exact I2.after hq
    | .ok .next, hq => exact hq.elim
    | .ok .brk, hq => exact hq.elim
    | .ok .cont, hq => exact hq.elim)
end
/-! ### a star parameter, errors let out -/
theorem ub_back {fs : List Addr} {H H' : Hp} {h B h' : Heap} {o : Obj} {u : HO} (n0 : H h.objs.size = none) (x : UB fs (upd H h.objs.size u) H' (h.push o) B h') : UB fs H H' h B h' := by
  have lt : ∀ {b : Addr} {v : Obj}, h.get? b = some v → b ≠ h.objs.size := fun e => Nat.ne_of_lt (Heap.lt_size e)
  have up : ∀ {b : Addr} {v : Obj}, h.get? b = some v → (h.push o).get? b = some v := fun e => Heap.get?_push_of_some _ e
  exact {
    keep := fun b v e n nf => x.keep b v (up e) ((upd_ne (lt e)).trans n) nf
    slot := fun b v e m => x.slot b v (up e) m
    free := fun b v e n => x.free b v (up e) ((upd_ne (lt e)).trans n)
    there := fun b v e nf => x.there b v (up e) nf
    tups := fun b xs e => x.tups b xs ((upd_ne (ne_of_none e n0)).trans e)
    frzs := fun b v xs e => x.frzs b v xs ((upd_ne (ne_of_none e n0)).trans e)
    tbls := fun b ps e => x.tbls b ps ((upd_ne (ne_of_none e n0)).trans e) }
theorem okStarX {P : Program} {w : World} {K : PySem.W.Frag} {mg : Str → Option Value} {base : Heap} {k : Nat} {f : Addr} {fd : FuncData} {sp : Sp} {x qual pr : Str} {params : Arguments} {body : List Stmt} {scope : Scope} {N ps : List Str} {kws : List (Str × V)}
    (F : FunD K x qual params body scope [] kws f fd) (S : FnScope N (ps ++ [pr]) scope)
    (hb : ∀ (kV doc pm : Value) (an : Option Addr) (cdv ct : Value) (us rest : List Value), us.length = ps.length → bindArgs (PySem.W.fnOf x qual params body scope .none kV doc pm an cdv ct) ⟨us ++ rest, []⟩ = (newTuple rest >>= fun t => pure (ps.zip us ++ [(pr, t)])))
    (hbody : ∀ (cdv : Value) (A : Around) (outer : List Env) (s : Shared) (H : Hp) (vs : List V) (Q : VK) (E : XK), A.guards = some [] → Room k (A.deeper (envOfC qual scope s.heap.objs.size f cdv)) → sp vs H Q E →
      ∃ t, PSs (cxOf (L2.CX P w) P w K mg base N qual scope f cdv A outer s H E) body t ∧ t { nx := fun _ H' => Q .non H', rt := Q } (start N vs) H) :
    FnG P w K mg base (L2.CX P w) (k + 1) f (fun vs H Q E => ∃ ws rest, vs = ws ++ rest ∧ ws.length = ps.length ∧ rest.length ≤ sizeLine ∧ ∀ p, H p = none → sp (ws ++ [V.ref p]) (upd H p (.tup rest)) Q E) := by
  obtain ⟨⟨oc, od, dV, kV, doc, pm, an, cdv, ct, osl, rfl, lk, hcd, hD, _⟩, _⟩ := F
  have eD : dV = .none := by
    rcases hD with ⟨_, e⟩ | ⟨e, _⟩
    · exact e
    · exact absurd rfl e
  subst eD
  intro A outer s H us vs Q E hg hr e0 r hsp
  obtain ⟨ws, rest, rfl, hl, hz, hq⟩ := hsp
  obtain ⟨u1, u2, rfl, r1, r2⟩ := StX.vals_split r
  have n0 : H s.heap.objs.size = none := e0.hok.fresh (Nat.le_refl _)
  have l1 : u1.length = ps.length := r1.length.symm.trans hl
  refine StX.run_bnd lk hcd S hr e0 (G := fun xs H2 => ∃ p, H p = none ∧ xs = ws ++ [V.ref p] ∧ H2 = upd H p (.tup rest)) (fun A' Ex Q' h => ?_) fun s2 H2 xs g hr' => ?_
  · rw [hb _ _ _ _ _ _ u1 u2 l1]
    have new : ObjOk P w (upd H s.heap.objs.size (.tup rest)) (s.heap.push ({ cls := .type "tuple", data := .seq u2.toArray } : Obj)) s.heap.objs.size (.tup rest) := ⟨hz, u2, r2, ⟨_, Heap.get?_push_size _ rfl, rfl, _, rfl⟩⟩
    have z := h _ _ (ws ++ [V.ref s.heap.objs.size]) (u1 ++ [Value.ref s.heap.objs.size]) (StX.env0_laid e0 new) (StX.un_laid (fs := frs outer) (s := s) n0) rfl (fun e s' ⟨a, B, H', cls, d, z1, z2, z3, z4, z5⟩ => ⟨a, B, H', cls, d, z1, z2, z3, ub_back n0 z4, z5⟩) (r1.append (.cons rfl .nil))
      (by rw [List.length_append, List.length_append, hl] <;> rfl) ⟨_, n0, rfl, rfl⟩
    rw [List.zip_append l1.symm] at z
    exact wpAny_bind (wpAny_newTuple (wpAny_pure z) (by rw [← r2.length]; exact hz))
  · obtain ⟨p, hp, rfl, rfl⟩ := g
    obtain ⟨t, ht, q⟩ := hbody cdv A outer s2 _ _ Q E hg hr' (hq p hp)
    exact ⟨t, ht, q⟩
/-! ### two clauses -/
section
variable {X : Cx} {x x2 n : Str} {c c2 : Value} {i : Nat} {body : List Stmt} {w1 w2 : List Stmt} {b1 b2 : Stmt} {q1 q2 r1 r2 pos : Pos} {tb : WX → TS} {t1 t2 : Addr → Value → Option Addr → TS} {Wout : WX}
theorem ps_try_as2 (stk : X.stack = X.env :: X.outer) (hf : X.env.frame = some X.env.locals) (hN : X.N.Nodup) (hi : X.N[i]? = some n) (loc : X.env.kindOf n = some .local) (hc : Names X x c) (hc2 : Names X x2 c2) (tk : Takes X Wout)
    (hb : ∀ (W : WX) (pn : List (Addr × Obj)) (xe : Value → Shared → Prop), Takes (X.tr pn xe) W → PassesOwn (model X.prog X.w) X.A X.env xe → PSs (X.tr pn xe) body (tb W))
    (s1 : ∀ (a : Addr) (oe : Obj) (cls : Value) (d : Option Addr) (pn : List (Addr × Obj)), Zc cls d oe → (∃ vs, oe.data = .fields vs) → PSs (X.suite a ((a, oe) :: pn)) (b1 :: w1) (t1 a cls d))
    (s2 : ∀ (a : Addr) (oe : Obj) (cls : Value) (d : Option Addr) (pn : List (Addr × Obj)), Zc cls d oe → (∃ vs, oe.data = .fields vs) → PSs (X.suite a ((a, oe) :: pn)) (b2 :: w2) (t2 a cls d)) :
    PS X (.Try body [.ExceptHandler (some (.Name x q1)) (some n) (b1 :: w1) r1, .ExceptHandler (some (.Name x2 q2)) none (b2 :: w2) r2] [] [] pos) (fun D σ H => tb (wAs X.K c i t1 (wOnly X.K c2 t2 Wout D) D) D σ H) := by
  refine ⟨fun pins s σ H D I h => ?_⟩
  have ok := I.ok
  have frm : X.A.frames = some (X.env :: X.outer) := ok.frames.trans (congrArg some stk)
  refine wpAny_Try_except (wpAny_mono ((hb _ (X.pn ++ pins) (fun e s₁ => wpAny (model X.prog X.w) X.A (noteFrame e X.env) (fun _ s₂ => wpAny (model X.prog X.w) X.A (setFlight e none) (fun _ s₃ =>
    wpAny (model X.prog X.w) X.A (handleBy e X.env [.ExceptHandler (some (.Name x q1)) (some n) (b1 :: w1) r1, .ExceptHandler (some (.Name x2 q2)) none (b2 :: w2) r2])
      (SP X pins D) X.xe s₃) X.xe s₂) X.xe s₁) (fun u s' xx => ?_) PassesOwn.looking).run [] s σ H D (I.toTry _) h) (fun f sE z => ?_) fun _ _ z => z)
  · obtain ⟨a, B, sI, pins', σ', H', cls, d, rfl, Jt, nb, up, sky, na, os, ag, b, m1, yes, no⟩ := xx
    have J : Inv X pins σ' H' sI := Jt.ofTry ok
    rw [stk] at sky
    show wpAny (model X.prog X.w) X.A (noteFrame (.ref a) X.env) _ _ _
    refine Sky.land Zc.steady frm hf sky fun h3 fl3 up3 => ?_
    have J3 : Inv X pins σ' H' { s' with heap := h3 } := J.landed nb fl3.1 (up.trans up3) os ag
    obtain ⟨o3, v3, e3, z3, d3⟩ := fl3.there
    have off : a ∉ frs (X.env :: X.outer) := fun hm => by
      obtain ⟨_, o', e', nf⟩ := fl3.2.2.1.mem hm
      rw [e3] at e'
      cases e'
      exact nf _ d3
    have offL : a ≠ X.env.locals := fun z => off (List.mem_filterMap.mpr ⟨X.env, List.mem_cons_self, by rw [hf, z]⟩)
    have offF : a ∉ X.fs := fun hm => by
      obtain ⟨e, he, q⟩ := List.mem_filterMap.mp hm
      exact off (List.mem_filterMap.mpr ⟨e, List.mem_cons_of_mem _ he, q⟩)
    have S3 := J3.suite e3 d3 na offL offF
    have read : ∀ {y : Str} {cy : Value} {np : Pos} {Q E : Value → Shared → Prop}, Names X y cy → Q cy { s' with heap := h3 } →
        wpAny (model X.prog X.w) (X.A.mark (some (.ref a))) (eval (.Name y np) X.env) Q E { s' with heap := h3 } := fun {y cy np Q E} hy q => by
      obtain ⟨hg, db, hm | ⟨hm, hv, hn⟩⟩ := hy
      · exact ld_glob (X := X.suite a ((a, o3) :: (X.pn ++ pins))) S3 hg hm q db
      · exact ld_blt (X := X.suite a ((a, o3) :: (X.pn ++ pins))) S3 hg hm hv q hn db
    have ty : PySem.W.Looks (model X.prog X.w) h3 (typeOf (.ref a)) cls := fun A Q E s k q =>
      wpAny_typeOf_ref (k _ _ e3) (by rw [z3.1]; exact q)
    refine wpAny_handleBy_cons (codeAny_handlers_test (read hc ((PySem.W.exm_one (M := model X.prog X.w) J3.kIn ty m1).here ?_))) (by intro q; cases q)
    cases b with
    | true =>
      refine codeAny_handlers_suite_as (HandSPX.lands_againZ fl3 fun h4 fl4 up4 => ?_)
      have J4 : Inv X pins σ' H' { s' with heap := h4 } := J.landed nb fl4.1 ((up.trans up3).trans up4) os ag
      obtain ⟨o4, v4, e4, z4, d4⟩ := fl4.there
      refine store_ok (X := X.suite a ((a, o4) :: (X.pn ++ pins))) (v := .ref a) (J4.suite e4 d4 na offL offF) hN hi (.inl loc) rfl (fun s5 S5 => ?_) (.inr loc)
      refine wpAny_mono ((s1 a o4 cls d (X.pn ++ pins) z4 ⟨_, d4⟩).run [] s5 _ H' _ S5 (yes rfl a na)) (fun f s6 z => ?_) fun _ _ z => z.elim
      have fin : ∀ {σ6 : L2.St} {H6 : Hp} {Q : Shared → Prop}, Inv (X.suite a ((a, o4) :: (X.pn ++ pins))) [] σ6 H6 s6 → (∀ s7, Inv X pins (σ6.set i none) H6 s7 → Q s7) →
          wpAny (model X.prog X.w) X.A (do bindName X.env n .none; unbindBehindTheSuite X.env n r1) (fun _ s7 => Q s7) X.xe s6 :=
        fun {σ6 H6 Q} S6 hq => gone_ok (S6.unsuite ok) hN hi loc hq
      match f, z with
      | .next, ⟨_, _, S6, q6⟩ => exact fin S6 fun s7 J7 => ⟨_, _, J7, q6⟩
      | .brk, ⟨_, _, S6, q6⟩ => exact fin S6 fun s7 J7 => ⟨_, _, J7, q6⟩
      | .cont, ⟨_, _, S6, q6⟩ => exact fin S6 fun s7 J7 => ⟨_, _, J7, q6⟩
      | .ret u, ⟨_, _, _, S6, r6, q6⟩ => exact fin S6 fun s7 J7 => ⟨_, _, _, J7, r6, q6⟩
    | false =>
      obtain ⟨b, m2, yes2, no2⟩ := no rfl
      show wpAny _ X.A (handleBy (.ref a) X.env [.ExceptHandler (some (.Name x2 q2)) none (b2 :: w2) r2]) _ _ _
      refine wpAny_handleBy_cons (codeAny_handlers_test (read hc2 ((PySem.W.exm_one (M := model X.prog X.w) J3.kIn ty m2).here ?_))) (by intro q; cases q)
      cases b with
      | true =>
        refine codeAny_handlers_suite (HandSPX.lands_againZ fl3 fun h4 fl4 up4 => ?_)
        have J4 : Inv X pins σ' H' { s' with heap := h4 } := J.landed nb fl4.1 ((up.trans up3).trans up4) os ag
        obtain ⟨o4, v4, e4, z4, d4⟩ := fl4.there
        refine wpAny_mono ((s2 a o4 cls d (X.pn ++ pins) z4 ⟨_, d4⟩).run [] _ _ H' _ (J4.suite e4 d4 na offL offF) (yes2 rfl a na)) (fun f s6 z => ?_) fun _ _ z => z.elim
        match f, z with
        | .next, ⟨_, _, S6, q6⟩ => exact ⟨_, _, S6.unsuite ok, q6⟩
        | .brk, ⟨_, _, S6, q6⟩ => exact ⟨_, _, S6.unsuite ok, q6⟩
        | .cont, ⟨_, _, S6, q6⟩ => exact ⟨_, _, S6.unsuite ok, q6⟩
        | .ret u, ⟨_, _, _, S6, r6, q6⟩ => exact ⟨_, _, _, S6.unsuite ok, r6, q6⟩
      | false =>
        show wpAny _ X.A (handleBy (.ref a) X.env []) _ _ _
        obtain ⟨_, _, _, oe, vs, T, oT, ts', he, hz, hd, h1, hr⟩ := id fl3
        refine wpAny_handleBy_nil ?_
        unfold PySem.passOn
        refine wpAny_bind (wpAny_field he hd h1 ?_)
        have nn : ¬ ((Value.ref T == Value.none) = true) := by simp
        rw [if_neg nn]
        have out : wpAny (model X.prog X.w) X.A (setFlight (.ref a) X.env.frame)
            (fun _ s4 => wpAny (model X.prog X.w) X.A (throw (.ref a) : Sem Flow) (SP X pins D) X.xe s4) X.xe { s' with heap := h3 } := by
          rw [hf]
          refine HandSPX.setFlight_upZ fl3 fun h4 hh4 up4 => wpAny_throw (tk _ _ ?_)
          rw [← stk] at hh4
          exact ⟨a, B, sI, pins, σ', H', cls, d, rfl, J, nb, (up.trans up3).trans up4, .inr (.inr hh4), na, os, ag, no2 rfl⟩
        first
          | exact wpAny_bind (wpAny_pure (wpAny_bind out))
          | exact wpAny_bind out
  · match f, z with
    | .next, ⟨_, _, J, q⟩ => exact wpAny_execs_nil ⟨_, _, J.ofTry ok, q⟩
    | .brk, ⟨_, _, J, q⟩ => exact ⟨_, _, J.ofTry ok, q⟩
    | .cont, ⟨_, _, J, q⟩ => exact ⟨_, _, J.ofTry ok, q⟩
    | .ret u, ⟨_, _, _, J, r, q⟩ => exact ⟨_, _, _, J.ofTry ok, r, q⟩
end
end Ver

namespace Ver
open PySem PySem.Spec PyProof.Rows L2 LamX
section
variable {P : Program} {w : World} {K : PySem.W.Frag} {mg mb : Str → Option Value} {k : Nat} {fa a c T : Addr} {sp : Sp} {s₁ : Shared} {vs : List Value} {ns : List Int}
/-- an empty table -/
abbrev noTab : Obj := { cls := .none, data := .fields #[] }
/-- the law's call over one abstract heap, the law's own table in it -/
theorem lawTOn {H : Hp} (KX : K.In s₁.heap) (hns : s₁.heap.Ns mainGlobals mg) (hb : s₁.heap.Ns builtinsNs mb) (hbb : ∀ x : Str, x ≠ "__name__" → mb x = bootBuiltins x) (hlim : s₁.heap.NoLimit) (hg : s₁.gens = #[])
    (tab : s₁.heap.get? T = some noTab) (nT : K.lookup T = none) (hC : PySem.W.CodeHd s₁.heap c T)
    (hbm : ∃ (m : Addr) (o : Obj), mg "__builtins__" = some (.ref m) ∧ m ≠ builtinsNs ∧ s₁.heap.get? m = some o ∧ o.cls = .type "module" ∧ o.dict = some builtinsNs ∧ o.data = .plain)
    (ha : s₁.heap.get? a = some { cls := .type "list", data := .seq vs.toArray }) (hr : Room k callerA)
    (F : ∀ base : Heap, K.In base → base.Ns mainGlobals mg → TabB base mg c T → FnG P w K mg base CX0 k fa sp)
    (HT : H T = some (.tbl #[])) (HA : ∀ b, b ≠ T → H b = none ∨ (b = a ∧ ∃ o xs, H b = some (.frz o (.lst xs))))
    (hsp : sp [.ref a] H (fun v _ => v = .bl true) fun _ _ _ => False) (hok : HOk P w H s₁.heap) (hK : H a ≠ none → K.lookup a = none) :
    codeAny (model P w) callerA (.call (.ref fa) ⟨[.ref a], []⟩) (fun r s' => r = .ok (.ret (.bool true)) ∧ OldK s₁.heap s'.heap ∧ s'.os = s₁.os ∧ AllBare s'.gens) s₁ := by
  have free : ∀ b o, s₁.heap.get? b = some o → (∀ w n, o.data ≠ Data.seq w n) → o.data ≠ .fields #[] → H b = none := fun b o e n1 n2 => by
    by_cases z : b = T
    · rw [z, tab] at e
      cases e
      exact absurd rfl n2
    · rcases HA b z with h | ⟨h, _⟩
      · exact h
      · rw [h, ha] at e
        cases e
        exact absurd rfl (n1 _ _)
  have names : ∀ b m, s₁.heap.Ns b m → (hidT s₁.heap H).Ns b m := fun b m ⟨o, es, ep, e, d, r⟩ =>
    ⟨o, es, ep, hidT_get e (free b o e (fun w n z => by rw [d] at z; cases z) fun z => by rw [d] at z; cases z), d, r⟩
  have KB : K.In (hidT s₁.heap H) := fun b o e => hidT_get (KX b o e) (by
    by_cases z : b = T
    · rw [z, nT] at e
      cases e
    · rcases HA b z with h | ⟨h, o2, xs, h2⟩
      · exact h
      · rw [h] at e h2
        rw [hK (by rw [h2]; simp)] at e
        cases e)
  have md : Mod K mg (hidT s₁.heap H) := ⟨KB, names _ _ hns, ⟨mb, names _ _ hb, hbb⟩, by obtain ⟨mc, h1, h2⟩ := hlim; exact ⟨mc, names _ _ h1, h2⟩⟩
  have nof : ∀ b, b ∉ frs ([] : List Env) := fun b z => by cases z
  have TB : TabB (hidT s₁.heap H) mg c T := by
    obtain ⟨o, us, file, tf, flags, tg, inF, text, tt, e1, r1, r2, r3, r⟩ := hC
    obtain ⟨m, om, b1, b2, b3, b4, b5, b6⟩ := hbm
    have nG : m ≠ mainGlobals := fun q => by
      obtain ⟨o', es, ep, e, d, _⟩ := hns
      rw [q, e] at b3
      cases b3
      rw [d] at b6
      cases b6
    have nP : m ≠ T := fun q => by
      rw [q, tab] at b3
      cases b3
      cases b6
    refine ⟨⟨o, us, file, tf, flags, tg, inF, text, tt, hidT_get e1 (free c o e1 (fun w n z => ?_) fun z => ?_), r1, r2, r3, r⟩,
      ⟨m, om, b1, b2, nG, nP, hidT_get b3 (free m om b3 (fun w n z => ?_) fun z => ?_), b4, b5, b6⟩, fun z => ?_⟩
    · rw [r2] at z
      cases z
    · rw [r2] at z
      cases z
      simp at r3
    · rw [b6] at z
      cases z
    · rw [b6] at z
      cases z
    · obtain ⟨o', es, ep, e, d, _⟩ := hns
      rw [z, tab] at e
      cases e
      cases d
  have e0 : Env0 P w K mg (hidT s₁.heap H) callerA [] s₁ H := ⟨rfl, md, fun _ _ e => of_hidT e, Nat.le_of_eq (hidT_size _ _), True.intro, fun b z => absurd z (nof b), hok, .of_eq hg⟩
  refine codeAny_mono (F _ KB (names _ _ hns) TB callerA [] s₁ H [.ref a] [.ref a] _ _ rfl hr e0 (.cons rfl .nil) hsp) fun rs s' z => ?_
  match rs, z with
  | .error _, z => exact z.elim
  | .ok .next, z => exact z.elim
  | .ok .brk, z => exact z.elim
  | .ok .cont, z => exact z.elim
  | .ok (.ret u), z =>
    obtain ⟨v, H', os, bare, un, ok', rv, ev⟩ := z
    cases (show v = V.bl true from ev)
    cases (show u = Value.bool true from rv)
    have stays : ∀ b o, b ≠ T → s₁.heap.get? b = some o → s'.heap.get? b = some o := fun b o nb e => by
      rcases HA b nb with n | ⟨_, ob, xs, n⟩
      · exact un.keep b o e n (nof b) (by simp)
      · have h1 := (hok b _ n).1
        have h2 := (ok' b _ (un.frzs b ob _ n)).1
        rw [e] at h1
        cases h1
        exact h2
    obtain ⟨more, hm⟩ := un.tbls T #[] HT
    have tab2 := ok' T _ hm
    rw [Array.empty_append] at tab2
    refine ⟨rfl, ⟨fun b o e => ?_, fun b o e => ?_⟩, os, bare⟩
    · by_cases z : b = T
      · rw [z] at e ⊢
        rw [tab] at e
        cases e
        exact .inr (.inl ⟨(hC.tab tab).isCodeTable, rfl, #[], more, rfl, by rw [Array.empty_append]; exact tab2⟩)
      · exact .inl (stays b o z e)
    · by_cases z : b = T
      · rw [z]
        exact ⟨_, tab2⟩
      · exact ⟨o, stays b o z e⟩
theorem lawT (KX : K.In s₁.heap) (hns : s₁.heap.Ns mainGlobals mg) (hb : s₁.heap.Ns builtinsNs mb) (hbb : ∀ x : Str, x ≠ "__name__" → mb x = bootBuiltins x) (hlim : s₁.heap.NoLimit) (hg : s₁.gens = #[])
    (tab : s₁.heap.get? T = some noTab) (nT : K.lookup T = none) (hC : PySem.W.CodeHd s₁.heap c T)
    (hbm : ∃ (m : Addr) (o : Obj), mg "__builtins__" = some (.ref m) ∧ m ≠ builtinsNs ∧ s₁.heap.get? m = some o ∧ o.cls = .type "module" ∧ o.dict = some builtinsNs ∧ o.data = .plain)
    (ha : s₁.heap.get? a = some { cls := .type "list", data := .seq vs.toArray }) (hi : IntsAre vs ns) (hl : ns.length ≤ sizeLine) (hr : Room k callerA)
    (F : ∀ base : Heap, K.In base → base.Ns mainGlobals mg → TabB base mg c T → FnG P w K mg base CX0 k fa sp)
    (hsp : ∀ H : Hp, H T = some (.tbl #[]) → SqL K H a (ns.map V.int) → sp [.ref a] H (fun v _ => v = .bl true) fun _ _ _ => False) :
    codeAny (model P w) callerA (.call (.ref fa) ⟨[.ref a], []⟩) (fun r s' => r = .ok (.ret (.bool true)) ∧ OldK s₁.heap s'.heap ∧ s'.os = s₁.os ∧ AllBare s'.gens) s₁ := by
  have rv := vals_ints hi
  have aT : a ≠ T := fun z => by
    rw [z, tab] at ha
    cases ha
  cases ek : K.lookup a with
  | some o =>
    have eo : o = _ := Option.some.inj ((KX a o ek).symm.trans ha)
    let H1 : Hp := fun b => if b = T then some (.tbl #[]) else none
    have on : H1 T = some (.tbl #[]) := if_pos rfl
    have off : ∀ b, b ≠ T → H1 b = none := fun b z => if_neg z
    have S0 : SqL K H1 a (ns.map V.int) := .inr ⟨o, vs.toArray, _, ek, by rw [eo], by rw [eo], by rw [eo], by rw [List.size_toArray, ← rv.length, List.length_map]; exact hl, by simpa using rv⟩
    refine lawTOn (H := H1) KX hns hb hbb hlim hg tab nT hC hbm ha hr F on (fun b z => .inl (off b z)) (hsp _ on S0) (fun b u z => ?_) fun z => absurd (off a aT) z
    by_cases q : b = T
    · rw [q, on] at z
      cases z
      rw [q]
      exact tab
    · rw [off b q] at z
      cases z
  | none =>
    let H1 : Hp := fun b => if b = T then some (.tbl #[]) else if b = a then some (.frz { cls := .type "list", data := .seq vs.toArray } (.lst (ns.map V.int))) else none
    have on : H1 T = some (.tbl #[]) := if_pos rfl
    have at_ : H1 a = some (.frz { cls := .type "list", data := .seq vs.toArray } (.lst (ns.map V.int))) := (if_neg aT).trans (if_pos rfl)
    have off : ∀ b, b ≠ T → b ≠ a → H1 b = none := fun b z z2 => (if_neg z).trans (if_neg z2)
    refine lawTOn (H := H1) KX hns hb hbb hlim hg tab nT hC hbm ha hr F on (fun b z => ?_) (hsp _ on (.inl (.inr ⟨_, at_⟩))) (fun b u z => ?_) fun _ => ek
    · by_cases q : b = a
      · exact .inr ⟨q, _, _, by rw [q]; exact at_⟩
      · exact .inl (off b z q)
    · by_cases q : b = T
      · rw [q, on] at z
        cases z
        rw [q]
        exact tab
      · by_cases q2 : b = a
        · subst q2
          rw [at_] at z
          cases z
          exact ⟨ha, by rw [List.length_map]; exact hl, vs, _, rv, ha⟩
        · rw [off b q q2] at z
          cases z
end
/-- the goal that the head leaves, for a law with lambdas -/
theorem walkT {l : PySem.W.OpenLaw} {n k : Nat} {q : Program} {loose : List Str} {XP : (Str → Option Value) → Heap → Prop} {YP : World → Heap → Prop} {d : DefRec}
    (hn : l.most = some n) (hn2 : n ≤ sizeLine) (hdf : d.params.defaults = []) (hr : Room k callerA)
    (F : ∀ (w : World) (mg : Str → Option Value) (fa : Addr) (h : Heap), YP w h → h.Ns mainGlobals mg → mg d.name = some (.ref fa) → ∃ (K : PySem.W.Frag) (c T : Addr) (sp : Sp), K.In h ∧
      h.get? T = some noTab ∧ K.lookup T = none ∧ PySem.W.CodeHd h c T ∧
      (∀ (H : Hp) (a : Addr) (ns : List Int), ns.length ≤ n → H T = some (.tbl #[]) → SqL K H a (ns.map V.int) → sp [.ref a] H (fun v _ => v = .bl true) fun _ _ _ => False) ∧
      ∀ base : Heap, K.In base → base.Ns mainGlobals mg → TabB base mg c T → FnG l.prog w K mg base CX0 k fa sp) :
    PySem.W.WalkO q loose XP YP l.row.toRowW d [] (fun f vs => PySem.call f vs) :=
  Att.attach_call hn hdf fun w s₀ s₁ mg mb fa o pm cd doc a vs ns G Y ho hd hcd hmg hobj hints hlen hg => by
    obtain ⟨K, c, T, sp, KX, tab, nT, hC, hsp, hF⟩ := F w mg fa _ Y G.T.g hmg
    exact lawT KX G.T.g G.T.b G.T.builtins G.T.nolimit hg tab nT hC G.T.bmain hobj hints (Nat.le_trans hlen hn2) hr hF fun H hT hS => hsp H a ns hlen hT hS
end Ver

/-! The mathematics of the numbers modulo a prime: Euclid's way, trial division. -/
namespace Num
/-- trial division by odd divisors from 3 on, up to the root -/
def oddOk (v : Nat) (n : Nat) : Bool := (List.range n).all fun i => v % (3 + 2 * i) != 0
/-- is_prime's answer, for an int -/
def prB (r : Nat → Nat) (v : Int) : Bool :=
  decide (2 ≤ v) && decide (v ≤ 1000000000) && (if v % 2 = 0 then decide (v = 2) else oddOk v.toNat ((r v.toNat + 1 - 3 + 1) / 2))
/-- what the walk asks of a modulus -/
structure Md (p : Int) : Prop where
  lo : 2 ≤ p
  hi : p ≤ 1000000000
  pr : ∀ n : Int, 0 < n → n < p → Int.gcd n p = 1
theorem gcd_one {p b : Nat} (hb : p < b * b) (h : (List.range b).all (fun d => decide (d < 2) || p % d != 0) = true) (n : Nat) (h0 : 0 < n) (h1 : n < p) : Nat.gcd n p = 1 := by
  have small : ∀ d, 2 ≤ d → d < b → ¬ d ∣ p := fun d h2 h3 hd => by
    have q := List.all_eq_true.mp h d (List.mem_range.mpr h3)
    rw [Bool.or_eq_true] at q
    rcases q with q | q
    · have := of_decide_eq_true q
      omega
    · have e : p % d = 0 := Nat.mod_eq_zero_of_dvd hd
      rw [e] at q
      cases q
  have hg : Nat.gcd n p ∣ p := Nat.gcd_dvd_right n p
  have hn : Nat.gcd n p ∣ n := Nat.gcd_dvd_left n p
  have gpos : 0 < Nat.gcd n p := Nat.gcd_pos_of_pos_left _ h0
  have gle : Nat.gcd n p ≤ n := Nat.le_of_dvd h0 hn
  by_cases g1 : Nat.gcd n p = 1
  · exact g1
  · exfalso
    obtain ⟨m, hm⟩ := hg
    have m2 : 2 ≤ m := by
      cases m with
      | zero => omega
      | succ m =>
        cases m with
        | zero => omega
        | succ m => omega
    have hmd : m ∣ p := ⟨Nat.gcd n p, by rw [Nat.mul_comm]; exact hm⟩
    by_cases c : Nat.gcd n p < b
    · exact small _ (by omega) c (Nat.gcd_dvd_right n p)
    · by_cases c2 : m < b
      · exact small m m2 c2 hmd
      · have : b * b ≤ Nat.gcd n p * m := Nat.mul_le_mul (by omega) (by omega)
        omega
theorem md_of (p b : Nat) (h2 : 2 ≤ p) (h9 : p ≤ 1000000000) (hb : p < b * b) (h : (List.range b).all (fun d => decide (d < 2) || p % d != 0) = true) : Md (p : Int) :=
  ⟨by omega, by omega, fun n h0 h1 => by
    have e : n = ((n.toNat : Nat) : Int) := by omega
    rw [e]
    show Nat.gcd _ _ = 1
    exact gcd_one hb h n.toNat (by omega) (by omega)⟩
theorem md2 : Md 2 := md_of 2 2 (by decide) (by decide) (by decide) (by decide)
theorem md3 : Md 3 := md_of 3 2 (by decide) (by decide) (by decide) (by decide)
theorem md5 : Md 5 := md_of 5 3 (by decide) (by decide) (by decide) (by decide)
theorem md7 : Md 7 := md_of 7 3 (by decide) (by decide) (by decide) (by decide)
theorem md101 : Md 101 := md_of 101 11 (by decide) (by decide) (by decide) (by decide)
theorem md1000003 : Md 1000003 := md_of 1000003 1001 (by decide) (by decide) (by decide) (by decide +kernel)

/-! ### Euclid -/
/-- the state of the loop: past and now times the number are rest and left, modulo p -/
structure Eu (p n rest left past now : Int) : Prop where
  l0 : 0 ≤ left
  lp : left < p
  r0 : 0 < rest
  rp : rest ≤ p
  a : p ∣ past * n - rest
  b : p ∣ now * n - left
  g : Int.gcd rest left = 1
theorem Eu.start {p n : Int} (m : Md p) (h0 : 0 < n) (h1 : n < p) : Eu p n p (n % p) 0 1 := by
  have e : n % p = n := Int.emod_eq_of_lt (by omega) h1
  have hlo := m.lo
  refine ⟨by omega, by omega, by omega, Int.le_refl _, ⟨-1, by omega⟩, ⟨0, by omega⟩, ?_⟩
  rw [e, Int.gcd_comm]
  exact m.pr n h0 h1
theorem Eu.step {p n rest left past now : Int} (E : Eu p n rest left past now) (h : left ≠ 0) : Eu p n left (rest - rest / left * left) now (past - rest / left * now) := by
  have hl : 0 < left := by have := E.l0; omega
  have e : rest - rest / left * left = rest % left := by
    have := Int.emod_def rest left
    rw [Int.mul_comm] at this
    omega
  rw [e]
  have m0 : 0 ≤ rest % left := Int.emod_nonneg _ h
  have m1 : rest % left < left := Int.emod_lt_of_pos _ hl
  refine ⟨m0, by have := E.lp; omega, hl, by have := E.lp; omega, E.b, ?_, ?_⟩
  · obtain ⟨x, hx⟩ := E.a
    obtain ⟨y, hy⟩ := E.b
    refine ⟨x - rest / left * y, ?_⟩
    rw [← e]
    have h1 : (past - rest / left * now) * n - (rest - rest / left * left) = (past * n - rest) - rest / left * (now * n - left) := by
      rw [Int.sub_mul, Int.mul_sub, Int.mul_assoc]
      omega
    rw [h1, hx, hy, Int.mul_sub]
    congr 1
    rw [← Int.mul_assoc, ← Int.mul_assoc, Int.mul_comm (rest / left) p]
  · rw [Int.gcd_comm]
    have := E.g
    rw [Int.gcd_comm] at this
    rw [← this]
    show Nat.gcd _ _ = Nat.gcd _ _
    have a1 : (rest % left).natAbs = rest.natAbs % left.natAbs := by
      have hr := E.r0
      have q : ((rest.natAbs % left.natAbs : Nat) : Int) = rest % left := by
        rw [Int.natCast_emod]
        rw [Int.natAbs_of_nonneg (by omega), Int.natAbs_of_nonneg (by omega)]
      omega
    rw [a1, ← Nat.gcd_rec, Nat.gcd_comm]
theorem Eu.times {p n rest left past now : Int} (E : Eu p n rest left past now) (h : left ≠ 0) : 0 ≤ rest / left ∧ rest / left ≤ p := by
  have hl : 0 < left := by have := E.l0; omega
  have hr := E.r0
  have hp := E.rp
  refine ⟨Int.ediv_nonneg (by omega) (by omega), ?_⟩
  have : rest / left ≤ rest := Int.ediv_le_self _ (by omega)
  omega
/-- at the end: the inverse -/
theorem Eu.inv {p n rest past now : Int} (m : Md p) (E : Eu p n rest 0 past now) : 0 ≤ past % p ∧ past % p < p ∧ (past % p * n) % p = 1 := by
  have hlo := m.lo
  have r1 : rest = 1 := by
    have g := E.g
    have h0 := E.r0
    rw [Int.gcd_zero_right] at g
    omega
  have hm : (past * n) % p = 1 := by
    obtain ⟨x, hx⟩ := E.a
    have e : past * n = 1 + p * x := by omega
    rw [e, Int.add_mul_emod_self_left]
    exact Int.emod_eq_of_lt (by omega) (by omega)
  refine ⟨Int.emod_nonneg _ (by omega), Int.emod_lt_of_pos _ (by omega), ?_⟩
  rw [Int.mul_emod, Int.emod_emod, ← Int.mul_emod]
  exact hm
/-- what over tells, times what it divided by -/
theorem over_back {p a b i : Int} (ha : 0 ≤ a ∧ a < p) (hi : (i * b) % p = 1 % p) : (a * i % p * b) % p = a := by
  have e : (a * i % p * b) % p = (a * (i * b)) % p := by
    rw [Int.mul_emod, Int.emod_emod, ← Int.mul_emod, Int.mul_assoc]
  rw [e, Int.mul_emod, hi, ← Int.mul_emod, Int.mul_one]
  exact Int.emod_eq_of_lt ha.1 ha.2
end Num

/-! The mathematics of the fractions: the reduced pair, common bottoms. -/
namespace Num
open Rat
theorem den_pos' (q : Rat) : (0 : Int) < (q.den : Int) := Int.natCast_pos.mpr q.den_pos
/-- the divisor with the sign of the bottom -/
def dvs (t b : Int) : Int := if b < 0 then -((Nat.gcd t.natAbs b.natAbs : Nat) : Int) else ((Nat.gcd t.natAbs b.natAbs : Nat) : Int)
theorem dvs_ex {t b : Int} (hb : b ≠ 0) : ∃ (t' b' : Int), t = dvs t b * t' ∧ b = dvs t b * b' ∧ dvs t b ≠ 0 ∧ 0 < b' ∧ (t /. b).num = t' ∧ ((t /. b).den : Int) = b' := by
  have gpos : 0 < Nat.gcd t.natAbs b.natAbs := Nat.gcd_pos_of_pos_right _ (Int.natAbs_pos.mpr hb)
  have gt : ((Nat.gcd t.natAbs b.natAbs : Nat) : Int) ∣ t := Int.natAbs_dvd_natAbs.mp (Nat.gcd_dvd_left _ _)
  have gb : ((Nat.gcd t.natAbs b.natAbs : Nat) : Int) ∣ b := Int.natAbs_dvd_natAbs.mp (Nat.gcd_dvd_right _ _)
  have hn := Rat.num_divInt t b
  have hd := Rat.den_divInt t b
  have eg : Int.gcd b t = Nat.gcd t.natAbs b.natAbs := Nat.gcd_comm _ _
  rw [eg] at hn hd
  rw [if_neg hb] at hd
  unfold dvs
  generalize Nat.gcd t.natAbs b.natAbs = g at *
  obtain ⟨x, ex⟩ := gt
  obtain ⟨y, ey⟩ := gb
  have g0 : (0 : Int) < (g : Int) := Int.natCast_pos.mpr gpos
  by_cases h : b < 0
  · rw [if_pos h]
    have sg : b.sign = -1 := Int.sign_eq_neg_one_of_neg h
    have y0 : y < 0 := by
      by_cases c : y < 0
      · exact c
      · have := Int.mul_nonneg (Int.le_of_lt g0) (Int.not_lt.mp c)
        omega
    refine ⟨-x, -y, by rw [Int.neg_mul_neg]; exact ex, by rw [Int.neg_mul_neg]; exact ey, by omega, by omega, ?_, ?_⟩
    · rw [hn, sg, ex, ← Int.mul_assoc, Int.mul_comm (-1), Int.mul_assoc, Int.mul_ediv_cancel_left _ (by omega)]
      omega
    · rw [hd, Int.natCast_ediv, ey]
      have : (((g : Int) * y).natAbs : Int) = (g : Int) * (-y) := by
        rw [Int.mul_neg]
        have : (g : Int) * y < 0 := by rw [← ey]; exact h
        omega
      rw [this, Int.mul_ediv_cancel_left _ (by omega)]
  · rw [if_neg h]
    have bp : 0 < b := by omega
    have sg : b.sign = 1 := Int.sign_eq_one_of_pos bp
    have y0 : 0 < y := by
      by_cases c : 0 < y
      · exact c
      · have := Int.mul_nonpos_of_nonneg_of_nonpos (Int.le_of_lt g0) (Int.not_lt.mp c)
        omega
    refine ⟨x, y, ex, ey, by omega, y0, ?_, ?_⟩
    · rw [hn, sg, Int.one_mul, ex, Int.mul_ediv_cancel_left _ (by omega)]
    · rw [hd, Int.natCast_ediv, ey]
      have : (((g : Int) * y).natAbs : Int) = (g : Int) * y := by
        have : 0 < (g : Int) * y := by rw [← ey]; exact bp
        omega
      rw [this, Int.mul_ediv_cancel_left _ (by omega)]
theorem dvs_out {t b : Int} (hb : b ≠ 0) : dvs t b ≠ 0 ∧ t.fdiv (dvs t b) = (t /. b).num ∧ b.fdiv (dvs t b) = ((t /. b).den : Int) ∧ (b = dvs t b ↔ (t /. b).den = 1) ∧ (t /. b).num.natAbs ≤ t.natAbs ∧ (t /. b).den ≤ b.natAbs := by
  obtain ⟨t', b', h1, h2, h3, h4, h5, h6⟩ := dvs_ex (t := t) hb
  generalize dvs t b = d at *
  have hd1 : 1 ≤ d.natAbs := by omega
  refine ⟨h3, ?_, ?_, ⟨fun h => ?_, fun h => ?_⟩, ?_, ?_⟩
  · rw [h5]
    conv => lhs; rw [h1]
    exact Int.mul_fdiv_cancel_left _ h3
  · rw [h6]
    conv => lhs; rw [h2]
    exact Int.mul_fdiv_cancel_left _ h3
  · have e : d * b' = d * 1 := by rw [← h2, Int.mul_one]; exact h
    have := Int.eq_of_mul_eq_mul_left h3 e
    omega
  · have e : b' = 1 := by omega
    rw [e, Int.mul_one] at h2
    exact h2
  · rw [h5]
    conv => rhs; rw [h1, Int.natAbs_mul]
    exact Nat.le_mul_of_pos_left _ hd1
  · have e : (t /. b).den = b'.natAbs := by omega
    rw [e]
    conv => rhs; rw [h2, Int.natAbs_mul]
    exact Nat.le_mul_of_pos_left _ hd1
theorem gcd_low (q : Rat) : Nat.gcd q.num.natAbs (q.den : Int).natAbs = 1 := q.reduced
theorem dvs_one (t : Int) : (t /. 1).num = t ∧ (t /. 1).den = 1 := by
  obtain ⟨h1, h2, h3, h4, h5, h6⟩ := dvs_out (t := t) (b := 1) (by decide)
  have e : dvs t 1 = 1 := by
    unfold dvs
    rw [if_neg (by decide)]
    show ((Nat.gcd t.natAbs 1 : Nat) : Int) = 1
    rw [Nat.gcd_one_right]
    rfl
  rw [e, Int.fdiv_one] at h2
  exact ⟨h2.symm, h4.mp e.symm⟩
/-! ### the operations -/
theorem add_is (a b : Rat) : (a.num * b.den + b.num * a.den) /. ((a.den : Int) * b.den) = a + b := by
  rw [Rat.add_def', ← Rat.divInt_ofNat, Int.natCast_mul]
theorem sub_is (a b : Rat) : (a.num * b.den - b.num * a.den) /. ((a.den : Int) * b.den) = a - b := by
  rw [Rat.sub_def', ← Rat.divInt_ofNat, Int.natCast_mul]
theorem mul_is (a b : Rat) : (a.num * b.num) /. ((a.den : Int) * b.den) = a * b := by
  rw [Rat.mul_def', ← Rat.divInt_ofNat, Int.natCast_mul]
/-! ### a common bottom -/
theorem divInt_add_same (a b c : Int) (h : c ≠ 0) : (a + b) /. c = a /. c + b /. c := by
  rw [Rat.divInt_add_divInt _ _ h h, ← Int.add_mul, Rat.divInt_mul_right h]
theorem over_L {q : Rat} {L : Int} (hL : L ≠ 0) (h : (q.den : Int) ∣ L) : (q.num * (L / q.den)) /. L = q := by
  obtain ⟨x, ex⟩ := h
  have d0 := den_pos' q
  have x0 : x ≠ 0 := by
    intro z
    rw [z, Int.mul_zero] at ex
    exact hL ex
  have e : L / (q.den : Int) = x := by
    rw [ex]
    exact Int.mul_ediv_cancel_left _ (by omega)
  rw [e, ex, Rat.divInt_mul_right x0, Rat.num_divInt_den]
theorem sum_L {L : Int} (hL : L ≠ 0) : ∀ qs : List Rat, (∀ q ∈ qs, (q.den : Int) ∣ L) → (qs.map fun q => q.num * (L / q.den)).sum /. L = qs.sum
  | [], _ => by
    show (0 : Int) /. L = (0 : Rat)
    exact Rat.zero_divInt L
  | q :: qs, h => by
    rw [List.map_cons, List.sum_cons, List.sum_cons, divInt_add_same _ _ _ hL, over_L hL (h q List.mem_cons_self), sum_L hL qs fun x hx => h x (List.mem_cons_of_mem _ hx)]
/-! ### sizes -/
def Bq (n : Nat) (q : Rat) : Prop := q.num.natAbs < 2 ^ n ∧ q.den < 2 ^ n
theorem Bq.mono {m n : Nat} {q : Rat} (h : Bq m q) (hl : m ≤ n) : Bq n q := ⟨Nat.lt_of_lt_of_le h.1 (Nat.pow_le_pow_right (by decide) hl), Nat.lt_of_lt_of_le h.2 (Nat.pow_le_pow_right (by decide) hl)⟩
theorem bq_div {t b : Int} {n : Nat} (hb : b ≠ 0) (h1 : t.natAbs < 2 ^ n) (h2 : b.natAbs < 2 ^ n) : Bq n (t /. b) := by
  obtain ⟨_, _, _, _, h5, h6⟩ := dvs_out (t := t) hb
  exact ⟨Nat.lt_of_le_of_lt h5 h1, Nat.lt_of_le_of_lt h6 h2⟩
theorem add_lt {i j : Int} {n : Nat} (h1 : i.natAbs < 2 ^ n) (h2 : j.natAbs < 2 ^ n) : (i + j).natAbs < 2 ^ (n + 1) := by
  rw [Nat.pow_succ]
  omega
theorem sub_lt {i j : Int} {n : Nat} (h1 : i.natAbs < 2 ^ n) (h2 : j.natAbs < 2 ^ n) : (i - j).natAbs < 2 ^ (n + 1) := by
  rw [Nat.pow_succ]
  omega
end Num

namespace K07
open PySem PySem.Spec PyProof.Rows L2 Ver
def top (i : Nat) : Stmt := PySem.Challenge.pw_firstanswers_k07_whole_texts_of_numbers.main.body.getD i (.Pass ⟨0, 0, 0, 0⟩)
abbrev s_is_integer : Stmt := top 3
abbrev n_is_integer : List Str := ["value"]
theorem sc_is_integer : FnScope n_is_integer ["value"] (defScope s_is_integer) := ⟨rfl, rfl, rfl, by decide +kernel, rfl, by decide +kernel, by decide +kernel⟩
def d_is_integer : He.DefD := ⟨("is_integer", none), "is_integer", "is_integer", defArgs s_is_integer, defBody s_is_integer, defScope s_is_integer, [], []⟩
abbrev s_is_between : Stmt := top 4
abbrev n_is_between : List Str := ["value", "low", "high"]
theorem sc_is_between : FnScope n_is_between ["value", "low", "high"] (defScope s_is_between) := ⟨rfl, rfl, rfl, by decide +kernel, rfl, by decide +kernel, by decide +kernel⟩
def d_is_between : He.DefD := ⟨("is_between", none), "is_between", "is_between", defArgs s_is_between, defBody s_is_between, defScope s_is_between, [], []⟩
abbrev s_Field___init__ : Stmt := inClass (top 14) 1
abbrev n_Field___init__ : List Str := ["self", "prime"]
theorem sc_Field___init__ : FnScope n_Field___init__ ["self", "prime"] (defScope s_Field___init__) := ⟨rfl, rfl, rfl, by decide +kernel, rfl, by decide +kernel, by decide +kernel⟩
def d_Field___init__ : He.DefD := ⟨("Field", some "__init__"), "__init__", "Field.__init__", defArgs s_Field___init__, defBody s_Field___init__, defScope s_Field___init__, [], []⟩
abbrev s_Field_is_number : Stmt := inClass (top 14) 6
abbrev n_Field_is_number : List Str := ["self", "value"]
theorem sc_Field_is_number : FnScope n_Field_is_number ["self", "value"] (defScope s_Field_is_number) := ⟨rfl, rfl, rfl, by decide +kernel, rfl, by decide +kernel, by decide +kernel⟩
def d_Field_is_number : He.DefD := ⟨("Field", some "is_number"), "is_number", "Field.is_number", defArgs s_Field_is_number, defBody s_Field_is_number, defScope s_Field_is_number, [], []⟩
abbrev s_Field_text : Stmt := inClass (top 14) 12
abbrev n_Field_text : List Str := ["self", "number", "top", "bottom"]
theorem sc_Field_text : FnScope n_Field_text ["self", "number"] (defScope s_Field_text) := ⟨rfl, rfl, rfl, by decide +kernel, rfl, by decide +kernel, by decide +kernel⟩
def d_Field_text : He.DefD := ⟨("Field", some "text"), "text", "Field.text", defArgs s_Field_text, defBody s_Field_text, defScope s_Field_text, [], []⟩
abbrev s_Field_read : Stmt := inClass (top 14) 13
abbrev n_Field_read : List Str := ["self", "text", "number"]
theorem sc_Field_read : FnScope n_Field_read ["self", "text"] (defScope s_Field_read) := ⟨rfl, rfl, rfl, by decide +kernel, rfl, by decide +kernel, by decide +kernel⟩
def d_Field_read : He.DefD := ⟨("Field", some "read"), "read", "Field.read", defArgs s_Field_read, defBody s_Field_read, defScope s_Field_read, [], []⟩
abbrev s_Field_holds : Stmt := inClass (top 14) 14
abbrev n_Field_holds : List Str := ["self", "value"]
theorem sc_Field_holds : FnScope n_Field_holds ["self", "value"] (defScope s_Field_holds) := ⟨rfl, rfl, rfl, by decide +kernel, rfl, by decide +kernel, by decide +kernel⟩
def d_Field_holds : He.DefD := ⟨("Field", some "holds"), "holds", "Field.holds", defArgs s_Field_holds, defBody s_Field_holds, defScope s_Field_holds, [], []⟩
abbrev s_Fractions___init__ : Stmt := inClass (top 15) 0
abbrev n_Fractions___init__ : List Str := ["self"]
theorem sc_Fractions___init__ : FnScope n_Fractions___init__ ["self"] (defScope s_Fractions___init__) := ⟨rfl, rfl, rfl, by decide +kernel, rfl, by decide +kernel, by decide +kernel⟩
def d_Fractions___init__ : He.DefD := ⟨("Fractions", some "__init__"), "__init__", "Fractions.__init__", defArgs s_Fractions___init__, defBody s_Fractions___init__, defScope s_Fractions___init__, [], []⟩
abbrev s_Modulo___init__ : Stmt := inClass (top 16) 0
abbrev n_Modulo___init__ : List Str := ["self", "prime"]
theorem sc_Modulo___init__ : FnScope n_Modulo___init__ ["self", "prime"] (defScope s_Modulo___init__) := ⟨rfl, rfl, rfl, by decide +kernel, rfl, by decide +kernel, by decide +kernel⟩
def d_Modulo___init__ : He.DefD := ⟨("Modulo", some "__init__"), "__init__", "Modulo.__init__", defArgs s_Modulo___init__, defBody s_Modulo___init__, defScope s_Modulo___init__, [], []⟩
abbrev s_is_prime : Stmt := top 17
abbrev n_is_prime : List Str := ["value", "divisor"]
theorem sc_is_prime : FnScope n_is_prime ["value"] (defScope s_is_prime) := ⟨rfl, rfl, rfl, by decide +kernel, rfl, by decide +kernel, by decide +kernel⟩
def d_is_prime : He.DefD := ⟨("is_prime", none), "is_prime", "is_prime", defArgs s_is_prime, defBody s_is_prime, defScope s_is_prime, [], []⟩
abbrev s_is_fraction : Stmt := top 18
abbrev n_is_fraction : List Str := ["value", "top", "bottom"]
theorem sc_is_fraction : FnScope n_is_fraction ["value"] (defScope s_is_fraction) := ⟨rfl, rfl, rfl, by decide +kernel, rfl, by decide +kernel, by decide +kernel⟩
def d_is_fraction : He.DefD := ⟨("is_fraction", none), "is_fraction", "is_fraction", defArgs s_is_fraction, defBody s_is_fraction, defScope s_is_fraction, [], []⟩
abbrev s_is_longer : Stmt := top 19
abbrev n_is_longer : List Str := ["number", "first_long", "top", "bottom"]
theorem sc_is_longer : FnScope n_is_longer ["number", "first_long"] (defScope s_is_longer) := ⟨rfl, rfl, rfl, by decide +kernel, rfl, by decide +kernel, by decide +kernel⟩
def d_is_longer : He.DefD := ⟨("is_longer", none), "is_longer", "is_longer", defArgs s_is_longer, defBody s_is_longer, defScope s_is_longer, [], []⟩
abbrev s_parts : Stmt := top 20
abbrev n_parts : List Str := ["number"]
theorem sc_parts : FnScope n_parts ["number"] (defScope s_parts) := ⟨rfl, rfl, rfl, by decide +kernel, rfl, by decide +kernel, by decide +kernel⟩
def d_parts : He.DefD := ⟨("parts", none), "parts", "parts", defArgs s_parts, defBody s_parts, defScope s_parts, [], []⟩
abbrev s_integer_of : Stmt := top 21
abbrev n_integer_of : List Str := ["text", "most"]
theorem sc_integer_of : FnScope n_integer_of ["text", "most"] (defScope s_integer_of) := ⟨rfl, rfl, rfl, by decide +kernel, rfl, by decide +kernel, by decide +kernel⟩
def d_integer_of : He.DefD := ⟨("integer_of", none), "integer_of", "integer_of", defArgs s_integer_of, defBody s_integer_of, defScope s_integer_of, [], []⟩
abbrev s_signed_integer_of : Stmt := top 22
abbrev n_signed_integer_of : List Str := ["text", "number"]
theorem sc_signed_integer_of : FnScope n_signed_integer_of ["text"] (defScope s_signed_integer_of) := ⟨rfl, rfl, rfl, by decide +kernel, rfl, by decide +kernel, by decide +kernel⟩
def d_signed_integer_of : He.DefD := ⟨("signed_integer_of", none), "signed_integer_of", "signed_integer_of", defArgs s_signed_integer_of, defBody s_signed_integer_of, defScope s_signed_integer_of, [], []⟩
abbrev s_number_of : Stmt := top 23
abbrev n_number_of : List Str := ["text", "top", "slash", "bottom"]
theorem sc_number_of : FnScope n_number_of ["text"] (defScope s_number_of) := ⟨rfl, rfl, rfl, by decide +kernel, rfl, by decide +kernel, by decide +kernel⟩
def d_number_of : He.DefD := ⟨("number_of", none), "number_of", "number_of", defArgs s_number_of, defBody s_number_of, defScope s_number_of, [], []⟩
abbrev s__law_pen : Stmt := top 25
abbrev n__law_pen : List Str := ["_law_script"]
theorem sc__law_pen : FnScope n__law_pen ["_law_script"] (defScope s__law_pen) := ⟨rfl, rfl, rfl, by decide +kernel, rfl, by decide +kernel, by decide +kernel⟩
def d__law_pen : He.DefD := ⟨("_law_pen", none), "_law_pen", "_law_pen", defArgs s__law_pen, defBody s__law_pen, defScope s__law_pen, [], []⟩
abbrev s__law_draw : Stmt := top 26
abbrev n__law_draw : List Str := ["_law_pen_here", "_law_many", "_law_digit", "_law_place", "_law_cell", "_law_mixed", "_law_drawn"]
theorem sc__law_draw : FnScope n__law_draw ["_law_pen_here", "_law_many"] (defScope s__law_draw) := ⟨rfl, rfl, rfl, by decide +kernel, rfl, by decide +kernel, by decide +kernel⟩
def d__law_draw : He.DefD := ⟨("_law_draw", none), "_law_draw", "_law_draw", defArgs s__law_draw, defBody s__law_draw, defScope s__law_draw, [], []⟩
abbrev s__law_pick : Stmt := top 27
abbrev n__law_pick : List Str := ["_law_pen_here", "_law_options"]
theorem sc__law_pick : FnScope n__law_pick ["_law_pen_here", "_law_options"] (defScope s__law_pick) := ⟨rfl, rfl, rfl, by decide +kernel, rfl, by decide +kernel, by decide +kernel⟩
def d__law_pick : He.DefD := ⟨("_law_pick", none), "_law_pick", "_law_pick", defArgs s__law_pick, defBody s__law_pick, defScope s__law_pick, [], []⟩
abbrev s__law_prime : Stmt := top 28
abbrev n__law_prime : List Str := ["_law_pen_here"]
theorem sc__law_prime : FnScope n__law_prime ["_law_pen_here"] (defScope s__law_prime) := ⟨rfl, rfl, rfl, by decide +kernel, rfl, by decide +kernel, by decide +kernel⟩
def d__law_prime : He.DefD := ⟨("_law_prime", none), "_law_prime", "_law_prime", defArgs s__law_prime, defBody s__law_prime, defScope s__law_prime, [], []⟩
abbrev s__law_number : Stmt := top 29
abbrev n__law_number : List Str := ["_law_pen_here", "_law_prime_here"]
theorem sc__law_number : FnScope n__law_number ["_law_pen_here", "_law_prime_here"] (defScope s__law_number) := ⟨rfl, rfl, rfl, by decide +kernel, rfl, by decide +kernel, by decide +kernel⟩
def d__law_number : He.DefD := ⟨("_law_number", none), "_law_number", "_law_number", defArgs s__law_number, defBody s__law_number, defScope s__law_number, [], []⟩
abbrev s__law_odd : Stmt := top 30
abbrev n__law_odd : List Str := ["_law_pen_here", "_law_some"]
theorem sc__law_odd : FnScope n__law_odd ["_law_pen_here"] (defScope s__law_odd) := ⟨rfl, rfl, rfl, by decide +kernel, rfl, by decide +kernel, by decide +kernel⟩
def d__law_odd : He.DefD := ⟨("_law_odd", none), "_law_odd", "_law_odd", defArgs s__law_odd, defBody s__law_odd, defScope s__law_odd, [], []⟩
abbrev s__law_far : Stmt := top 31
abbrev n__law_far : List Str := ["_law_pen_here", "_law_found", "_law_k"]
theorem sc__law_far : FnScope n__law_far ["_law_pen_here"] (defScope s__law_far) := ⟨rfl, rfl, rfl, by decide +kernel, rfl, by decide +kernel, by decide +kernel⟩
def d__law_far : He.DefD := ⟨("_law_far", none), "_law_far", "_law_far", defArgs s__law_far, defBody s__law_far, defScope s__law_far, [], []⟩
abbrev s__law_tens : Stmt := top 32
abbrev n__law_tens : List Str := ["_law_many", "_law_found", "_law_k"]
theorem sc__law_tens : FnScope n__law_tens ["_law_many"] (defScope s__law_tens) := ⟨rfl, rfl, rfl, by decide +kernel, rfl, by decide +kernel, by decide +kernel⟩
def d__law_tens : He.DefD := ⟨("_law_tens", none), "_law_tens", "_law_tens", defArgs s__law_tens, defBody s__law_tens, defScope s__law_tens, [], []⟩
abbrev s__law_signed : Stmt := top 33
abbrev n__law_signed : List Str := ["_law_pen_here", "_law_number_here"]
theorem sc__law_signed : FnScope n__law_signed ["_law_pen_here", "_law_number_here"] (defScope s__law_signed) := ⟨rfl, rfl, rfl, by decide +kernel, rfl, by decide +kernel, by decide +kernel⟩
def d__law_signed : He.DefD := ⟨("_law_signed", none), "_law_signed", "_law_signed", defArgs s__law_signed, defBody s__law_signed, defScope s__law_signed, [], []⟩
abbrev s__law_gcd : Stmt := top 34
abbrev n__law_gcd : List Str := ["_law_front", "_law_back"]
theorem sc__law_gcd : FnScope n__law_gcd ["_law_front", "_law_back"] (defScope s__law_gcd) := ⟨rfl, rfl, rfl, by decide +kernel, rfl, by decide +kernel, by decide +kernel⟩
def d__law_gcd : He.DefD := ⟨("_law_gcd", none), "_law_gcd", "_law_gcd", defArgs s__law_gcd, defBody s__law_gcd, defScope s__law_gcd, [], []⟩
abbrev s__law_told : Stmt := top 35
abbrev n__law_told : List Str := ["_law_top", "_law_bottom", "_law_shared"]
theorem sc__law_told : FnScope n__law_told ["_law_top", "_law_bottom"] (defScope s__law_told) := ⟨rfl, rfl, rfl, by decide +kernel, rfl, by decide +kernel, by decide +kernel⟩
def d__law_told : He.DefD := ⟨("_law_told", none), "_law_told", "_law_told", defArgs s__law_told, defBody s__law_told, defScope s__law_told, [], []⟩
abbrev s__law_two : Stmt := top 36
abbrev n__law_two : List Str := ["_law_told_here"]
theorem sc__law_two : FnScope n__law_two ["_law_told_here"] (defScope s__law_two) := ⟨rfl, rfl, rfl, by decide +kernel, rfl, by decide +kernel, by decide +kernel⟩
def d__law_two : He.DefD := ⟨("_law_two", none), "_law_two", "_law_two", defArgs s__law_two, defBody s__law_two, defScope s__law_two, [], []⟩
abbrev s__law_any_number : Stmt := top 37
abbrev n__law_any_number : List Str := ["_law_pen_here", "_law_prime_here", "_law_is_small", "_law_top", "_law_bottom"]
theorem sc__law_any_number : FnScope n__law_any_number ["_law_pen_here", "_law_prime_here", "_law_is_small"] (defScope s__law_any_number) := ⟨rfl, rfl, rfl, by decide +kernel, rfl, by decide +kernel, by decide +kernel⟩
def d__law_any_number : He.DefD := ⟨("_law_any_number", none), "_law_any_number", "_law_any_number", defArgs s__law_any_number, defBody s__law_any_number, defScope s__law_any_number, [], []⟩
abbrev s__law_made_field : Stmt := top 38
abbrev n__law_made_field : List Str := ["_law_prime_here"]
theorem sc__law_made_field : FnScope n__law_made_field ["_law_prime_here"] (defScope s__law_made_field) := ⟨rfl, rfl, rfl, by decide +kernel, rfl, by decide +kernel, by decide +kernel⟩
def d__law_made_field : He.DefD := ⟨("_law_made_field", none), "_law_made_field", "_law_made_field", defArgs s__law_made_field, defBody s__law_made_field, defScope s__law_made_field, [], []⟩
abbrev s__law_any_prime : Stmt := top 39
abbrev n__law_any_prime : List Str := ["_law_pen_here"]
theorem sc__law_any_prime : FnScope n__law_any_prime ["_law_pen_here"] (defScope s__law_any_prime) := ⟨rfl, rfl, rfl, by decide +kernel, rfl, by decide +kernel, by decide +kernel⟩
def d__law_any_prime : He.DefD := ⟨("_law_any_prime", none), "_law_any_prime", "_law_any_prime", defArgs s__law_any_prime, defBody s__law_any_prime, defScope s__law_any_prime, [], []⟩
abbrev s__law_is_whole : Stmt := top 40
abbrev n__law_is_whole : List Str := ["_law_thing"]
theorem sc__law_is_whole : FnScope n__law_is_whole ["_law_thing"] (defScope s__law_is_whole) := ⟨rfl, rfl, rfl, by decide +kernel, rfl, by decide +kernel, by decide +kernel⟩
def d__law_is_whole : He.DefD := ⟨("_law_is_whole", none), "_law_is_whole", "_law_is_whole", defArgs s__law_is_whole, defBody s__law_is_whole, defScope s__law_is_whole, [], []⟩
abbrev s__law_is_number : Stmt := top 41
abbrev n__law_is_number : List Str := ["_law_prime_here", "_law_thing"]
theorem sc__law_is_number : FnScope n__law_is_number ["_law_prime_here", "_law_thing"] (defScope s__law_is_number) := ⟨rfl, rfl, rfl, by decide +kernel, rfl, by decide +kernel, by decide +kernel⟩
def d__law_is_number : He.DefD := ⟨("_law_is_number", none), "_law_is_number", "_law_is_number", defArgs s__law_is_number, defBody s__law_is_number, defScope s__law_is_number, [], []⟩
abbrev s__law_read_told : Stmt := top 42
abbrev n__law_read_told : List Str := ["_law_field", "_law_text", "e"]
theorem sc__law_read_told : FnScope n__law_read_told ["_law_field", "_law_text"] (defScope s__law_read_told) := ⟨rfl, rfl, rfl, by decide +kernel, rfl, by decide +kernel, by decide +kernel⟩
def d__law_read_told : He.DefD := ⟨("_law_read_told", none), "_law_read_told", "_law_read_told", defArgs s__law_read_told, defBody s__law_read_told, defScope s__law_read_told, [], []⟩
abbrev s__law_text_told : Stmt := top 43
abbrev n__law_text_told : List Str := ["_law_field", "_law_thing", "e"]
theorem sc__law_text_told : FnScope n__law_text_told ["_law_field", "_law_thing"] (defScope s__law_text_told) := ⟨rfl, rfl, rfl, by decide +kernel, rfl, by decide +kernel, by decide +kernel⟩
def d__law_text_told : He.DefD := ⟨("_law_text_told", none), "_law_text_told", "_law_text_told", defArgs s__law_text_told, defBody s__law_text_told, defScope s__law_text_told, [], []⟩
abbrev s__law_spelt : Stmt := top 44
abbrev n__law_spelt : List Str := ["_law_told_here", "_law_top", "_law_bottom"]
theorem sc__law_spelt : FnScope n__law_spelt ["_law_told_here"] (defScope s__law_spelt) := ⟨rfl, rfl, rfl, by decide +kernel, rfl, by decide +kernel, by decide +kernel⟩
def d__law_spelt : He.DefD := ⟨("_law_spelt", none), "_law_spelt", "_law_spelt", defArgs s__law_spelt, defBody s__law_spelt, defScope s__law_spelt, [], []⟩
abbrev s__law_integer : Stmt := top 45
abbrev n__law_integer : List Str := ["_law_text", "_law_digits", "_law_sign"]
theorem sc__law_integer : FnScope n__law_integer ["_law_text"] (defScope s__law_integer) := ⟨rfl, rfl, rfl, by decide +kernel, rfl, by decide +kernel, by decide +kernel⟩
def d__law_integer : He.DefD := ⟨("_law_integer", none), "_law_integer", "_law_integer", defArgs s__law_integer, defBody s__law_integer, defScope s__law_integer, [], []⟩
abbrev s__law_due : Stmt := top 46
abbrev n__law_due : List Str := ["_law_prime_here", "_law_text", "_law_pieces", "_law_piece", "_law_found"]
theorem sc__law_due : FnScope n__law_due ["_law_prime_here", "_law_text"] (defScope s__law_due) := ⟨rfl, rfl, rfl, by decide +kernel, rfl, by decide +kernel, by decide +kernel⟩
def d__law_due : He.DefD := ⟨("_law_due", none), "_law_due", "_law_due", defArgs s__law_due, defBody s__law_due, defScope s__law_due, [], []⟩
abbrev s__law_bent : Stmt := top 47
abbrev n__law_bent : List Str := ["_law_pen_here", "_law_text", "_law_at", "_law_sign", "_law_some"]
theorem sc__law_bent : FnScope n__law_bent ["_law_pen_here", "_law_text"] (defScope s__law_bent) := ⟨rfl, rfl, rfl, by decide +kernel, rfl, by decide +kernel, by decide +kernel⟩
def d__law_bent : He.DefD := ⟨("_law_bent", none), "_law_bent", "_law_bent", defArgs s__law_bent, defBody s__law_bent, defScope s__law_bent, [], []⟩
abbrev s_law : Stmt := top 48
abbrev n_law : List Str := ["_law_script", "_law_pen_here", "_law_turn", "_law_prime_here", "_law_field", "_law_told_here", "_law_text", "_law_again", "_law_bent_here", "_law_seen", "_law_odd_here", "_law_due_here", "_law_most", "_law_long", "_law_sign", "_law_far_here"]
theorem sc_law : FnScope n_law ["_law_script"] (defScope s_law) := ⟨rfl, rfl, rfl, by decide +kernel, rfl, by decide +kernel, by decide +kernel⟩
def d_law : He.DefD := ⟨("law", none), "law", "law", defArgs s_law, defBody s_law, defScope s_law, [], []⟩
abbrev s_InvalidNumber___init__ : Stmt := inClass (top 7) 0
abbrev n_InvalidNumber___init__ : List Str := ["self", "value"]
theorem sc_InvalidNumber___init__ : FnScope n_InvalidNumber___init__ ["self", "value"] (defScope s_InvalidNumber___init__) := ⟨rfl, rfl, rfl, by decide +kernel, rfl, by decide +kernel, by decide +kernel⟩
def d_InvalidNumber___init__ : He.DefD := ⟨("InvalidNumber", some "__init__"), "__init__", "InvalidNumber.__init__", defArgs s_InvalidNumber___init__, defBody s_InvalidNumber___init__, defScope s_InvalidNumber___init__, [], []⟩
abbrev s_InvalidText___init__ : Stmt := inClass (top 8) 0
abbrev n_InvalidText___init__ : List Str := ["self", "line"]
theorem sc_InvalidText___init__ : FnScope n_InvalidText___init__ ["self", "line"] (defScope s_InvalidText___init__) := ⟨rfl, rfl, rfl, by decide +kernel, rfl, by decide +kernel, by decide +kernel⟩
def d_InvalidText___init__ : He.DefD := ⟨("InvalidText", some "__init__"), "__init__", "InvalidText.__init__", defArgs s_InvalidText___init__, defBody s_InvalidText___init__, defScope s_InvalidText___init__, [], []⟩
abbrev s_TooLong___init__ : Stmt := inClass (top 9) 0
abbrev n_TooLong___init__ : List Str := ["self"]
theorem sc_TooLong___init__ : FnScope n_TooLong___init__ ["self"] (defScope s_TooLong___init__) := ⟨rfl, rfl, rfl, by decide +kernel, rfl, by decide +kernel, by decide +kernel⟩
def d_TooLong___init__ : He.DefD := ⟨("TooLong", some "__init__"), "__init__", "TooLong.__init__", defArgs s_TooLong___init__, defBody s_TooLong___init__, defScope s_TooLong___init__, [], []⟩
def fn : List He.DefD := [d_is_integer, d_is_between, d_Field___init__, d_Field_is_number, d_Field_text, d_Field_read, d_Field_holds, d_Fractions___init__, d_Modulo___init__, d_is_prime, d_is_fraction, d_is_longer, d_parts, d_integer_of, d_signed_integer_of, d_number_of, d__law_pen, d__law_draw, d__law_pick, d__law_prime, d__law_number, d__law_odd, d__law_far, d__law_tens, d__law_signed, d__law_gcd, d__law_told, d__law_two, d__law_any_number, d__law_made_field, d__law_any_prime, d__law_is_whole, d__law_is_number, d__law_read_told, d__law_text_told, d__law_spelt, d__law_integer, d__law_due, d__law_bent, d_law, d_InvalidNumber___init__, d_InvalidText___init__, d_TooLong___init__]
section
variable {P : Program} {w : World} {K : PySem.W.Frag} {fa : List He.Fa} {mg : Str → Option Value} {base : Heap} {k : Nat} {sp : Sp}
theorem mk_is_integer (S : He.SaysD fa fn K) (len : ∀ vs H Q E, sp vs H Q E → vs.length = 1)
    (hb : ∀ (cdv : Value) (A : Around) (outer : List Env) (s : Shared) (H : Hp) (vs : List V) (Q : VK) (E : XK), A.guards = some [] → Room k (A.deeper (envOfC "is_integer" (defScope s_is_integer) s.heap.objs.size (He.ga K "is_integer") cdv)) → sp vs H Q E →
      ∃ t, PSs (cxOf CX0 P w K mg base n_is_integer "is_integer" (defScope s_is_integer) (He.ga K "is_integer") cdv A outer s H E).nox (defBody s_is_integer) t ∧ t { nx := fun _ H' => Q .non H', rt := Q } (start n_is_integer vs) H) : FnG P w K mg base CX0 (k + 1) (He.ga K "is_integer") sp := by
  obtain ⟨fd, F⟩ := S.def_ 0 (d := d_is_integer) rfl
  exact ok0 F sc_is_integer (F.bindsA fun _ _ _ _ _ _ us hl => match us, hl with | [_], _ => rfl) len hb
theorem kp_is_integer (S : He.SaysD fa fn K) : PySem.W.keepIn K (.ref (He.ga K "is_integer")) = true := by
  obtain ⟨fd, F⟩ := S.def_ 0 (d := d_is_integer) rfl
  exact F.kp
theorem mk_is_between (S : He.SaysD fa fn K) (len : ∀ vs H Q E, sp vs H Q E → vs.length = 3)
    (hb : ∀ (cdv : Value) (A : Around) (outer : List Env) (s : Shared) (H : Hp) (vs : List V) (Q : VK) (E : XK), A.guards = some [] → Room k (A.deeper (envOfC "is_between" (defScope s_is_between) s.heap.objs.size (He.ga K "is_between") cdv)) → sp vs H Q E →
      ∃ t, PSs (cxOf CX0 P w K mg base n_is_between "is_between" (defScope s_is_between) (He.ga K "is_between") cdv A outer s H E).nox (defBody s_is_between) t ∧ t { nx := fun _ H' => Q .non H', rt := Q } (start n_is_between vs) H) : FnG P w K mg base CX0 (k + 1) (He.ga K "is_between") sp := by
  obtain ⟨fd, F⟩ := S.def_ 1 (d := d_is_between) rfl
  exact ok0 F sc_is_between (F.bindsA fun _ _ _ _ _ _ us hl => match us, hl with | [_, _, _], _ => rfl) len hb
theorem kp_is_between (S : He.SaysD fa fn K) : PySem.W.keepIn K (.ref (He.ga K "is_between")) = true := by
  obtain ⟨fd, F⟩ := S.def_ 1 (d := d_is_between) rfl
  exact F.kp
theorem mk_Field___init__ (S : He.SaysD fa fn K) (len : ∀ vs H Q E, sp vs H Q E → vs.length = 2)
    (hb : ∀ (cdv : Value) (A : Around) (outer : List Env) (s : Shared) (H : Hp) (vs : List V) (Q : VK) (E : XK), A.guards = some [] → Room k (A.deeper (envOfC "Field.__init__" (defScope s_Field___init__) s.heap.objs.size (He.ma K (He.ga K "Field") "__init__") cdv)) → sp vs H Q E →
      ∃ t, PSs (cxOf CX0 P w K mg base n_Field___init__ "Field.__init__" (defScope s_Field___init__) (He.ma K (He.ga K "Field") "__init__") cdv A outer s H E).nox (defBody s_Field___init__) t ∧ t { nx := fun _ H' => Q .non H', rt := Q } (start n_Field___init__ vs) H) : FnG P w K mg base CX0 (k + 1) (He.ma K (He.ga K "Field") "__init__") sp := by
  obtain ⟨fd, F⟩ := S.def_ 2 (d := d_Field___init__) rfl
  exact ok0 F sc_Field___init__ (F.bindsA fun _ _ _ _ _ _ us hl => match us, hl with | [_, _], _ => rfl) len hb
theorem kp_Field___init__ (S : He.SaysD fa fn K) : PySem.W.keepIn K (.ref (He.ma K (He.ga K "Field") "__init__")) = true := by
  obtain ⟨fd, F⟩ := S.def_ 2 (d := d_Field___init__) rfl
  exact F.kp
theorem mk_Field_is_number (S : He.SaysD fa fn K) (len : ∀ vs H Q E, sp vs H Q E → vs.length = 2)
    (hb : ∀ (cdv : Value) (A : Around) (outer : List Env) (s : Shared) (H : Hp) (vs : List V) (Q : VK) (E : XK), A.guards = some [] → Room k (A.deeper (envOfC "Field.is_number" (defScope s_Field_is_number) s.heap.objs.size (He.ma K (He.ga K "Field") "is_number") cdv)) → sp vs H Q E →
      ∃ t, PSs (cxOf CX0 P w K mg base n_Field_is_number "Field.is_number" (defScope s_Field_is_number) (He.ma K (He.ga K "Field") "is_number") cdv A outer s H E).nox (defBody s_Field_is_number) t ∧ t { nx := fun _ H' => Q .non H', rt := Q } (start n_Field_is_number vs) H) : FnG P w K mg base CX0 (k + 1) (He.ma K (He.ga K "Field") "is_number") sp := by
  obtain ⟨fd, F⟩ := S.def_ 3 (d := d_Field_is_number) rfl
  exact ok0 F sc_Field_is_number (F.bindsA fun _ _ _ _ _ _ us hl => match us, hl with | [_, _], _ => rfl) len hb
theorem kp_Field_is_number (S : He.SaysD fa fn K) : PySem.W.keepIn K (.ref (He.ma K (He.ga K "Field") "is_number")) = true := by
  obtain ⟨fd, F⟩ := S.def_ 3 (d := d_Field_is_number) rfl
  exact F.kp
theorem mk_Field_text (S : He.SaysD fa fn K) (len : ∀ vs H Q E, sp vs H Q E → vs.length = 2)
    (hb : ∀ (cdv : Value) (A : Around) (outer : List Env) (s : Shared) (H : Hp) (vs : List V) (Q : VK) (E : XK), A.guards = some [] → Room k (A.deeper (envOfC "Field.text" (defScope s_Field_text) s.heap.objs.size (He.ma K (He.ga K "Field") "text") cdv)) → sp vs H Q E →
      ∃ t, PSs (cxOf CX0 P w K mg base n_Field_text "Field.text" (defScope s_Field_text) (He.ma K (He.ga K "Field") "text") cdv A outer s H E).nox (defBody s_Field_text) t ∧ t { nx := fun _ H' => Q .non H', rt := Q } (start n_Field_text vs) H) : FnG P w K mg base CX0 (k + 1) (He.ma K (He.ga K "Field") "text") sp := by
  obtain ⟨fd, F⟩ := S.def_ 4 (d := d_Field_text) rfl
  exact ok0 F sc_Field_text (F.bindsA fun _ _ _ _ _ _ us hl => match us, hl with | [_, _], _ => rfl) len hb
theorem mkX_Field_text (S : He.SaysD fa fn K) (len : ∀ vs H Q E, sp vs H Q E → vs.length = 2)
    (hb : ∀ (cdv : Value) (A : Around) (outer : List Env) (s : Shared) (H : Hp) (vs : List V) (Q : VK) (E : XK), A.guards = some [] → Room k (A.deeper (envOfC "Field.text" (defScope s_Field_text) s.heap.objs.size (He.ma K (He.ga K "Field") "text") cdv)) → sp vs H Q E →
      ∃ t, PSs (cxOf (L2.CX P w) P w K mg base n_Field_text "Field.text" (defScope s_Field_text) (He.ma K (He.ga K "Field") "text") cdv A outer s H E) (defBody s_Field_text) t ∧ t { nx := fun _ H' => Q .non H', rt := Q } (start n_Field_text vs) H) : FnG P w K mg base (L2.CX P w) (k + 1) (He.ma K (He.ga K "Field") "text") sp := by
  obtain ⟨fd, F⟩ := S.def_ 4 (d := d_Field_text) rfl
  exact okG F sc_Field_text (F.bindsA fun _ _ _ _ _ _ us hl => match us, hl with | [_, _], _ => rfl) len hb
theorem kp_Field_text (S : He.SaysD fa fn K) : PySem.W.keepIn K (.ref (He.ma K (He.ga K "Field") "text")) = true := by
  obtain ⟨fd, F⟩ := S.def_ 4 (d := d_Field_text) rfl
  exact F.kp
theorem mk_Field_read (S : He.SaysD fa fn K) (len : ∀ vs H Q E, sp vs H Q E → vs.length = 2)
    (hb : ∀ (cdv : Value) (A : Around) (outer : List Env) (s : Shared) (H : Hp) (vs : List V) (Q : VK) (E : XK), A.guards = some [] → Room k (A.deeper (envOfC "Field.read" (defScope s_Field_read) s.heap.objs.size (He.ma K (He.ga K "Field") "read") cdv)) → sp vs H Q E →
      ∃ t, PSs (cxOf CX0 P w K mg base n_Field_read "Field.read" (defScope s_Field_read) (He.ma K (He.ga K "Field") "read") cdv A outer s H E).nox (defBody s_Field_read) t ∧ t { nx := fun _ H' => Q .non H', rt := Q } (start n_Field_read vs) H) : FnG P w K mg base CX0 (k + 1) (He.ma K (He.ga K "Field") "read") sp := by
  obtain ⟨fd, F⟩ := S.def_ 5 (d := d_Field_read) rfl
  exact ok0 F sc_Field_read (F.bindsA fun _ _ _ _ _ _ us hl => match us, hl with | [_, _], _ => rfl) len hb
theorem mkX_Field_read (S : He.SaysD fa fn K) (len : ∀ vs H Q E, sp vs H Q E → vs.length = 2)
    (hb : ∀ (cdv : Value) (A : Around) (outer : List Env) (s : Shared) (H : Hp) (vs : List V) (Q : VK) (E : XK), A.guards = some [] → Room k (A.deeper (envOfC "Field.read" (defScope s_Field_read) s.heap.objs.size (He.ma K (He.ga K "Field") "read") cdv)) → sp vs H Q E →
      ∃ t, PSs (cxOf (L2.CX P w) P w K mg base n_Field_read "Field.read" (defScope s_Field_read) (He.ma K (He.ga K "Field") "read") cdv A outer s H E) (defBody s_Field_read) t ∧ t { nx := fun _ H' => Q .non H', rt := Q } (start n_Field_read vs) H) : FnG P w K mg base (L2.CX P w) (k + 1) (He.ma K (He.ga K "Field") "read") sp := by
  obtain ⟨fd, F⟩ := S.def_ 5 (d := d_Field_read) rfl
  exact okG F sc_Field_read (F.bindsA fun _ _ _ _ _ _ us hl => match us, hl with | [_, _], _ => rfl) len hb
theorem kp_Field_read (S : He.SaysD fa fn K) : PySem.W.keepIn K (.ref (He.ma K (He.ga K "Field") "read")) = true := by
  obtain ⟨fd, F⟩ := S.def_ 5 (d := d_Field_read) rfl
  exact F.kp
theorem mk_Field_holds (S : He.SaysD fa fn K) (len : ∀ vs H Q E, sp vs H Q E → vs.length = 2)
    (hb : ∀ (cdv : Value) (A : Around) (outer : List Env) (s : Shared) (H : Hp) (vs : List V) (Q : VK) (E : XK), A.guards = some [] → Room k (A.deeper (envOfC "Field.holds" (defScope s_Field_holds) s.heap.objs.size (He.ma K (He.ga K "Field") "holds") cdv)) → sp vs H Q E →
      ∃ t, PSs (cxOf CX0 P w K mg base n_Field_holds "Field.holds" (defScope s_Field_holds) (He.ma K (He.ga K "Field") "holds") cdv A outer s H E).nox (defBody s_Field_holds) t ∧ t { nx := fun _ H' => Q .non H', rt := Q } (start n_Field_holds vs) H) : FnG P w K mg base CX0 (k + 1) (He.ma K (He.ga K "Field") "holds") sp := by
  obtain ⟨fd, F⟩ := S.def_ 6 (d := d_Field_holds) rfl
  exact ok0 F sc_Field_holds (F.bindsA fun _ _ _ _ _ _ us hl => match us, hl with | [_, _], _ => rfl) len hb
theorem kp_Field_holds (S : He.SaysD fa fn K) : PySem.W.keepIn K (.ref (He.ma K (He.ga K "Field") "holds")) = true := by
  obtain ⟨fd, F⟩ := S.def_ 6 (d := d_Field_holds) rfl
  exact F.kp
theorem mk_Fractions___init__ (S : He.SaysD fa fn K) (len : ∀ vs H Q E, sp vs H Q E → vs.length = 1)
    (hb : ∀ (cdv : Value) (A : Around) (outer : List Env) (s : Shared) (H : Hp) (vs : List V) (Q : VK) (E : XK), A.guards = some [] → Room k (A.deeper (envOfC "Fractions.__init__" (defScope s_Fractions___init__) s.heap.objs.size (He.ma K (He.ga K "Fractions") "__init__") cdv)) → sp vs H Q E →
      ∃ t, PSs (cxOf CX0 P w K mg base n_Fractions___init__ "Fractions.__init__" (defScope s_Fractions___init__) (He.ma K (He.ga K "Fractions") "__init__") cdv A outer s H E).nox (defBody s_Fractions___init__) t ∧ t { nx := fun _ H' => Q .non H', rt := Q } (start n_Fractions___init__ vs) H) : FnG P w K mg base CX0 (k + 1) (He.ma K (He.ga K "Fractions") "__init__") sp := by
  obtain ⟨fd, F⟩ := S.def_ 7 (d := d_Fractions___init__) rfl
  exact ok0 F sc_Fractions___init__ (F.bindsA fun _ _ _ _ _ _ us hl => match us, hl with | [_], _ => rfl) len hb
theorem kp_Fractions___init__ (S : He.SaysD fa fn K) : PySem.W.keepIn K (.ref (He.ma K (He.ga K "Fractions") "__init__")) = true := by
  obtain ⟨fd, F⟩ := S.def_ 7 (d := d_Fractions___init__) rfl
  exact F.kp
theorem mk_Modulo___init__ (S : He.SaysD fa fn K) (len : ∀ vs H Q E, sp vs H Q E → vs.length = 2)
    (hb : ∀ (cdv : Value) (A : Around) (outer : List Env) (s : Shared) (H : Hp) (vs : List V) (Q : VK) (E : XK), A.guards = some [] → Room k (A.deeper (envOfC "Modulo.__init__" (defScope s_Modulo___init__) s.heap.objs.size (He.ma K (He.ga K "Modulo") "__init__") cdv)) → sp vs H Q E →
      ∃ t, PSs (cxOf CX0 P w K mg base n_Modulo___init__ "Modulo.__init__" (defScope s_Modulo___init__) (He.ma K (He.ga K "Modulo") "__init__") cdv A outer s H E).nox (defBody s_Modulo___init__) t ∧ t { nx := fun _ H' => Q .non H', rt := Q } (start n_Modulo___init__ vs) H) : FnG P w K mg base CX0 (k + 1) (He.ma K (He.ga K "Modulo") "__init__") sp := by
  obtain ⟨fd, F⟩ := S.def_ 8 (d := d_Modulo___init__) rfl
  exact ok0 F sc_Modulo___init__ (F.bindsA fun _ _ _ _ _ _ us hl => match us, hl with | [_, _], _ => rfl) len hb
theorem kp_Modulo___init__ (S : He.SaysD fa fn K) : PySem.W.keepIn K (.ref (He.ma K (He.ga K "Modulo") "__init__")) = true := by
  obtain ⟨fd, F⟩ := S.def_ 8 (d := d_Modulo___init__) rfl
  exact F.kp
theorem mk_is_prime (S : He.SaysD fa fn K) (len : ∀ vs H Q E, sp vs H Q E → vs.length = 1)
    (hb : ∀ (cdv : Value) (A : Around) (outer : List Env) (s : Shared) (H : Hp) (vs : List V) (Q : VK) (E : XK), A.guards = some [] → Room k (A.deeper (envOfC "is_prime" (defScope s_is_prime) s.heap.objs.size (He.ga K "is_prime") cdv)) → sp vs H Q E →
      ∃ t, PSs (cxOf CX0 P w K mg base n_is_prime "is_prime" (defScope s_is_prime) (He.ga K "is_prime") cdv A outer s H E).nox (defBody s_is_prime) t ∧ t { nx := fun _ H' => Q .non H', rt := Q } (start n_is_prime vs) H) : FnG P w K mg base CX0 (k + 1) (He.ga K "is_prime") sp := by
  obtain ⟨fd, F⟩ := S.def_ 9 (d := d_is_prime) rfl
  exact ok0 F sc_is_prime (F.bindsA fun _ _ _ _ _ _ us hl => match us, hl with | [_], _ => rfl) len hb
theorem kp_is_prime (S : He.SaysD fa fn K) : PySem.W.keepIn K (.ref (He.ga K "is_prime")) = true := by
  obtain ⟨fd, F⟩ := S.def_ 9 (d := d_is_prime) rfl
  exact F.kp
theorem mk_is_fraction (S : He.SaysD fa fn K) (len : ∀ vs H Q E, sp vs H Q E → vs.length = 1)
    (hb : ∀ (cdv : Value) (A : Around) (outer : List Env) (s : Shared) (H : Hp) (vs : List V) (Q : VK) (E : XK), A.guards = some [] → Room k (A.deeper (envOfC "is_fraction" (defScope s_is_fraction) s.heap.objs.size (He.ga K "is_fraction") cdv)) → sp vs H Q E →
      ∃ t, PSs (cxOf CX0 P w K mg base n_is_fraction "is_fraction" (defScope s_is_fraction) (He.ga K "is_fraction") cdv A outer s H E).nox (defBody s_is_fraction) t ∧ t { nx := fun _ H' => Q .non H', rt := Q } (start n_is_fraction vs) H) : FnG P w K mg base CX0 (k + 1) (He.ga K "is_fraction") sp := by
  obtain ⟨fd, F⟩ := S.def_ 10 (d := d_is_fraction) rfl
  exact ok0 F sc_is_fraction (F.bindsA fun _ _ _ _ _ _ us hl => match us, hl with | [_], _ => rfl) len hb
theorem kp_is_fraction (S : He.SaysD fa fn K) : PySem.W.keepIn K (.ref (He.ga K "is_fraction")) = true := by
  obtain ⟨fd, F⟩ := S.def_ 10 (d := d_is_fraction) rfl
  exact F.kp
theorem mk_is_longer (S : He.SaysD fa fn K) (len : ∀ vs H Q E, sp vs H Q E → vs.length = 2)
    (hb : ∀ (cdv : Value) (A : Around) (outer : List Env) (s : Shared) (H : Hp) (vs : List V) (Q : VK) (E : XK), A.guards = some [] → Room k (A.deeper (envOfC "is_longer" (defScope s_is_longer) s.heap.objs.size (He.ga K "is_longer") cdv)) → sp vs H Q E →
      ∃ t, PSs (cxOf CX0 P w K mg base n_is_longer "is_longer" (defScope s_is_longer) (He.ga K "is_longer") cdv A outer s H E).nox (defBody s_is_longer) t ∧ t { nx := fun _ H' => Q .non H', rt := Q } (start n_is_longer vs) H) : FnG P w K mg base CX0 (k + 1) (He.ga K "is_longer") sp := by
  obtain ⟨fd, F⟩ := S.def_ 11 (d := d_is_longer) rfl
  exact ok0 F sc_is_longer (F.bindsA fun _ _ _ _ _ _ us hl => match us, hl with | [_, _], _ => rfl) len hb
theorem kp_is_longer (S : He.SaysD fa fn K) : PySem.W.keepIn K (.ref (He.ga K "is_longer")) = true := by
  obtain ⟨fd, F⟩ := S.def_ 11 (d := d_is_longer) rfl
  exact F.kp
theorem mk_parts (S : He.SaysD fa fn K) (len : ∀ vs H Q E, sp vs H Q E → vs.length = 1)
    (hb : ∀ (cdv : Value) (A : Around) (outer : List Env) (s : Shared) (H : Hp) (vs : List V) (Q : VK) (E : XK), A.guards = some [] → Room k (A.deeper (envOfC "parts" (defScope s_parts) s.heap.objs.size (He.ga K "parts") cdv)) → sp vs H Q E →
      ∃ t, PSs (cxOf CX0 P w K mg base n_parts "parts" (defScope s_parts) (He.ga K "parts") cdv A outer s H E).nox (defBody s_parts) t ∧ t { nx := fun _ H' => Q .non H', rt := Q } (start n_parts vs) H) : FnG P w K mg base CX0 (k + 1) (He.ga K "parts") sp := by
  obtain ⟨fd, F⟩ := S.def_ 12 (d := d_parts) rfl
  exact ok0 F sc_parts (F.bindsA fun _ _ _ _ _ _ us hl => match us, hl with | [_], _ => rfl) len hb
theorem kp_parts (S : He.SaysD fa fn K) : PySem.W.keepIn K (.ref (He.ga K "parts")) = true := by
  obtain ⟨fd, F⟩ := S.def_ 12 (d := d_parts) rfl
  exact F.kp
theorem mk_integer_of (S : He.SaysD fa fn K) (len : ∀ vs H Q E, sp vs H Q E → vs.length = 2)
    (hb : ∀ (cdv : Value) (A : Around) (outer : List Env) (s : Shared) (H : Hp) (vs : List V) (Q : VK) (E : XK), A.guards = some [] → Room k (A.deeper (envOfC "integer_of" (defScope s_integer_of) s.heap.objs.size (He.ga K "integer_of") cdv)) → sp vs H Q E →
      ∃ t, PSs (cxOf CX0 P w K mg base n_integer_of "integer_of" (defScope s_integer_of) (He.ga K "integer_of") cdv A outer s H E).nox (defBody s_integer_of) t ∧ t { nx := fun _ H' => Q .non H', rt := Q } (start n_integer_of vs) H) : FnG P w K mg base CX0 (k + 1) (He.ga K "integer_of") sp := by
  obtain ⟨fd, F⟩ := S.def_ 13 (d := d_integer_of) rfl
  exact ok0 F sc_integer_of (F.bindsA fun _ _ _ _ _ _ us hl => match us, hl with | [_, _], _ => rfl) len hb
theorem kp_integer_of (S : He.SaysD fa fn K) : PySem.W.keepIn K (.ref (He.ga K "integer_of")) = true := by
  obtain ⟨fd, F⟩ := S.def_ 13 (d := d_integer_of) rfl
  exact F.kp
theorem mk_signed_integer_of (S : He.SaysD fa fn K) (len : ∀ vs H Q E, sp vs H Q E → vs.length = 1)
    (hb : ∀ (cdv : Value) (A : Around) (outer : List Env) (s : Shared) (H : Hp) (vs : List V) (Q : VK) (E : XK), A.guards = some [] → Room k (A.deeper (envOfC "signed_integer_of" (defScope s_signed_integer_of) s.heap.objs.size (He.ga K "signed_integer_of") cdv)) → sp vs H Q E →
      ∃ t, PSs (cxOf CX0 P w K mg base n_signed_integer_of "signed_integer_of" (defScope s_signed_integer_of) (He.ga K "signed_integer_of") cdv A outer s H E).nox (defBody s_signed_integer_of) t ∧ t { nx := fun _ H' => Q .non H', rt := Q } (start n_signed_integer_of vs) H) : FnG P w K mg base CX0 (k + 1) (He.ga K "signed_integer_of") sp := by
  obtain ⟨fd, F⟩ := S.def_ 14 (d := d_signed_integer_of) rfl
  exact ok0 F sc_signed_integer_of (F.bindsA fun _ _ _ _ _ _ us hl => match us, hl with | [_], _ => rfl) len hb
theorem kp_signed_integer_of (S : He.SaysD fa fn K) : PySem.W.keepIn K (.ref (He.ga K "signed_integer_of")) = true := by
  obtain ⟨fd, F⟩ := S.def_ 14 (d := d_signed_integer_of) rfl
  exact F.kp
theorem mk_number_of (S : He.SaysD fa fn K) (len : ∀ vs H Q E, sp vs H Q E → vs.length = 1)
    (hb : ∀ (cdv : Value) (A : Around) (outer : List Env) (s : Shared) (H : Hp) (vs : List V) (Q : VK) (E : XK), A.guards = some [] → Room k (A.deeper (envOfC "number_of" (defScope s_number_of) s.heap.objs.size (He.ga K "number_of") cdv)) → sp vs H Q E →
      ∃ t, PSs (cxOf CX0 P w K mg base n_number_of "number_of" (defScope s_number_of) (He.ga K "number_of") cdv A outer s H E).nox (defBody s_number_of) t ∧ t { nx := fun _ H' => Q .non H', rt := Q } (start n_number_of vs) H) : FnG P w K mg base CX0 (k + 1) (He.ga K "number_of") sp := by
  obtain ⟨fd, F⟩ := S.def_ 15 (d := d_number_of) rfl
  exact ok0 F sc_number_of (F.bindsA fun _ _ _ _ _ _ us hl => match us, hl with | [_], _ => rfl) len hb
theorem kp_number_of (S : He.SaysD fa fn K) : PySem.W.keepIn K (.ref (He.ga K "number_of")) = true := by
  obtain ⟨fd, F⟩ := S.def_ 15 (d := d_number_of) rfl
  exact F.kp
theorem mk__law_pen (S : He.SaysD fa fn K) (len : ∀ vs H Q E, sp vs H Q E → vs.length = 1)
    (hb : ∀ (cdv : Value) (A : Around) (outer : List Env) (s : Shared) (H : Hp) (vs : List V) (Q : VK) (E : XK), A.guards = some [] → Room k (A.deeper (envOfC "_law_pen" (defScope s__law_pen) s.heap.objs.size (He.ga K "_law_pen") cdv)) → sp vs H Q E →
      ∃ t, PSs (cxOf CX0 P w K mg base n__law_pen "_law_pen" (defScope s__law_pen) (He.ga K "_law_pen") cdv A outer s H E).nox (defBody s__law_pen) t ∧ t { nx := fun _ H' => Q .non H', rt := Q } (start n__law_pen vs) H) : FnG P w K mg base CX0 (k + 1) (He.ga K "_law_pen") sp := by
  obtain ⟨fd, F⟩ := S.def_ 16 (d := d__law_pen) rfl
  exact ok0 F sc__law_pen (F.bindsA fun _ _ _ _ _ _ us hl => match us, hl with | [_], _ => rfl) len hb
theorem kp__law_pen (S : He.SaysD fa fn K) : PySem.W.keepIn K (.ref (He.ga K "_law_pen")) = true := by
  obtain ⟨fd, F⟩ := S.def_ 16 (d := d__law_pen) rfl
  exact F.kp
theorem mk__law_draw (S : He.SaysD fa fn K) (len : ∀ vs H Q E, sp vs H Q E → vs.length = 2)
    (hb : ∀ (cdv : Value) (A : Around) (outer : List Env) (s : Shared) (H : Hp) (vs : List V) (Q : VK) (E : XK), A.guards = some [] → Room k (A.deeper (envOfC "_law_draw" (defScope s__law_draw) s.heap.objs.size (He.ga K "_law_draw") cdv)) → sp vs H Q E →
      ∃ t, PSs (cxOf CX0 P w K mg base n__law_draw "_law_draw" (defScope s__law_draw) (He.ga K "_law_draw") cdv A outer s H E).nox (defBody s__law_draw) t ∧ t { nx := fun _ H' => Q .non H', rt := Q } (start n__law_draw vs) H) : FnG P w K mg base CX0 (k + 1) (He.ga K "_law_draw") sp := by
  obtain ⟨fd, F⟩ := S.def_ 17 (d := d__law_draw) rfl
  exact ok0 F sc__law_draw (F.bindsA fun _ _ _ _ _ _ us hl => match us, hl with | [_, _], _ => rfl) len hb
theorem kp__law_draw (S : He.SaysD fa fn K) : PySem.W.keepIn K (.ref (He.ga K "_law_draw")) = true := by
  obtain ⟨fd, F⟩ := S.def_ 17 (d := d__law_draw) rfl
  exact F.kp
theorem mk__law_pick (S : He.SaysD fa fn K) (len : ∀ vs H Q E, sp vs H Q E → vs.length = 2)
    (hb : ∀ (cdv : Value) (A : Around) (outer : List Env) (s : Shared) (H : Hp) (vs : List V) (Q : VK) (E : XK), A.guards = some [] → Room k (A.deeper (envOfC "_law_pick" (defScope s__law_pick) s.heap.objs.size (He.ga K "_law_pick") cdv)) → sp vs H Q E →
      ∃ t, PSs (cxOf CX0 P w K mg base n__law_pick "_law_pick" (defScope s__law_pick) (He.ga K "_law_pick") cdv A outer s H E).nox (defBody s__law_pick) t ∧ t { nx := fun _ H' => Q .non H', rt := Q } (start n__law_pick vs) H) : FnG P w K mg base CX0 (k + 1) (He.ga K "_law_pick") sp := by
  obtain ⟨fd, F⟩ := S.def_ 18 (d := d__law_pick) rfl
  exact ok0 F sc__law_pick (F.bindsA fun _ _ _ _ _ _ us hl => match us, hl with | [_, _], _ => rfl) len hb
theorem kp__law_pick (S : He.SaysD fa fn K) : PySem.W.keepIn K (.ref (He.ga K "_law_pick")) = true := by
  obtain ⟨fd, F⟩ := S.def_ 18 (d := d__law_pick) rfl
  exact F.kp
theorem mk__law_prime (S : He.SaysD fa fn K) (len : ∀ vs H Q E, sp vs H Q E → vs.length = 1)
    (hb : ∀ (cdv : Value) (A : Around) (outer : List Env) (s : Shared) (H : Hp) (vs : List V) (Q : VK) (E : XK), A.guards = some [] → Room k (A.deeper (envOfC "_law_prime" (defScope s__law_prime) s.heap.objs.size (He.ga K "_law_prime") cdv)) → sp vs H Q E →
      ∃ t, PSs (cxOf CX0 P w K mg base n__law_prime "_law_prime" (defScope s__law_prime) (He.ga K "_law_prime") cdv A outer s H E).nox (defBody s__law_prime) t ∧ t { nx := fun _ H' => Q .non H', rt := Q } (start n__law_prime vs) H) : FnG P w K mg base CX0 (k + 1) (He.ga K "_law_prime") sp := by
  obtain ⟨fd, F⟩ := S.def_ 19 (d := d__law_prime) rfl
  exact ok0 F sc__law_prime (F.bindsA fun _ _ _ _ _ _ us hl => match us, hl with | [_], _ => rfl) len hb
theorem kp__law_prime (S : He.SaysD fa fn K) : PySem.W.keepIn K (.ref (He.ga K "_law_prime")) = true := by
  obtain ⟨fd, F⟩ := S.def_ 19 (d := d__law_prime) rfl
  exact F.kp
theorem mk__law_number (S : He.SaysD fa fn K) (len : ∀ vs H Q E, sp vs H Q E → vs.length = 2)
    (hb : ∀ (cdv : Value) (A : Around) (outer : List Env) (s : Shared) (H : Hp) (vs : List V) (Q : VK) (E : XK), A.guards = some [] → Room k (A.deeper (envOfC "_law_number" (defScope s__law_number) s.heap.objs.size (He.ga K "_law_number") cdv)) → sp vs H Q E →
      ∃ t, PSs (cxOf CX0 P w K mg base n__law_number "_law_number" (defScope s__law_number) (He.ga K "_law_number") cdv A outer s H E).nox (defBody s__law_number) t ∧ t { nx := fun _ H' => Q .non H', rt := Q } (start n__law_number vs) H) : FnG P w K mg base CX0 (k + 1) (He.ga K "_law_number") sp := by
  obtain ⟨fd, F⟩ := S.def_ 20 (d := d__law_number) rfl
  exact ok0 F sc__law_number (F.bindsA fun _ _ _ _ _ _ us hl => match us, hl with | [_, _], _ => rfl) len hb
theorem kp__law_number (S : He.SaysD fa fn K) : PySem.W.keepIn K (.ref (He.ga K "_law_number")) = true := by
  obtain ⟨fd, F⟩ := S.def_ 20 (d := d__law_number) rfl
  exact F.kp
theorem mk__law_odd (S : He.SaysD fa fn K) (len : ∀ vs H Q E, sp vs H Q E → vs.length = 1)
    (hb : ∀ (cdv : Value) (A : Around) (outer : List Env) (s : Shared) (H : Hp) (vs : List V) (Q : VK) (E : XK), A.guards = some [] → Room k (A.deeper (envOfC "_law_odd" (defScope s__law_odd) s.heap.objs.size (He.ga K "_law_odd") cdv)) → sp vs H Q E →
      ∃ t, PSs (cxOf CX0 P w K mg base n__law_odd "_law_odd" (defScope s__law_odd) (He.ga K "_law_odd") cdv A outer s H E).nox (defBody s__law_odd) t ∧ t { nx := fun _ H' => Q .non H', rt := Q } (start n__law_odd vs) H) : FnG P w K mg base CX0 (k + 1) (He.ga K "_law_odd") sp := by
  obtain ⟨fd, F⟩ := S.def_ 21 (d := d__law_odd) rfl
  exact ok0 F sc__law_odd (F.bindsA fun _ _ _ _ _ _ us hl => match us, hl with | [_], _ => rfl) len hb
theorem kp__law_odd (S : He.SaysD fa fn K) : PySem.W.keepIn K (.ref (He.ga K "_law_odd")) = true := by
  obtain ⟨fd, F⟩ := S.def_ 21 (d := d__law_odd) rfl
  exact F.kp
theorem mk__law_far (S : He.SaysD fa fn K) (len : ∀ vs H Q E, sp vs H Q E → vs.length = 1)
    (hb : ∀ (cdv : Value) (A : Around) (outer : List Env) (s : Shared) (H : Hp) (vs : List V) (Q : VK) (E : XK), A.guards = some [] → Room k (A.deeper (envOfC "_law_far" (defScope s__law_far) s.heap.objs.size (He.ga K "_law_far") cdv)) → sp vs H Q E →
      ∃ t, PSs (cxOf CX0 P w K mg base n__law_far "_law_far" (defScope s__law_far) (He.ga K "_law_far") cdv A outer s H E).nox (defBody s__law_far) t ∧ t { nx := fun _ H' => Q .non H', rt := Q } (start n__law_far vs) H) : FnG P w K mg base CX0 (k + 1) (He.ga K "_law_far") sp := by
  obtain ⟨fd, F⟩ := S.def_ 22 (d := d__law_far) rfl
  exact ok0 F sc__law_far (F.bindsA fun _ _ _ _ _ _ us hl => match us, hl with | [_], _ => rfl) len hb
theorem kp__law_far (S : He.SaysD fa fn K) : PySem.W.keepIn K (.ref (He.ga K "_law_far")) = true := by
  obtain ⟨fd, F⟩ := S.def_ 22 (d := d__law_far) rfl
  exact F.kp
theorem mk__law_tens (S : He.SaysD fa fn K) (len : ∀ vs H Q E, sp vs H Q E → vs.length = 1)
    (hb : ∀ (cdv : Value) (A : Around) (outer : List Env) (s : Shared) (H : Hp) (vs : List V) (Q : VK) (E : XK), A.guards = some [] → Room k (A.deeper (envOfC "_law_tens" (defScope s__law_tens) s.heap.objs.size (He.ga K "_law_tens") cdv)) → sp vs H Q E →
      ∃ t, PSs (cxOf CX0 P w K mg base n__law_tens "_law_tens" (defScope s__law_tens) (He.ga K "_law_tens") cdv A outer s H E).nox (defBody s__law_tens) t ∧ t { nx := fun _ H' => Q .non H', rt := Q } (start n__law_tens vs) H) : FnG P w K mg base CX0 (k + 1) (He.ga K "_law_tens") sp := by
  obtain ⟨fd, F⟩ := S.def_ 23 (d := d__law_tens) rfl
  exact ok0 F sc__law_tens (F.bindsA fun _ _ _ _ _ _ us hl => match us, hl with | [_], _ => rfl) len hb
theorem kp__law_tens (S : He.SaysD fa fn K) : PySem.W.keepIn K (.ref (He.ga K "_law_tens")) = true := by
  obtain ⟨fd, F⟩ := S.def_ 23 (d := d__law_tens) rfl
  exact F.kp
theorem mk__law_signed (S : He.SaysD fa fn K) (len : ∀ vs H Q E, sp vs H Q E → vs.length = 2)
    (hb : ∀ (cdv : Value) (A : Around) (outer : List Env) (s : Shared) (H : Hp) (vs : List V) (Q : VK) (E : XK), A.guards = some [] → Room k (A.deeper (envOfC "_law_signed" (defScope s__law_signed) s.heap.objs.size (He.ga K "_law_signed") cdv)) → sp vs H Q E →
      ∃ t, PSs (cxOf CX0 P w K mg base n__law_signed "_law_signed" (defScope s__law_signed) (He.ga K "_law_signed") cdv A outer s H E).nox (defBody s__law_signed) t ∧ t { nx := fun _ H' => Q .non H', rt := Q } (start n__law_signed vs) H) : FnG P w K mg base CX0 (k + 1) (He.ga K "_law_signed") sp := by
  obtain ⟨fd, F⟩ := S.def_ 24 (d := d__law_signed) rfl
  exact ok0 F sc__law_signed (F.bindsA fun _ _ _ _ _ _ us hl => match us, hl with | [_, _], _ => rfl) len hb
theorem kp__law_signed (S : He.SaysD fa fn K) : PySem.W.keepIn K (.ref (He.ga K "_law_signed")) = true := by
  obtain ⟨fd, F⟩ := S.def_ 24 (d := d__law_signed) rfl
  exact F.kp
theorem mk__law_gcd (S : He.SaysD fa fn K) (len : ∀ vs H Q E, sp vs H Q E → vs.length = 2)
    (hb : ∀ (cdv : Value) (A : Around) (outer : List Env) (s : Shared) (H : Hp) (vs : List V) (Q : VK) (E : XK), A.guards = some [] → Room k (A.deeper (envOfC "_law_gcd" (defScope s__law_gcd) s.heap.objs.size (He.ga K "_law_gcd") cdv)) → sp vs H Q E →
      ∃ t, PSs (cxOf CX0 P w K mg base n__law_gcd "_law_gcd" (defScope s__law_gcd) (He.ga K "_law_gcd") cdv A outer s H E).nox (defBody s__law_gcd) t ∧ t { nx := fun _ H' => Q .non H', rt := Q } (start n__law_gcd vs) H) : FnG P w K mg base CX0 (k + 1) (He.ga K "_law_gcd") sp := by
  obtain ⟨fd, F⟩ := S.def_ 25 (d := d__law_gcd) rfl
  exact ok0 F sc__law_gcd (F.bindsA fun _ _ _ _ _ _ us hl => match us, hl with | [_, _], _ => rfl) len hb
theorem kp__law_gcd (S : He.SaysD fa fn K) : PySem.W.keepIn K (.ref (He.ga K "_law_gcd")) = true := by
  obtain ⟨fd, F⟩ := S.def_ 25 (d := d__law_gcd) rfl
  exact F.kp
theorem mk__law_told (S : He.SaysD fa fn K) (len : ∀ vs H Q E, sp vs H Q E → vs.length = 2)
    (hb : ∀ (cdv : Value) (A : Around) (outer : List Env) (s : Shared) (H : Hp) (vs : List V) (Q : VK) (E : XK), A.guards = some [] → Room k (A.deeper (envOfC "_law_told" (defScope s__law_told) s.heap.objs.size (He.ga K "_law_told") cdv)) → sp vs H Q E →
      ∃ t, PSs (cxOf CX0 P w K mg base n__law_told "_law_told" (defScope s__law_told) (He.ga K "_law_told") cdv A outer s H E).nox (defBody s__law_told) t ∧ t { nx := fun _ H' => Q .non H', rt := Q } (start n__law_told vs) H) : FnG P w K mg base CX0 (k + 1) (He.ga K "_law_told") sp := by
  obtain ⟨fd, F⟩ := S.def_ 26 (d := d__law_told) rfl
  exact ok0 F sc__law_told (F.bindsA fun _ _ _ _ _ _ us hl => match us, hl with | [_, _], _ => rfl) len hb
theorem kp__law_told (S : He.SaysD fa fn K) : PySem.W.keepIn K (.ref (He.ga K "_law_told")) = true := by
  obtain ⟨fd, F⟩ := S.def_ 26 (d := d__law_told) rfl
  exact F.kp
theorem mk__law_two (S : He.SaysD fa fn K) (len : ∀ vs H Q E, sp vs H Q E → vs.length = 1)
    (hb : ∀ (cdv : Value) (A : Around) (outer : List Env) (s : Shared) (H : Hp) (vs : List V) (Q : VK) (E : XK), A.guards = some [] → Room k (A.deeper (envOfC "_law_two" (defScope s__law_two) s.heap.objs.size (He.ga K "_law_two") cdv)) → sp vs H Q E →
      ∃ t, PSs (cxOf CX0 P w K mg base n__law_two "_law_two" (defScope s__law_two) (He.ga K "_law_two") cdv A outer s H E).nox (defBody s__law_two) t ∧ t { nx := fun _ H' => Q .non H', rt := Q } (start n__law_two vs) H) : FnG P w K mg base CX0 (k + 1) (He.ga K "_law_two") sp := by
  obtain ⟨fd, F⟩ := S.def_ 27 (d := d__law_two) rfl
  exact ok0 F sc__law_two (F.bindsA fun _ _ _ _ _ _ us hl => match us, hl with | [_], _ => rfl) len hb
theorem kp__law_two (S : He.SaysD fa fn K) : PySem.W.keepIn K (.ref (He.ga K "_law_two")) = true := by
  obtain ⟨fd, F⟩ := S.def_ 27 (d := d__law_two) rfl
  exact F.kp
theorem mk__law_any_number (S : He.SaysD fa fn K) (len : ∀ vs H Q E, sp vs H Q E → vs.length = 3)
    (hb : ∀ (cdv : Value) (A : Around) (outer : List Env) (s : Shared) (H : Hp) (vs : List V) (Q : VK) (E : XK), A.guards = some [] → Room k (A.deeper (envOfC "_law_any_number" (defScope s__law_any_number) s.heap.objs.size (He.ga K "_law_any_number") cdv)) → sp vs H Q E →
      ∃ t, PSs (cxOf CX0 P w K mg base n__law_any_number "_law_any_number" (defScope s__law_any_number) (He.ga K "_law_any_number") cdv A outer s H E).nox (defBody s__law_any_number) t ∧ t { nx := fun _ H' => Q .non H', rt := Q } (start n__law_any_number vs) H) : FnG P w K mg base CX0 (k + 1) (He.ga K "_law_any_number") sp := by
  obtain ⟨fd, F⟩ := S.def_ 28 (d := d__law_any_number) rfl
  exact ok0 F sc__law_any_number (F.bindsA fun _ _ _ _ _ _ us hl => match us, hl with | [_, _, _], _ => rfl) len hb
theorem kp__law_any_number (S : He.SaysD fa fn K) : PySem.W.keepIn K (.ref (He.ga K "_law_any_number")) = true := by
  obtain ⟨fd, F⟩ := S.def_ 28 (d := d__law_any_number) rfl
  exact F.kp
theorem mk__law_made_field (S : He.SaysD fa fn K) (len : ∀ vs H Q E, sp vs H Q E → vs.length = 1)
    (hb : ∀ (cdv : Value) (A : Around) (outer : List Env) (s : Shared) (H : Hp) (vs : List V) (Q : VK) (E : XK), A.guards = some [] → Room k (A.deeper (envOfC "_law_made_field" (defScope s__law_made_field) s.heap.objs.size (He.ga K "_law_made_field") cdv)) → sp vs H Q E →
      ∃ t, PSs (cxOf CX0 P w K mg base n__law_made_field "_law_made_field" (defScope s__law_made_field) (He.ga K "_law_made_field") cdv A outer s H E).nox (defBody s__law_made_field) t ∧ t { nx := fun _ H' => Q .non H', rt := Q } (start n__law_made_field vs) H) : FnG P w K mg base CX0 (k + 1) (He.ga K "_law_made_field") sp := by
  obtain ⟨fd, F⟩ := S.def_ 29 (d := d__law_made_field) rfl
  exact ok0 F sc__law_made_field (F.bindsA fun _ _ _ _ _ _ us hl => match us, hl with | [_], _ => rfl) len hb
theorem kp__law_made_field (S : He.SaysD fa fn K) : PySem.W.keepIn K (.ref (He.ga K "_law_made_field")) = true := by
  obtain ⟨fd, F⟩ := S.def_ 29 (d := d__law_made_field) rfl
  exact F.kp
theorem mk__law_any_prime (S : He.SaysD fa fn K) (len : ∀ vs H Q E, sp vs H Q E → vs.length = 1)
    (hb : ∀ (cdv : Value) (A : Around) (outer : List Env) (s : Shared) (H : Hp) (vs : List V) (Q : VK) (E : XK), A.guards = some [] → Room k (A.deeper (envOfC "_law_any_prime" (defScope s__law_any_prime) s.heap.objs.size (He.ga K "_law_any_prime") cdv)) → sp vs H Q E →
      ∃ t, PSs (cxOf CX0 P w K mg base n__law_any_prime "_law_any_prime" (defScope s__law_any_prime) (He.ga K "_law_any_prime") cdv A outer s H E).nox (defBody s__law_any_prime) t ∧ t { nx := fun _ H' => Q .non H', rt := Q } (start n__law_any_prime vs) H) : FnG P w K mg base CX0 (k + 1) (He.ga K "_law_any_prime") sp := by
  obtain ⟨fd, F⟩ := S.def_ 30 (d := d__law_any_prime) rfl
  exact ok0 F sc__law_any_prime (F.bindsA fun _ _ _ _ _ _ us hl => match us, hl with | [_], _ => rfl) len hb
theorem kp__law_any_prime (S : He.SaysD fa fn K) : PySem.W.keepIn K (.ref (He.ga K "_law_any_prime")) = true := by
  obtain ⟨fd, F⟩ := S.def_ 30 (d := d__law_any_prime) rfl
  exact F.kp
theorem mk__law_is_whole (S : He.SaysD fa fn K) (len : ∀ vs H Q E, sp vs H Q E → vs.length = 1)
    (hb : ∀ (cdv : Value) (A : Around) (outer : List Env) (s : Shared) (H : Hp) (vs : List V) (Q : VK) (E : XK), A.guards = some [] → Room k (A.deeper (envOfC "_law_is_whole" (defScope s__law_is_whole) s.heap.objs.size (He.ga K "_law_is_whole") cdv)) → sp vs H Q E →
      ∃ t, PSs (cxOf CX0 P w K mg base n__law_is_whole "_law_is_whole" (defScope s__law_is_whole) (He.ga K "_law_is_whole") cdv A outer s H E).nox (defBody s__law_is_whole) t ∧ t { nx := fun _ H' => Q .non H', rt := Q } (start n__law_is_whole vs) H) : FnG P w K mg base CX0 (k + 1) (He.ga K "_law_is_whole") sp := by
  obtain ⟨fd, F⟩ := S.def_ 31 (d := d__law_is_whole) rfl
  exact ok0 F sc__law_is_whole (F.bindsA fun _ _ _ _ _ _ us hl => match us, hl with | [_], _ => rfl) len hb
theorem kp__law_is_whole (S : He.SaysD fa fn K) : PySem.W.keepIn K (.ref (He.ga K "_law_is_whole")) = true := by
  obtain ⟨fd, F⟩ := S.def_ 31 (d := d__law_is_whole) rfl
  exact F.kp
theorem mk__law_is_number (S : He.SaysD fa fn K) (len : ∀ vs H Q E, sp vs H Q E → vs.length = 2)
    (hb : ∀ (cdv : Value) (A : Around) (outer : List Env) (s : Shared) (H : Hp) (vs : List V) (Q : VK) (E : XK), A.guards = some [] → Room k (A.deeper (envOfC "_law_is_number" (defScope s__law_is_number) s.heap.objs.size (He.ga K "_law_is_number") cdv)) → sp vs H Q E →
      ∃ t, PSs (cxOf CX0 P w K mg base n__law_is_number "_law_is_number" (defScope s__law_is_number) (He.ga K "_law_is_number") cdv A outer s H E).nox (defBody s__law_is_number) t ∧ t { nx := fun _ H' => Q .non H', rt := Q } (start n__law_is_number vs) H) : FnG P w K mg base CX0 (k + 1) (He.ga K "_law_is_number") sp := by
  obtain ⟨fd, F⟩ := S.def_ 32 (d := d__law_is_number) rfl
  exact ok0 F sc__law_is_number (F.bindsA fun _ _ _ _ _ _ us hl => match us, hl with | [_, _], _ => rfl) len hb
theorem kp__law_is_number (S : He.SaysD fa fn K) : PySem.W.keepIn K (.ref (He.ga K "_law_is_number")) = true := by
  obtain ⟨fd, F⟩ := S.def_ 32 (d := d__law_is_number) rfl
  exact F.kp
theorem mk__law_read_told (S : He.SaysD fa fn K) (len : ∀ vs H Q E, sp vs H Q E → vs.length = 2)
    (hb : ∀ (cdv : Value) (A : Around) (outer : List Env) (s : Shared) (H : Hp) (vs : List V) (Q : VK) (E : XK), A.guards = some [] → Room k (A.deeper (envOfC "_law_read_told" (defScope s__law_read_told) s.heap.objs.size (He.ga K "_law_read_told") cdv)) → sp vs H Q E →
      ∃ t, PSs (cxOf CX0 P w K mg base n__law_read_told "_law_read_told" (defScope s__law_read_told) (He.ga K "_law_read_told") cdv A outer s H E).nox (defBody s__law_read_told) t ∧ t { nx := fun _ H' => Q .non H', rt := Q } (start n__law_read_told vs) H) : FnG P w K mg base CX0 (k + 1) (He.ga K "_law_read_told") sp := by
  obtain ⟨fd, F⟩ := S.def_ 33 (d := d__law_read_told) rfl
  exact ok0 F sc__law_read_told (F.bindsA fun _ _ _ _ _ _ us hl => match us, hl with | [_, _], _ => rfl) len hb
theorem kp__law_read_told (S : He.SaysD fa fn K) : PySem.W.keepIn K (.ref (He.ga K "_law_read_told")) = true := by
  obtain ⟨fd, F⟩ := S.def_ 33 (d := d__law_read_told) rfl
  exact F.kp
theorem mk__law_text_told (S : He.SaysD fa fn K) (len : ∀ vs H Q E, sp vs H Q E → vs.length = 2)
    (hb : ∀ (cdv : Value) (A : Around) (outer : List Env) (s : Shared) (H : Hp) (vs : List V) (Q : VK) (E : XK), A.guards = some [] → Room k (A.deeper (envOfC "_law_text_told" (defScope s__law_text_told) s.heap.objs.size (He.ga K "_law_text_told") cdv)) → sp vs H Q E →
      ∃ t, PSs (cxOf CX0 P w K mg base n__law_text_told "_law_text_told" (defScope s__law_text_told) (He.ga K "_law_text_told") cdv A outer s H E).nox (defBody s__law_text_told) t ∧ t { nx := fun _ H' => Q .non H', rt := Q } (start n__law_text_told vs) H) : FnG P w K mg base CX0 (k + 1) (He.ga K "_law_text_told") sp := by
  obtain ⟨fd, F⟩ := S.def_ 34 (d := d__law_text_told) rfl
  exact ok0 F sc__law_text_told (F.bindsA fun _ _ _ _ _ _ us hl => match us, hl with | [_, _], _ => rfl) len hb
theorem kp__law_text_told (S : He.SaysD fa fn K) : PySem.W.keepIn K (.ref (He.ga K "_law_text_told")) = true := by
  obtain ⟨fd, F⟩ := S.def_ 34 (d := d__law_text_told) rfl
  exact F.kp
theorem mk__law_spelt (S : He.SaysD fa fn K) (len : ∀ vs H Q E, sp vs H Q E → vs.length = 1)
    (hb : ∀ (cdv : Value) (A : Around) (outer : List Env) (s : Shared) (H : Hp) (vs : List V) (Q : VK) (E : XK), A.guards = some [] → Room k (A.deeper (envOfC "_law_spelt" (defScope s__law_spelt) s.heap.objs.size (He.ga K "_law_spelt") cdv)) → sp vs H Q E →
      ∃ t, PSs (cxOf CX0 P w K mg base n__law_spelt "_law_spelt" (defScope s__law_spelt) (He.ga K "_law_spelt") cdv A outer s H E).nox (defBody s__law_spelt) t ∧ t { nx := fun _ H' => Q .non H', rt := Q } (start n__law_spelt vs) H) : FnG P w K mg base CX0 (k + 1) (He.ga K "_law_spelt") sp := by
  obtain ⟨fd, F⟩ := S.def_ 35 (d := d__law_spelt) rfl
  exact ok0 F sc__law_spelt (F.bindsA fun _ _ _ _ _ _ us hl => match us, hl with | [_], _ => rfl) len hb
theorem kp__law_spelt (S : He.SaysD fa fn K) : PySem.W.keepIn K (.ref (He.ga K "_law_spelt")) = true := by
  obtain ⟨fd, F⟩ := S.def_ 35 (d := d__law_spelt) rfl
  exact F.kp
theorem mk__law_integer (S : He.SaysD fa fn K) (len : ∀ vs H Q E, sp vs H Q E → vs.length = 1)
    (hb : ∀ (cdv : Value) (A : Around) (outer : List Env) (s : Shared) (H : Hp) (vs : List V) (Q : VK) (E : XK), A.guards = some [] → Room k (A.deeper (envOfC "_law_integer" (defScope s__law_integer) s.heap.objs.size (He.ga K "_law_integer") cdv)) → sp vs H Q E →
      ∃ t, PSs (cxOf CX0 P w K mg base n__law_integer "_law_integer" (defScope s__law_integer) (He.ga K "_law_integer") cdv A outer s H E).nox (defBody s__law_integer) t ∧ t { nx := fun _ H' => Q .non H', rt := Q } (start n__law_integer vs) H) : FnG P w K mg base CX0 (k + 1) (He.ga K "_law_integer") sp := by
  obtain ⟨fd, F⟩ := S.def_ 36 (d := d__law_integer) rfl
  exact ok0 F sc__law_integer (F.bindsA fun _ _ _ _ _ _ us hl => match us, hl with | [_], _ => rfl) len hb
theorem kp__law_integer (S : He.SaysD fa fn K) : PySem.W.keepIn K (.ref (He.ga K "_law_integer")) = true := by
  obtain ⟨fd, F⟩ := S.def_ 36 (d := d__law_integer) rfl
  exact F.kp
theorem mk__law_due (S : He.SaysD fa fn K) (len : ∀ vs H Q E, sp vs H Q E → vs.length = 2)
    (hb : ∀ (cdv : Value) (A : Around) (outer : List Env) (s : Shared) (H : Hp) (vs : List V) (Q : VK) (E : XK), A.guards = some [] → Room k (A.deeper (envOfC "_law_due" (defScope s__law_due) s.heap.objs.size (He.ga K "_law_due") cdv)) → sp vs H Q E →
      ∃ t, PSs (cxOf CX0 P w K mg base n__law_due "_law_due" (defScope s__law_due) (He.ga K "_law_due") cdv A outer s H E).nox (defBody s__law_due) t ∧ t { nx := fun _ H' => Q .non H', rt := Q } (start n__law_due vs) H) : FnG P w K mg base CX0 (k + 1) (He.ga K "_law_due") sp := by
  obtain ⟨fd, F⟩ := S.def_ 37 (d := d__law_due) rfl
  exact ok0 F sc__law_due (F.bindsA fun _ _ _ _ _ _ us hl => match us, hl with | [_, _], _ => rfl) len hb
theorem kp__law_due (S : He.SaysD fa fn K) : PySem.W.keepIn K (.ref (He.ga K "_law_due")) = true := by
  obtain ⟨fd, F⟩ := S.def_ 37 (d := d__law_due) rfl
  exact F.kp
theorem mk__law_bent (S : He.SaysD fa fn K) (len : ∀ vs H Q E, sp vs H Q E → vs.length = 2)
    (hb : ∀ (cdv : Value) (A : Around) (outer : List Env) (s : Shared) (H : Hp) (vs : List V) (Q : VK) (E : XK), A.guards = some [] → Room k (A.deeper (envOfC "_law_bent" (defScope s__law_bent) s.heap.objs.size (He.ga K "_law_bent") cdv)) → sp vs H Q E →
      ∃ t, PSs (cxOf CX0 P w K mg base n__law_bent "_law_bent" (defScope s__law_bent) (He.ga K "_law_bent") cdv A outer s H E).nox (defBody s__law_bent) t ∧ t { nx := fun _ H' => Q .non H', rt := Q } (start n__law_bent vs) H) : FnG P w K mg base CX0 (k + 1) (He.ga K "_law_bent") sp := by
  obtain ⟨fd, F⟩ := S.def_ 38 (d := d__law_bent) rfl
  exact ok0 F sc__law_bent (F.bindsA fun _ _ _ _ _ _ us hl => match us, hl with | [_, _], _ => rfl) len hb
theorem kp__law_bent (S : He.SaysD fa fn K) : PySem.W.keepIn K (.ref (He.ga K "_law_bent")) = true := by
  obtain ⟨fd, F⟩ := S.def_ 38 (d := d__law_bent) rfl
  exact F.kp
theorem mk_law (S : He.SaysD fa fn K) (len : ∀ vs H Q E, sp vs H Q E → vs.length = 1)
    (hb : ∀ (cdv : Value) (A : Around) (outer : List Env) (s : Shared) (H : Hp) (vs : List V) (Q : VK) (E : XK), A.guards = some [] → Room k (A.deeper (envOfC "law" (defScope s_law) s.heap.objs.size (He.ga K "law") cdv)) → sp vs H Q E →
      ∃ t, PSs (cxOf CX0 P w K mg base n_law "law" (defScope s_law) (He.ga K "law") cdv A outer s H E).nox (defBody s_law) t ∧ t { nx := fun _ H' => Q .non H', rt := Q } (start n_law vs) H) : FnG P w K mg base CX0 (k + 1) (He.ga K "law") sp := by
  obtain ⟨fd, F⟩ := S.def_ 39 (d := d_law) rfl
  exact ok0 F sc_law (F.bindsA fun _ _ _ _ _ _ us hl => match us, hl with | [_], _ => rfl) len hb
theorem kp_law (S : He.SaysD fa fn K) : PySem.W.keepIn K (.ref (He.ga K "law")) = true := by
  obtain ⟨fd, F⟩ := S.def_ 39 (d := d_law) rfl
  exact F.kp
theorem mk_InvalidNumber___init__ (S : He.SaysD fa fn K) (len : ∀ vs H Q E, sp vs H Q E → vs.length = 2)
    (hb : ∀ (cdv : Value) (A : Around) (outer : List Env) (s : Shared) (H : Hp) (vs : List V) (Q : VK) (E : XK), A.guards = some [] → Room k (A.deeper (envOfC "InvalidNumber.__init__" (defScope s_InvalidNumber___init__) s.heap.objs.size (He.ma K (He.ga K "InvalidNumber") "__init__") cdv)) → sp vs H Q E →
      ∃ t, PSs (cxOf CX0 P w K mg base n_InvalidNumber___init__ "InvalidNumber.__init__" (defScope s_InvalidNumber___init__) (He.ma K (He.ga K "InvalidNumber") "__init__") cdv A outer s H E).nox (defBody s_InvalidNumber___init__) t ∧ t { nx := fun _ H' => Q .non H', rt := Q } (start n_InvalidNumber___init__ vs) H) : FnG P w K mg base CX0 (k + 1) (He.ma K (He.ga K "InvalidNumber") "__init__") sp := by
  obtain ⟨fd, F⟩ := S.def_ 40 (d := d_InvalidNumber___init__) rfl
  exact ok0 F sc_InvalidNumber___init__ (F.bindsA fun _ _ _ _ _ _ us hl => match us, hl with | [_, _], _ => rfl) len hb
theorem kp_InvalidNumber___init__ (S : He.SaysD fa fn K) : PySem.W.keepIn K (.ref (He.ma K (He.ga K "InvalidNumber") "__init__")) = true := by
  obtain ⟨fd, F⟩ := S.def_ 40 (d := d_InvalidNumber___init__) rfl
  exact F.kp
theorem mk_InvalidText___init__ (S : He.SaysD fa fn K) (len : ∀ vs H Q E, sp vs H Q E → vs.length = 2)
    (hb : ∀ (cdv : Value) (A : Around) (outer : List Env) (s : Shared) (H : Hp) (vs : List V) (Q : VK) (E : XK), A.guards = some [] → Room k (A.deeper (envOfC "InvalidText.__init__" (defScope s_InvalidText___init__) s.heap.objs.size (He.ma K (He.ga K "InvalidText") "__init__") cdv)) → sp vs H Q E →
      ∃ t, PSs (cxOf CX0 P w K mg base n_InvalidText___init__ "InvalidText.__init__" (defScope s_InvalidText___init__) (He.ma K (He.ga K "InvalidText") "__init__") cdv A outer s H E).nox (defBody s_InvalidText___init__) t ∧ t { nx := fun _ H' => Q .non H', rt := Q } (start n_InvalidText___init__ vs) H) : FnG P w K mg base CX0 (k + 1) (He.ma K (He.ga K "InvalidText") "__init__") sp := by
  obtain ⟨fd, F⟩ := S.def_ 41 (d := d_InvalidText___init__) rfl
  exact ok0 F sc_InvalidText___init__ (F.bindsA fun _ _ _ _ _ _ us hl => match us, hl with | [_, _], _ => rfl) len hb
theorem kp_InvalidText___init__ (S : He.SaysD fa fn K) : PySem.W.keepIn K (.ref (He.ma K (He.ga K "InvalidText") "__init__")) = true := by
  obtain ⟨fd, F⟩ := S.def_ 41 (d := d_InvalidText___init__) rfl
  exact F.kp
theorem mk_TooLong___init__ (S : He.SaysD fa fn K) (len : ∀ vs H Q E, sp vs H Q E → vs.length = 1)
    (hb : ∀ (cdv : Value) (A : Around) (outer : List Env) (s : Shared) (H : Hp) (vs : List V) (Q : VK) (E : XK), A.guards = some [] → Room k (A.deeper (envOfC "TooLong.__init__" (defScope s_TooLong___init__) s.heap.objs.size (He.ma K (He.ga K "TooLong") "__init__") cdv)) → sp vs H Q E →
      ∃ t, PSs (cxOf CX0 P w K mg base n_TooLong___init__ "TooLong.__init__" (defScope s_TooLong___init__) (He.ma K (He.ga K "TooLong") "__init__") cdv A outer s H E).nox (defBody s_TooLong___init__) t ∧ t { nx := fun _ H' => Q .non H', rt := Q } (start n_TooLong___init__ vs) H) : FnG P w K mg base CX0 (k + 1) (He.ma K (He.ga K "TooLong") "__init__") sp := by
  obtain ⟨fd, F⟩ := S.def_ 42 (d := d_TooLong___init__) rfl
  exact ok0 F sc_TooLong___init__ (F.bindsA fun _ _ _ _ _ _ us hl => match us, hl with | [_], _ => rfl) len hb
theorem kp_TooLong___init__ (S : He.SaysD fa fn K) : PySem.W.keepIn K (.ref (He.ma K (He.ga K "TooLong") "__init__")) = true := by
  obtain ⟨fd, F⟩ := S.def_ 42 (d := d_TooLong___init__) rfl
  exact F.kp
end
end K07

/-! Both kinds of fields over Rat: their operations, the rules of numbers, remainders of fractions. -/
namespace Num
open Rat
inductive Fk where
  | fr
  | md (p : Int)
def Fk.code : Fk → Int
  | .fr => 0
  | .md p => p
def Fk.ok : Fk → Prop
  | .fr => True
  | .md p => Md p
def iq (i : Int) : Rat := ((i : Int) : Rat)
theorem iq_num (i : Int) : (iq i).num = i := rfl
theorem iq_den (i : Int) : (iq i).den = 1 := rfl
theorem iq_eq {q : Rat} (h : q.den = 1) : q = iq q.num := by
  apply Rat.ext
  · rfl
  · exact h
def addG : Fk → Rat → Rat → Rat
  | .fr, a, b => a + b
  | .md p, a, b => iq ((a.num + b.num) % p)
def subG : Fk → Rat → Rat → Rat
  | .fr, a, b => a - b
  | .md p, a, b => iq ((a.num - b.num) % p)
def mulG : Fk → Rat → Rat → Rat
  | .fr, a, b => a * b
  | .md p, a, b => iq ((a.num * b.num) % p)
def Sz : Fk → Nat → Rat → Prop
  | .fr, n, q => Bq n q
  | .md p, _, q => q.den = 1 ∧ 0 ≤ q.num ∧ q.num < p
theorem Sz.mono {φ : Fk} {m n : Nat} {q : Rat} (h : Sz φ m q) (hl : m ≤ n) : Sz φ n q := by
  cases φ with
  | fr => exact Bq.mono h hl
  | md p => exact h
theorem emod_r (a b n : Int) : (a * (b % n)) % n = (a * b) % n := by
  rw [Int.mul_emod, Int.emod_emod, ← Int.mul_emod]
theorem emod_l (a b n : Int) : (a % n * b) % n = (a * b) % n := by
  rw [Int.mul_emod, Int.emod_emod, ← Int.mul_emod]
theorem sz_md {p i : Int} {n : Nat} (h : Md p) : Sz (.md p) n (iq (i % p)) := by
  have := h.lo
  exact ⟨rfl, Int.emod_nonneg _ (by omega), Int.emod_lt_of_pos _ (by omega)⟩
theorem md_self {p : Int} {n : Nat} {a : Rat} (h : Sz (.md p) n a) : iq (a.num % p) = a := by
  obtain ⟨h1, h2, h3⟩ := h
  rw [Int.emod_eq_of_lt h2 h3]
  exact (iq_eq h1).symm
theorem addG_comm (φ : Fk) (a b : Rat) : addG φ a b = addG φ b a := by
  cases φ with
  | fr => exact Rat.add_comm a b
  | md p => simp only [addG, Int.add_comm]
theorem mulG_comm (φ : Fk) (a b : Rat) : mulG φ a b = mulG φ b a := by
  cases φ with
  | fr => exact Rat.mul_comm a b
  | md p => simp only [mulG, Int.mul_comm]
theorem addG_assoc (φ : Fk) (a b c : Rat) : addG φ (addG φ a b) c = addG φ a (addG φ b c) := by
  cases φ with
  | fr => exact Rat.add_assoc a b c
  | md p => simp only [addG, iq_num, Int.emod_add_emod, Int.add_emod_emod, Int.add_assoc]
theorem mulG_assoc (φ : Fk) (a b c : Rat) : mulG φ (mulG φ a b) c = mulG φ a (mulG φ b c) := by
  cases φ with
  | fr => exact Rat.mul_assoc a b c
  | md p => simp only [mulG, iq_num, emod_l, emod_r, Int.mul_assoc]
theorem mulG_add (φ : Fk) (a b c : Rat) : mulG φ a (addG φ b c) = addG φ (mulG φ a b) (mulG φ a c) := by
  cases φ with
  | fr => exact Rat.mul_add a b c
  | md p => simp only [mulG, addG, iq_num, emod_r, Int.emod_add_emod, Int.add_emod_emod, Int.mul_add]
theorem subG_add {φ : Fk} {n : Nat} {a b : Rat} (h : Sz φ n a) : addG φ (subG φ a b) b = a := by
  cases φ with
  | fr => exact Rat.sub_add_cancel
  | md p =>
    simp only [addG, subG, iq_num, Int.emod_add_emod, Int.sub_add_cancel]
    exact md_self h
theorem subG_self (φ : Fk) (a : Rat) : subG φ a a = 0 := by
  cases φ with
  | fr => exact Rat.sub_self
  | md p =>
    simp only [subG, Int.sub_self, Int.zero_emod]
    rfl
theorem addG_zero {φ : Fk} {n : Nat} {a : Rat} (h : Sz φ n a) : addG φ a 0 = a := by
  cases φ with
  | fr => exact Rat.add_zero a
  | md p =>
    have e : (0 : Rat).num = 0 := rfl
    simp only [addG, e, Int.add_zero]
    exact md_self h
theorem mulG_one {φ : Fk} {n : Nat} {a : Rat} (h : Sz φ n a) : mulG φ a 1 = a := by
  cases φ with
  | fr => exact Rat.mul_one a
  | md p =>
    have e : (1 : Rat).num = 1 := rfl
    simp only [mulG, e, Int.mul_one]
    exact md_self h
theorem mulG_zero (φ : Fk) (a : Rat) : mulG φ a 0 = 0 := by
  cases φ with
  | fr => exact Rat.mul_zero a
  | md p =>
    have e : (0 : Rat).num = 0 := rfl
    simp only [mulG, e, Int.mul_zero, Int.zero_emod]
    rfl
theorem sub_sub {φ : Fk} {n : Nat} {a : Rat} (h : Sz φ n a) : subG φ 0 (subG φ 0 a) = a := by
  cases φ with
  | fr =>
    show (0 : Rat) - (0 - a) = a
    rw [Rat.sub_eq_add_neg, Rat.sub_eq_add_neg, Rat.zero_add, Rat.zero_add, Rat.neg_neg]
  | md p =>
    have e : (0 : Rat).num = 0 := rfl
    simp only [subG, e, iq_num, Int.sub_emod_emod]
    have e2 : (0 : Int) - (0 - a.num) = a.num := by omega
    rw [e2]
    exact md_self h
/-! ### coprime to the modulus -/
theorem cop {p x : Int} (m : Md p) (h : ¬ p ∣ x) : Nat.gcd p.natAbs x.natAbs = 1 := by
  have hlo := m.lo
  have h0 := Int.emod_nonneg x (show p ≠ 0 by omega)
  have h1 := Int.emod_lt_of_pos x (show 0 < p by omega)
  have hz : x % p ≠ 0 := fun z => h (Int.dvd_of_emod_eq_zero z)
  have g := m.pr (x % p) (by omega) h1
  have e : Int.gcd (x % p) p = Int.gcd x p := by
    rw [Int.emod_def, Int.gcd_sub_mul_left_left]
  rw [e] at g
  rw [Nat.gcd_comm]
  exact g
theorem dvd_mul_cop {p x y : Int} (m : Md p) (hy : ¬ p ∣ y) (h : p ∣ x * y) : p ∣ x := by
  have c := cop m hy
  rw [← Int.natAbs_dvd_natAbs] at h ⊢
  rw [Int.natAbs_mul] at h
  exact Nat.Coprime.dvd_of_dvd_mul_right c h
theorem not_dvd_mul {p x y : Int} (m : Md p) (hx : ¬ p ∣ x) (hy : ¬ p ∣ y) : ¬ p ∣ x * y := fun h => hx (dvd_mul_cop m hy h)
theorem eq_of_dvd {p a b : Int} (a0 : 0 ≤ a) (ap : a < p) (b0 : 0 ≤ b) (bp : b < p) (h : p ∣ a - b) : a = b := by
  have e : (a - b) % p = 0 := Int.emod_eq_zero_of_dvd h
  have e2 : a % p = b % p := Int.emod_eq_emod_iff_emod_sub_eq_zero.mpr e
  rw [Int.emod_eq_of_lt a0 ap, Int.emod_eq_of_lt b0 bp] at e2
  exact e2
theorem dvd_of_emod {p a b : Int} (h : a % p = b % p) : p ∣ a - b := Int.dvd_of_emod_eq_zero (Int.emod_eq_emod_iff_emod_sub_eq_zero.mp h)
/-! ### quotients -/
theorem mulG_cancel {φ : Fk} {n m : Nat} {a b c : Rat} (ok : φ.ok) (ha : Sz φ n a) (hc : Sz φ m c) (hb : Sz φ n b) (b0 : b ≠ 0) (h : mulG φ c b = mulG φ a b) : c = a := by
  cases φ with
  | fr =>
    have h2 : c * b = a * b := h
    have e : c * b * b⁻¹ = a * b * b⁻¹ := by rw [h2]
    rwa [Rat.mul_assoc, Rat.mul_assoc, Rat.mul_inv_cancel b b0, Rat.mul_one, Rat.mul_one] at e
  | md p =>
    have ok : Md p := ok
    obtain ⟨a1, a2, a3⟩ := ha
    obtain ⟨b1, b2, b3⟩ := hb
    obtain ⟨c1, c2, c3⟩ := hc
    have h2 : (c.num * b.num) % p = (a.num * b.num) % p := congrArg Rat.num h
    have nb : ¬ p ∣ b.num := fun z => by
      have z2 := Int.emod_eq_zero_of_dvd z
      rw [Int.emod_eq_of_lt b2 b3] at z2
      exact b0 (Rat.num_eq_zero.mp z2)
    have d := dvd_of_emod h2
    rw [← Int.sub_mul] at d
    have e := eq_of_dvd c2 c3 a2 a3 (dvd_mul_cop ok nb d)
    rw [iq_eq c1, iq_eq a1, e]
theorem div_mul {a b : Rat} (b0 : b ≠ 0) : (a.num * b.den) /. ((a.den : Int) * b.num) * b = a := by
  have bn : b.num ≠ 0 := fun z => b0 (Rat.num_eq_zero.mp z)
  have bd : (b.den : Int) ≠ 0 := by have := den_pos' b; omega
  conv => lhs; rhs; rw [← Rat.num_divInt_den b]
  rw [Rat.divInt_mul_divInt]
  have e1 : a.num * (b.den : Int) * b.num = a.num * ((b.den : Int) * b.num) := Int.mul_assoc _ _ _
  have e2 : (a.den : Int) * b.num * (b.den : Int) = a.den * ((b.den : Int) * b.num) := by rw [Int.mul_assoc, Int.mul_comm b.num]
  rw [e1, e2, Rat.divInt_mul_right (Int.mul_ne_zero bd bn), Rat.num_divInt_den]
/-! ### remainders of fractions -/
/-- c is the remainder of q modulo p -/
def Rem (p : Int) (q : Rat) (c : Int) : Prop := ¬ p ∣ (q.den : Int) ∧ 0 ≤ c ∧ c < p ∧ (c * q.den) % p = q.num % p
theorem cross {N D : Int} (hD : D ≠ 0) : N * ((N /. D).den : Int) = (N /. D).num * D := by
  obtain ⟨t', b', h1, h2, h3, h4, h5, h6⟩ := dvs_ex (t := N) hD
  rw [h5, h6]
  generalize dvs N D = d at *
  rw [h1, h2, Int.mul_assoc, ← Int.mul_assoc t' d b', Int.mul_comm t' d, Int.mul_assoc]
theorem den_dvd {N D : Int} (hD : D ≠ 0) : ((N /. D).den : Int) ∣ D := by
  obtain ⟨t', b', h1, h2, h3, h4, h5, h6⟩ := dvs_ex (t := N) hD
  rw [h6]
  exact ⟨dvs N D, by rw [Int.mul_comm]; exact h2⟩
theorem rem_nd {p N D : Int} (hD : D ≠ 0) (h : ¬ p ∣ D) : ¬ p ∣ ((N /. D).den : Int) := fun z => h (Int.dvd_trans z (den_dvd hD))
theorem rem_is {p N D c c' : Int} (m : Md p) (hD : D ≠ 0) (nD : ¬ p ∣ D) (c0 : 0 ≤ c) (cp : c < p) (h : (c * D) % p = N % p) (r : Rem p (N /. D) c') : c' = c := by
  obtain ⟨r1, r2, r3, r4⟩ := r
  have x := cross (N := N) hD
  generalize (N /. D).num = n at *
  generalize ((N /. D).den : Int) = d at *
  refine eq_of_dvd r2 r3 c0 cp (dvd_mul_cop m (not_dvd_mul m r1 nD) ?_)
  obtain ⟨u, hu⟩ := dvd_of_emod r4
  obtain ⟨v, hv⟩ := dvd_of_emod h
  have e1 : c' * d = n + p * u := by omega
  have e2 : c * D = N + p * v := by omega
  refine ⟨u * D - v * d, ?_⟩
  have e3 : (c' - c) * (d * D) = c' * d * D - c * D * d := by
    rw [Int.sub_mul, Int.mul_assoc c' d D, Int.mul_assoc c D d, Int.mul_comm D d]
  rw [e3, e1, e2, Int.add_mul, Int.add_mul, x, Int.mul_sub, Int.mul_assoc, Int.mul_assoc]
  omega
theorem dd_ne0 (a b : Rat) : (a.den : Int) * b.den ≠ 0 := Int.mul_ne_zero (by have := den_pos' a; omega) (by have := den_pos' b; omega)
theorem rem_add {p : Int} {a b : Rat} {c e f : Int} (m : Md p) (ha : Rem p a c) (hb : Rem p b e) (h : Rem p (a + b) f) : f = (c + e) % p := by
  obtain ⟨a1, a2, a3, a4⟩ := ha
  obtain ⟨b1, b2, b3, b4⟩ := hb
  have hlo := m.lo
  rw [← add_is] at h
  refine rem_is m (dd_ne0 a b) (not_dvd_mul m a1 b1) (Int.emod_nonneg _ (by omega)) (Int.emod_lt_of_pos _ (by omega)) ?_ h
  rw [emod_l, Int.add_mul, Int.add_emod, ← Int.mul_assoc, Int.mul_comm (a.den : Int), ← Int.mul_assoc, Int.mul_emod (c * (a.den : Int)), a4, ← Int.mul_emod, Int.mul_emod (e * (b.den : Int)), b4, ← Int.mul_emod, ← Int.add_emod]
theorem rem_mul {p : Int} {a b : Rat} {c e f : Int} (m : Md p) (ha : Rem p a c) (hb : Rem p b e) (h : Rem p (a * b) f) : f = (c * e) % p := by
  obtain ⟨a1, a2, a3, a4⟩ := ha
  obtain ⟨b1, b2, b3, b4⟩ := hb
  have hlo := m.lo
  rw [← mul_is] at h
  refine rem_is m (dd_ne0 a b) (not_dvd_mul m a1 b1) (Int.emod_nonneg _ (by omega)) (Int.emod_lt_of_pos _ (by omega)) ?_ h
  have e1 : c * e * ((a.den : Int) * b.den) = c * a.den * (e * b.den) := by
    rw [Int.mul_assoc, Int.mul_assoc, ← Int.mul_assoc e, Int.mul_comm e (a.den : Int), Int.mul_assoc (a.den : Int)]
  rw [emod_l, e1, Int.mul_emod (c * (a.den : Int)), a4, b4, ← Int.mul_emod]
theorem num_nd {p : Int} {b : Rat} {e : Int} (m : Md p) (hb : Rem p b e) (e0 : e ≠ 0) : ¬ p ∣ b.num := fun z => by
  obtain ⟨b1, b2, b3, b4⟩ := hb
  rw [Int.emod_eq_zero_of_dvd z] at b4
  have d := dvd_mul_cop m b1 (Int.dvd_of_emod_eq_zero b4)
  have := Int.le_of_dvd (by omega) d
  omega
theorem rem_div {p : Int} {a b : Rat} {c e f g : Int} (m : Md p) (ha : Rem p a c) (hb : Rem p b e) (e0 : e ≠ 0) (g0 : 0 ≤ g) (gp : g < p) (hg : (g * e) % p = c) (h : Rem p ((a.num * b.den) /. ((a.den : Int) * b.num)) f) : f = g := by
  have nb := num_nd m hb e0
  obtain ⟨a1, a2, a3, a4⟩ := ha
  obtain ⟨b1, b2, b3, b4⟩ := hb
  have bn : b.num ≠ 0 := fun z => nb (by rw [z]; exact Int.dvd_zero p)
  refine rem_is m (Int.mul_ne_zero (by have := den_pos' a; omega) bn) (not_dvd_mul m a1 nb) g0 gp ?_ h
  have x1 : (g * ((a.den : Int) * b.num)) % p = (g * ((a.den : Int) * (e * b.den))) % p := by
    rw [Int.mul_emod g, Int.mul_emod (a.den : Int) b.num, ← b4, ← Int.mul_emod (a.den : Int), ← Int.mul_emod g]
  have x2 : g * ((a.den : Int) * (e * b.den)) = g * e * (a.den * b.den) := by
    rw [Int.mul_assoc g e, ← Int.mul_assoc e (a.den : Int), Int.mul_comm e (a.den : Int), Int.mul_assoc (a.den : Int)]
  have x3 : (g * e * ((a.den : Int) * b.den)) % p = (c * (a.den * b.den)) % p := by
    rw [Int.mul_emod (g * e), hg]
    exact emod_r c _ p
  rw [x1, x2, x3, ← Int.mul_assoc, Int.mul_emod (c * (a.den : Int)), a4, ← Int.mul_emod]
end Num

/-! An own exception class directly over a built-in one, whose __init__ hands on to it and stores nothing. -/
namespace Ver
open PySem PySem.Spec PyProof.Rows L2
/-- what the written part tells of such a class -/
structure ExN (K : PySem.W.Frag) (C fI : Addr) (bmB : List Value) (newId : String) : Prop where
  q : PySem.W.excInitIn K C bmB newId = true
  iC : PySem.W.findIn K (.ref C) "__init__" = some (some (.ref fI))
  tI : PySem.W.typeIn K (.ref fI) = some (.type "function")
  exC : PySem.W.subIn K (.ref C) (.type "BaseException") = some true
  tyC : PySem.W.typeIn K (.ref C) = some (.type "type")
  kC : PySem.W.keepIn K (.ref C) = true
section
variable {X : Cx} {pins : List (Addr × Obj)} {σ : L2.St} {H : Hp} {s : Shared} {a C fI : Addr} {bmB : List Value} {B newId initId : String}
theorem binit_ok {A : Around} {E : Value → Shared → Prop} {us : List Value} {Q : Value → Shared → Prop} (F : ExcBaseFacts B newId initId bmB) (q : PySem.W.excInitIn X.K C bmB newId = true) (I : Inv X pins σ H s) (e : H a = some (exo a C none))
    (hl : us.length ≤ sizeLine) (h : ∀ s', Inv X pins σ H s' → Q .none s') : wpAny (model X.prog X.w) A (call (.builtin initId) (.ref a :: us)) Q E s := by
  obtain ⟨nm, N, qn, bs, bm, hd, sn, sub, ab, col, dd, k0, k1, k2, k3, k5, hC, hT⟩ := PySem.W.excInit_of I.kIn q
  obtain ⟨t1, ho⟩ := exo_at I.hok e
  obtain ⟨hp, g, d, t, os⟩ := s
  refine wpAny_call (PySem.HandSPX.init_base F hT hC ho hl fun h' t2 k hx => h _ ?_)
  have J := I.write (t' := t) (x := a) (e := a) (o := exo a C none) (by rw [e]; exact True.intro) (.inl rfl) k ⟨_, hx⟩ (exo_ok hx)
  have same : upd H a (exo a C none) = H := funext fun b => by
    by_cases z : b = a
    · rw [z, upd_same, e]
    · exact upd_ne z
  rwa [same] at J
variable {x : Str} {e : Expr} {es : List Expr} {ta : TA} {p p1 p2 pos : Pos}
/-- its reading: self is an exception that is being made, without a dict as yet -/
def tBi (K : PySem.W.Frag) (bmB : List Value) (newId : String) (ta : TA) : TE := fun σ H Q => ta σ H fun vs H1 => ∃ (a C : Addr) (ws : List V), vs = .ref a :: ws ∧ ws.length ≤ 1000 ∧ PySem.W.excInitIn K C bmB newId = true ∧ H1 a = some (exo a C none) ∧ Q .non H1
/-- B.__init__(self, ..), B a built-in class of errors -/
theorem pe_binit {pl : Sem Bool} (F : ExcBaseFacts B newId initId bmB) (hg : Gl X x) (hm : X.mg x = none) (hv : bootBuiltins x = some (.type B)) (hty : typeOf (.type B) = pure (.type "type")) (hst : Manifest.isStub B = false) (hh : PySem.W.handedIn (.builtin initId) = true)
    (hsp : PySem.W.findCls X.K (.type B) (.type "type") "__init__" = some (.val (.builtin initId))) (ha : PA X (e :: es) ta)
    (hc : eval (.Call (.Attribute (.Name x p1) "__init__" p2) (e :: es) [] pos) X.env = (do
      let ov ← eval (.Name x p1) X.env
      standAt p2.atName
      let (f, first) ← holding [ov] (getMethod ov "__init__" pl)
      callWith pos f first (backTo pos (starEach (e :: es) X.env)) (backToKw pos (keywordEach [] X.env))) := by rfl)
    (he : starEach (e :: es) X.env = (false, eval e X.env) :: starEach es X.env := by rfl) (hpl : (backTo pos (starEach es X.env)).any (·.1) = false := by rfl) (hn : x ≠ "__name__" := by decide) (hd : (x == ("__debug__" : Str)) = false := by decide) :
    PE X (.Call (.Attribute (.Name x p1) "__init__" p2) (e :: es) [] pos) (tBi X.K bmB newId ta) := by
  refine ⟨fun pins s σ H Q I h => PySem.W.methodCall_KW (ld_blt I hg hm hv ?_ hn hd) hc⟩
  obtain ⟨m, fr⟩ := I.fr
  refine PySem.W.method_type fr I.ok.mod.kin hty hst hsp hh ?_
  show wpAny _ _ (callWith pos (Value.builtin initId) [] (backTo pos (starEach (e :: es) X.env)) []) _ _ _
  refine PyProof.Rows.callWith_method1 (thn (ha.run pos pins _ σ H _ (I.tok _) h) fun us s1 z => ?_) he hpl
  obtain ⟨vs, H1, I1, r1, a, C, ws, rfl, hl, q, ea, qq⟩ := z
  match us, r1 with
  | u0 :: ur, .cons ra rw' =>
    cases (show u0 = Value.ref a from ra)
    exact binit_ok F q I1 ea (by rw [← Paired.length rw', sizeLine_eq]; omega) fun s' J => ⟨.non, H1, J, rfl, qq⟩
/-- the exception is let go: what stood ahead stands, and it is known no more -/
theorem let_go {H1 H2 : Hp} {hp hp2 h2 : Heap} {g1 g2 : Array GenState} {d1 d2 : Drawn} {t1 t2 : Nat} {os1 os2 : OsState} (I1 : Inv X pins σ H1 ⟨hp, g1, d1, t1, os1⟩) (ha : hp.objs.size ≤ a) (k : ∀ b o, hp.get? b = some o → hp2.get? b = some o)
    (un : Un (frs X.stack) [] (upd H1 a (exo a C none)) H2 hp2 h2) (hok : HOk X.prog X.w H2 h2) (ho : os2 = os1) (hb : AllBare g2) (ea : H2 a = some (exo a C none)) :
    ∃ (t0 : Addr) (G : Heap), Inv X pins σ (del H2 a) ⟨G, g2, d2, t2, os2⟩ ∧ (∀ b o, G.get? b = some o → h2.get? b = some o) ∧ G.get? a = none ∧
      h2.get? a = some ({ cls := .ref C, dict := none, data := .fields #[.ref t0, .none, .none, .none, .bool false, .none] } : Obj) := by
  obtain ⟨t0, hoe⟩ := exo_at hok ea
  have na : H1 a = none := I1.hok.fresh ha
  obtain ⟨G, in_, out⟩ := restrict h2 fun b => decide (b ≠ a)
  have gk : ∀ b, b ≠ a → G.get? b = h2.get? b := fun b hb => in_ b (decide_eq_true hb)
  have ge : G.get? a = none := out a (by simp)
  have old : ∀ {b : Addr} {o : Obj}, hp.get? b = some o → b ≠ a := fun z => Nat.ne_of_lt (Nat.lt_of_lt_of_le (Heap.lt_size z) ha)
  have up : ∀ {b : Addr}, b ≠ a → H1 b = none → upd H1 a (exo a C none) b = none := fun hb n => by rw [upd_ne hb]; exact n
  have U : Un (frs X.stack) [] H1 (del H2 a) hp G := {
    keep := fun b o z n hf hx => (gk b (old z)).trans (un.keep b o (k b o z) (up (old z) n) hf hx)
    slot := fun b o z n hf hx => by
      obtain ⟨sl, y⟩ := un.slot b o (k b o z) (up (old z) n) hf hx
      exact ⟨sl, (gk b (old z)).trans y⟩
    free := fun b o z n hx => (del_ne (old z)).trans (un.free b o (k b o z) (up (old z) n) hx)
    there := fun b o z hx => by
      obtain ⟨o', y⟩ := un.there b o (k b o z) hx
      exact ⟨o', (gk b (old z)).trans y⟩
    tups := fun b xs z => (del_ne (ne_of_none z na)).trans (un.tups b xs ((upd_ne (ne_of_none z na)).trans z))
    frzs := fun b o v z => (del_ne (ne_of_none z na)).trans (un.frzs b o v ((upd_ne (ne_of_none z na)).trans z))
    tbls := fun b ps z => by
      obtain ⟨more, y⟩ := un.tbls b ps ((upd_ne (ne_of_none z na)).trans z)
      exact ⟨more, (del_ne (ne_of_none z na)).trans y⟩ }
  have ok3 : HOk X.prog X.w (del H2 a) G := fun b o z => by
    have hba : b ≠ a := fun e => by
      rw [e, del_same] at z
      cases z
    rw [del_ne hba] at z
    have noa : ∀ {c : Addr}, H2 c = some (.own b) → c ≠ a := fun hc => at_ne ea hc exo_own
    refine (hok b o z).stay (fun c v hc y => (gk c ?_).trans y) (fun c hc => (del_ne (noa hc)).trans hc) fun c xs hc => (del_ne (at_ne ea hc exo_tup)).trans hc
    rcases hc with hc | hc
    · rw [hc]
      exact hba
    · exact noa hc
  refine ⟨t0, G, I1.call' (ch := []) ho U ok3 hb (fun b z => absurd z (by simp)), fun b o z => ?_, ge, hoe⟩
  by_cases e : b = a
  · rw [e, ge] at z
    cases z
  · exact (gk b e).symm.trans z
/-- the promise of an __init__ that stores nothing -/
def spInitN (C : Addr) : Sp := fun vs H Q _ => ∃ a : Addr, vs = [.ref a] ∧ H a = some (exo a C none) ∧ Q .non H
theorem pmk_n {CX : CXT} {k : Nat} (F : ExcBaseFacts B newId initId bmB) (T : ExN X.K C fI bmB newId) (F1 : FnG X.prog X.w X.K X.mg X.base CX k fI (spInitN C)) (hr : Room (k + 1) X.A) (hgd : X.A.guards = some []) (hx : Passes CX X (fun _ _ _ => False)) (hg : Gl X x) (hm : X.mg x = some (.ref C))
    (hdb : (x == ("__debug__" : Str)) = false := by decide) : PMk X (.Call (.Name x p) [] [] pos) (fun _ H Q => Q (.ref C) none H) := by
  intro pins s σ H Q I h
  refine wpAny_Call_Name_kw (ld_glob I hg hm (PySem.W.callWith_K0 I.kIn T.kC ?_) hdb)
  show wpAny _ _ (call (.ref C) []) _ _ _
  obtain ⟨nm, N, qn, bs, bm, hd, sn, sub, ab, col, dd, k0, k1, k2, k3, k5, hC, hT⟩ := PySem.W.excInit_of I.kIn T.q
  obtain ⟨hp, g, dr, tk, os⟩ := s
  have big : hp.objs.size ≤ hp.objs.size + 1 := Nat.le_succ _
  have hn : H (hp.objs.size + 1) = none := I.hok.fresh big
  have kk : ∀ b o, hp.get? b = some o → ((hp.push (PySem.W.kdv_tup [])).push (PySem.HandSPX.excO C hp.objs.size)).get? b = some o := fun b o z => Heap.get?_push_of_some _ (Heap.get?_push_of_some _ z)
  have made : ((hp.push (PySem.W.kdv_tup [])).push (PySem.HandSPX.excO C hp.objs.size)).get? (hp.objs.size + 1) = some (PySem.HandSPX.excO C hp.objs.size) := by heap_get
  have I2 : Inv X pins σ (upd H (hp.objs.size + 1) (exo (hp.objs.size + 1) C none)) ⟨(hp.push (PySem.W.kdv_tup [])).push (PySem.HandSPX.excO C hp.objs.size), g, dr, tk, os⟩ :=
    I.laid (t' := tk) (a := hp.objs.size + 1) (o := exo (hp.objs.size + 1) C none) (h' := (hp.push (PySem.W.kdv_tup [])).push (PySem.HandSPX.excO C hp.objs.size)) kk big (exo_ok made)
  have q2 : spInitN C [V.ref (hp.objs.size + 1)] (upd H (hp.objs.size + 1) (exo (hp.objs.size + 1) C none)) (fun v H2 => v = .non ∧ H2 = upd H (hp.objs.size + 1) (exo (hp.objs.size + 1) C none)) (fun _ _ _ => False) := ⟨_, rfl, upd_same, rfl, rfl⟩
  refine wpAny_call (PySem.HandSPX.call_own F hT hC (PySem.W.looks_findIn I.kIn T.iC) (fun self => PySem.W.bind_fn I.kIn self T.tI) (Nat.zero_le _)
    (codeAny_mono (F1 _ X.stack _ _ [Value.ref (hp.objs.size + 1)] [V.ref (hp.objs.size + 1)] _ (fun _ _ _ => False) (made_guards hgd C []) (hr.make C [] []) (I2.env0.make C [] []) (.cons rfl .nil) q2) fun rs s' hq => ?_))
  match rs, hq with
  | .error er, hq => exact hx pins σ _ _ er s' I2 hq
  | .ok .next, hq => exact hq.elim
  | .ok .brk, hq => exact hq.elim
  | .ok .cont, hq => exact hq.elim
  | .ok (.ret u), hq =>
    obtain ⟨v, H2, os2, bare2, un2, ok2, rv, rfl, rfl⟩ := hq
    obtain ⟨h2, g2, d2, t2, os'⟩ := s'
    obtain ⟨t0, G, J, kG, ge, hoe⟩ := let_go (a := hp.objs.size + 1) (C := C) (d2 := d2) (t2 := t2) I big kk un2 ok2 os2 bare2 upd_same
    have eH : del (upd H (hp.objs.size + 1) (exo (hp.objs.size + 1) C none)) (hp.objs.size + 1) = H := funext fun b => by
      by_cases z : b = hp.objs.size + 1
      · rw [z, del_same, hn]
      · rw [del_ne z, upd_ne z]
    rw [eH] at J
    exact ⟨rv, hp.objs.size + 1, _, _, ⟨G, g2, d2, t2, os'⟩, H, .ref C, none, rfl, J, kG, ge, hoe, ⟨rfl, rfl⟩, rfl, rfl, hn, rfl, bare2, raises_own T.exC T.tyC, h⟩
end
end Ver

/-! Defs with a star parameter; the sum of a tuple. -/
namespace Ver
open PySem PySem.Spec PyProof.Rows L2
theorem preSum_take {ns : List Int} : ∀ n, n ≤ ns.length → preSum (fun i => ns.getD i 0) n = (ns.take n).sum
  | 0, _ => by rw [List.take_zero]; rfl
  | n + 1, h => by
    have e : ns[n]? = some (ns.getD n 0) := by
      rw [List.getD_eq_getElem?_getD, List.getElem?_eq_getElem (by omega)]
      rfl
    show preSum _ n + ns.getD n 0 = _
    rw [preSum_take n (by omega), sum_take e]
section
variable {prog : Program} {w : World} {A : Around} {E : Value → Shared → Prop} {s : Shared} {l : Addr} {its : List Value} {ns : List Int} {Q : Value → Shared → Prop}
theorem sum_tup (hh : A.handled = none) (hl : IsTup s.heap l its.toArray) (rv : Vals (ns.map V.int) its)
    (h : ∀ h' tk t', (∀ b o, s.heap.get? b = some o → h'.get? b = some o) → Q (.int ns.sum t') { s with heap := h', toks := tk }) : wpAny (model prog w) A (call (.builtin "sum") [.ref l]) Q E s := by
  have hne : l ≠ s.heap.objs.size := Nat.ne_of_lt (by obtain ⟨o, e, _⟩ := hl; exact Heap.lt_size e)
  have hlen := rv.length
  rw [List.length_map] at hlen
  have sz : (s.heap.push { cls := .type "tuple_iterator", data := .fields #[.ref l, .int 0 0] }).objs.size = s.heap.objs.size + 1 := Heap.size_push ..
  refine call_sum_walkG (wpAny_pyIter_tuple (show s.heap.IsTuple l its.toArray from hl) ?_)
  refine ⟨_, _, _, _, _, _, fun i => ns.getD i 0, rfl, Walks.tuple (A := A.in1) hh _ l hne its.toArray, ⟨⟨_, Heap.get?_push_size _ rfl, rfl, rfl⟩, ?_⟩, fun b hb => ?_, fun i v hv => ?_, fun h' tk t' hk => ?_⟩
  · obtain ⟨o, e, c⟩ := hl
    exact ⟨o, Heap.get?_push_of_some _ e, c⟩
  · show b < (s.heap.push _).objs.size
    rw [Heap.size_push]
    rcases List.mem_cons.mp hb with e | hb
    · rw [e]
      exact Nat.lt_succ_self _
    · rw [List.mem_singleton.mp hb]
      exact Nat.lt_succ_of_lt (by obtain ⟨o, e, _⟩ := hl; exact Heap.lt_size e)
  · have hi : its[i]? = some v := by simpa using hv
    have lt : i < ns.length := by
      have := (List.getElem?_eq_some_iff.mp hi).1
      omega
    obtain ⟨u, hu, t, ru⟩ := rv.get (i := i) (x := V.int ns[i]) (by rw [List.getElem?_map, List.getElem?_eq_getElem lt]; rfl)
    rw [hi] at hu
    refine ⟨t, ?_⟩
    have e2 : ns.getD i 0 = ns[i] := by
      rw [List.getD_eq_getElem?_getD, List.getElem?_eq_getElem lt]
      rfl
    rw [Option.some.inj hu, ru]
    show Value.int ns[i] t = Value.int (ns.getD i 0) t
    rw [e2]
  · have e : preSum (fun i => ns.getD i 0) its.toArray.size = ns.sum := by
      rw [List.size_toArray, ← hlen, preSum_take _ (Nat.le_refl _), List.take_length]
    rw [e]
    refine h h' tk t' fun b o ho => hk b o (fun z => ?_) (Heap.get?_push_of_some _ ho)
    rw [List.mem_singleton.mp z] at ho
    exact absurd (Heap.lt_size ho) (Nat.lt_irrefl _)
end
/-- sum(t), t a tuple of ints -/
theorem cr_sumT {X : Cx} (hc : X.calm = true) : CallR X (.builtin "sum") (fun vs H Q => ∃ (a : Addr) (ns : List Int), vs = [V.ref a] ∧ SqT X.K H a (ns.map V.int) ∧ Q (.int ns.sum) H) := by
  intro pins s σ H vs us Q I r h
  obtain ⟨a, ns, rfl, hs, q⟩ := h
  obtain ⟨its, rv, hl, _⟩ := I.tuple hs
  obtain ⟨u, rfl, ru⟩ := vals1 r
  cases (show u = Value.ref a from ru)
  exact sum_tup (I.ok.hd hc) hl rv fun h' tk t' hk => ⟨.int _, H, I.kept hk, ⟨_, rfl⟩, q⟩
/-- def f(a, .., *rest) -/
theorem okStar {P : Program} {w : World} {K : PySem.W.Frag} {mg : Str → Option Value} {base : Heap} {k : Nat} {f : Addr} {fd : FuncData} {sp : Sp} {x qual pr : Str} {params : Arguments} {body : List Stmt} {scope : Scope} {N ps : List Str} {kws : List (Str × V)}
    (F : FunD K x qual params body scope [] kws f fd) (S : FnScope N (ps ++ [pr]) scope)
    (hb : ∀ (kV doc pm : Value) (an : Option Addr) (cdv ct : Value) (us rest : List Value), us.length = ps.length → bindArgs (PySem.W.fnOf x qual params body scope .none kV doc pm an cdv ct) ⟨us ++ rest, []⟩ = (newTuple rest >>= fun t => pure (ps.zip us ++ [(pr, t)])))
    (hbody : ∀ (cdv : Value) (A : Around) (outer : List Env) (s : Shared) (H : Hp) (vs : List V) (Q : VK) (E : XK), A.guards = some [] → Room k (A.deeper (envOfC qual scope s.heap.objs.size f cdv)) → sp vs H Q E →
      ∃ t, PSs (cxOf CX0 P w K mg base N qual scope f cdv A outer s H E).nox body t ∧ t { nx := fun _ H' => Q .non H', rt := Q } (start N vs) H) :
    FnG P w K mg base CX0 (k + 1) f (fun vs H Q E => ∃ ws rest, vs = ws ++ rest ∧ ws.length = ps.length ∧ rest.length ≤ sizeLine ∧ ∀ p, H p = none → sp (ws ++ [V.ref p]) (upd H p (.tup rest)) Q E) := by
  obtain ⟨⟨oc, od, dV, kV, doc, pm, an, cdv, ct, osl, rfl, lk, hcd, hD, _⟩, _⟩ := F
  have eD : dV = .none := by
    rcases hD with ⟨_, e⟩ | ⟨e, _⟩
    · exact e
    · exact absurd rfl e
  subst eD
  intro A outer s H us vs Q E hg hr e0 r hsp
  obtain ⟨ws, rest, rfl, hl, hz, hq⟩ := hsp
  obtain ⟨u1, u2, rfl, r1, r2⟩ := StX.vals_split r
  have n0 : H s.heap.objs.size = none := e0.hok.fresh (Nat.le_refl _)
  have l1 : u1.length = ps.length := r1.length.symm.trans hl
  refine StX.run_bnd lk hcd S hr e0 (G := fun xs H2 => ∃ p, H p = none ∧ xs = ws ++ [V.ref p] ∧ H2 = upd H p (.tup rest)) (fun A' Ex Q' h => ?_) fun s2 H2 xs g hr' => ?_
  · rw [hb _ _ _ _ _ _ u1 u2 l1]
    have new : ObjOk P w (upd H s.heap.objs.size (.tup rest)) (s.heap.push ({ cls := .type "tuple", data := .seq u2.toArray } : Obj)) s.heap.objs.size (.tup rest) := ⟨hz, u2, r2, ⟨_, Heap.get?_push_size _ rfl, rfl, _, rfl⟩⟩
    have z := h _ _ (ws ++ [V.ref s.heap.objs.size]) (u1 ++ [Value.ref s.heap.objs.size]) (StX.env0_laid e0 new) (StX.un_laid (fs := frs outer) (s := s) n0) rfl (fun e s' q => q) (r1.append (.cons rfl .nil))
      (by rw [List.length_append, List.length_append, hl] <;> rfl) ⟨_, n0, rfl, rfl⟩
    rw [List.zip_append l1.symm] at z
    exact wpAny_bind (wpAny_newTuple (wpAny_pure z) (by rw [← r2.length]; exact hz))
  · obtain ⟨p, hp, rfl, rfl⟩ := g
    obtain ⟨t, ht, q⟩ := hbody cdv A outer s2 _ _ Q E hg hr' (hq p hp)
    exact ⟨t, ht.nox, q⟩
end Ver

namespace Ver
open PySem PySem.Spec PyProof.Rows L2
section
variable {X : Cx} {CX : CXT} {k : Nat} {f : Addr} {sp : Sp} {E : L2.St → XK} {m : Str} {pos apos : Pos} {e o : Expr} {es : List Expr} {t : TA} {ta : TE}
/-- o.m(e, ..), what it lets out is caught here -/
def tMethGS (K : PySem.W.Frag) (m : Str) (f : Addr) (sp : Sp) (E : L2.St → XK) (ta : TE) (t : TA) : TE := fun σ H Q => ta σ H fun x H1 => ∃ a C dx fs, x = .ref a ∧ H1 a = some (.ins C dx fs) ∧ Cls K C ∧ Meth K C m f ∧ fs.lookup m = none ∧
  t σ H1 fun vs H2 => sp (.ref a :: vs) H2 Q (E σ)
theorem pe_methGS {pl : Sem Bool} (K' : PySem.W.Frag) (hK : X.K = K') (he : PE X o ta) (hk : PySem.W.keepIn X.K (.ref f) = true) (F : FnG X.prog X.w X.K X.mg X.base CX k f sp) (hr : Room k X.A) (hgd : X.A.guards = some []) (hx : ∀ σ, PassesAt CX X σ (E σ)) (ha : PA X (e :: es) t)
    (hst : starEach (e :: es) X.env = (false, eval e X.env) :: starEach es X.env := by rfl) (hpl : (backTo pos (starEach es X.env)).any (·.1) = false := by rfl)
    (ht : eval (.Call (.Attribute o m apos) (e :: es) [] pos) X.env = (do
      let ov ← eval o X.env
      standAt apos.atName
      let (g, first) ← holding [ov] (getMethod ov m pl)
      callWith pos g first (backTo pos (starEach (e :: es) X.env)) (backToKw pos (keywordEach [] X.env))) := by rfl) :
    PE X (.Call (.Attribute o m apos) (e :: es) [] pos) (tMethGS K' m f sp E ta t) := by
  subst hK
  refine ⟨fun pins s σ H Q I h => PySem.W.methodCall_KW (pl := pl) (thn (he.run pins s σ H _ I h) fun u s1 z => ?_) ht⟩
  obtain ⟨x, H1, I1, rx, a, C, dx, fs, rfl, ea, c, hm, l, q⟩ := z
  cases (show u = Value.ref a from rx)
  refine getmeth_ok I1 ea c hm l (PySem.W.callWith_K (first := [.ref a]) (h₀ := X.base) I.ok.mod.kin hk (thn (ha.run pos pins s1 σ H1 _ I1 q) fun us s2 y => ?_) hst hpl)
  obtain ⟨vs, H2, I2, r, q2⟩ := y
  refine ⟨I2.kIn, ?_⟩
  exact wpAny_call (codeAny_mono (F X.A X.stack s2 H2 (.ref a :: us) (.ref a :: vs) Q (E σ) hgd hr I2.env0 (.cons rfl r) q2) fun rs s' hq => by
    match rs, hq with
    | .error e', hq => exact hx σ pins H2 s2 e' s' I2 hq
    | .ok (.ret u), hq => exact I2.after hq
    | .ok .next, hq => exact hq.elim
    | .ok .brk, hq => exact hq.elim
    | .ok .cont, hq => exact hq.elim)
end
/-! ### lists, shown -/
theorem textFrom_up : ∀ (ts : List Str) (k : Nat) (acc : Str), (textFrom k acc ts).length ≤ acc.length + piled ts
  | [], _, acc => by show acc.length ≤ acc.length + 0; omega
  | t :: r, k, acc => by
    have ih := textFrom_up r (k + 1) (acc ++ (if k > 0 then ", " else "" : String) ++ t)
    have e : (acc ++ (if k > 0 then ", " else "" : String) ++ t).length ≤ acc.length + 2 + t.length := by
      rw [strLen_append, strLen_append]
      by_cases h : k > 0
      · rw [if_pos h]
        exact Nat.le_refl _
      · rw [if_neg h]
        show acc.length + 0 + t.length ≤ _
        omega
    show (textFrom (k + 1) _ r).length ≤ _
    rw [piled_cons]
    omega
end Ver

namespace Num
theorem fmod_lt {a b : Int} (h : b ≠ 0) : (a.fmod b).natAbs < b.natAbs := by
  rw [Int.fmod_eq_emod]
  have h0 := Int.emod_nonneg a h
  by_cases c : 0 ≤ b
  · have h1 := Int.emod_lt_of_pos a (show 0 < b by omega)
    rw [if_pos (.inl c)]
    omega
  · have h1 := Int.emod_lt_of_neg a (show b < 0 by omega)
    by_cases d : b ∣ a
    · rw [if_pos (.inr d), Int.emod_eq_zero_of_dvd d]
      omega
    · have h2 : a % b ≠ 0 := fun z => d (Int.dvd_of_emod_eq_zero z)
      rw [if_neg (by rintro (z | z); exact c z; exact d z)]
      omega
theorem gcd_fmod (a b : Int) : Int.gcd b (a.fmod b) = Int.gcd a b := by
  rw [Int.fmod_def, Int.gcd_sub_mul_left_right, Int.gcd_comm]
end Num
namespace Ver
open PySem PySem.Spec PyProof.Rows L2
/-- a part that is not run -/
theorem pe_dead {X : Cx} {e : Expr} : PE X e (fun _ _ _ => False) := ⟨fun _ _ _ _ _ _ h => h.elim⟩
/-- C.m(e, ..), m a plain def of the class C itself or above it -/
theorem pe_clsG {X : Cx} {CX : CXT} {k : Nat} {f C : Addr} {sp : Sp} {E : XK} {x m : Str} {p pos apos : Pos} {e : Expr} {es : List Expr} {t : TA} {pl : Sem Bool} (hg : Gl X x) (hm : X.mg x = some (.ref C)) (rd : PySem.W.readsIn X.K C (.type "type") = true)
    (ga : PySem.W.specialIn X.K (.ref C) "__getattribute__" = some (some (.builtin "type.__getattribute__"))) (fi : PySem.W.findCls X.K (.ref C) (.type "type") m = some (.val (.ref f))) (hk : PySem.W.keepIn X.K (.ref f) = true)
    (F : FnG X.prog X.w X.K X.mg X.base CX k f sp) (hr : Room k X.A) (hgd : X.A.guards = some []) (hx : Passes CX X E) (ha : PA X (e :: es) t)
    (hst : starEach (e :: es) X.env = (false, eval e X.env) :: starEach es X.env := by rfl) (hpl : (backTo pos (starEach es X.env)).any (·.1) = false := by rfl)
    (ht : eval (.Call (.Attribute (.Name x p) m apos) (e :: es) [] pos) X.env = (do
      let ov ← eval (.Name x p) X.env
      standAt apos.atName
      let (g, first) ← holding [ov] (getMethod ov m pl)
      callWith pos g first (backTo pos (starEach (e :: es) X.env)) (backToKw pos (keywordEach [] X.env))) := by rfl) (hdb : (x == ("__debug__" : Str)) = false := by decide) :
    PE X (.Call (.Attribute (.Name x p) m apos) (e :: es) [] pos) (fun σ H Q => t σ H fun vs H1 => sp vs H1 Q E) := by
  refine ⟨fun pins s σ H Q I h => PySem.W.methodCall_KW (pl := pl) (ld_glob I hg hm ?_ hdb) ht⟩
  refine PySem.W.method_cls I.kIn ga (PySem.W.cls_value I.kIn rd fi rfl ?_)
  have J := I.tok (s.toks + 1)
  refine PySem.W.callWith_K (first := []) (h₀ := X.base) I.ok.mod.kin hk (thn (ha.run pos pins _ σ H _ J h) fun us s1 z => ?_) hst hpl
  obtain ⟨vs, H1, I1, r, q⟩ := z
  exact ⟨I1.kIn, runG F hr hgd hx I1 r q⟩
/-- lcm of two ints, great ones too -/
theorem cr_lcm {X : Cx} : CallR X (.builtin "math.lcm") (fun vs H Q => ∃ a b : Int, vs = [.int a, .int b] ∧ a.natAbs < 2 ^ 8000 ∧ b.natAbs < 2 ^ 8000 ∧ Q (.int ((Nat.lcm a.natAbs b.natAbs : Nat) : Int)) H) := by
  intro pins s σ H vs us Q I r h
  obtain ⟨a, b, rfl, ha, hb, q⟩ := h
  obtain ⟨t, u, rfl⟩ := Vals.int2 r
  have la := PySem.Flt.log2_lt_of (by decide) ha
  have lb := PySem.Flt.log2_lt_of (by decide) hb
  have h1 : (max 1 a.natAbs).log2 ≤ 8000 := by
    rcases Nat.le_total 1 a.natAbs with z | z
    · rw [Nat.max_eq_right z]; omega
    · rw [Nat.max_eq_left z]; decide
  have h2 : (max a.natAbs b.natAbs).log2 ≤ 8000 := by
    rcases Nat.le_total a.natAbs b.natAbs with z | z
    · rw [Nat.max_eq_right z]; omega
    · rw [Nat.max_eq_left z]; omega
  have e1 : Nat.lcm 1 a.natAbs = a.natAbs := Nat.lcm_one_left _
  have hs : ((((Nat.lcm 1 a.natAbs).lcm b.natAbs : Nat) : Int)).natAbs.log2 < bitsLine := by
    rw [e1]
    have l1 : Nat.lcm a.natAbs b.natAbs ≤ a.natAbs * b.natAbs := by
      rw [Nat.lcm]
      exact Nat.div_le_self _ _
    have l2 : a.natAbs * b.natAbs < 2 ^ (8000 + 8000) := by
      rw [Nat.pow_add]
      exact Nat.mul_lt_mul'' ha hb
    have l3 : (((Nat.lcm a.natAbs b.natAbs : Nat) : Int)).natAbs < 2 ^ (8000 + 8000) := Nat.lt_of_le_of_lt l1 l2
    have l4 := PySem.Flt.log2_lt_of (by decide) l3
    have e : bitsLine = 134217728 := by decide
    omega
  have g := PySem.W.mg_run_lcm a t b u (by omega) (by omega) hs
  rw [e1] at g
  exact PySem.call_function_meets PySem.W.MGF.kind_lcm PySem.W.MGF.plain_lcm PySem.W.MGF.entry_lcm (PySem.W.MGF.args_lcm _ _) g.meets ⟨.int _, H, I.tok _, ⟨_, rfl⟩, q⟩
section
variable {P : Program} {w : World} {K : PySem.W.Frag} {mg : Str → Option Value} {base : Heap} {CX : CXT} {k : Nat} {f : Addr} {sp sp1 sp2 : Sp}
theorem FnG.either (F1 : FnG P w K mg base CX k f sp1) (F2 : FnG P w K mg base CX k f sp2) (h : ∀ vs H Q E, sp vs H Q E → sp1 vs H Q E ∨ sp2 vs H Q E) : FnG P w K mg base CX k f sp := fun A outer s H us vs Q E g hr e0 r q =>
  (h vs H Q E q).elim (F1 A outer s H us vs Q E g hr e0 r) (F2 A outer s H us vs Q E g hr e0 r)
end
section
variable {X : Cx} {CX : CXT} {k : Nat} {f C : Addr} {sp : Sp} {E : XK} {x : Str} {p pos : Pos}
/-- C() -/
theorem pe_makeG0 (M : Mk X.K C f) (F : FnG X.prog X.w X.K X.mg X.base CX k f sp) (hr : Room (k + 1) X.A) (hgd : X.A.guards = some []) (hg : Gl X x) (hm : X.mg x = some (.ref C)) (hx : Passes CX X E)
    (hdb : (x == ("__debug__" : Str)) = false := by decide) : PE X (.Call (.Name x p) [] [] pos) (StX.tMakeR C sp E tNil) := by
  refine ⟨fun pins s σ H Q I q => wpAny_Call_Name_kw (ld_glob I hg hm (PySem.W.callWith_K0 I.kIn M.kp ?_) hdb)⟩
  show wpAny _ _ (call (.ref C) []) _ _ _
  refine wpAny_call (make_map (f := f) I.kIn M.makes M.init (beq_iff_eq.mp M.fn) ?_)
  have q2 := q (s.heap.objs.size + 1) s.heap.objs.size (I.hok.fresh (Nat.le_succ _)) (I.hok.fresh (Nat.le_refl _)) (Nat.ne_of_lt (Nat.lt_succ_self _))
  have I2 := Inv.made (C := C) I
  refine codeAny_mono (F _ X.stack _ _ (Value.ref (s.heap.objs.size + 1) :: []) (V.ref (s.heap.objs.size + 1) :: []) _ E (made_guards hgd C []) (hr.make C [] []) (I2.env0.make C [] []) (.cons rfl .nil) q2) fun rs s' hq => ?_
  match rs, hq with
  | .error e', hq => exact hx pins σ _ _ e' s' I2 hq
  | .ok (.ret u), hq =>
    obtain ⟨v, H', I3, rv, ev, q3⟩ := I2.after hq
    subst ev
    exact ⟨rv, V.ref (s.heap.objs.size + 1), H', I3, rfl, q3⟩
  | .ok .next, hq => exact hq.elim
  | .ok .brk, hq => exact hq.elim
  | .ok .cont, hq => exact hq.elim
end
end Ver

/-! Data with dicts in it, and its show. -/
namespace Ver
open PySem PySem.Spec PyProof.Rows L2
def kdat : Key → PyData
  | .inl i => .int i
  | .inr x => .str x
mutual
inductive Do (K : PySem.W.Frag) (H : Hp) : V → PyData → Prop
  | non : Do K H .non .none
  | bl (b : Bool) : Do K H (.bl b) (.bool b)
  | int (i : Int) : Do K H (.int i) (.int i)
  | str (x : Str) : Do K H (.str x) (.str x)
  | lst {a : Addr} {xs : List V} {ds : List PyData} : SqL K H a xs → DoAll K H xs ds → Do K H (.ref a) (.list ds)
  | tup {a : Addr} {xs : List V} {ds : List PyData} : SqT K H a xs → DoAll K H xs ds → Do K H (.ref a) (.tuple ds)
  | dic {a : Addr} {kvs : List (Key × V)} {kds : List (PyData × PyData)} : H a = some (.dK kvs) → DoKv K H kvs kds → Do K H (.ref a) (.dict kds)
inductive DoAll (K : PySem.W.Frag) (H : Hp) : List V → List PyData → Prop
  | nil : DoAll K H [] []
  | cons {v : V} {vs : List V} {d : PyData} {ds : List PyData} : Do K H v d → DoAll K H vs ds → DoAll K H (v :: vs) (d :: ds)
inductive DoKv (K : PySem.W.Frag) (H : Hp) : List (Key × V) → List (PyData × PyData) → Prop
  | nil : DoKv K H [] []
  | cons {k : Key} {v : V} {kvs : List (Key × V)} {d : PyData} {kds : List (PyData × PyData)} : Do K H v d → DoKv K H kvs kds → DoKv K H ((k, v) :: kvs) ((kdat k, d) :: kds)
end
theorem reads_key {h : Heap} {k : Key} {v : Value} (e : keyIs k v = true) : Reads h v (kdat k) [] := by
  rcases keyIs_shape e with ⟨i, t, rfl, rfl⟩ | ⟨x, t, rfl, rfl⟩
  · exact .int i t
  · exact .str x t
/-- the module table is a dict of the written part -/
def Sm (K : PySem.W.Frag) : Prop := ∃ o, K.lookup sysModules = some o ∧ o.cls = .type "dict"
section
variable {X : Cx} {pins : List (Addr × Obj)} {σ : L2.St} {H : Hp} {s : Shared}
mutual
theorem Do.reads (sm : Sm X.K) (I : Inv X pins σ H s) : ∀ (d : PyData) (v : V) (u : Value), Do X.K H v d → RelV v u → ∃ as, Reads s.heap u d as ∧ sysModules ∉ as
  | .none, _, _, h, r => by
    cases h
    cases r
    exact ⟨_, Reads.none, by simp⟩
  | .bool b, _, _, h, r => by
    cases h
    cases r
    exact ⟨_, Reads.bool b, by simp⟩
  | .int i, _, _, h, r => by
    cases h
    obtain ⟨t, rfl⟩ := r
    exact ⟨_, Reads.int i t, by simp⟩
  | .str x, _, _, h, r => by
    cases h
    obtain ⟨t, rfl⟩ := r
    exact ⟨_, Reads.str x t, by simp⟩
  | .list ds, _, _, h, r => by
    cases h with
    | lst hs ha =>
      cases r
      obtain ⟨its, rv, ⟨o, n, ho, hc, _, hd⟩, _⟩ := I.list hs
      obtain ⟨as, hr, hn⟩ := Do.readsAll sm I ds _ its ha rv
      refine ⟨_, Reads.list ho hc hd hr, fun z => ?_⟩
      rcases List.mem_cons.mp z with e | z
      · obtain ⟨o2, lk, c2⟩ := sm
        have g := I.kIn _ _ lk
        rw [e] at g
        rw [ho] at g
        cases g
        rw [hc] at c2
        exact absurd c2 (by decide)
      · exact hn z
  | .tuple ds, _, _, h, r => by
    cases h with
    | tup hs ha =>
      cases r
      obtain ⟨its, rv, ⟨o, ho, hc, n, hd⟩, _⟩ := I.tuple hs
      obtain ⟨as, hr, hn⟩ := Do.readsAll sm I ds _ its ha rv
      exact ⟨_, Reads.tuple ho hc hd hr, hn⟩
  | .dict kds, _, _, h, r => by
    cases h with
    | dic ha hk =>
      cases r
      obtain ⟨_, ne, vs, kv, o, es, ep, ho, he, hd, _, hp, _⟩ := dk_of I.hok ha
      obtain ⟨as, bs, h1, h2, n1, n2⟩ := Do.readsKv sm I kds _ vs es.toList hk kv hp
      refine ⟨_, Reads.dict ho he.1 hd h1 h2, fun z => ?_⟩
      rcases List.mem_append.mp z with z | z
      · rcases List.mem_cons.mp z with e | z
        · rw [e] at ne
          rw [beq_self_eq_true] at ne
          cases ne
        · exact n1 z
      · exact n2 z
theorem Do.readsAll (sm : Sm X.K) (I : Inv X pins σ H s) : ∀ (ds : List PyData) (vs : List V) (us : List Value), DoAll X.K H vs ds → Vals vs us → ∃ as, ReadsAll s.heap us ds as ∧ sysModules ∉ as
  | [], _, _, h, r => by
    cases h
    cases r
    exact ⟨_, ReadsAll.nil, by simp⟩
  | d :: ds, _, _, h, r => by
    cases h with
    | cons h1 h2 =>
      cases r with
      | cons r1 r2 =>
        obtain ⟨as, q1, n1⟩ := Do.reads sm I d _ _ h1 r1
        obtain ⟨bs, q2, n2⟩ := Do.readsAll sm I ds _ _ h2 r2
        exact ⟨_, ReadsAll.cons q1 q2, fun z => (List.mem_append.mp z).elim n1 n2⟩
theorem Do.readsKv (sm : Sm X.K) (I : Inv X pins σ H s) : ∀ (kds : List (PyData × PyData)) (kvs : List (Key × V)) (vs : List (Key × Value)) (es : List DictEntry), DoKv X.K H kvs kds → KV kvs vs → Pairs (mixKind X.prog X.w) es vs →
    ∃ as bs, ReadsAll s.heap (es.map (·.key)) (kds.map (·.1)) as ∧ ReadsAll s.heap (es.map (·.val)) (kds.map (·.2)) bs ∧ sysModules ∉ as ∧ sysModules ∉ bs
  | [], _, _, _, h, k, p => by
    cases h
    cases k
    cases p
    exact ⟨_, _, ReadsAll.nil, ReadsAll.nil, by simp, by simp⟩
  | (dk, d) :: kds, _, _, _, h, k, p => by
    cases h with
    | cons h1 h2 =>
      cases k with
      | cons k1 k2 =>
        cases p with
        | cons p1 p2 p3 =>
          rename_i k v kvs b l2 en es
          obtain ⟨e1, e2⟩ := k1
          have e1 : k = b.1 := e1
          have e2 : RelV v en.val := by
            rw [p2]
            exact e2
          have p1 : keyIs k en.key = true := by
            rw [e1]
            exact p1
          obtain ⟨bs0, q1, n1⟩ := Do.reads sm I d _ _ h1 e2
          obtain ⟨as, bs, r1, r2, m1, m2⟩ := Do.readsKv sm I kds _ _ _ h2 k2 p3
          refine ⟨_, _, ReadsAll.cons (reads_key p1) r1, ReadsAll.cons q1 r2, ?_, fun z => (List.mem_append.mp z).elim n1 m2⟩
          simpa using m1
end
/-- repr(x), x any data -/
def rReprO (K : PySem.W.Frag) : List V → Hp → VK → Prop := fun xs H Q => ∃ (x : V) (d : PyData), xs = [x] ∧ Do K H x d ∧ d.showable = true ∧ d.shown.length ≤ sizeLine ∧ d.depth ≤ 60 ∧ Q (.str d.shown) H
theorem call_reprO (sm : Sm X.K) (hg : X.A.guards = some []) (hu : X.A.units + 64 < cLine) : CallR X (.builtin "repr") (rReprO X.K) := by
  intro pins s σ H xs us Q I r h
  obtain ⟨x, d, rfl, hd, hs, hz, hdp, q⟩ := h
  obtain ⟨u, rfl, rx⟩ := vals1 r
  obtain ⟨as, rd, na⟩ := Do.reads sm I d x u hd rx
  cases rd with
  | none => exact PySem.P.repr_of_none ⟨.str _, H, I.tok _, ⟨_, rfl⟩, by simpa only [PyData.shown] using q⟩
  | bool b => exact PySem.P.repr_of_bool ⟨.str _, H, I.tok _, ⟨_, rfl⟩, by simpa only [PyData.shown] using q⟩
  | int i t => exact PySem.P.repr_of_int (by simpa [PyData.showable] using hs) ⟨.str _, H, I.tok _, ⟨_, rfl⟩, by simpa only [PyData.shown] using q⟩
  | str y t => exact PySem.P.repr_of_str ⟨.str _, H, I.tok _, ⟨_, rfl⟩, by simpa only [PyData.shown] using q⟩ (by simpa only [PyData.shown] using hz)
  | list h1 h2 h3 h4 =>
    exact repr_of_reads' (.list h1 h2 h3 h4) hs (fun _ => na) hg (by omega) (fun _ _ z => z) (fun h' u tk hk => ⟨.str _, H, I.kept (t' := tk) hk, ⟨u, rfl⟩, q⟩) hz
  | tuple h1 h2 h3 h4 =>
    exact repr_of_reads' (.tuple h1 h2 h3 h4) hs (fun _ => na) hg (by omega) (fun _ _ z => z) (fun h' u tk hk => ⟨.str _, H, I.kept (t' := tk) hk, ⟨u, rfl⟩, q⟩) hz
  | dict h1 h2 h3 h4 h5 =>
    exact repr_of_reads' (.dict h1 h2 h3 h4 h5) hs (fun _ => na) hg (by omega) (fun _ _ z => z) (fun h' u tk hk => ⟨.str _, H, I.kept (t' := tk) hk, ⟨u, rfl⟩, q⟩) hz
end
end Ver

namespace Ver
open PySem PySem.Spec PyProof.Rows L2
def tyD : PyData → String
  | .none => "NoneType"
  | .bool _ => "bool"
  | .int _ => "int"
  | .str _ => "str"
  | .list _ => "list"
  | .tuple _ => "tuple"
  | .dict _ => "dict"
section
variable {K : PySem.W.Frag} {H H' : Hp}
theorem Do.ty {x : V} {d : PyData} (h : Do K H x d) : TyX K H x (.type (tyD d)) := by
  cases h with
  | non => exact .base .non
  | bl b => exact .base (.bl b)
  | int i => exact .base (.int i)
  | str s => exact .base (.str s)
  | lst hs ha =>
    rcases hs with (e | ⟨o, e⟩) | ⟨o, its, n, lk, c, _⟩
    · exact .base (.lst e)
    · exact .base (.frz e)
    · exact .kList lk c
  | tup hs ha =>
    rcases hs with (e | ⟨o, e⟩) | ⟨o, its, n, lk, c, _⟩
    · exact .base (.tup e)
    · exact .fTuple e
    · exact .kTuple lk c
  | dic e hk => exact .base (.dK e)
theorem sqt_keep {a : Addr} {xs : List V} (s : Same H H') (h : SqT K H a xs) : SqT K H' a xs := by
  rcases h with (h | ⟨o, h⟩) | h
  · exact .inl (.inl (s _ _ h))
  · exact .inl (.inr ⟨o, s _ _ h⟩)
  · exact .inr h
mutual
theorem Do.same (s : Same H H') : ∀ (d : PyData) (x : V), Do K H x d → Do K H' x d
  | .none, _, h => by cases h; exact .non
  | .bool b, _, h => by cases h; exact .bl b
  | .int i, _, h => by cases h; exact .int i
  | .str y, _, h => by cases h; exact .str y
  | .list ds, _, h => by
    cases h with
    | lst hs ha => exact .lst (s.seq hs) (DoAll.same s ds _ ha)
  | .tuple ds, _, h => by
    cases h with
    | tup hs ha => exact .tup (sqt_keep s hs) (DoAll.same s ds _ ha)
  | .dict kds, _, h => by
    cases h with
    | dic e hk => exact .dic (s _ _ e) (DoKv.same s kds _ hk)
theorem DoAll.same (s : Same H H') : ∀ (ds : List PyData) (xs : List V), DoAll K H xs ds → DoAll K H' xs ds
  | [], _, h => by cases h; exact .nil
  | d :: ds, _, h => by
    cases h with
    | cons h1 h2 => exact .cons (Do.same s d _ h1) (DoAll.same s ds _ h2)
theorem DoKv.same (s : Same H H') : ∀ (kds : List (PyData × PyData)) (kvs : List (Key × V)), DoKv K H kvs kds → DoKv K H' kvs kds
  | [], _, h => by cases h; exact .nil
  | (dk, d) :: kds, _, h => by
    cases h with
    | cons h1 h2 => exact .cons (Do.same s d _ h1) (DoKv.same s kds _ h2)
end
/-- isinstance(x, a built-in type), x any data -/
def is_int (d : PyData) : Bool := match d with | .int _ => true | .bool _ => true | _ => false
theorem kit_int : ∀ d : PyData, PySem.W.kitOne K (.type (tyD d)) (.type "int") = some (is_int d)
  | .none => show PySem.W.kitOne K (.type "NoneType") (.type "int") = some false from kit_ty (by decide +kernel)
  | .bool _ => show PySem.W.kitOne K (.type "bool") (.type "int") = some true from kit_ty (by decide +kernel)
  | .int _ => show PySem.W.kitOne K (.type "int") (.type "int") = some true from kit_ty (by decide +kernel)
  | .str _ => show PySem.W.kitOne K (.type "str") (.type "int") = some false from kit_ty (by decide +kernel)
  | .list _ => show PySem.W.kitOne K (.type "list") (.type "int") = some false from kit_ty (by decide +kernel)
  | .tuple _ => show PySem.W.kitOne K (.type "tuple") (.type "int") = some false from kit_ty (by decide +kernel)
  | .dict _ => show PySem.W.kitOne K (.type "dict") (.type "int") = some false from kit_ty (by decide +kernel)
def is_bool (d : PyData) : Bool := match d with | .bool _ => true | _ => false
theorem kit_bool : ∀ d : PyData, PySem.W.kitOne K (.type (tyD d)) (.type "bool") = some (is_bool d)
  | .none => show PySem.W.kitOne K (.type "NoneType") (.type "bool") = some false from kit_ty (by decide +kernel)
  | .bool _ => show PySem.W.kitOne K (.type "bool") (.type "bool") = some true from kit_ty (by decide +kernel)
  | .int _ => show PySem.W.kitOne K (.type "int") (.type "bool") = some false from kit_ty (by decide +kernel)
  | .str _ => show PySem.W.kitOne K (.type "str") (.type "bool") = some false from kit_ty (by decide +kernel)
  | .list _ => show PySem.W.kitOne K (.type "list") (.type "bool") = some false from kit_ty (by decide +kernel)
  | .tuple _ => show PySem.W.kitOne K (.type "tuple") (.type "bool") = some false from kit_ty (by decide +kernel)
  | .dict _ => show PySem.W.kitOne K (.type "dict") (.type "bool") = some false from kit_ty (by decide +kernel)
def is_tuple (d : PyData) : Bool := match d with | .tuple _ => true | _ => false
theorem kit_tuple : ∀ d : PyData, PySem.W.kitOne K (.type (tyD d)) (.type "tuple") = some (is_tuple d)
  | .none => show PySem.W.kitOne K (.type "NoneType") (.type "tuple") = some false from kit_ty (by decide +kernel)
  | .bool _ => show PySem.W.kitOne K (.type "bool") (.type "tuple") = some false from kit_ty (by decide +kernel)
  | .int _ => show PySem.W.kitOne K (.type "int") (.type "tuple") = some false from kit_ty (by decide +kernel)
  | .str _ => show PySem.W.kitOne K (.type "str") (.type "tuple") = some false from kit_ty (by decide +kernel)
  | .list _ => show PySem.W.kitOne K (.type "list") (.type "tuple") = some false from kit_ty (by decide +kernel)
  | .tuple _ => show PySem.W.kitOne K (.type "tuple") (.type "tuple") = some true from kit_ty (by decide +kernel)
  | .dict _ => show PySem.W.kitOne K (.type "dict") (.type "tuple") = some false from kit_ty (by decide +kernel)
def is_str (d : PyData) : Bool := match d with | .str _ => true | _ => false
theorem kit_str : ∀ d : PyData, PySem.W.kitOne K (.type (tyD d)) (.type "str") = some (is_str d)
  | .none => show PySem.W.kitOne K (.type "NoneType") (.type "str") = some false from kit_ty (by decide +kernel)
  | .bool _ => show PySem.W.kitOne K (.type "bool") (.type "str") = some false from kit_ty (by decide +kernel)
  | .int _ => show PySem.W.kitOne K (.type "int") (.type "str") = some false from kit_ty (by decide +kernel)
  | .str _ => show PySem.W.kitOne K (.type "str") (.type "str") = some true from kit_ty (by decide +kernel)
  | .list _ => show PySem.W.kitOne K (.type "list") (.type "str") = some false from kit_ty (by decide +kernel)
  | .tuple _ => show PySem.W.kitOne K (.type "tuple") (.type "str") = some false from kit_ty (by decide +kernel)
  | .dict _ => show PySem.W.kitOne K (.type "dict") (.type "str") = some false from kit_ty (by decide +kernel)
def is_list (d : PyData) : Bool := match d with | .list _ => true | _ => false
theorem kit_list : ∀ d : PyData, PySem.W.kitOne K (.type (tyD d)) (.type "list") = some (is_list d)
  | .none => show PySem.W.kitOne K (.type "NoneType") (.type "list") = some false from kit_ty (by decide +kernel)
  | .bool _ => show PySem.W.kitOne K (.type "bool") (.type "list") = some false from kit_ty (by decide +kernel)
  | .int _ => show PySem.W.kitOne K (.type "int") (.type "list") = some false from kit_ty (by decide +kernel)
  | .str _ => show PySem.W.kitOne K (.type "str") (.type "list") = some false from kit_ty (by decide +kernel)
  | .list _ => show PySem.W.kitOne K (.type "list") (.type "list") = some true from kit_ty (by decide +kernel)
  | .tuple _ => show PySem.W.kitOne K (.type "tuple") (.type "list") = some false from kit_ty (by decide +kernel)
  | .dict _ => show PySem.W.kitOne K (.type "dict") (.type "list") = some false from kit_ty (by decide +kernel)
def is_dict (d : PyData) : Bool := match d with | .dict _ => true | _ => false
theorem kit_dict : ∀ d : PyData, PySem.W.kitOne K (.type (tyD d)) (.type "dict") = some (is_dict d)
  | .none => show PySem.W.kitOne K (.type "NoneType") (.type "dict") = some false from kit_ty (by decide +kernel)
  | .bool _ => show PySem.W.kitOne K (.type "bool") (.type "dict") = some false from kit_ty (by decide +kernel)
  | .int _ => show PySem.W.kitOne K (.type "int") (.type "dict") = some false from kit_ty (by decide +kernel)
  | .str _ => show PySem.W.kitOne K (.type "str") (.type "dict") = some false from kit_ty (by decide +kernel)
  | .list _ => show PySem.W.kitOne K (.type "list") (.type "dict") = some false from kit_ty (by decide +kernel)
  | .tuple _ => show PySem.W.kitOne K (.type "tuple") (.type "dict") = some false from kit_ty (by decide +kernel)
  | .dict _ => show PySem.W.kitOne K (.type "dict") (.type "dict") = some true from kit_ty (by decide +kernel)
end
end Ver

namespace Ver
open PySem PySem.Spec PyProof.Rows L2
/-! ### == and != of any data -/
section
variable {X : Cx}
def rEqO (K : PySem.W.Frag) : R2 := fun x y H Q => ∃ d e, Do K H x d ∧ Do K H y e ∧ SeqAt.shaped d = true ∧ SeqAt.shaped e = true ∧ Q (.bl (PyData.eqv d e)) H
def rNeO (K : PySem.W.Frag) : R2 := fun x y H Q => ∃ d e, Do K H x d ∧ Do K H y e ∧ SeqAt.shaped d = true ∧ SeqAt.shaped e = true ∧ Q (.bl (!PyData.eqv d e)) H
def rNotInO (K : PySem.W.Frag) : R2 := fun x y H Q => ∃ d ds, Do K H x d ∧ Do K H y (.list ds) ∧ SeqAt.shaped d = true ∧ SeqAt.shaped (.list ds) = true ∧ Q (.bl (!(ds.any fun z => PyData.eqv z d))) H
theorem op_eqO (sm : Sm X.K) (hu : X.A.units + 64 < cLine) : OpR X (compareOp .Eq) (rEqO X.K) := by
  intro pins s σ H x y v u Q I rx ry h
  obtain ⟨d, e, hd, he, sd, se, q⟩ := h
  obtain ⟨as, r1, _⟩ := Do.reads sm I d x v hd rx
  obtain ⟨bs, r2, _⟩ := Do.reads sm I e y u he ry
  exact SeqAt.compareEq_shaped r1 r2 sd se hu ⟨.bl _, H, I, rfl, q⟩
theorem op_neO (sm : Sm X.K) (hu : X.A.units + 64 < cLine) : OpR X (compareOp .NotEq) (rNeO X.K) := by
  intro pins s σ H x y v u Q I rx ry h
  obtain ⟨d, e, hd, he, sd, se, q⟩ := h
  obtain ⟨as, r1, _⟩ := Do.reads sm I d x v hd rx
  obtain ⟨bs, r2, _⟩ := Do.reads sm I e y u he ry
  exact SeqAt.compareNe_shaped r1 r2 sd se hu ⟨.bl _, H, I, rfl, q⟩
theorem op_notInO (sm : Sm X.K) (hu : X.A.units + 65 < cLine) : OpR X (compareOp .NotIn) (rNotInO X.K) := by
  intro pins s σ H x y v u Q I rx ry h
  obtain ⟨d, ds, hd, he, sd, se, q⟩ := h
  obtain ⟨as, r1, _⟩ := Do.reads sm I d x v hd rx
  obtain ⟨bs, r2, _⟩ := Do.reads sm I (.list ds) y u he ry
  exact SeqAt.notIn_list_reads r2 r1 (SeqAt.canLay_of_shaped se) (SeqAt.canLay_of_shaped sd) (room_in_shaped sd hu) ⟨.bl _, H, I, rfl, q⟩
/-- a text, many times -/
theorem op_strMul : OpR X (binaryOp .Mult) (fun x y H Q => ∃ (a : Str) (n : Int), x = .str a ∧ y = .int n ∧ a.length ≤ 1000 ∧ 0 < a.length ∧ 2 ≤ n ∧ n ≤ 10000 ∧ (⟨(List.replicate n.toNat a.cps).foldl (· ++ ·) #[]⟩ : Str).length ≤ sizeLine ∧ Q (.str ⟨(List.replicate n.toNat a.cps).foldl (· ++ ·) #[]⟩) H) := by
  intro pins s σ H x y v u Q I rx ry h
  obtain ⟨a, n, rfl, rfl, h1, h0, h2, h3, hz, q⟩ := h
  obtain ⟨t, rfl⟩ := rx
  obtain ⟨t2, rfl⟩ := ry
  have e1 : ¬ n < 1 := by omega
  have e2 : ¬ (n == 1 || a.length == 0) = true := by
    rw [Bool.or_eq_true, not_or]
    refine ⟨fun z => ?_, fun z => ?_⟩
    · have := beq_iff_eq.mp z
      omega
    · have := beq_iff_eq.mp z
      omega
  refine PySem.P.mul_str ?_ (fun _ _ => ?_) (fun _ _ => ?_) ?_
  · rw [decide_eq_false (by omega), decide_eq_false (by omega)]
    rfl
  · have : (2 ^ 63 - 1) / n ≥ 1000 := Int.le_ediv_of_mul_le (by omega) (by omega)
    omega
  · have hm : a.length * n.toNat ≤ 1000 * 10000 := Nat.mul_le_mul h1 (by omega)
    exact decide_eq_false (by rw [sizeLine_eq]; omega)
  · rw [if_neg e1, if_neg e2]
    exact ⟨hz, .str _, H, I.tok _, ⟨_, rfl⟩, q⟩
end
/-! ### an own __eq__ -/
section
variable {M : Model} {prog : Program} {w : World} {A : Around} {E : Value → Shared → Prop} {s : Shared} {K : PySem.W.Frag} {x C L f : Addr} {h₀ : Heap} {m : Str → Option Value} {ox : Obj} {od : Option Obj} {name : Str} {b tb : Value}
theorem ifBound_B {id B : String} {args : List Value} {Q : Option Value → Shared → Prop} (S : PySem.Slot B name id) (X : K.In s.heap) (I : PySem.W.InstAt s.heap x ox C od) (hs : PySem.W.findIn K (.ref C) name = some (some (.builtin id)))
    (h : wpAny M A (call (.builtin id) (.ref x :: args)) (fun v => Q (some v)) E s) : wpAny M A (callSpecialIfBound? (.ref x) name args) Q E s := by
  simp only [callSpecialIfBound?, bindSpecialIfBound?]
  refine wpAny_holding (wpAny_bind (wpAny_bind (wpAny_bind (I.type.here ((PySem.W.looks_findIn X hs).here ?_)))))
  simp only [S.bind]
  refine wpAny_bind (wpAny_askSetting (wpAny_ite ?_))
  have fin : wpAny M A (call (.builtin id) ([.ref x] ++ args) >>= fun v => pure (some v)) Q E s := wpAny_bind (wpAny_mono h (fun v s' h' => wpAny_pure h') fun _ _ h' => h')
  split
  · exact wpAny_bind (wpAny_pure (wpAny_pure fin))
  · exact wpAny_tryCatch (wpAny_bind (wpAny_pure (wpAny_pure fin)))
theorem objNe_K (X : K.In s.heap) (I : PySem.W.InstAt s.heap x ox C od) (hs : PySem.W.findIn K (.ref C) "__eq__" = some (some (.ref f))) (hf : PySem.W.isFn K (.ref f) = true) (hu : A.units < cLine) {Q : Fin → Shared → Prop}
    (hcall : wpAny (model prog w) A (call (.ref f) [.ref x, b]) (fun v s' => ∃ k, v = .bool k ∧ Q (.done (.ret (.bool (!k)))) s') E s) :
    wpAny (model prog w) A (Builtin.«object.__ne__» ⟨[.ref x, b], []⟩) Q E s := by
  obtain ⟨hp, g, d, t, os⟩ := s
  unfold Builtin.«object.__ne__»
  repeat (first
    | with_reducible refine wpAny_cRoomFor hu ?_
    | (refine wpAny_bind (m := callSpecialIfBound? (.ref x) (Str.ofString "__eq__") [b])
        (PySem.W.ifBound_K X I hs hf (wpAny_mono hcall (fun r s' hr => by
          obtain ⟨b, rfl, hq⟩ := hr
          repeat (first | exact hq | exact wpAny_pure hq | exact wpAny_truthy_bool hq | (refine wpAny_bind (m := truthy (.bool _)) (wpAny_truthy_bool ?_)) | wp_step)) fun _ _ e => e)))
    | wp_step)
theorem ne_K {Q : Value → Shared → Prop} (hu : A.units + 1 < cLine) (X : K.In s.heap) (I : PySem.W.InstAt s.heap x ox C od) (hb : PySem.W.Looks (model prog w) s.heap (typeOf b) tb) (hn : PySem.W.notFirst K C tb = true)
    (hs : PySem.W.findIn K (.ref C) "__eq__" = some (some (.ref f))) (hf : PySem.W.isFn K (.ref f) = true) (hne : PySem.W.findIn K (.ref C) "__ne__" = some (some (.builtin "object.__ne__"))) (hob : PySem.W.subIn K (.ref C) (.type "object") = some true)
    (h : wpAny (model prog w) A.in1 (call (.ref f) [.ref x, b]) (fun v s' => ∃ k, v = .bool k ∧ Q (.bool (!k)) s') E s) : wpAny (model prog w) A (richCompare .NotEq (.ref x) b) Q E s := by
  have isO : PySem.W.Looks (model prog w) s.heap (isInstance (.ref x) (.type "object")) true := I.type.andThen (PySem.W.looks_subIn X hob)
  have one : wpAny (model prog w) A (tryCompare (.ref x) (cmpInfo .NotEq).2.1 b) (fun r s' => ∃ v, r = some v ∧ Q v s') E s := by
    unfold tryCompare
    refine wpAny_bind (ifBound_B PySem.F.cmp_object.ne X I hne (wpAny_call (codeAny_call_builtin PySem.F.cmp_object.ne.plain PySem.F.cmpEntry_ne
      (PySem.W.check_slot PySem.F.cmpKind_ne PySem.F.cmpSplit_ne isO (PySem.F.cmpArgs_ne _ _) (objNe_K (A := A.in1) X I hs hf hu (wpAny_mono h (fun v s' hv => ?_) fun _ _ e => e))))))
    obtain ⟨k, rfl, hq⟩ := hv
    first | exact ⟨k, rfl, wpAny_pure ⟨_, rfl, hq⟩⟩ | exact ⟨k, rfl, wpAny_pure (wpAny_pure ⟨_, rfl, hq⟩)⟩
  unfold richCompare
  simp only [oneThing_ref]
  refine wpAny_holding (wpAny_bind (wpAny_cRoomFor (Nat.lt_of_succ_lt hu) ?_))
  refine wpAny_bind (I.type.here (wpAny_bind (hb.here ?_)))
  split
  · rename_i q
    have e : PySem.W.subIn K tb (.ref C) = some false := by
      rcases Bool.or_eq_true_iff.mp hn with e | e
      · rw [beq_iff_eq.mp e] at q; simp at q
      · exact beq_iff_eq.mp e
    refine wpAny_bind ((PySem.W.looks_subIn X e).here ?_)
    simp only [Bool.false_eq_true, if_false]
    refine wpAny_bind (wpAny_mono one (fun r s' z => ?_) fun _ _ e => e)
    obtain ⟨v, rfl, hq⟩ := z
    exact wpAny_pure hq
  · refine wpAny_bind (wpAny_pure ?_)
    simp only [Bool.false_eq_true, if_false]
    refine wpAny_bind (wpAny_mono one (fun r s' z => ?_) fun _ _ e => e)
    obtain ⟨v, rfl, hq⟩ := z
    exact wpAny_pure hq
end
end Ver

namespace Ver
open PySem PySem.Spec PyProof.Rows L2
/-- what the written part tells of the class at C whose == is the def at f, against a value of the type t -/
structure OwnQ (K : PySem.W.Frag) (C f : Addr) (t : Value) : Prop where
  nf : PySem.W.notFirst K C t = true
  eq : PySem.W.findIn K (.ref C) "__eq__" = some (some (.ref f))
  fn : PySem.W.isFn K (.ref f) = true
  ne : PySem.W.findIn K (.ref C) "__ne__" = some (some (.builtin "object.__ne__"))
  ob : PySem.W.subIn K (.ref C) (.type "object") = some true
section
variable {X : Cx} {CX : CXT} {k : Nat} {f C : Addr} {sp : Sp} {E : XK} {pins : List (Addr × Obj)} {σ : L2.St} {H : Hp} {s : Shared} {Q : VK} {us : List Value} {vs : List V}
/-- the callee's run, one call further in -/
theorem runG1 (F : FnG X.prog X.w X.K X.mg X.base CX k f sp) (hr : Room (k + 1) X.A) (hgd : X.A.guards = some []) (hx : Passes CX X E) (I : Inv X pins σ H s) (r : Vals vs us) (h : sp vs H Q E) :
    wpAny (model X.prog X.w) X.A.in1 (call (.ref f) us) (EP X pins σ Q) X.xe s :=
  wpAny_call (codeAny_mono (F X.A.in1 X.stack s H us vs Q E hgd hr.in1 I.env0.in1 r h) fun rs s' hq => by
    match rs, hq with
    | .error e', hq => exact hx pins σ H s e' s' I hq
    | .ok (.ret u), hq => exact I.after hq
    | .ok .next, hq => exact hq.elim
    | .ok .brk, hq => exact hq.elim
    | .ok .cont, hq => exact hq.elim)
def rOwnQ (K : PySem.W.Frag) (f : Addr) (sp : Sp) (E : XK) (g : Bool → Bool) : R2 := fun x y H Q => ∃ (a C dx : Addr) (fs : List (Str × V)) (t : Value), x = .ref a ∧ H a = some (.ins C dx fs) ∧ TyX K H y t ∧ OwnQ K C f t ∧
  sp [x, y] H (fun z H' => ∃ b : Bool, z = .bl b ∧ Q (.bl (g b)) H') E
theorem op_eqOwn (F : FnG X.prog X.w X.K X.mg X.base CX k f sp) (hr : Room (k + 1) X.A) (hgd : X.A.guards = some []) (hx : Passes CX X E) : OpR X (compareOp .Eq) (rOwnQ X.K f sp E fun b => b) := by
  intro pins s σ H x y v u Q I rx ry h
  obtain ⟨a, C, dx, fs, t, rfl, ea, ty, O, q⟩ := h
  cases (show v = Value.ref a from rx)
  obtain ⟨mA, ob, r, wi, _, ho⟩ := ins_get I.hok ea
  obtain ⟨od, J, _⟩ := ob.look
  obtain ⟨P, kx, hp, _⟩ := kit_of I ry ty
  obtain ⟨m, hF⟩ := I.fr
  show wpAny _ _ (richCompare .Eq (.ref a) u) _ _ _
  refine PySem.W.cmp_K (op := .Eq) (tb := t) (Nat.lt_of_lt_of_le (Nat.lt_of_le_of_lt (Nat.le_add_right _ 64) hr.units) (Nat.le_refl _)) hF I.ok.mod.kin J (kx.ty _ _ I.kIn hp) O.nf O.eq O.fn ?_
  refine wpAny_mono (runG (us := [.ref a, u]) (vs := [.ref a, y]) F (hr.mono (Nat.le_succ k)) hgd hx I (.cons rfl (.cons ry .nil)) q) (fun w s' z => ?_) fun _ _ x => x
  obtain ⟨z', H', I', rz, b, rfl, qz⟩ := z
  cases (show w = Value.bool b from rz)
  exact ⟨.bl b, H', I', rfl, qz⟩
theorem op_neOwn (F : FnG X.prog X.w X.K X.mg X.base CX k f sp) (hr : Room (k + 1) X.A) (hgd : X.A.guards = some []) (hx : Passes CX X E) : OpR X (compareOp .NotEq) (rOwnQ X.K f sp E fun b => !b) := by
  intro pins s σ H x y v u Q I rx ry h
  obtain ⟨a, C, dx, fs, t, rfl, ea, ty, O, q⟩ := h
  cases (show v = Value.ref a from rx)
  obtain ⟨mA, ob, r, wi, _, ho⟩ := ins_get I.hok ea
  obtain ⟨od, J, _⟩ := ob.look
  obtain ⟨P, kx, hp, _⟩ := kit_of I ry ty
  show wpAny _ _ (richCompare .NotEq (.ref a) u) _ _ _
  refine ne_K (tb := t) (Nat.lt_of_le_of_lt (Nat.add_le_add_left (by decide) _) hr.units) I.kIn J (kx.ty _ _ I.kIn hp) O.nf O.eq O.fn O.ne O.ob ?_
  refine wpAny_mono (runG1 (us := [.ref a, u]) (vs := [.ref a, y]) F hr hgd hx I (.cons rfl (.cons ry .nil)) q) (fun w s' z => ?_) fun _ _ x => x
  obtain ⟨z', H', I', rz, b, rfl, qz⟩ := z
  cases (show w = Value.bool b from rz)
  exact ⟨b, rfl, .bl (!b), H', I', rfl, qz⟩
end
/-! ### a static method, read off its class; what is raised is caught here -/
/-- what the written part tells of a static method -/
structure StM (K : PySem.W.Frag) (C : Addr) (m : Str) (f : Addr) : Prop where
  ga : PySem.W.specialIn K (.ref C) "__getattribute__" = some (some (.builtin "type.__getattribute__"))
  ty : PySem.W.typeIn K (.ref C) = some (.type "type")
  rd : PySem.W.readsIn K C (.type "type") = true
  at_ : ∃ p, PySem.W.findCls K (.ref C) (.type "type") m = some (.get (.builtin "staticmethod.__get__") (.ref p) .none (.ref C)) ∧ ∃ rest, PySem.W.recIn K p "staticmethod" = some (.ref f :: rest)
  kp : PySem.W.keepIn K (.ref f) = true
section
variable {X : Cx} {CX : CXT} {k : Nat} {f C : Addr} {sp : Sp} {x m : Str} {p pos apos : Pos} {e : Expr} {es : List Expr} {t : TA}
/-- C.m(e, ..), what it raises is wished for at the slots -/
theorem pe_stcGS {E : L2.St → XK} {pl : Sem Bool} (S : StM X.K C m f) (hg : Gl X x) (hm : X.mg x = some (.ref C)) (F : FnG X.prog X.w X.K X.mg X.base CX k f sp) (hr : Room k X.A) (hgd : X.A.guards = some []) (hx : ∀ σ, PassesAt CX X σ (E σ)) (ha : PA X (e :: es) t)
    (hst : starEach (e :: es) X.env = (false, eval e X.env) :: starEach es X.env := by rfl) (hpl : (backTo pos (starEach es X.env)).any (·.1) = false := by rfl)
    (ht : eval (.Call (.Attribute (.Name x p) m apos) (e :: es) [] pos) X.env = (do
      let ov ← eval (.Name x p) X.env
      standAt apos.atName
      let (g, first) ← holding [ov] (getMethod ov m pl)
      callWith pos g first (backTo pos (starEach (e :: es) X.env)) (backToKw pos (keywordEach [] X.env))) := by rfl) (hdb : (x == ("__debug__" : Str)) = false := by decide) :
    PE X (.Call (.Attribute (.Name x p) m apos) (e :: es) [] pos) (fun σ H Q => t σ H fun vs H1 => sp vs H1 Q (E σ)) := by
  obtain ⟨pa, fc, rest, hp⟩ := S.at_
  refine ⟨fun pins s σ H Q I h => PySem.W.methodCall_KW (pl := pl) (ld_glob I hg hm ?_ hdb) ht⟩
  obtain ⟨mm, fr⟩ := I.fr
  refine PySem.W.method_of_cls fr I.ok.mod.kin S.ga (PySem.W.cls_sm fr I.ok.mod.kin S.ty S.rd fc hp (by rfl) ?_)
  have J := I.tok (s.toks + 1)
  refine PySem.W.callWith_K (first := []) (h₀ := X.base) I.ok.mod.kin S.kp (thn (ha.run pos pins _ σ H _ J h) fun us s1 z => ?_) hst hpl
  obtain ⟨vs, H1, I1, r, q⟩ := z
  refine ⟨I1.kIn, ?_⟩
  exact wpAny_call (codeAny_mono (F X.A X.stack s1 H1 us vs Q (E σ) hgd hr I1.env0 r q) fun rs s' hq => by
    match rs, hq with
    | .error e', hq => exact hx σ pins H1 s1 e' s' I1 hq
    | .ok (.ret u), hq => exact I1.after hq
    | .ok .next, hq => exact hq.elim
    | .ok .brk, hq => exact hq.elim
    | .ok .cont, hq => exact hq.elim)
/-- C(e, ..), what __init__ raises is wished for at the slots -/
def tMakeGS (C : Addr) (sp : Sp) (E : L2.St → XK) (t : TA) : TE := fun σ H Q => StX.tMakeR C sp (E σ) t σ H Q
theorem pe_makeGS {E : L2.St → XK} (M : Mk X.K C f) (F : FnG X.prog X.w X.K X.mg X.base CX k f sp) (hr : Room (k + 1) X.A) (hgd : X.A.guards = some []) (hg : Gl X x) (hm : X.mg x = some (.ref C)) (hx : ∀ σ, PassesAt CX X σ (E σ)) (ha : PA X (e :: es) t)
    (hdb : (x == ("__debug__" : Str)) = false := by decide) (he : starEach (e :: es) X.env = (false, eval e X.env) :: starEach es X.env := by rfl)
    (hpl : (backTo pos (starEach es X.env)).any (·.1) = false := by rfl) : PE X (.Call (.Name x p) (e :: es) [] pos) (tMakeGS C sp E t) := by
  refine ⟨fun pins s σ H Q I h => wpAny_Call_Name_kw (ld_glob I hg hm (PySem.W.callWith_K (h₀ := X.base) I.ok.mod.kin M.kp (thn (ha.run pos pins s σ H _ I h) fun us s1 z => ?_) he hpl) hdb)⟩
  obtain ⟨vs, H1, I1, r, q⟩ := z
  refine ⟨I1.kIn, wpAny_call (make_map (f := f) I1.kIn M.makes M.init (beq_iff_eq.mp M.fn) ?_)⟩
  have q2 := q (s1.heap.objs.size + 1) s1.heap.objs.size (I1.hok.fresh (Nat.le_succ _)) (I1.hok.fresh (Nat.le_refl _)) (Nat.ne_of_lt (Nat.lt_succ_self _))
  have I2 := Inv.made (C := C) I1
  refine codeAny_mono (F _ X.stack _ _ (Value.ref (s1.heap.objs.size + 1) :: us) (V.ref (s1.heap.objs.size + 1) :: vs) _ (E σ) (made_guards hgd C us) (hr.make C us []) (I2.env0.make C us []) (.cons rfl r) q2) fun rs s' hq => ?_
  match rs, hq with
  | .error e', hq => exact hx σ pins _ _ e' s' I2 hq
  | .ok (.ret u), hq =>
    obtain ⟨v, H', I3, rv, ev, q3⟩ := I2.after hq
    subst ev
    exact ⟨rv, V.ref (s1.heap.objs.size + 1), H', I3, rfl, q3⟩
  | .ok .next, hq => exact hq.elim
  | .ok .brk, hq => exact hq.elim
  | .ok .cont, hq => exact hq.elim
end
end Ver

namespace Ver
open PySem PySem.Spec PyProof.Rows L2
/-- isinstance(e, c), e the exception that the suite holds, its dict at dd -/
def rIsED (K : PySem.W.Frag) (D a dd : Addr) : List V → Hp → VK → Prop := fun xs H Q => ∃ (c : V) (cv : Value) (b : Bool) (fs : List (Str × V)), xs = [.ref a, c] ∧ (∀ u, RelV c u → u = cv) ∧ PySem.W.kitOne K (.ref D) cv = some b ∧ H dd = some (.xd fs) ∧ Q (.bl b) H
theorem call_isED {X : Cx} {a D dd : Addr} {oe : Obj} {pn : List (Addr × Obj)} (C : ExcC X.K D) (hz : Zc (.ref D) (some dd) oe) (hf : ∃ vs, oe.data = .fields vs) : CallR (X.suite a ((a, oe) :: pn)) (.builtin "isinstance") (rIsED X.K D a dd) := by
  intro pins s σ H xs us Q I r h
  obtain ⟨c, cv, b, fs, rfl, hcv, e, ea, q⟩ := h
  match us, r with
  | [_, _], .cons rx (.cons rt .nil) =>
    cases rx
    cases hcv _ rt
    obtain ⟨g, _⟩ := I.pin (a, oe) (List.mem_append_left _ List.mem_cons_self)
    obtain ⟨vs, hv⟩ := hf
    obtain ⟨mA, hns, _⟩ := show ObjOk X.prog X.w H s.heap dd (.xd fs) from I.hok dd _ ea
    obtain ⟨od, ho, _⟩ := lookIn_ns hns
    obtain ⟨cd, hc, _⟩ := PySem.W.any_some C.hd
    have J : PySem.W.InstAt s.heap a oe D (some od) := ⟨g, hz.1, by unfold PySem.W.notCls; rw [hv] <;> rfl, by rw [hz.2]; exact ho⟩
    exact PySem.W.kia_one (PySem.W.kitx_exc (by rw [hc]; rfl) C.hg C.hk C.hs C.ha C.hn C.ht C.hm) I.kIn J e (fun z => nomatch z) fun tk => ⟨.bl b, H, I.kept (t' := tk) fun _ _ z => z, rfl, q⟩
end Ver

namespace Ver
open PySem PySem.Spec PyProof.Rows L2 SeqAt
open AutoSeq1 (wpAny_loadPart')
/-! ### a dict and a text are never equal -/
theorem dict_no_str (l : Addr) (o : Obj) (b : Str) (u : Tok) :
    PySem.Meets (Builtin.«dict.__eq__» ⟨[.ref l, .str b u], []⟩) (fun _ R s => s.heap.get? l = some o ∧ R (.ok (.ret .notImplemented)) s) := .of_wp fun prog w A R s h => by
  obtain ⟨hp, g, d, tk, os⟩ := s
  have f1 := PySem.F.sub_str_dict
  wp_walk using wpAny_loadPart' h.1
  exact ⟨_, rfl, h.2⟩
theorem str_no_dict (l : Addr) (o : Obj) (b : Str) (u : Tok) (es : Array DictEntry) (ep : Nat) (hd : o.data = .dict es ep) :
    PySem.Meets (Builtin.«str.__eq__» ⟨[.str b u, .ref l], []⟩) (fun _ R s => s.heap.get? l = some o ∧ R (.ok (.ret .notImplemented)) s) := .of_wp fun prog w A R s h => by
  obtain ⟨hp, g, d, tk, os⟩ := s
  wp_walk using wpAny_loadPart' h.1, wpAny_load h.1
  rw [hd]
  wp_walk using wpAny_loadPart' h.1, wpAny_load h.1
  exact ⟨_, rfl, h.2⟩
section
variable {A : Around} {s : Shared} {l : Addr} {o : Obj} {es : Array DictEntry} {ep : Nat}
theorem rc_str_dict (b : Str) (u : Tok) (ho : s.heap.get? l = some o) (hc : o.cls = .type "dict") (hd : o.data = .dict es ep) (hu : A.units < cLine) : RcAt A s (.str b u) (.ref l) false := fun prog w E Q h =>
  rc_eq_decline_or (k := false) (typeIs_str s b u) ⟨_, ho, hc⟩ (by decide) PySem.F.sub_dict_str PySem.F.slot_str_eq PySem.F.slot_dict_eq_refl
    (fun _ q => call_meets PySem.F.slot_str_eq (typeIs_str s b u) PySem.F.entry_str_eq (PySem.F.args_str_eq_2 _ _) (str_no_dict l o b u es ep hd) ⟨ho, q⟩)
    (fun _ q => call_meets PySem.F.slot_dict_eq_refl ⟨_, ho, hc⟩ PySem.F.entry_dict_eq (PySem.F.args_dict_eq_2 _ _) (dict_no_str l o b u) ⟨ho, q⟩)
    (fun _ q => wpAny_of_eq (rfl : isSame (.str b u) (.ref l) = pure false) q) (.inr hu) h
theorem rc_dict_str (b : Str) (u : Tok) (ho : s.heap.get? l = some o) (hc : o.cls = .type "dict") (hd : o.data = .dict es ep) (hu : A.units < cLine) : RcAt A s (.ref l) (.str b u) false := fun prog w E Q h =>
  rc_eq_decline_or (k := false) ⟨_, ho, hc⟩ (typeIs_str s b u) (by decide) PySem.F.sub_str_dict PySem.F.slot_dict_eq PySem.F.slot_str_eq_refl
    (fun _ q => call_meets PySem.F.slot_dict_eq ⟨_, ho, hc⟩ PySem.F.entry_dict_eq (PySem.F.args_dict_eq_2 _ _) (dict_no_str l o b u) ⟨ho, q⟩)
    (fun _ q => call_meets PySem.F.slot_str_eq_refl (typeIs_str s b u) PySem.F.entry_str_eq (PySem.F.args_str_eq_2 _ _) (str_no_dict l o b u es ep hd) ⟨ho, q⟩)
    (fun _ q => wpAny_of_eq (rfl : isSame (.ref l) (.str b u) = pure false) q) (.inr hu) h
theorem ea_str_dict (b : Str) (u : Tok) (ho : s.heap.get? l = some o) (hc : o.cls = .type "dict") (hd : o.data = .dict es ep) (hu : A.units < cLine) : EqAt A s (.str b u) (.ref l) false := fun prog w E Q h => by
  unfold eqBool
  exact wpAny_holding (wpAny_ite_split (fun z => absurd (eq_of_beq z) nofun) fun _ => wpAny_bind (rc_str_dict b u ho hc hd hu prog w E _ (wpAny_truthy_bool h)))
end
section
variable {X : Cx}
/-- a dict == a text; a dict that is sought among texts -/
def rEqDS : R2 := fun x y H Q => ∃ (a : Addr) (kvs : List (Key × V)) (t : Str), x = .ref a ∧ y = .str t ∧ H a = some (.dK kvs) ∧ Q (.bl false) H
theorem op_eqDS (hu : X.A.units < cLine) : OpR X (compareOp .Eq) rEqDS := by
  intro pins s σ H x y v u Q I rx ry h
  obtain ⟨a, kvs, t, rfl, rfl, ea, q⟩ := h
  cases (show v = Value.ref a from rx)
  obtain ⟨tk, rfl⟩ := ry
  obtain ⟨_, _, vs, _, o, es, ep, ho, he, hd, _⟩ := dk_of I.hok ea
  show wpAny _ _ (richCompare .Eq (.ref a) (.str t tk)) _ _ _
  exact rc_dict_str t tk ho he.1 hd hu X.prog X.w _ _ ⟨.bl false, H, I, rfl, q⟩
def rNotInDS (K : PySem.W.Frag) : R2 := fun x y H Q => ∃ (a b : Addr) (kvs : List (Key × V)) (ts : List Str), x = .ref a ∧ y = .ref b ∧ H a = some (.dK kvs) ∧ SqL K H b (ts.map V.str) ∧ Q (.bl true) H
theorem op_notInDS (hu : X.A.units + 1 < cLine) : OpR X (compareOp .NotIn) (rNotInDS X.K) := by
  intro pins s σ H x y v u Q I rx ry h
  obtain ⟨a, b, kvs, ts, rfl, rfl, ea, hl, q⟩ := h
  cases (show v = Value.ref a from rx)
  cases (show u = Value.ref b from ry)
  obtain ⟨_, _, vs, _, o, es, ep, ho, he, hd, _⟩ := dk_of I.hok ea
  obtain ⟨its, rv, ⟨ob, n, hob, hoc, hdn, hdd⟩, _⟩ := I.list hl
  refine notIn_listAt (fun _ => false) ⟨ob, hob, hoc, n, hdd⟩ (fun z hz => ?_) ?_
  · obtain ⟨i, hi, e⟩ := Array.mem_iff_getElem.mp hz
    have hi2 : i < its.length := by simpa using hi
    have e2 : its[i] = z := by simpa using e
    have hlen := rv.length
    rw [List.length_map] at hlen
    obtain ⟨w2, hw, rw_⟩ := rv.get (i := i) (x := V.str ts[i]) (by rw [List.getElem?_map, List.getElem?_eq_getElem (by omega)]; rfl)
    rw [List.getElem?_eq_getElem hi2, e2] at hw
    cases hw
    obtain ⟨tk, rfl⟩ := rw_
    exact ea_str_dict ts[i] tk ho he.1 hd hu
  · have e : its.toArray.any (fun _ => false) = false := by simp
    rw [e]
    exact ⟨.bl true, H, I, rfl, q⟩
end
end Ver

namespace K07
open PySem PySem.Spec PyProof.Rows L2 Ver Num
/-- the names of the text's own defs and classes; the built-in names that it reads -/
def gl : List Str := (["is_integer", "is_between", "is_prime", "is_fraction", "is_longer", "parts", "integer_of", "signed_integer_of", "number_of", "_law_pen", "_law_draw", "_law_pick", "_law_prime", "_law_number", "_law_odd", "_law_far", "_law_tens", "_law_signed", "_law_gcd", "_law_told", "_law_two", "_law_any_number"] : List Str) ++ (["_law_made_field", "_law_any_prime", "_law_is_whole", "_law_is_number", "_law_read_told", "_law_text_told", "_law_spelt", "_law_integer", "_law_due", "_law_bent", "law", "Field", "Fractions", "Modulo", "InvalidNumber", "InvalidText", "TooLong"] : List Str)
def fr : List Str := ["isinstance", "int", "bool", "tuple", "str", "len", "abs", "list", "range", "max", "repr", "ValueError", "OverflowError"]
def FL : Int := 10000000000000000000000000000000000000000000000000000000000000000000000000000000000000000000000000000
/-- a class of fields: its methods are Field's own -/
structure FC (K : PySem.W.Frag) (C : Addr) : Prop where
  cl : Cls K C
  np : NoAttr K C "_prime"
  m : ∀ m ∈ (["is_number", "text", "read", "holds"] : List Str), Meth K C m (He.ma K (He.ga K "Field") m)
def fa : List He.Fa := gl.map He.Fa.glo ++ fr.map He.Fa.free
/-- what making and asking the objects of a class of fields wants -/
structure MC (K : PySem.W.Frag) (C : Addr) : Prop where
  mkr : Mk K C (He.ma K C "__init__")
  isF : PySem.W.kitOne K (.ref C) (.ref (He.ga K "Field")) = some true
  cl : PySem.W.findIn K (.ref C) "__class__" = some (some (.builtin "object.__class__"))
  ob : PySem.W.mroIn K C (.type "object") = some true
def oeB : List Value := [.type "OverflowError", .type "ArithmeticError", .type "Exception", .type "BaseException", .type "object"]
/-- an error with one field, made by its own __init__ -/
structure EC (K : PySem.W.Frag) (C : Addr) (f : Str) : Prop where
  ox : OexC K C
  nf : PySem.W.findIn K (.ref C) f = some none
  iC : PySem.W.findIn K (.ref C) "__init__" = some (some (.ref (He.ma K C "__init__")))
  tI : PySem.W.typeIn K (.ref (He.ma K C "__init__")) = some (.type "function")
  xf : XfC K C
  ec : ExcC K C
  te : PySem.W.exmOne K (.ref C) (.ref C) = some true
  isV : PySem.W.kitOne K (.ref C) (.type "ValueError") = some true
/-- what the top has left -/
structure Tx (K : PySem.W.Frag) (mg : Str → Option Value) : Prop where
  d : He.SaysD fa fn K
  g : ∀ x ∈ gl, mg x = some (.ref (He.ga K x))
  z : ∀ x ∈ fr, mg x = none
  fl : ∃ t, mg "FIRST_LONG" = some (.int FL t)
  gp : ∃ t, mg "GREATEST_PRIME" = some (.int 1000000000 t)
  dd : ∃ t, mg "DECIMAL_DIGITS" = some (.str "0123456789" t)
  gcd : mg "gcd" = some (.builtin "math.gcd")
  isq : mg "isqrt" = some (.builtin "math.isqrt")
  fcF : FC K (He.ga K "Fractions")
  fcM : FC K (He.ga K "Modulo")
  mF : MC K (He.ga K "Fractions")
  mM : MC K (He.ga K "Modulo")
  rdF : PySem.W.readsIn K (He.ga K "Field") (.type "type") = true
  gaF : PySem.W.specialIn K (.ref (He.ga K "Field")) "__getattribute__" = some (some (.builtin "type.__getattribute__"))
  fiF : PySem.W.findCls K (.ref (He.ga K "Field")) (.type "type") "__init__" = some (.val (.ref (He.ma K (He.ga K "Field") "__init__")))
  clS : PySem.W.specialIn K (.builtin "object.__class__") "__get__" = some (some (.builtin "getset_descriptor.__get__"))
  clT : PySem.W.takesIn K (.builtin "object.__class__") = some true
  sm : Sm K
  eN : EC K (He.ga K "InvalidNumber") "value"
  vV : PySem.W.findCls K (.type "ValueError") (.type "type") "__init__" = some (.val (.builtin "ValueError.__init__"))
  eX : EC K (He.ga K "InvalidText") "line"
  cdF : ∃ t, ClX.CRead K (He.ga K "Field") (.type "type") ∧ ClX.CVal K (He.ga K "Field") (.type "type") "DIGITS" (.int 100) (.int 100 t)
  tl : ExN K (He.ga K "TooLong") (He.ma K (He.ga K "TooLong") "__init__") oeB "OverflowError.__new__"
  tlc : ExcC K (He.ga K "TooLong")
  teL : PySem.W.exmOne K (.ref (He.ga K "TooLong")) (.ref (He.ga K "TooLong")) = some true
  teX : PySem.W.exmOne K (.ref (He.ga K "TooLong")) (.ref (He.ga K "InvalidNumber")) = some false
  isO : PySem.W.kitOne K (.ref (He.ga K "TooLong")) (.type "OverflowError") = some true
  dgN : PySem.W.nsIn K PySem.cStatics "sys.int_max_str_digits" = some none
theorem ifT {c : Bool} {A B : Prop} (h : c = true) (q : A) : if c = true then A else B := by
  rw [if_pos h]
  exact q
theorem ifF {c : Bool} {A B : Prop} (h : c = false) (q : B) : if c = true then A else B := by
  rw [if_neg (by rw [h]; exact Bool.false_ne_true)]
  exact q
theorem iEq (a b : Int) : decide (V.int a = V.int b) = decide (a = b) := by
  by_cases h : a = b
  · rw [decide_eq_true h, decide_eq_true (by rw [h])]
  · rw [decide_eq_false h, decide_eq_false fun z => h (V.int.inj z)]
theorem same_up {H : Hp} {p : Addr} {o : HO} (h : H p = none) : Same H (upd H p o) := fun b x e => by
  rw [upd_ne (ne_of_none e h)]
  exact e
end K07

namespace K07
open PySem PySem.Spec PyProof.Rows L2 Ver Num
/-! ### the head: what it tells -/
abbrev R : PySem.W.OpenRow := PySem.W.OpenLaw.row PySem.Challenge.rw_firstanswers_k07_whole_texts_of_numbers
def ads (g : Addr → Option Obj) : List Addr := (PySem.cStatics :: sysModules :: He.asD g 5).eraseDups
def KF (g : Addr → Option Obj) : PySem.W.Frag := He.frG g (ads g)
def fms : List Str := ["is_number", "text", "read", "holds"]
def fcls (K : PySem.W.Frag) (C a : Addr) (m : Str) : Bool := match PySem.W.findCls K (.ref C) (.type "type") m with
  | some (.val (.ref b)) => decide (b = a)
  | _ => false
theorem fcls_ok {K : PySem.W.Frag} {C a : Addr} {m : Str} (h : fcls K C a m = true) : PySem.W.findCls K (.ref C) (.type "type") m = some (.val (.ref a)) := by
  unfold fcls at h
  split at h
  · rename_i b e
    rw [e, of_decide_eq_true h]
  · cases h
/-- the module table -/
def smTB (K : PySem.W.Frag) : Bool := match K.lookup sysModules with
  | some o => match o.cls with
    | .type s => decide (s = "dict")
    | _ => false
  | none => false
theorem smTB_ok {K : PySem.W.Frag} (h : smTB K = true) : Sm K := by
  unfold smTB at h
  split at h
  · rename_i o e
    split at h
    · rename_i s e2
      exact ⟨o, e, by rw [e2, of_decide_eq_true h]⟩
    · cases h
  · cases h
/-- an error over ValueError -/
def oexB (K : PySem.W.Frag) (C : Addr) : Bool := match K.lookup C with
  | some ⟨.type T, _, .cls cd, sl⟩ => (match cd.mro, sl.toList with
    | .ref C' :: bm, [_, _, _, _, some (.builtin n), _] => decide (T = "type") && (decide (C' = C) && (decide (n = "ValueError.__new__") && (!cd.hasDel && (cd.hasDict && PySem.HandSPX.refsVE bm))))
    | _, _ => false)
  | _ => false
theorem oexB_ok {K : PySem.W.Frag} {C : Addr} (h : oexB K C = true) : ∃ nm q N bs bm sn sub ab col dd k0 k1 k2 k3 k5, K.lookup C = some (excClassObj nm q C N bs bm true sn sub ab col dd k0 k1 k2 k3 k5 "ValueError.__new__") ∧ PySem.HandSPX.refsVE bm = true := by
  unfold oexB at h
  split at h
  · rename_i T dd cd sl ho
    obtain ⟨nm, bs, mro, ns, qn, hd, sn, sb, ab, col, del⟩ := cd
    obtain ⟨l⟩ := sl
    split at h
    · rename_i C' bm k0 k1 k2 k3 n k5 hm hs
      obtain ⟨h0, h⟩ := He.ba h
      obtain ⟨h1, h⟩ := He.ba h
      obtain ⟨h2, h⟩ := He.ba h
      obtain ⟨h3, h⟩ := He.ba h
      obtain ⟨h4, h5⟩ := He.ba h
      have e0 := of_decide_eq_true h0
      have e1 := of_decide_eq_true h1
      have e2 := of_decide_eq_true h2
      have e3 : del = false := by simpa using h3
      have e4 : hd = true := h4
      have em : mro = .ref C' :: bm := hm
      have es : l = [k0, k1, k2, k3, some (.builtin n), k5] := hs
      subst e0 e1 e2 e3 e4 em es
      exact ⟨nm, qn, ns, bs, bm, sn, sb, ab, col, dd, k0, k1, k2, k3, k5, ho, h5⟩
    · cases h
  · cases h
def xe (K : PySem.W.Frag) (x f : Str) : List Bool := [oexB K (He.ga K x), He.eqO (PySem.W.findIn K (.ref (He.ga K x)) "__setattr__") (some (some (.builtin "object.__setattr__"))), decide (PySem.W.subIn K (.ref (He.ga K x)) (.type "BaseException") = some true),
  decide (PySem.W.typeIn K (.ref (He.ga K x)) = some (.type "type")), PySem.W.keepIn K (.ref (He.ga K x)), He.eqO (PySem.W.findIn K (.ref (He.ga K x)) f) (some none),
  He.eqO (PySem.W.findIn K (.ref (He.ga K x)) "__init__") (some (some (.ref (He.ma K (He.ga K x) "__init__")))), decide (PySem.W.typeIn K (.ref (He.ma K (He.ga K x) "__init__")) = some (.type "function")),
  He.eqO (PySem.W.findIn K (.ref (He.ga K x)) "__getattribute__") (some (some (.builtin "BaseException.__getattribute__"))), He.eqO (PySem.W.findIn K (.ref (He.ga K x)) "__getattr__") (some none), PySem.W.hasDictIn K (He.ga K x),
  He.eqO (PySem.W.findIn K (.ref (He.ga K x)) "__class__") (some (some (.builtin "object.__class__"))), decide (PySem.W.mroIn K (He.ga K x) (.type "object") = some true), decide (PySem.W.exmOne K (.ref (He.ga K x)) (.ref (He.ga K x)) = some true),
  decide (PySem.W.kitOne K (.ref (He.ga K x)) (.type "ValueError") = some true)]
/-- a class of fields -/
def xc (K : PySem.W.Frag) (x : Str) : List Bool := [(He.Fa.cls x).ok K, (He.Fa.noat x "_prime").ok K,
  fms.all fun m => He.eqO (PySem.W.findIn K (.ref (He.ga K x)) m) (some (some (.ref (He.ma K (He.ga K "Field") m)))) && (PySem.W.isFn K (.ref (He.ma K (He.ga K "Field") m)) && PySem.W.keepIn K (.ref (He.ma K (He.ga K "Field") m))),
  (He.Fa.mkr x).ok K, decide (PySem.W.kitOne K (.ref (He.ga K x)) (.ref (He.ga K "Field")) = some true),
  He.eqO (PySem.W.findIn K (.ref (He.ga K x)) "__class__") (some (some (.builtin "object.__class__"))), decide (PySem.W.mroIn K (He.ga K x) (.type "object") = some true)]
def vvB (K : PySem.W.Frag) : Bool := match PySem.W.findCls K (.type "ValueError") (.type "type") "__init__" with
  | some (.val (.builtin n)) => decide (n = "ValueError.__init__")
  | _ => false
theorem vvB_ok {K : PySem.W.Frag} (h : vvB K = true) : PySem.W.findCls K (.type "ValueError") (.type "type") "__init__" = some (.val (.builtin "ValueError.__init__")) := by
  unfold vvB at h
  split at h
  · rename_i n e
    rw [e, of_decide_eq_true h]
  · cases h
def x2 (K : PySem.W.Frag) : List Bool := [PySem.W.excInitIn K (He.ga K "TooLong") oeB "OverflowError.__new__", (He.Fa.meth "TooLong" "__init__").ok K, decide (PySem.W.typeIn K (.ref (He.ma K (He.ga K "TooLong") "__init__")) = some (.type "function")),
  decide (PySem.W.subIn K (.ref (He.ga K "TooLong")) (.type "BaseException") = some true), decide (PySem.W.typeIn K (.ref (He.ga K "TooLong")) = some (.type "type")), PySem.W.keepIn K (.ref (He.ga K "TooLong")),
  He.eqO (PySem.W.findIn K (.ref (He.ga K "TooLong")) "__getattribute__") (some (some (.builtin "BaseException.__getattribute__"))), He.eqO (PySem.W.findIn K (.ref (He.ga K "TooLong")) "__getattr__") (some none), PySem.W.hasDictIn K (He.ga K "TooLong"),
  He.eqO (PySem.W.findIn K (.ref (He.ga K "TooLong")) "__class__") (some (some (.builtin "object.__class__"))), decide (PySem.W.mroIn K (He.ga K "TooLong") (.type "object") = some true),
  decide (PySem.W.exmOne K (.ref (He.ga K "TooLong")) (.ref (He.ga K "TooLong")) = some true), decide (PySem.W.exmOne K (.ref (He.ga K "TooLong")) (.ref (He.ga K "InvalidNumber")) = some false), decide (PySem.W.kitOne K (.ref (He.ga K "TooLong")) (.type "OverflowError") = some true)]
def cdB (K : PySem.W.Frag) : Bool := match PySem.W.findCls K (.ref (He.ga K "Field")) (.type "type") "DIGITS" with
  | some (.val (.int i _)) => decide (i = 100)
  | _ => false
theorem cdB_ok {K : PySem.W.Frag} (h : cdB K = true) : ∃ t, PySem.W.findCls K (.ref (He.ga K "Field")) (.type "type") "DIGITS" = some (.val (.int 100 t)) := by
  unfold cdB at h
  split at h
  · rename_i i t e
    exact ⟨t, by rw [e, of_decide_eq_true h]⟩
  · cases h
def x1 (K : PySem.W.Frag) : List Bool := [(He.Fa.int "FIRST_LONG" FL).ok K, (He.Fa.int "GREATEST_PRIME" 1000000000).ok K, (He.Fa.str "DECIMAL_DIGITS" "0123456789").ok K, He.eqO (PySem.W.nsIn K mainGlobals "gcd") (some (some (.builtin "math.gcd"))),
  He.eqO (PySem.W.nsIn K mainGlobals "isqrt") (some (some (.builtin "math.isqrt"))), smTB K, He.eqO (PySem.W.nsIn K PySem.cStatics "sys.int_max_str_digits") (some none)]
def x3 (K : PySem.W.Frag) : List Bool := [PySem.W.readsIn K (He.ga K "Field") (.type "type"), He.eqO (PySem.W.specialIn K (.ref (He.ga K "Field")) "__getattribute__") (some (some (.builtin "type.__getattribute__"))),
  fcls K (He.ga K "Field") (He.ma K (He.ga K "Field") "__init__") "__init__",
  He.eqO (PySem.W.specialIn K (.builtin "object.__class__") "__get__") (some (some (.builtin "getset_descriptor.__get__"))), decide (PySem.W.takesIn K (.builtin "object.__class__") = some true),
  vvB K, cdB K]
def ex (K : PySem.W.Frag) : Bool := (x1 K).all id && ((xc K "Fractions").all id && ((xc K "Modulo").all id && ((x3 K).all id && ((xe K "InvalidNumber" "value").all id && ((xe K "InvalidText" "line").all id && (x2 K).all id)))))
def hook : PySem.W.Hook where
  α := He.AlD × Bool
  obs := fun s => (He.obsD fa fn (KF s.heap.get?), ex (KF s.heap.get?))
  val := fun _ => (He.valD fn, true)
  says := fun _ h => ∃ K : PySem.W.Frag, K.In h ∧ He.SaysD fa fn K ∧ ex K = true
  of := fun _ _ e => ⟨_, He.frG_in, congrArg (fun z : He.AlD × Bool => z.1) e, congrArg (fun z : He.AlD × Bool => z.2) e⟩
  keeps := fun _ _ _ ⟨K, hK, c⟩ k => ⟨K, PySem.W.Frag.In.keeps hK k, c⟩
def ob (s : PySem.W.SharedT) : He.AlD × Bool := (He.obsD fa fn (KF (HandSHeadRun.getT s)), ex (KF (HandSHeadRun.getT s)))
theorem ob_eq (s : PySem.W.SharedT) : ob s = hook.obs s.abs := by
  have e : HandSHeadRun.getT s = s.abs.heap.get? := funext (HandSHeadRun.getT_eq s)
  unfold ob
  rw [e]
  rfl
def lo : List Str := (["_wall", "is_integer", "is_between", "InvalidPrime", "InvalidNumber", "InvalidText", "TooLong", "GREATEST_PRIME", "DECIMAL_DIGITS", "FIRST_LONG", "Field", "Fractions", "Modulo", "is_prime", "is_fraction", "is_longer", "parts", "integer_of", "signed_integer_of", "number_of"] : List Str) ++
  (["_law_pen", "_law_draw", "_law_pick", "_law_prime", "_law_number", "_law_odd", "_law_far", "_law_tens", "_law_signed", "_law_gcd", "_law_told", "_law_two", "_law_any_number", "_law_made_field", "_law_any_prime", "_law_is_whole", "_law_is_number", "_law_read_told", "_law_text_told", "_law_spelt", "_law_integer", "_law_due", "_law_bent"] : List Str)
abbrev qv : Program := PySem.W.view R.prog [0, 48]
end K07

namespace K07
open PySem PySem.Spec PyProof.Rows L2 Ver Num
/-! ### the run, part by part -/
theorem run1 (w : World) : (HandSHeadRun.wholeF (fun p => HandSHeadRun.stepQ (HandSHeadRun.denQ HandSHeadRun.tabQ) p w) HandSHeadRun.fenceQ 8000 R.prog).map (fun x => HandSHeadRun.looksF R.prog x.1.heap x.2.abs) = some true := by
  kernel_rfl
theorem run2 (w : World) : (HandSHeadRun.wholeF (fun p => HandSHeadRun.stepQ (HandSHeadRun.denQ HandSHeadRun.tabQ) p w) HandSHeadRun.fenceQ 8000 R.prog).map (fun x => HandSHeadRun.seenQ qv lo (importedModules R.prog.main.body) (fun s => PySem.W.xlAt qv [] s && PySem.W.recOk R.toRowW.records s) x.2.abs) = some (PySem.W.openGood qv lo) := by
  kernel_rfl
theorem run3 (w : World) : (HandSHeadRun.wholeF (fun p => HandSHeadRun.stepQ (HandSHeadRun.denQ HandSHeadRun.tabQ) p w) HandSHeadRun.fenceQ 8000 R.prog).map (fun x => ((fa.all fun f => f.ok (KF (HandSHeadRun.getT x.2))) && fn.all fun d => d.ok (KF (HandSHeadRun.getT x.2)))) = some true := by
  kernel_rfl
theorem run4 (w : World) : (HandSHeadRun.wholeF (fun p => HandSHeadRun.stepQ (HandSHeadRun.denQ HandSHeadRun.tabQ) p w) HandSHeadRun.fenceQ 8000 R.prog).map (fun x => fn.map fun d => He.fnW (KF (HandSHeadRun.getT x.2)) d.at_) = some (fn.map He.DefD.val) := by
  kernel_rfl
theorem run5 (w : World) : (HandSHeadRun.wholeF (fun p => HandSHeadRun.stepQ (HandSHeadRun.denQ HandSHeadRun.tabQ) p w) HandSHeadRun.fenceQ 8000 R.prog).map (fun x => ex (KF (HandSHeadRun.getT x.2))) = some true := by
  kernel_rfl
theorem map5 {α β γ δ ε ζ : Type} {o : Option α} {f : α → β} {g : α → γ} {h : α → δ} {i : α → ε} {j : α → ζ} {a : β} {b : γ} {c : δ} {d : ε} {e : ζ} (h1 : o.map f = some a) (h2 : o.map g = some b) (h3 : o.map h = some c) (h4 : o.map i = some d) (h5 : o.map j = some e) :
    o.map (fun x => (f x, g x, ((h x, i x), j x))) = some (a, b, ((c, d), e)) := by
  cases o with
  | none => cases h1
  | some x =>
    have e1 : f x = a := Option.some.inj h1
    have e2 : g x = b := Option.some.inj h2
    have e3 : h x = c := Option.some.inj h3
    have e4 : i x = d := Option.some.inj h4
    have e5 : j x = e := Option.some.inj h5
    show some (f x, g x, ((h x, i x), j x)) = some (a, b, ((c, d), e))
    rw [e1, e2, e3, e4, e5]
theorem run (w : World) : HandSHeadRun.RunEqI R qv hook ob 8000 lo w := map5 (run1 w) (run2 w) (run3 w) (run4 w) (run5 w)
end K07

namespace K07
open PySem PySem.Spec PyProof.Rows L2 Ver Num
/-! ### the pen: a dict of the script's cells, a place, a rest -/
def penL (c : Addr) (b l : Int) : List (Key × V) := [(.inr "cells", .ref c), (.inr "begun", .int b), (.inr "left", .int l)]
structure PenAt (H : Hp) (d : Addr) (k : Int) : Prop where
  ex : ∃ (c : Addr) (cells : List Int) (b l : Int), H d = some (.dK (penL c b l)) ∧ H c = some (.lst (cells.map V.int)) ∧ cells.length ≤ 63 ∧ 0 ≤ b ∧ b ≤ k ∧ 0 ≤ l
/-- all but what stands at d is kept; the pen's list of cells is the same object -/
def But (d : Addr) (H H' : Hp) : Prop := (∀ b o, H b = some o → b ≠ d → H' b = some o) ∧ ∀ c b l, H d = some (.dK (penL c b l)) → ∃ b' l', H' d = some (.dK (penL c b' l'))
theorem But.refl {d : Addr} {H : Hp} : But d H H := ⟨fun _ _ e _ => e, fun c b l e => ⟨b, l, e⟩⟩
theorem But.trans {d : Addr} {H H1 H2 : Hp} (a : But d H H1) (b : But d H1 H2) : But d H H2 := ⟨fun c o e n => b.1 c o (a.1 c o e n) n, fun c x l e => by
  obtain ⟨b1, l1, e1⟩ := a.2 c x l e
  exact b.2 c b1 l1 e1⟩
theorem But.same {d : Addr} {H H1 : Hp} (s : Same H H1) : But d H H1 := ⟨fun c o e _ => s c o e, fun c b l e => ⟨b, l, s _ _ e⟩⟩
theorem pen_inj {c c2 : Addr} {b b2 l l2 : Int} (h : penL c b l = penL c2 b2 l2) : c = c2 := by
  have h1 := (List.cons.inj h).1
  exact V.ref.inj (congrArg Prod.snd h1)
theorem but_up {d c : Addr} {H : Hp} {b l b' l' : Int} (h : H d = some (.dK (penL c b l))) : But d H (upd H d (.dK (penL c b' l'))) := ⟨fun b u e n => by rw [upd_ne n]; exact e, fun c2 b2 l2 e => by
  rw [h] at e
  have e2 : penL c b l = penL c2 b2 l2 := HO.dK.inj (Option.some.inj e)
  have ec := pen_inj e2
  subst ec
  exact ⟨b', l', upd_same⟩⟩
/-- the pen with its list of cells told -/
structure PenC (H : Hp) (d c : Addr) (k : Int) : Prop where
  ex : ∃ (cells : List Int) (b l : Int), H d = some (.dK (penL c b l)) ∧ H c = some (.lst (cells.map V.int)) ∧ cells.length ≤ 63 ∧ 0 ≤ b ∧ b ≤ k ∧ 0 ≤ l
theorem PenAt.c {H : Hp} {d : Addr} {k : Int} (p : PenAt H d k) : ∃ c, PenC H d c k := by
  obtain ⟨c, cells, b, l, h⟩ := p.ex
  exact ⟨c, cells, b, l, h⟩
theorem PenC.at_ {H : Hp} {d c : Addr} {k : Int} (p : PenC H d c k) : PenAt H d k := by
  obtain ⟨cells, b, l, h⟩ := p.ex
  exact ⟨c, cells, b, l, h⟩
theorem PenC.on {H H' : Hp} {d c : Addr} {k k' : Int} (p : PenC H d c k) (bt : But d H H') (q : PenAt H' d k') : PenC H' d c k' := by
  obtain ⟨cells, b, l, h1, _⟩ := p.ex
  obtain ⟨b1, l1, e1⟩ := bt.2 c b l h1
  obtain ⟨c2, cells2, b2, l2, g1, g⟩ := q.ex
  have e2 : penL c b1 l1 = penL c2 b2 l2 := HO.dK.inj (Option.some.inj (e1.symm.trans g1))
  have ec := pen_inj e2
  subst ec
  exact ⟨cells2, b2, l2, g1, g⟩
theorem PenC.up {H : Hp} {d c D : Addr} {k : Int} {o : HO} (p : PenC H d c k) (n1 : d ≠ D) (n2 : c ≠ D) : PenC (upd H D o) d c k := by
  obtain ⟨cells, b, l, h1, h2, h⟩ := p.ex
  exact ⟨cells, b, l, by rw [upd_ne n1]; exact h1, by rw [upd_ne n2]; exact h2, h⟩
theorem PenAt.same {H H' : Hp} {d : Addr} {k : Int} (p : PenAt H d k) (s : Same H H') : PenAt H' d k := by
  obtain ⟨c, cells, b, l, h1, h2, r⟩ := p.ex
  exact ⟨c, cells, b, l, s _ _ h1, s _ _ h2, r⟩
theorem PenAt.mono {H : Hp} {d : Addr} {j k : Int} (p : PenAt H d j) (h : j ≤ k) : PenAt H d k := by
  obtain ⟨c, cells, b, l, h1, h2, h3, h4, h5, h6⟩ := p.ex
  exact ⟨c, cells, b, l, h1, h2, h3, h4, by omega, h6⟩
theorem ks1 : ¬ (("cells" : Str) = "begun") := by decide +kernel
theorem ks2 : ¬ (("cells" : Str) = "left") := by decide +kernel
theorem ks3 : ¬ (("begun" : Str) = "left") := by decide +kernel
theorem nk {a b : Str} (h : ¬ a = b) : ¬ ((Sum.inr a : Key) = (Sum.inr b : Key)) := fun z => h (Sum.inr.inj z)
theorem pen_cells (c : Addr) (b l : Int) : valV (penL c b l) (.inr "cells") = some (.ref c) := valV_pos rfl
theorem pen_begun (c : Addr) (b l : Int) : valV (penL c b l) (.inr "begun") = some (.int b) := (valV_neg (nk ks1)).trans (valV_pos rfl)
theorem pen_left (c : Addr) (b l : Int) : valV (penL c b l) (.inr "left") = some (.int l) := (valV_neg (nk ks2)).trans ((valV_neg (nk ks3)).trans (valV_pos rfl))
theorem put_begun (c : Addr) (b l b' : Int) : putK (penL c b l) (.inr "begun") (.int b') = penL c b' l := by
  have n1 := nk ks1
  have n2 := nk (Ne.symm ks3)
  simp [putK, penL, n1, n2]
theorem put_left (c : Addr) (b l l' : Int) : putK (penL c b l) (.inr "left") (.int l') = penL c b l' := by
  have n1 := nk ks2
  have n2 := nk ks3
  simp [putK, penL, n1, n2]
theorem get_cells {H : Hp} {d c : Addr} {b l : Int} (h : H d = some (.dK (penL c b l))) : DGet H d (.str "cells") (some (.ref c)) := by
  have z := DGet.k (k := Sum.inr "cells") h
  rwa [pen_cells] at z
theorem get_begun {H : Hp} {d c : Addr} {b l : Int} (h : H d = some (.dK (penL c b l))) : DGet H d (.str "begun") (some (.int b)) := by
  have z := DGet.k (k := Sum.inr "begun") h
  rwa [pen_begun] at z
theorem get_left {H : Hp} {d c : Addr} {b l : Int} (h : H d = some (.dK (penL c b l))) : DGet H d (.str "left") (some (.int l)) := by
  have z := DGet.k (k := Sum.inr "left") h
  rwa [pen_left] at z
theorem dput_begun {H : Hp} {d c : Addr} {b l b' : Int} (h : H d = some (.dK (penL c b l))) : DPut H d (.str "begun") (.int b') (upd H d (.dK (penL c b' l))) := by
  have z := DPut.k (k := Sum.inr "begun") (v := .int b') h (by show 3 < sizeLine; decide)
  rwa [put_begun] at z
theorem dput_left {H : Hp} {d c : Addr} {b l l' : Int} (h : H d = some (.dK (penL c b l))) : DPut H d (.str "left") (.int l') (upd H d (.dK (penL c b l'))) := by
  have z := DPut.k (k := Sum.inr "left") (v := .int l') h (by show 3 < sizeLine; decide)
  rwa [put_left] at z
theorem merge_pen (c : Addr) (b l : Int) : mergeK [] (penL c b l) = penL c b l := by
  have n1 := nk ks1
  have n2 := nk ks2
  have n3 := nk ks3
  simp [mergeK, putK, penL, n1, n2, n3]
/-! ### lists of ints as data -/
theorem dp_ints {K : PySem.W.Frag} {H : Hp} : ∀ ns : List Int, DpAll K H (ns.map V.int) (ns.map PyData.int)
  | [] => .nil
  | n :: ns => .cons (.int n) (dp_ints ns)
theorem ints_depth : ∀ ns : List Int, PyData.depthAll (ns.map PyData.int) ≤ 1
  | [] => by simp [PyData.depthAll]
  | n :: ns => by
    have := ints_depth ns
    simp only [List.map_cons, PyData.depthAll, PyData.depth]
    omega
theorem ints_can : ∀ ns : List Int, PyData.canLayAll0 (ns.map PyData.int) = true
  | [] => by simp [PyData.canLayAll0]
  | n :: ns => by simp only [List.map_cons, PyData.canLayAll0, PyData.canLay0, ints_can ns, Bool.and_true]
theorem ints_shaped (ns : List Int) : SeqAt.shaped (.list (ns.map PyData.int)) = true := by
  unfold SeqAt.shaped
  have h1 := ints_depth ns
  have h2 := ints_can ns
  have e1 : (PyData.list (ns.map PyData.int)).canLay0 = true := by simp only [PyData.canLay0, h2]
  have e2 : (PyData.list (ns.map PyData.int)).depth ≤ 64 := by
    simp only [PyData.depth]
    omega
  rw [e1, decide_eq_true e2]
  rfl
theorem ints_empty : ∀ ns : List Int, PyData.eqv (.list (ns.map PyData.int)) (.list []) = decide (ns = [])
  | [] => by simp [PyData.eqv, PyData.eqvAll]
  | n :: ns => by simp [PyData.eqv, PyData.eqvAll]
end K07

namespace K07
open PySem PySem.Spec PyProof.Rows L2 Ver Num
section
variable {P : Program} {w : World} {K : PySem.W.Frag} {mg : Str → Option Value} {base : Heap}
/-! ### _law_pen -/
theorem cut_ints (ns : List Int) (lo hi : Option Int) : cutV (ns.map V.int) lo hi = ((ns.drop (HT.sIx ns.length 0 lo)).take (HT.sIx ns.length ns.length hi - HT.sIx ns.length 0 lo)).map V.int := by
  unfold cutV
  rw [List.length_map, List.map_take, List.map_drop]
def spPen (K : PySem.W.Frag) : Sp := fun vs H Q _ => ∃ (a : Addr) (ns : List Int), vs = [.ref a] ∧ SqL K H a (ns.map V.int) ∧ ns.length ≤ 63 ∧ ∀ (d : Addr) (H' : Hp), Same H H' → H d = none → PenAt H' d 0 → Q (.ref d) H'
theorem ok_pen (T : Tx K mg) : FnG P w K mg base CX0 1 (He.ga K "_law_pen") (spPen K) := by
  refine mk__law_pen T.d (fun vs H Q E h => ?_) (fun cdv A outer s H vs Q E hg hr h => ?_)
  · obtain ⟨a, ns, rfl, _⟩ := h
    rfl
  · obtain ⟨a, ns, rfl, hs, hl, q⟩ := h
    refine ⟨_, pss_one (ps_ret (pe_disp (pps_cons pe_str (pe_callTy call_list_of (by rfl) (T.z "list" (by decide +kernel)) (by decide +kernel) (pa_cons (pe_slice sl_list (pv 0) po_none (po_some pe_int)) pa_nil))
      (pps_cons pe_str pe_int (pps_cons pe_str pe_int pps_nil))) (by rfl) (by rfl) (fun z => by cases z) (by decide))), ?_⟩
    intro d nd
    have s0 := same_up (o := .dK []) nd
    refine ⟨_, rfl, 63, rfl, a, _, rfl, s0.seq hs, fun m nm => ?_⟩
    have s1 := same_up (o := .lst (cutV (ns.map V.int) none (some 63))) nm
    refine ⟨m, _, rfl, .inl (.inl (.inl upd_same)), fun c nc => ?_⟩
    have s2 := same_up (o := .lst (cutV (ns.map V.int) none (some 63))) nc
    have sa := (s0.trans s1).trans s2
    have dd : H d = none := nd
    have dm : d ≠ m := ne_of_none upd_same nm
    have dc : d ≠ c := fun z => by
      rw [← z, upd_ne dm, upd_same] at nc
      cases nc
    refine ⟨?_, penL c 0 0, rfl, by show 3 ≤ 15; decide, ?_⟩
    · rw [upd_ne dc, upd_ne dm, upd_same]
    · rw [merge_pen]
      refine q d _ (fun b o e => ?_) nd ⟨c, (ns.drop (HT.sIx ns.length 0 none)).take (HT.sIx ns.length ns.length (some 63) - HT.sIx ns.length 0 none), 0, 0, upd_same, ?_, ?_, by omega, by omega, by omega⟩
      · rw [upd_ne (ne_of_none e nd)]
        exact sa _ _ e
      · rw [upd_ne (Ne.symm dc), upd_same, cut_ints]
      · rw [List.length_take, List.length_drop]
        omega
/-! ### _law_draw -/
theorem em1 {X m : Int} (h : 0 < m) (h2 : m ≤ 2 ^ 64) : -(2 ^ 64) < X % m ∧ X % m < 2 ^ 64 := by
  have a := Int.emod_nonneg X (show m ≠ 0 by omega)
  have b := Int.emod_lt_of_pos X h
  omega
def spDraw : Sp := fun vs H Q _ => ∃ (d : Addr) (k n : Int), vs = [.ref d, .int n] ∧ PenAt H d k ∧ k < 1000000000000 ∧ 0 < n ∧ n < 1073741824 ∧
  ∀ (i : Int) (H' : Hp), But d H H' → PenAt H' d (k + 1) → 0 ≤ i → i < n → Q (.int i) H'
theorem ok_draw (T : Tx K mg) : FnG P w K mg base CX0 1 (He.ga K "_law_draw") spDraw := by
  refine mk__law_draw T.d (fun vs H Q E h => ?_) (fun cdv A outer s H vs Q E hg hr h => ?_)
  · obtain ⟨d, k, n, rfl, _⟩ := h
    rfl
  · obtain ⟨d, k, n, rfl, pen, k9, n0, n9, q⟩ := h
    have hu := hu_of hr
    have nd := sc__law_draw.nd
    have zi := T.z "int" (by decide +kernel)
    have zl := T.z "len" (by decide +kernel)
    have za := T.z "abs" (by decide +kernel)
    have bi : bootBuiltins "int" = some (.type "int") := by decide +kernel
    have bl : bootBuiltins "len" = some (.builtin "len") := by decide +kernel
    have ba : bootBuiltins "abs" = some (.builtin "abs") := by decide +kernel
    obtain ⟨c, cells, b, l, hd, hc, cl, b0, bk, l0⟩ := pen.ex
    have dc : d ≠ c := ne_of hd hc (by intro z; cases z)
    refine ⟨_, pss_cons (ps_if (pt_cmpR op_gt (pe_dget hu (pv 0) pe_str (fun _ _ => rfl)) pe_int (nomark _))
        (pss_cons (ps_set (i := 2) nd rfl (Or.inl rfl) (pe_op op_mod (pe_callTy call_int1 (by rfl) zi bi (pa_cons (pe_dget hu (pv 0) pe_str (fun _ _ => rfl)) pa_nil)) (pv 1)))
        (pss_cons (ps_dput hu (pv 0) pe_str (pe_op op_fdiv (pe_dget hu (pv 0) pe_str (fun _ _ => rfl)) (pv 1)) rfl)
        (pss_one (ps_ret (pv 2))))) pss_nil)
      (pss_cons (ps_set (i := 3) nd rfl (Or.inl rfl) (pe_dget hu (pv 0) pe_str (fun _ _ => rfl)))
      (pss_cons (ps_dput hu (pv 0) pe_str (pe_op op_add (pv 3) pe_int) rfl)
      (pss_cons (ps_set (i := 4) nd rfl (Or.inl rfl) (pe_op op_add (pe_op op_mul pe_int (pv 3)) pe_int))
      (pss_cons (ps_if (pt_cmpR (op_neD hr.units) (pe_dget hu (pv 0) pe_str (fun _ _ => rfl)) (pe_lst pa_nil) (nomark _))
        (pss_one (ps_set (i := 4) nd rfl (Or.inl rfl) (pe_ix ix_list (pe_dget hu (pv 0) pe_str (fun _ _ => rfl))
          (pe_op op_mod (pe_callTy call_int1 (by rfl) zi bi (pa_cons (pv 3) pa_nil)) (pe_callB call_len_seq (by rfl) zl bl (pa_cons (pe_dget hu (pv 0) pe_str (fun _ _ => rfl)) pa_nil))) (fun _ _ => rfl)))) pss_nil)
      (pss_cons (ps_if (PW.pt (pw_and (pt_cmpR op_lt (pv 3) (pe_callB call_len_seq (by rfl) zl bl (pa_cons (pe_dget hu (pv 0) pe_str (fun _ _ => rfl)) pa_nil)) (nomark _))
          (pw_and1 (pt_cmpR op_ge (pe_callB call_abs (by rfl) za ba (pa_cons (pv 4) pa_nil)) (pe_op op_pow pe_int pe_int) (nomark _)))))
        (pss_cons (ps_dput hu (pv 0) pe_str (pe_op op_fdiv (pe_op op_sub (pe_callB call_abs (by rfl) za ba (pa_cons (pv 4) pa_nil)) (pe_op op_pow pe_int pe_int)) (pv 1)) rfl)
        (pss_one (ps_ret (pe_op op_mod (pe_callTy call_int1 (by rfl) zi bi (pa_cons (pe_op op_sub (pe_callB call_abs (by rfl) za ba (pa_cons (pv 4) pa_nil)) (pe_op op_pow pe_int pe_int)) pa_nil)) (pv 1))))) pss_nil)
      (pss_cons (ps_set (i := 5) nd rfl (Or.inl rfl) (pe_op op_mul (pe_op op_mod (pe_callTy call_int1 (by rfl) zi bi (pa_cons (pv 4) pa_nil)) pe_int) pe_int))
      (pss_cons (ps_set (i := 6) nd rfl (Or.inl rfl) (pe_op op_mod (pe_callTy call_int1 (by rfl) zi bi (pa_cons (pe_op op_add (pe_op op_add (pv 5) (pe_op op_mul (pv 3) (pe_op op_add (pe_op op_mul pe_int (pv 3)) pe_int))) pe_int) pa_nil)) pe_int))
      (pss_cons (ps_set (i := 6) nd rfl (Or.inl rfl) (pe_op op_mod (pe_callTy call_int1 (by rfl) zi bi (pa_cons (pe_op op_add (pe_op op_add (pe_op op_add (pe_op op_mul (pv 6) (pv 6)) (pe_op op_mul pe_int (pv 6))) (pe_op op_mul pe_int (pv 3))) pe_int) pa_nil)) pe_int))
      (pss_one (ps_ret (pe_op op_mod (pe_callTy call_int1 (by rfl) zi bi (pa_cons (pe_op op_fdiv (pe_op op_mod (pe_callTy call_int1 (by rfl) zi bi (pa_cons (pe_op op_mul (pv 6) (pe_op op_add (pv 6) pe_int)) pa_nil)) pe_int) pe_int) pa_nil)) (pv 1)))))))))))), ?_⟩
    refine ⟨_, rfl, d, _, rfl, get_left hd, _, _, rfl, rfl, _, rfl, ?_⟩
    refine ite2 (fun hz => ?_) (fun hz => ?_)
    · -- the rest of a great cell
      refine ⟨_, rfl, d, _, rfl, get_left hd, .inl ⟨_, rfl, _, rfl, _, _, rfl, rfl, (by show 0 < n; omega), ?_⟩⟩
      refine ⟨_, rfl, d, _, rfl, get_left hd, _, rfl, _, _, rfl, rfl, ⟨by show 0 < n; omega, by show n < 1073741824; omega⟩, _, rfl, d, _, rfl, dput_left hd, ?_⟩
      refine ⟨_, rfl, q _ _ (but_up hd) ⟨c, cells, b, l / n, upd_same, by rw [upd_ne (Ne.symm dc)]; exact hc, cl, b0, by omega, Int.ediv_nonneg l0 (by omega)⟩ (Int.emod_nonneg _ (by omega)) (Int.emod_lt_of_pos _ n0)⟩
    · -- a new cell
      have hd1 : (upd H d (.dK (penL c (b + 1) l))) d = some (.dK (penL c (b + 1) l)) := upd_same
      have hc1 : (upd H d (.dK (penL c (b + 1) l))) c = some (.lst (cells.map V.int)) := by rw [upd_ne (Ne.symm dc)]; exact hc
      refine ⟨_, rfl, d, _, rfl, get_begun hd, ?_⟩
      refine ⟨_, rfl, _, _, rfl, rfl, _, rfl, d, _, rfl, dput_begun hd, ?_⟩
      refine ⟨_, rfl, _, _, rfl, rfl, .inl ⟨by decide, by decide⟩, _, _, rfl, rfl, ?_⟩
      refine ⟨_, rfl, d, _, rfl, get_cells hd1, Nat.zero_le _, fun z nz => ?_⟩
      have sz := same_up (o := .lst []) nz
      have hd2 := sz _ _ hd1
      have hc2 := sz _ _ hc1
      have bt : But d H (upd (upd H d (.dK (penL c (b + 1) l))) z (.lst [])) := (but_up hd).trans (But.same sz)
      refine ⟨.list (cells.map PyData.int), .list [], .lst (SqL.of hc2) (dp_ints cells), .lst (SqL.of upd_same) .nil, ints_shaped cells, ints_shaped [], _, rfl, ?_⟩
      rw [ints_empty]
      generalize upd (upd H d (.dK (penL c (b + 1) l))) z (.lst []) = H2 at hd2 hc2 bt
      have pen2 : ∀ l' : Int, 0 ≤ l' → PenAt (upd H2 d (.dK (penL c (b + 1) l'))) d (k + 1) := fun l' z0 => ⟨c, cells, b + 1, l', upd_same, by rw [upd_ne (Ne.symm dc)]; exact hc2, cl, by omega, by omega, z0⟩
      have pen0 : PenAt H2 d (k + 1) := ⟨c, cells, b + 1, l, hd2, hc2, cl, by omega, by omega, l0⟩
      by_cases he : cells = []
      all_goals
        first
        | (refine ifF (by rw [decide_eq_true he]; rfl) ?_)
        | (have hlen : 0 < (cells.map V.int).length := by
            rw [List.length_map]
            exact List.length_pos_iff.mpr he
           have hm0 := Int.emod_nonneg b (show (((cells.map V.int).length : Nat) : Int) ≠ 0 by omega)
           have hm1 := Int.emod_lt_of_pos b (show (0 : Int) < (((cells.map V.int).length : Nat) : Int) by omega)
           obtain ⟨j, hj⟩ : ∃ j : Nat, b % (((cells.map V.int).length : Nat) : Int) = (j : Int) := ⟨(b % (((cells.map V.int).length : Nat) : Int)).toNat, by omega⟩
           have jl : j < cells.length := by
            rw [hj, List.length_map] at hm1
            omega
           have hat : atI (cells.map V.int) (b % (((cells.map V.int).length : Nat) : Int)) = some (V.int cells[j]) := by
            rw [hj]
            exact atI_nat (by rw [List.getElem?_map, List.getElem?_eq_getElem jl]; rfl)
           refine ifT (by rw [decide_eq_false he]; rfl) ?_
           refine ⟨_, rfl, d, _, rfl, get_cells hd2, _, rfl, .inl ⟨_, rfl, _, rfl, d, _, rfl, get_cells hd2, c, _, rfl, .inl (SqL.of hc2), _, _, rfl, rfl, (by show (0 : Int) < (((cells.map V.int).length : Nat) : Int); omega), c, _, _, _, rfl, rfl, SqL.of hc2, hat, ?_⟩⟩)
        refine ⟨_, rfl, _, rfl, d, _, rfl, get_cells hd2, c, _, rfl, .inl (SqL.of hc2), _, _, rfl, rfl, _, rfl, ?_⟩
        refine ite2 (fun h1 => ?_) (fun h1 => iteF ?_)
        all_goals
          first
          | (refine ⟨_, rfl, _, rfl, _, _, rfl, rfl, ⟨by decide, by decide, by decide⟩, _, _, rfl, rfl, _, rfl, ?_⟩
             refine ite2 (fun h2 => ?_) (fun h2 => ?_))
          | skip
        all_goals
          first
          | (have h3 := of_decide_eq_true h2
             refine ⟨_, rfl, _, rfl, _, _, rfl, rfl, ⟨by decide, by decide, by decide⟩, _, _, rfl, rfl, _, rfl, _, _, rfl, rfl, ⟨by show 0 < n; omega, by show n < 1073741824; omega⟩, _, rfl, d, _, rfl, dput_left hd2, ?_⟩
             refine ⟨_, rfl, _, rfl, _, _, rfl, rfl, ⟨by decide, by decide, by decide⟩, _, _, rfl, rfl, .inl ⟨_, rfl, _, rfl, _, _, rfl, rfl, (by show 0 < n; omega), ?_⟩⟩
             exact q _ _ (bt.trans (but_up hd2)) (pen2 _ (Int.ediv_nonneg (Int.sub_nonneg.mpr h3) (by omega))) (Int.emod_nonneg _ (by omega)) (Int.emod_lt_of_pos _ n0))
          | (refine ⟨_, rfl, .inl ⟨_, rfl, _, _, rfl, rfl, (by show (0 : Int) < 4294967197; decide), _, _, rfl, rfl, .inr ⟨by decide, by decide⟩, ?_⟩⟩
             refine ⟨_, rfl, _, rfl, _, rfl, _, _, rfl, rfl, .inl ⟨by decide, by decide⟩, _, _, rfl, rfl, _, _, rfl, rfl, .inl ⟨by show -(2 ^ 64) < b; omega, by show b < 2 ^ 64; omega⟩, _, _, rfl, rfl, _, _, rfl, rfl, .inl ⟨_, rfl, _, _, rfl, rfl, (by show (0 : Int) < 4294967189; decide), ?_⟩⟩
             refine ⟨_, rfl, _, rfl, _, _, rfl, rfl, .inl (em1 (by decide) (by decide)), _, rfl, _, _, rfl, rfl, .inl ⟨by decide, by decide⟩, _, _, rfl, rfl, _, rfl, _, _, rfl, rfl, .inl ⟨by decide, by decide⟩, _, _, rfl, rfl, _, _, rfl, rfl, .inl ⟨_, rfl, _, _, rfl, rfl, (by show (0 : Int) < 4294967161; decide), ?_⟩⟩
             refine ⟨_, rfl, _, rfl, _, _, rfl, rfl, _, _, rfl, rfl, .inl (em1 (by decide) (by decide)), .inl ⟨_, rfl, _, _, rfl, rfl, (by show (0 : Int) < 4294967143; decide), _, _, rfl, rfl, ⟨by decide, by decide⟩, .inl ⟨_, rfl, _, rfl, _, _, rfl, rfl, (by show 0 < n; omega), ?_⟩⟩⟩
             exact q _ _ bt pen0 (Int.emod_nonneg _ (by omega)) (Int.emod_lt_of_pos _ n0))
end
end K07

namespace K07
open PySem PySem.Spec PyProof.Rows L2 Ver Num
section
variable {P : Program} {w : World} {K : PySem.W.Frag} {mg : Str → Option Value} {base : Heap}
theorem pen_ne {H : Hp} {d a : Addr} {k : Int} {xs : List V} (p : PenAt H d k) (h : H a = some (.lst xs)) : a ≠ d := by
  obtain ⟨c, cells, b, l, h1, _⟩ := p.ex
  exact ne_of h h1 (by intro z; cases z)
/-! ### _law_pick, _law_prime, _law_number -/
def spPick : Sp := fun vs H Q _ => ∃ (d a : Addr) (k : Int) (xs : List V), vs = [.ref d, .ref a] ∧ PenAt H d k ∧ k < 1000000000000 ∧ H a = some (.lst xs) ∧ 0 < xs.length ∧ xs.length < 1000 ∧
  ∀ (x : V) (H' : Hp), x ∈ xs → But d H H' → PenAt H' d (k + 1) → Q x H'
theorem ok_pick (T : Tx K mg) : FnG P w K mg base CX0 2 (He.ga K "_law_pick") spPick := by
  refine mk__law_pick T.d (fun vs H Q E h => ?_) (fun cdv A outer s H vs Q E hg hr h => ?_)
  · obtain ⟨d, a, k, xs, rfl, _⟩ := h
    rfl
  · obtain ⟨d, a, k, xs, rfl, pen, k9, ha, l0, l9, q⟩ := h
    refine ⟨_, pss_one (ps_ret (pe_ix ix_list (pv 1) (pe_callG (ok_draw T) hr hg (by rfl) (T.g "_law_draw" (by decide +kernel)) (kp__law_draw T.d) pass0
      (pa_cons (pv 0) (pa_cons (pe_callB call_len_seq (by rfl) (T.z "len" (by decide +kernel)) (by decide +kernel) (pa_cons (pv 1) pa_nil)) pa_nil))) (fun _ _ => rfl))), ?_⟩
    refine ⟨_, rfl, _, rfl, _, rfl, a, xs, rfl, .inl (SqL.of ha), d, k, _, rfl, pen, k9, by omega, by omega, fun i H1 bt pen1 i0 i1 => ?_⟩
    have ha1 := bt.1 a _ ha (pen_ne pen ha)
    obtain ⟨j, rfl⟩ : ∃ j : Nat, i = (j : Int) := ⟨i.toNat, by omega⟩
    have jl : j < xs.length := by omega
    refine ⟨a, xs, _, xs[j], rfl, rfl, SqL.of ha1, atI_nat (List.getElem?_eq_getElem jl), q _ H1 (List.getElem_mem jl) bt pen1⟩
end
end K07

namespace K07
open PySem PySem.Spec PyProof.Rows L2 Ver Num
section
variable {P : Program} {w : World} {K : PySem.W.Frag} {mg : Str → Option Value} {base : Heap}
/-- a value without parts -/
def atomD : PyData → Bool
  | .list _ => false
  | .tuple _ => false
  | .dict _ => false
  | _ => true
/-- how long it is, shown; of a tuple what its parts are together -/
def wtD : PyData → Nat
  | .tuple ds => piled (PyData.shownAll ds)
  | d => d.shown.length
def flatT : PyData → Bool
  | .tuple ds => ds.all atomD
  | _ => true
/-- texts are short, pairs of ints small -/
def smB : PyData → Bool
  | .str s => decide (s.length ≤ 100)
  | .tuple [.int t, .int b] => decide (t.natAbs < 1000) && decide (b.natAbs < 1000)
  | _ => true
def OkO (d : PyData) : Prop := d.showable = true ∧ wtD d ≤ 1000 ∧ d.depth ≤ 4 ∧ flatT d = true ∧ smB d = true
/-- a value that stays while the pen at p draws -/
def DoS (p : Addr) (K : PySem.W.Frag) (H : Hp) (x : V) (d : PyData) : Prop := ∀ H2, But p H H2 → Do K H2 x d
theorem DoS.do_ {p : Addr} {K : PySem.W.Frag} {H : Hp} {x : V} {d : PyData} (h : DoS p K H x d) : Do K H x d := h H But.refl
theorem DoS.but {p : Addr} {K : PySem.W.Frag} {H H' : Hp} {x : V} {d : PyData} (h : DoS p K H x d) (b : But p H H') : DoS p K H' x d := fun H2 b2 => h H2 (b.trans b2)
theorem up2 {H : Hp} {p : Addr} {o o2 : HO} (h : H p = none) : Same H (upd (upd H p o) p o2) := fun b x e => by
  rw [upd_ne (ne_of_none e h), upd_ne (ne_of_none e h)]
  exact e
abbrev oL1 : List V := [.non, .bl true, .bl false, .int 0, .int 1, .int (-1), .int 2, .int 7, .int 160, .int 161, .int (10 ^ (30 : Int).toNat), .str "", .str "a", .str "b", .str "ab", .str "ba"]
abbrev oL2 : List V := [.int (10 ^ (50 : Int).toNat * 10 ^ (50 : Int).toNat * 10 ^ (9 : Int).toNat), .int (0 - 10 ^ (50 : Int).toNat * 10 ^ (50 : Int).toNat * 10 ^ (9 : Int).toNat)]
abbrev oL3 (a b c d e : Addr) : List V := [.str "A", .str "0", .str "1", .str "1/2", .str "fractions", .str "modulo 7", .str "a b", .str " ", .str "aa", .str "abcde", .ref a, .ref b, .ref c, .ref d, .ref e]
abbrev oL4 (a b c d e f g h i j k : Addr) : List V := [.ref a, .ref b, .ref c, .ref d, .ref e, .ref f, .ref g, .ref h, .ref i, .ref j, .ref k]
/-- a pair of ints stands as a tuple -/
def TopS (p : Addr) (H : Hp) (x : V) (d : PyData) : Prop := ∀ H2, But p H H2 → ∀ t b : Int, d = .tuple [.int t, .int b] → ∃ a, x = .ref a ∧ H2 a = some (.tup [.int t, .int b])
theorem TopS.but {p : Addr} {H H' : Hp} {x : V} {d : PyData} (h : TopS p H x d) (b : But p H H') : TopS p H' x d := fun H2 b2 => h H2 (b.trans b2)
/-- what is new in H' stands in H2 -/
def Nw (H H' H2 : Hp) : Prop := ∀ b o, H b = none → H' b = some o → H2 b = some o
def DoN (K : PySem.W.Frag) (H H' : Hp) (x : V) (d : PyData) : Prop := ∀ H2, Nw H H' H2 → Do K H2 x d
def TopN (H H' : Hp) (x : V) (d : PyData) : Prop := ∀ H2, Nw H H' H2 → ∀ t b : Int, d = .tuple [.int t, .int b] → ∃ a, x = .ref a ∧ H2 a = some (.tup [.int t, .int b])
theorem none_of {H H' : Hp} {a : Addr} (s : Same H H') (n : H' a = none) : H a = none := by
  cases e : H a with
  | none => rfl
  | some o =>
    have z := s a o e
    rw [n] at z
    cases z
def spOdd (K : PySem.W.Frag) : Sp := fun vs H Q _ => ∃ (d : Addr) (k : Int), vs = [.ref d] ∧ PenAt H d k ∧ k < 1000000 ∧ ∀ (x : V) (dd : PyData) (H' : Hp), DoN K H H' x dd → TopN H H' x dd → OkO dd → But d H H' → PenAt H' d (k + 1) → Q x H'
theorem ok_odd (T : Tx K mg) : FnG P w K mg base CX0 3 (He.ga K "_law_odd") (spOdd K) := by
  refine mk__law_odd T.d (fun vs H Q E h => ?_) (fun cdv A outer s H vs Q E hg hr h => ?_)
  · obtain ⟨d, k, rfl, _⟩ := h
    rfl
  · obtain ⟨d, k, rfl, pen, k9, q⟩ := h
    have nd := sc__law_odd.nd
    refine ⟨_, pss_cons (ps_set (i := 1) nd rfl (Or.inl rfl) (pe_lst (pa_cons pe_non (pa_cons pe_bl (pa_cons pe_bl (pa_cons pe_int (pa_cons pe_int (pa_cons (pe_un un_neg pe_int) (pa_cons pe_int (pa_cons pe_int (pa_cons pe_int (pa_cons pe_int (pa_cons (pe_op op_pow pe_int pe_int) (pa_cons pe_str (pa_cons pe_str (pa_cons pe_str (pa_cons pe_str (pa_cons pe_str pa_nil))))))))))))))))))
      (pss_cons (ps_set (i := 1) nd rfl (Or.inl rfl) (pe_op op_cat (pv 1) (pe_lst (pa_cons (pe_op op_mulW (pe_op op_mulW (pe_op op_pow pe_int pe_int) (pe_op op_pow pe_int pe_int)) (pe_op op_pow pe_int pe_int)) (pa_cons (pe_op op_sub pe_int (pe_op op_mulW (pe_op op_mulW (pe_op op_pow pe_int pe_int) (pe_op op_pow pe_int pe_int)) (pe_op op_pow pe_int pe_int))) pa_nil)))))
      (pss_cons (ps_set (i := 1) nd rfl (Or.inl rfl) (pe_op op_cat (pv 1) (pe_lst (pa_cons pe_str (pa_cons pe_str (pa_cons pe_str (pa_cons pe_str (pa_cons pe_str (pa_cons pe_str (pa_cons pe_str (pa_cons pe_str (pa_cons pe_str (pa_cons pe_str (pa_cons (pe_tup pa_nil) (pa_cons (pe_lst pa_nil) (pa_cons pe_dnewK (pa_cons (pe_tup (pa_cons pe_str pa_nil)) (pa_cons (pe_lst (pa_cons pe_str pa_nil)) pa_nil))))))))))))))))))
      (pss_cons (ps_set (i := 1) nd rfl (Or.inl rfl) (pe_op op_cat (pv 1) (pe_lst (pa_cons (pe_lst (pa_cons pe_int pa_nil)) (pa_cons (pe_tup (pa_cons pe_int (pa_cons pe_int pa_nil))) (pa_cons (pe_tup (pa_cons pe_int (pa_cons pe_int pa_nil))) (pa_cons (pe_tup (pa_cons pe_int (pa_cons pe_int pa_nil))) (pa_cons (pe_tup (pa_cons pe_int (pa_cons pe_int pa_nil))) (pa_cons (pe_tup (pa_cons pe_int (pa_cons pe_int pa_nil))) (pa_cons (pe_tup (pa_cons pe_int (pa_cons (pe_un un_neg pe_int) pa_nil))) (pa_cons (pe_tup (pa_cons pe_bl (pa_cons pe_int pa_nil))) (pa_cons (pe_lst (pa_cons pe_int (pa_cons pe_int pa_nil))) (pa_cons (pe_tup (pa_cons pe_int (pa_cons pe_int (pa_cons pe_int pa_nil)))) (pa_cons (pe_disp (pps_cons pe_str pe_int pps_nil) (by rfl) (by rfl) (fun z => by cases z) (by decide)) pa_nil))))))))))))))
      (pss_one (ps_ret (pe_callG (ok_pick T) hr hg (by rfl) (T.g "_law_pick" (by decide +kernel)) (kp__law_pick T.d) pass0 (pa_cons (pv 0) (pa_cons (pv 1) pa_nil)))))))), ?_⟩
    refine ⟨_, rfl, _, _, rfl, rfl, ⟨by decide, by decide, by decide⟩, by show 16 ≤ sizeLine; decide, fun l1 n1 => ?_⟩
    have s_l1 := same_up (o := .lst oL1) n1
    refine ⟨_, rfl, _, _, rfl, rfl, ⟨by decide, by decide, by decide⟩, _, _, rfl, rfl, ⟨by decide, by decide, by decide⟩, _, _, rfl, rfl, (by show CMulW _ _; unfold CMulW; decide +kernel), _, _, rfl, rfl, ⟨by decide, by decide, by decide⟩, _, _, rfl, rfl, (by show CMulW _ _; unfold CMulW; decide +kernel), _, _, rfl, rfl, ⟨by decide, by decide, by decide⟩, _, _, rfl, rfl, ⟨by decide, by decide, by decide⟩, _, _, rfl, rfl, (by show CMulW _ _; unfold CMulW; decide +kernel), _, _, rfl, rfl, ⟨by decide, by decide, by decide⟩, _, _, rfl, rfl, (by show CMulW _ _; unfold CMulW; decide +kernel), _, _, rfl, rfl, by show 2 ≤ sizeLine; decide, fun l2 n2 => ?_⟩
    have s_l2 := same_up (o := .lst oL2) n2
    refine ⟨l1, l2, _, _, rfl, rfl, s_l2 _ _ upd_same, upd_same, by show 16 + 2 ≤ sizeLine; decide, fun c2 n3 => ?_⟩
    have s_c2 := same_up (o := .lst (oL1 ++ oL2)) n3
    refine ⟨_, rfl, by show 0 ≤ sizeLine; decide, fun a1 m1 => ?_⟩
    have s_a1 := same_up (o := .tup []) m1
    refine ⟨by show 0 ≤ sizeLine; decide, fun a2 m2 => ?_⟩
    have s_a2 := same_up (o := .lst []) m2
    refine fun a3 m3 => ?_
    have s_a3 := same_up (o := .dK []) m3
    refine ⟨by show 1 ≤ sizeLine; decide, fun a4 m4 => ?_⟩
    have s_a4 := same_up (o := .tup [V.str "a"]) m4
    refine ⟨by show 1 ≤ sizeLine; decide, fun a5 m5 => ?_⟩
    have s_a5 := same_up (o := .lst [V.str "a"]) m5
    refine ⟨by show 15 ≤ sizeLine; decide, fun l3 n4 => ?_⟩
    have s_l3 := same_up (o := .lst (oL3 a1 a2 a3 a4 a5)) n4
    refine ⟨c2, l3, _, _, rfl, rfl, (((((s_a1.trans s_a2).trans s_a3).trans s_a4).trans s_a5).trans s_l3) _ _ upd_same, upd_same, by show 18 + 15 ≤ sizeLine; decide, fun c3 n5 => ?_⟩
    have s_c3 := same_up (o := .lst (oL1 ++ oL2 ++ oL3 a1 a2 a3 a4 a5)) n5
    refine ⟨_, rfl, by show 1 ≤ sizeLine; decide, fun a6 m6 => ?_⟩
    have s_a6 := same_up (o := .lst [V.int 1]) m6
    refine ⟨by show 2 ≤ sizeLine; decide, fun a7 m7 => ?_⟩
    have s_a7 := same_up (o := .tup [V.int 1, V.int 2]) m7
    refine ⟨by show 2 ≤ sizeLine; decide, fun a8 m8 => ?_⟩
    have s_a8 := same_up (o := .tup [V.int 2, V.int 4]) m8
    refine ⟨by show 2 ≤ sizeLine; decide, fun a9 m9 => ?_⟩
    have s_a9 := same_up (o := .tup [V.int 0, V.int 2]) m9
    refine ⟨by show 2 ≤ sizeLine; decide, fun a10 m10 => ?_⟩
    have s_a10 := same_up (o := .tup [V.int 1, V.int 1]) m10
    refine ⟨by show 2 ≤ sizeLine; decide, fun a11 m11 => ?_⟩
    have s_a11 := same_up (o := .tup [V.int 1, V.int 0]) m11
    refine ⟨_, rfl, by show 2 ≤ sizeLine; decide, fun a12 m12 => ?_⟩
    have s_a12 := same_up (o := .tup [V.int 1, V.int (-2)]) m12
    refine ⟨by show 2 ≤ sizeLine; decide, fun a13 m13 => ?_⟩
    have s_a13 := same_up (o := .tup [V.bl true, V.int 2]) m13
    refine ⟨by show 2 ≤ sizeLine; decide, fun a14 m14 => ?_⟩
    have s_a14 := same_up (o := .lst [V.int 1, V.int 2]) m14
    refine ⟨by show 3 ≤ sizeLine; decide, fun a15 m15 => ?_⟩
    have s_a15 := same_up (o := .tup [V.int 1, V.int 2, V.int 3]) m15
    refine fun a16 m16 => ?_
    refine ⟨upd_same, [(.inr "a", .int 1)], rfl, by show 1 ≤ 15; decide, ?_⟩
    have s_a16 := up2 (o := .dK []) (o2 := .dK (mergeK [] [((.inr "a" : Key), V.int 1)])) m16
    refine ⟨by show 11 ≤ sizeLine; decide, fun l4 n6 => ?_⟩
    have s_l4 := same_up (o := .lst (oL4 a6 a7 a8 a9 a10 a11 a12 a13 a14 a15 a16)) n6
    refine ⟨c3, l4, _, _, rfl, rfl, (((((((((((s_a6.trans s_a7).trans s_a8).trans s_a9).trans s_a10).trans s_a11).trans s_a12).trans s_a13).trans s_a14).trans s_a15).trans s_a16).trans s_l4) _ _ upd_same, upd_same, by show 33 + 11 ≤ sizeLine; decide, fun c4 n7 => ?_⟩
    have s_c4 := same_up (o := .lst (oL1 ++ oL2 ++ oL3 a1 a2 a3 a4 a5 ++ oL4 a6 a7 a8 a9 a10 a11 a12 a13 a14 a15 a16)) n7
    have tA := ((((((((((((((((((((((s_l1.trans s_l2).trans s_c2).trans s_a1).trans s_a2).trans s_a3).trans s_a4).trans s_a5).trans s_l3).trans s_c3).trans s_a6).trans s_a7).trans s_a8).trans s_a9).trans s_a10).trans s_a11).trans s_a12).trans s_a13).trans s_a14).trans s_a15).trans s_a16).trans s_l4).trans s_c4)
    refine ⟨_, rfl, _, rfl, d, c4, k, _, rfl, pen.same tA, by omega, upd_same, by show 0 < 44; decide, by show 44 < 1000; decide, fun x H9 hx bt pen9 => ?_⟩
    have c := (But.same tA).trans bt
    obtain ⟨pc, pcells, pb, pl, pd, _⟩ := (pen.same tA).ex
    have n_a1 := none_of (((s_l1).trans s_l2).trans s_c2) m1
    have n_a2 := none_of ((((s_l1).trans s_l2).trans s_c2).trans s_a1) m2
    have n_a3 := none_of (((((s_l1).trans s_l2).trans s_c2).trans s_a1).trans s_a2) m3
    have n_a4 := none_of ((((((s_l1).trans s_l2).trans s_c2).trans s_a1).trans s_a2).trans s_a3) m4
    have n_a5 := none_of (((((((s_l1).trans s_l2).trans s_c2).trans s_a1).trans s_a2).trans s_a3).trans s_a4) m5
    have n_a6 := none_of ((((((((((s_l1).trans s_l2).trans s_c2).trans s_a1).trans s_a2).trans s_a3).trans s_a4).trans s_a5).trans s_l3).trans s_c3) m6
    have n_a7 := none_of (((((((((((s_l1).trans s_l2).trans s_c2).trans s_a1).trans s_a2).trans s_a3).trans s_a4).trans s_a5).trans s_l3).trans s_c3).trans s_a6) m7
    have n_a8 := none_of ((((((((((((s_l1).trans s_l2).trans s_c2).trans s_a1).trans s_a2).trans s_a3).trans s_a4).trans s_a5).trans s_l3).trans s_c3).trans s_a6).trans s_a7) m8
    have n_a9 := none_of (((((((((((((s_l1).trans s_l2).trans s_c2).trans s_a1).trans s_a2).trans s_a3).trans s_a4).trans s_a5).trans s_l3).trans s_c3).trans s_a6).trans s_a7).trans s_a8) m9
    have n_a10 := none_of ((((((((((((((s_l1).trans s_l2).trans s_c2).trans s_a1).trans s_a2).trans s_a3).trans s_a4).trans s_a5).trans s_l3).trans s_c3).trans s_a6).trans s_a7).trans s_a8).trans s_a9) m10
    have n_a11 := none_of (((((((((((((((s_l1).trans s_l2).trans s_c2).trans s_a1).trans s_a2).trans s_a3).trans s_a4).trans s_a5).trans s_l3).trans s_c3).trans s_a6).trans s_a7).trans s_a8).trans s_a9).trans s_a10) m11
    have n_a12 := none_of ((((((((((((((((s_l1).trans s_l2).trans s_c2).trans s_a1).trans s_a2).trans s_a3).trans s_a4).trans s_a5).trans s_l3).trans s_c3).trans s_a6).trans s_a7).trans s_a8).trans s_a9).trans s_a10).trans s_a11) m12
    have n_a13 := none_of (((((((((((((((((s_l1).trans s_l2).trans s_c2).trans s_a1).trans s_a2).trans s_a3).trans s_a4).trans s_a5).trans s_l3).trans s_c3).trans s_a6).trans s_a7).trans s_a8).trans s_a9).trans s_a10).trans s_a11).trans s_a12) m13
    have n_a14 := none_of ((((((((((((((((((s_l1).trans s_l2).trans s_c2).trans s_a1).trans s_a2).trans s_a3).trans s_a4).trans s_a5).trans s_l3).trans s_c3).trans s_a6).trans s_a7).trans s_a8).trans s_a9).trans s_a10).trans s_a11).trans s_a12).trans s_a13) m14
    have n_a15 := none_of (((((((((((((((((((s_l1).trans s_l2).trans s_c2).trans s_a1).trans s_a2).trans s_a3).trans s_a4).trans s_a5).trans s_l3).trans s_c3).trans s_a6).trans s_a7).trans s_a8).trans s_a9).trans s_a10).trans s_a11).trans s_a12).trans s_a13).trans s_a14) m15
    have n_a16 := none_of ((((((((((((((((((((s_l1).trans s_l2).trans s_c2).trans s_a1).trans s_a2).trans s_a3).trans s_a4).trans s_a5).trans s_l3).trans s_c3).trans s_a6).trans s_a7).trans s_a8).trans s_a9).trans s_a10).trans s_a11).trans s_a12).trans s_a13).trans s_a14).trans s_a15) m16
    have em : mergeK [] [((.inr "a" : Key), V.int 1)] = [(.inr "a", V.int 1)] := by simp [mergeK, putK]
    have h_a1 := ((((((((((((((((((s_a2.trans s_a3).trans s_a4).trans s_a5).trans s_l3).trans s_c3).trans s_a6).trans s_a7).trans s_a8).trans s_a9).trans s_a10).trans s_a11).trans s_a12).trans s_a13).trans s_a14).trans s_a15).trans s_a16).trans s_l4).trans s_c4) _ _ (upd_same (a := a1))
    have h_a2 := (((((((((((((((((s_a3.trans s_a4).trans s_a5).trans s_l3).trans s_c3).trans s_a6).trans s_a7).trans s_a8).trans s_a9).trans s_a10).trans s_a11).trans s_a12).trans s_a13).trans s_a14).trans s_a15).trans s_a16).trans s_l4).trans s_c4) _ _ (upd_same (a := a2))
    have h_a3 := ((((((((((((((((s_a4.trans s_a5).trans s_l3).trans s_c3).trans s_a6).trans s_a7).trans s_a8).trans s_a9).trans s_a10).trans s_a11).trans s_a12).trans s_a13).trans s_a14).trans s_a15).trans s_a16).trans s_l4).trans s_c4) _ _ (upd_same (a := a3))
    have h_a4 := (((((((((((((((s_a5.trans s_l3).trans s_c3).trans s_a6).trans s_a7).trans s_a8).trans s_a9).trans s_a10).trans s_a11).trans s_a12).trans s_a13).trans s_a14).trans s_a15).trans s_a16).trans s_l4).trans s_c4) _ _ (upd_same (a := a4))
    have h_a5 := ((((((((((((((s_l3.trans s_c3).trans s_a6).trans s_a7).trans s_a8).trans s_a9).trans s_a10).trans s_a11).trans s_a12).trans s_a13).trans s_a14).trans s_a15).trans s_a16).trans s_l4).trans s_c4) _ _ (upd_same (a := a5))
    have h_a6 := (((((((((((s_a7.trans s_a8).trans s_a9).trans s_a10).trans s_a11).trans s_a12).trans s_a13).trans s_a14).trans s_a15).trans s_a16).trans s_l4).trans s_c4) _ _ (upd_same (a := a6))
    have h_a7 := ((((((((((s_a8.trans s_a9).trans s_a10).trans s_a11).trans s_a12).trans s_a13).trans s_a14).trans s_a15).trans s_a16).trans s_l4).trans s_c4) _ _ (upd_same (a := a7))
    have h_a8 := (((((((((s_a9.trans s_a10).trans s_a11).trans s_a12).trans s_a13).trans s_a14).trans s_a15).trans s_a16).trans s_l4).trans s_c4) _ _ (upd_same (a := a8))
    have h_a9 := ((((((((s_a10.trans s_a11).trans s_a12).trans s_a13).trans s_a14).trans s_a15).trans s_a16).trans s_l4).trans s_c4) _ _ (upd_same (a := a9))
    have h_a10 := (((((((s_a11.trans s_a12).trans s_a13).trans s_a14).trans s_a15).trans s_a16).trans s_l4).trans s_c4) _ _ (upd_same (a := a10))
    have h_a11 := ((((((s_a12.trans s_a13).trans s_a14).trans s_a15).trans s_a16).trans s_l4).trans s_c4) _ _ (upd_same (a := a11))
    have h_a12 := (((((s_a13.trans s_a14).trans s_a15).trans s_a16).trans s_l4).trans s_c4) _ _ (upd_same (a := a12))
    have h_a13 := ((((s_a14.trans s_a15).trans s_a16).trans s_l4).trans s_c4) _ _ (upd_same (a := a13))
    have h_a14 := (((s_a15.trans s_a16).trans s_l4).trans s_c4) _ _ (upd_same (a := a14))
    have h_a15 := ((s_a16.trans s_l4).trans s_c4) _ _ (upd_same (a := a15))
    have h_a16 := (s_l4.trans s_c4) _ _ (upd_same (a := a16))
    simp only [List.mem_append, List.mem_cons, List.not_mem_nil, or_false] at hx
    rcases hx with ((hx | hx) | hx) | hx
    · rcases hx with rfl | rfl | rfl | rfl | rfl | rfl | rfl | rfl | rfl | rfl | rfl | rfl | rfl | rfl | rfl | rfl
      · exact q _ _ H9 (fun H2 b2 => .non) (fun H2 b2 t b e => by cases e) (by exact ⟨by decide +kernel, by decide +kernel, by decide +kernel, by decide +kernel, by decide +kernel⟩) c pen9
      · exact q _ _ H9 (fun H2 b2 => (.bl _)) (fun H2 b2 t b e => by cases e) (by exact ⟨by decide +kernel, by decide +kernel, by decide +kernel, by decide +kernel, by decide +kernel⟩) c pen9
      · exact q _ _ H9 (fun H2 b2 => (.bl _)) (fun H2 b2 t b e => by cases e) (by exact ⟨by decide +kernel, by decide +kernel, by decide +kernel, by decide +kernel, by decide +kernel⟩) c pen9
      · exact q _ _ H9 (fun H2 b2 => (.int _)) (fun H2 b2 t b e => by cases e) (by exact ⟨by decide +kernel, by decide +kernel, by decide +kernel, by decide +kernel, by decide +kernel⟩) c pen9
      · exact q _ _ H9 (fun H2 b2 => (.int _)) (fun H2 b2 t b e => by cases e) (by exact ⟨by decide +kernel, by decide +kernel, by decide +kernel, by decide +kernel, by decide +kernel⟩) c pen9
      · exact q _ _ H9 (fun H2 b2 => (.int _)) (fun H2 b2 t b e => by cases e) (by exact ⟨by decide +kernel, by decide +kernel, by decide +kernel, by decide +kernel, by decide +kernel⟩) c pen9
      · exact q _ _ H9 (fun H2 b2 => (.int _)) (fun H2 b2 t b e => by cases e) (by exact ⟨by decide +kernel, by decide +kernel, by decide +kernel, by decide +kernel, by decide +kernel⟩) c pen9
      · exact q _ _ H9 (fun H2 b2 => (.int _)) (fun H2 b2 t b e => by cases e) (by exact ⟨by decide +kernel, by decide +kernel, by decide +kernel, by decide +kernel, by decide +kernel⟩) c pen9
      · exact q _ _ H9 (fun H2 b2 => (.int _)) (fun H2 b2 t b e => by cases e) (by exact ⟨by decide +kernel, by decide +kernel, by decide +kernel, by decide +kernel, by decide +kernel⟩) c pen9
      · exact q _ _ H9 (fun H2 b2 => (.int _)) (fun H2 b2 t b e => by cases e) (by exact ⟨by decide +kernel, by decide +kernel, by decide +kernel, by decide +kernel, by decide +kernel⟩) c pen9
      · exact q _ _ H9 (fun H2 b2 => (.int _)) (fun H2 b2 t b e => by cases e) (by exact ⟨by decide +kernel, by decide +kernel, by decide +kernel, by decide +kernel, by decide +kernel⟩) c pen9
      · exact q _ _ H9 (fun H2 b2 => (.str _)) (fun H2 b2 t b e => by cases e) (by exact ⟨by decide +kernel, by decide +kernel, by decide +kernel, by decide +kernel, by decide +kernel⟩) c pen9
      · exact q _ _ H9 (fun H2 b2 => (.str _)) (fun H2 b2 t b e => by cases e) (by exact ⟨by decide +kernel, by decide +kernel, by decide +kernel, by decide +kernel, by decide +kernel⟩) c pen9
      · exact q _ _ H9 (fun H2 b2 => (.str _)) (fun H2 b2 t b e => by cases e) (by exact ⟨by decide +kernel, by decide +kernel, by decide +kernel, by decide +kernel, by decide +kernel⟩) c pen9
      · exact q _ _ H9 (fun H2 b2 => (.str _)) (fun H2 b2 t b e => by cases e) (by exact ⟨by decide +kernel, by decide +kernel, by decide +kernel, by decide +kernel, by decide +kernel⟩) c pen9
      · exact q _ _ H9 (fun H2 b2 => (.str _)) (fun H2 b2 t b e => by cases e) (by exact ⟨by decide +kernel, by decide +kernel, by decide +kernel, by decide +kernel, by decide +kernel⟩) c pen9
    · rcases hx with rfl | rfl
      · exact q _ _ H9 (fun H2 b2 => (.int _)) (fun H2 b2 t b e => by cases e) (by exact ⟨by decide +kernel, by decide +kernel, by decide +kernel, by decide +kernel, by decide +kernel⟩) c pen9
      · exact q _ _ H9 (fun H2 b2 => (.int _)) (fun H2 b2 t b e => by cases e) (by exact ⟨by decide +kernel, by decide +kernel, by decide +kernel, by decide +kernel, by decide +kernel⟩) c pen9
    · rcases hx with rfl | rfl | rfl | rfl | rfl | rfl | rfl | rfl | rfl | rfl | rfl | rfl | rfl | rfl | rfl
      · exact q _ _ H9 (fun H2 b2 => (.str _)) (fun H2 b2 t b e => by cases e) (by exact ⟨by decide +kernel, by decide +kernel, by decide +kernel, by decide +kernel, by decide +kernel⟩) c pen9
      · exact q _ _ H9 (fun H2 b2 => (.str _)) (fun H2 b2 t b e => by cases e) (by exact ⟨by decide +kernel, by decide +kernel, by decide +kernel, by decide +kernel, by decide +kernel⟩) c pen9
      · exact q _ _ H9 (fun H2 b2 => (.str _)) (fun H2 b2 t b e => by cases e) (by exact ⟨by decide +kernel, by decide +kernel, by decide +kernel, by decide +kernel, by decide +kernel⟩) c pen9
      · exact q _ _ H9 (fun H2 b2 => (.str _)) (fun H2 b2 t b e => by cases e) (by exact ⟨by decide +kernel, by decide +kernel, by decide +kernel, by decide +kernel, by decide +kernel⟩) c pen9
      · exact q _ _ H9 (fun H2 b2 => (.str _)) (fun H2 b2 t b e => by cases e) (by exact ⟨by decide +kernel, by decide +kernel, by decide +kernel, by decide +kernel, by decide +kernel⟩) c pen9
      · exact q _ _ H9 (fun H2 b2 => (.str _)) (fun H2 b2 t b e => by cases e) (by exact ⟨by decide +kernel, by decide +kernel, by decide +kernel, by decide +kernel, by decide +kernel⟩) c pen9
      · exact q _ _ H9 (fun H2 b2 => (.str _)) (fun H2 b2 t b e => by cases e) (by exact ⟨by decide +kernel, by decide +kernel, by decide +kernel, by decide +kernel, by decide +kernel⟩) c pen9
      · exact q _ _ H9 (fun H2 b2 => (.str _)) (fun H2 b2 t b e => by cases e) (by exact ⟨by decide +kernel, by decide +kernel, by decide +kernel, by decide +kernel, by decide +kernel⟩) c pen9
      · exact q _ _ H9 (fun H2 b2 => (.str _)) (fun H2 b2 t b e => by cases e) (by exact ⟨by decide +kernel, by decide +kernel, by decide +kernel, by decide +kernel, by decide +kernel⟩) c pen9
      · exact q _ _ H9 (fun H2 b2 => (.str _)) (fun H2 b2 t b e => by cases e) (by exact ⟨by decide +kernel, by decide +kernel, by decide +kernel, by decide +kernel, by decide +kernel⟩) c pen9
      · exact q _ _ H9 (fun H2 b2 => (.tup (.inl (.inl (b2 _ _ n_a1 (bt.1 _ _ h_a1 (ne_of h_a1 pd (by intro z; cases z)))))) .nil)) (fun H2 b2 t b e => by cases e) (by exact ⟨by decide +kernel, by decide +kernel, by decide +kernel, by decide +kernel, by decide +kernel⟩) c pen9
      · exact q _ _ H9 (fun H2 b2 => (.lst (.inl (.inl (b2 _ _ n_a2 (bt.1 _ _ h_a2 (ne_of h_a2 pd (by intro z; cases z)))))) .nil)) (fun H2 b2 t b e => by cases e) (by exact ⟨by decide +kernel, by decide +kernel, by decide +kernel, by decide +kernel, by decide +kernel⟩) c pen9
      · exact q _ _ H9 (fun H2 b2 => (.dic (b2 _ _ n_a3 (bt.1 _ _ h_a3 (ne_of h_a3 pd (by intro z; have z := HO.dK.inj z; simp [penL] at z)))) .nil)) (fun H2 b2 t b e => by cases e) (by exact ⟨by decide +kernel, by decide +kernel, by decide +kernel, by decide +kernel, by decide +kernel⟩) c pen9
      · exact q _ _ H9 (fun H2 b2 => (.tup (.inl (.inl (b2 _ _ n_a4 (bt.1 _ _ h_a4 (ne_of h_a4 pd (by intro z; cases z)))))) (.cons (.str _) .nil))) (fun H2 b2 t b e => by cases e) (by exact ⟨by decide +kernel, by decide +kernel, by decide +kernel, by decide +kernel, by decide +kernel⟩) c pen9
      · exact q _ _ H9 (fun H2 b2 => (.lst (.inl (.inl (b2 _ _ n_a5 (bt.1 _ _ h_a5 (ne_of h_a5 pd (by intro z; cases z)))))) (.cons (.str _) .nil))) (fun H2 b2 t b e => by cases e) (by exact ⟨by decide +kernel, by decide +kernel, by decide +kernel, by decide +kernel, by decide +kernel⟩) c pen9
    · rcases hx with rfl | rfl | rfl | rfl | rfl | rfl | rfl | rfl | rfl | rfl | rfl
      · exact q _ _ H9 (fun H2 b2 => (.lst (.inl (.inl (b2 _ _ n_a6 (bt.1 _ _ h_a6 (ne_of h_a6 pd (by intro z; cases z)))))) (.cons (.int _) .nil))) (fun H2 b2 t b e => by cases e) (by exact ⟨by decide +kernel, by decide +kernel, by decide +kernel, by decide +kernel, by decide +kernel⟩) c pen9
      · exact q _ _ H9 (fun H2 b2 => (.tup (.inl (.inl (b2 _ _ n_a7 (bt.1 _ _ h_a7 (ne_of h_a7 pd (by intro z; cases z)))))) (.cons (.int _) (.cons (.int _) .nil)))) (fun H2 b2 t b e => by cases e; exact ⟨_, rfl, b2 _ _ n_a7 (bt.1 _ _ h_a7 (ne_of h_a7 pd (by intro z; cases z)))⟩) (by exact ⟨by decide +kernel, by decide +kernel, by decide +kernel, by decide +kernel, by decide +kernel⟩) c pen9
      · exact q _ _ H9 (fun H2 b2 => (.tup (.inl (.inl (b2 _ _ n_a8 (bt.1 _ _ h_a8 (ne_of h_a8 pd (by intro z; cases z)))))) (.cons (.int _) (.cons (.int _) .nil)))) (fun H2 b2 t b e => by cases e; exact ⟨_, rfl, b2 _ _ n_a8 (bt.1 _ _ h_a8 (ne_of h_a8 pd (by intro z; cases z)))⟩) (by exact ⟨by decide +kernel, by decide +kernel, by decide +kernel, by decide +kernel, by decide +kernel⟩) c pen9
      · exact q _ _ H9 (fun H2 b2 => (.tup (.inl (.inl (b2 _ _ n_a9 (bt.1 _ _ h_a9 (ne_of h_a9 pd (by intro z; cases z)))))) (.cons (.int _) (.cons (.int _) .nil)))) (fun H2 b2 t b e => by cases e; exact ⟨_, rfl, b2 _ _ n_a9 (bt.1 _ _ h_a9 (ne_of h_a9 pd (by intro z; cases z)))⟩) (by exact ⟨by decide +kernel, by decide +kernel, by decide +kernel, by decide +kernel, by decide +kernel⟩) c pen9
      · exact q _ _ H9 (fun H2 b2 => (.tup (.inl (.inl (b2 _ _ n_a10 (bt.1 _ _ h_a10 (ne_of h_a10 pd (by intro z; cases z)))))) (.cons (.int _) (.cons (.int _) .nil)))) (fun H2 b2 t b e => by cases e; exact ⟨_, rfl, b2 _ _ n_a10 (bt.1 _ _ h_a10 (ne_of h_a10 pd (by intro z; cases z)))⟩) (by exact ⟨by decide +kernel, by decide +kernel, by decide +kernel, by decide +kernel, by decide +kernel⟩) c pen9
      · exact q _ _ H9 (fun H2 b2 => (.tup (.inl (.inl (b2 _ _ n_a11 (bt.1 _ _ h_a11 (ne_of h_a11 pd (by intro z; cases z)))))) (.cons (.int _) (.cons (.int _) .nil)))) (fun H2 b2 t b e => by cases e; exact ⟨_, rfl, b2 _ _ n_a11 (bt.1 _ _ h_a11 (ne_of h_a11 pd (by intro z; cases z)))⟩) (by exact ⟨by decide +kernel, by decide +kernel, by decide +kernel, by decide +kernel, by decide +kernel⟩) c pen9
      · exact q _ _ H9 (fun H2 b2 => (.tup (.inl (.inl (b2 _ _ n_a12 (bt.1 _ _ h_a12 (ne_of h_a12 pd (by intro z; cases z)))))) (.cons (.int _) (.cons (.int _) .nil)))) (fun H2 b2 t b e => by cases e; exact ⟨_, rfl, b2 _ _ n_a12 (bt.1 _ _ h_a12 (ne_of h_a12 pd (by intro z; cases z)))⟩) (by exact ⟨by decide +kernel, by decide +kernel, by decide +kernel, by decide +kernel, by decide +kernel⟩) c pen9
      · exact q _ _ H9 (fun H2 b2 => (.tup (.inl (.inl (b2 _ _ n_a13 (bt.1 _ _ h_a13 (ne_of h_a13 pd (by intro z; cases z)))))) (.cons (.bl _) (.cons (.int _) .nil)))) (fun H2 b2 t b e => by cases e) (by exact ⟨by decide +kernel, by decide +kernel, by decide +kernel, by decide +kernel, by decide +kernel⟩) c pen9
      · exact q _ _ H9 (fun H2 b2 => (.lst (.inl (.inl (b2 _ _ n_a14 (bt.1 _ _ h_a14 (ne_of h_a14 pd (by intro z; cases z)))))) (.cons (.int _) (.cons (.int _) .nil)))) (fun H2 b2 t b e => by cases e) (by exact ⟨by decide +kernel, by decide +kernel, by decide +kernel, by decide +kernel, by decide +kernel⟩) c pen9
      · exact q _ _ H9 (fun H2 b2 => (.tup (.inl (.inl (b2 _ _ n_a15 (bt.1 _ _ h_a15 (ne_of h_a15 pd (by intro z; cases z)))))) (.cons (.int _) (.cons (.int _) (.cons (.int _) .nil))))) (fun H2 b2 t b e => by cases e) (by exact ⟨by decide +kernel, by decide +kernel, by decide +kernel, by decide +kernel, by decide +kernel⟩) c pen9
      · exact q _ _ H9 (fun H2 b2 => (.dic (by rw [em] at h_a16; exact b2 _ _ n_a16 (bt.1 _ _ h_a16 (ne_of h_a16 pd (by intro z; have z := HO.dK.inj z; simp [penL] at z)))) (.cons (k := .inr "a") (.int 1) .nil))) (fun H2 b2 t b e => by cases e) (by exact ⟨by decide +kernel, by decide +kernel, by decide +kernel, by decide +kernel, by decide +kernel⟩) c pen9
end
end K07

namespace K07
open PySem PySem.Spec PyProof.Rows L2 Ver Num
section
variable {P : Program} {w : World} {K : PySem.W.Frag} {mg : Str → Option Value} {base : Heap}
/-- an int that is no bool -/
def isI : PyData → Bool
  | .int _ => true
  | _ => false
theorem isI_is (d : PyData) : (is_int d && !is_bool d) = isI d := by cases d <;> rfl
def spInt (K : PySem.W.Frag) : Sp := fun vs H Q _ => ∃ (x : V) (d : PyData), vs = [x] ∧ Do K H x d ∧ Q (.bl (isI d)) H
theorem ok_is_integer (T : Tx K mg) : FnG P w K mg base CX0 1 (He.ga K "is_integer") (spInt K) := by
  refine mk_is_integer T.d (fun vs H Q E h => ?_) (fun cdv A outer s H vs Q E hg hr h => ?_)
  · obtain ⟨x, d, rfl, _⟩ := h
    rfl
  · obtain ⟨x, d, rfl, hd, q⟩ := h
    have zi := T.z "isinstance" (by decide +kernel)
    rw [← isI_is] at q
    refine ⟨_, pss_one (ps_ret (pe_and (pe_callB call_isi (by rfl) zi (by decide +kernel) (pa_cons (pv 0) (pa_cons (pe_bltn (v := .ty "int") (by rfl) (T.z "int" (by decide +kernel)) (by decide +kernel) rfl) pa_nil)))
      (pe_one (pe_not (pe_callB call_isi (by rfl) zi (by decide +kernel) (pa_cons (pv 0) (pa_cons (pe_bltn (v := .ty "bool") (by rfl) (T.z "bool" (by decide +kernel)) (by decide +kernel) rfl) pa_nil))))))), ?_⟩
    refine ⟨_, rfl, _, _, _, _, _, rfl, .ty "int", hd.ty, kit_int d, _, rfl, ?_⟩
    cases e : is_int d with
    | false =>
      rw [e] at q
      exact ifF rfl q
    | true =>
      rw [e] at q
      exact ifT rfl ⟨_, rfl, _, _, _, _, _, rfl, .ty "bool", hd.ty, kit_bool d, _, rfl, q⟩
theorem ok_is_whole (T : Tx K mg) : FnG P w K mg base CX0 1 (He.ga K "_law_is_whole") (spInt K) := by
  refine mk__law_is_whole T.d (fun vs H Q E h => ?_) (fun cdv A outer s H vs Q E hg hr h => ?_)
  · obtain ⟨x, d, rfl, _⟩ := h
    rfl
  · obtain ⟨x, d, rfl, hd, q⟩ := h
    have zi := T.z "isinstance" (by decide +kernel)
    rw [← isI_is] at q
    refine ⟨_, pss_one (ps_ret (pe_and (pe_callB call_isi (by rfl) zi (by decide +kernel) (pa_cons (pv 0) (pa_cons (pe_bltn (v := .ty "int") (by rfl) (T.z "int" (by decide +kernel)) (by decide +kernel) rfl) pa_nil)))
      (pe_one (pe_not (pe_callB call_isi (by rfl) zi (by decide +kernel) (pa_cons (pv 0) (pa_cons (pe_bltn (v := .ty "bool") (by rfl) (T.z "bool" (by decide +kernel)) (by decide +kernel) rfl) pa_nil))))))), ?_⟩
    refine ⟨_, rfl, _, _, _, _, _, rfl, .ty "int", hd.ty, kit_int d, _, rfl, ?_⟩
    cases e : is_int d with
    | false =>
      rw [e] at q
      exact ifF rfl q
    | true =>
      rw [e] at q
      exact ifT rfl ⟨_, rfl, _, _, _, _, _, rfl, .ty "bool", hd.ty, kit_bool d, _, rfl, q⟩
def btw (lo hi : Int) : PyData → Bool
  | .int i => decide (lo ≤ i) && decide (i ≤ hi)
  | _ => false
def spBtw (K : PySem.W.Frag) : Sp := fun vs H Q _ => ∃ (x : V) (d : PyData) (lo hi : Int), vs = [x, .int lo, .int hi] ∧ Do K H x d ∧ Q (.bl (btw lo hi d)) H
theorem btw_not {lo hi : Int} {d : PyData} (h : isI d = false) : btw lo hi d = false := by cases d <;> first | rfl | cases h
theorem ok_is_between (T : Tx K mg) : FnG P w K mg base CX0 2 (He.ga K "is_between") (spBtw K) := by
  refine mk_is_between T.d (fun vs H Q E h => ?_) (fun cdv A outer s H vs Q E hg hr h => ?_)
  · obtain ⟨x, d, lo, hi, rfl, _⟩ := h
    rfl
  · obtain ⟨x, d, lo, hi, rfl, hd, q⟩ := h
    refine ⟨_, pss_one (ps_ret (pe_and (pe_callG (ok_is_integer T) hr hg (by rfl) (T.g "is_integer" (by decide +kernel)) (kp_is_integer T.d) pass0 (pa_cons (pv 0) pa_nil))
      (pe_one (pe_chain op_le op_le (pv 1) (pv 0) (pv 2))))), ?_⟩
    refine ⟨_, rfl, x, d, rfl, hd, _, rfl, ?_⟩
    cases e : isI d with
    | false =>
      rw [btw_not e] at q
      exact ifF rfl q
    | true =>
      cases hd with
      | int i =>
        refine ifT rfl ⟨_, rfl, _, rfl, _, _, rfl, rfl, _, rfl, ?_⟩
        have q : Q (.bl (decide (lo ≤ i) && decide (i ≤ hi))) H := q
        by_cases h : lo ≤ i
        · rw [decide_eq_true h] at q
          exact ifT (decide_eq_true h) ⟨_, rfl, _, _, rfl, rfl, q⟩
        · rw [decide_eq_false h] at q
          exact ifF (decide_eq_false h) q
      | _ => cases e
end
end K07

namespace K07
open PySem PySem.Spec PyProof.Rows L2 Ver Num
section
variable {P : Program} {w : World} {K : PySem.W.Frag} {mg : Str → Option Value} {base : Heap}
theorem doall_len {H : Hp} : ∀ {xs : List V} {ds : List PyData}, DoAll K H xs ds → xs.length = ds.length
  | [], [], _ => rfl
  | x :: xs, d :: ds, h => by
    cases h with
    | cons h1 h2 => rw [List.length_cons, List.length_cons, doall_len h2]
  | [], _ :: _, h => by cases h
  | _ :: _, [], h => by cases h
/-- a pair of ints in lowest terms, the lower one from 2 on -/
def frac : PyData → Bool
  | .tuple [.int t, .int b] => decide (2 ≤ b) && decide (Nat.gcd t.natAbs b.natAbs = 1)
  | _ => false
def frac2 : PyData → PyData → Bool
  | .int t, .int b => decide (2 ≤ b) && decide (Nat.gcd t.natAbs b.natAbs = 1)
  | _, _ => false
theorem frac_two (d e : PyData) : frac (.tuple [d, e]) = frac2 d e := by cases d <;> cases e <;> rfl
theorem frac_not {d : PyData} (h : is_tuple d = false) : frac d = false := by cases d <;> first | rfl | cases h
theorem frac_len {ds : List PyData} (h : ds.length ≠ 2) : frac (.tuple ds) = false := by
  match ds, h with
  | [], _ => rfl
  | [d1], _ => cases d1 <;> rfl
  | [_, _], h => exact absurd rfl h
  | d1 :: d2 :: _ :: _, _ => cases d1 <;> cases d2 <;> rfl
def spFrac (K : PySem.W.Frag) : Sp := fun vs H Q _ => ∃ (x : V) (d : PyData), vs = [x] ∧ Do K H x d ∧ Q (.bl (frac d)) H
theorem ok_is_fraction (T : Tx K mg) : FnG P w K mg base CX0 2 (He.ga K "is_fraction") (spFrac K) := by
  refine mk_is_fraction T.d (fun vs H Q E h => ?_) (fun cdv A outer s H vs Q E hg hr h => ?_)
  · obtain ⟨x, d, rfl, _⟩ := h
    rfl
  · obtain ⟨x, d, rfl, hd, q⟩ := h
    have nd := sc_is_fraction.nd
    have gi := T.g "is_integer" (by decide +kernel)
    refine ⟨_, pss_cons (ps_if (PW.pt (pw_or (pt_not (pt_val (pe_callB call_isi (by rfl) (T.z "isinstance" (by decide +kernel)) (by decide +kernel) (pa_cons (pv 0) (pa_cons (pe_bltn (v := .ty "tuple") (by rfl) (T.z "tuple" (by decide +kernel)) (by decide +kernel) rfl) pa_nil)))))
        (pw_or1 (pt_cmpR op_ne (pe_callB call_len_seq (by rfl) (T.z "len" (by decide +kernel)) (by decide +kernel) (pa_cons (pv 0) pa_nil)) pe_int (nomark _))))) (pss_one (ps_ret pe_bl)) pss_nil)
      (pss_cons (ps_asg (pv 0) (pg_tup rfl (pgs_cons (pg_name (i := 1) nd rfl (.inl rfl)) (pgs_cons (pg_name (i := 2) nd rfl (.inl rfl)) pgs_nil))))
      (pss_one (ps_ret (pe_and (pe_callG (ok_is_integer T) hr hg (by rfl) gi (kp_is_integer T.d) pass0 (pa_cons (pv 1) pa_nil))
        (pe_and (pe_callG (ok_is_integer T) hr hg (by rfl) gi (kp_is_integer T.d) pass0 (pa_cons (pv 2) pa_nil))
        (pe_and (pe_cmpR op_ge (pv 2) pe_int (nomark _)) (pe_one (pe_cmpR op_eq (pe_callBfun cr_gcd (by rfl) T.gcd (pa_cons (pv 1) (pa_cons (pv 2) pa_nil))) pe_int (nomark _))))))))), ?_⟩
    refine ⟨_, rfl, _, _, _, _, _, rfl, .ty "tuple", hd.ty, kit_tuple d, _, rfl, ?_⟩
    cases e : is_tuple d with
    | false =>
      rw [frac_not e] at q
      exact ifT rfl (ifT rfl q)
    | true =>
      refine ifF rfl ?_
      cases hd with
      | tup hs ha =>
        rename_i a xs ds
        have lx := doall_len ha
        refine ⟨_, rfl, a, _, rfl, .inr hs, rfl, _, rfl, ?_⟩
        rw [iEq]
        by_cases l2 : ds.length = 2
        · refine ifF (by rw [decide_eq_true (show ((xs.length : Nat) : Int) = 2 by omega)]; rfl) ?_
          obtain ⟨d1, d2, rfl⟩ : ∃ d1 d2, ds = [d1, d2] := by
            match ds, l2 with
            | [d1, d2], _ => exact ⟨d1, d2, rfl⟩
          obtain ⟨x1, x2, rfl⟩ : ∃ x1 x2, xs = [x1, x2] := by
            have lx2 : xs.length = 2 := lx
            match xs, lx2 with
            | [x1, x2], _ => exact ⟨x1, x2, rfl⟩
          rw [frac_two] at q
          cases ha with
          | cons h1 ha =>
            cases ha with
            | cons h2 _ =>
              refine ⟨_, rfl, a, _, rfl, hs, rfl, _, _, rfl, _, _, rfl, rfl, ?_⟩
              refine ⟨_, rfl, x1, d1, rfl, h1, _, rfl, ?_⟩
              cases e1 : isI d1 with
              | false =>
                refine ifF rfl ?_
                have z : frac2 d1 d2 = false := by cases d1 <;> first | rfl | cases e1
                rw [z] at q
                exact q
              | true =>
                refine ifT rfl ⟨_, rfl, x2, d2, rfl, h2, _, rfl, ?_⟩
                cases e2 : isI d2 with
                | false =>
                  refine ifF rfl ?_
                  have z : frac2 d1 d2 = false := by cases d1 <;> cases d2 <;> first | rfl | cases e2
                  rw [z] at q
                  exact q
                | true =>
                  refine ifT rfl ?_
                  cases h1 with
                  | int t =>
                    cases h2 with
                    | int b =>
                      have q : Q (.bl (decide (2 ≤ b) && decide (Nat.gcd t.natAbs b.natAbs = 1))) H := q
                      refine ⟨_, rfl, _, _, rfl, rfl, _, rfl, ?_⟩
                      by_cases hb : 2 ≤ b
                      · rw [decide_eq_true hb] at q
                        refine ifT (decide_eq_true hb) ⟨_, rfl, _, rfl, t, b, rfl, rfl, ?_⟩
                        rw [iEq]
                        by_cases g : Nat.gcd t.natAbs b.natAbs = 1
                        · rw [decide_eq_true g] at q
                          rw [decide_eq_true (show ((Nat.gcd t.natAbs b.natAbs : Nat) : Int) = 1 by omega)]
                          exact q
                        · rw [decide_eq_false g] at q
                          rw [decide_eq_false (show ¬ ((Nat.gcd t.natAbs b.natAbs : Nat) : Int) = 1 by omega)]
                          exact q
                      · rw [decide_eq_false hb] at q
                        exact ifF (decide_eq_false hb) q
                    | _ => cases e2
                  | _ => cases e1
        · rw [frac_len l2] at q
          exact ifT (by rw [decide_eq_false (show ¬ ((xs.length : Nat) : Int) = 2 by omega)]; rfl) q
      | _ => cases e
end
end K07

namespace K07
open PySem PySem.Spec PyProof.Rows L2 Ver Num
def absI (i : Int) : Int := if i < 0 then -i else i
theorem ten9 : (10 : Int) ^ (9 : Int).toNat = 1000000000 := by decide
/-- a fraction: an int, or a pair of ints -/
def NumQ (H : Hp) (x : V) (q : Rat) : Prop := (q.den = 1 ∧ x = .int q.num) ∨ (q.den ≠ 1 ∧ ∃ a, x = .ref a ∧ H a = some (.tup [.int q.num, .int (q.den : Int)]))
theorem NumQ.same {H H' : Hp} {x : V} {q : Rat} (h : NumQ H x q) (s : Same H H') : NumQ H' x q := by
  rcases h with h | ⟨d, a, e, h⟩
  · exact .inl h
  · exact .inr ⟨d, a, e, s _ _ h⟩
theorem NumQ.int {H : Hp} {x : V} {q : Rat} {t : Int} (h1 : q.num = t) (h2 : q.den = 1) (e : x = .int t) : NumQ H x q := .inl ⟨h2, by rw [h1]; exact e⟩
/-- passed numbers -/
def Ok100 (q : Rat) : Prop := absI q.num < FL ∧ (q.den : Int) < FL
/-- // by any divisor but 0, also a great one -/
theorem op_fdivZ {X : Cx} : OpR X (binaryOp .FloorDiv) (rI (fun _ j => j ≠ 0 ∧ j.natAbs.log2 < 9000) fun i j => .int (i.fdiv j)) := opI fun _ _ _ _ _ _ _ hc q => floordiv_int hc.1 q (.inl (PyProof.noPylong_of_log2 hc.2))
theorem log_lt {n a : Nat} (h : n < 2 ^ a) (h0 : 0 < a) (h9 : a ≤ 9000) : n.log2 < 9000 := Nat.lt_of_lt_of_le (PySem.Flt.log2_lt_of h0 h) h9
theorem dvs_log {t b : Int} {a : Nat} (hb : b ≠ 0) (h : b.natAbs < 2 ^ a) (h0 : 0 < a) (h9 : a ≤ 9000) : (dvs t b).natAbs.log2 < 9000 := by
  have l : Nat.gcd t.natAbs b.natAbs ≤ b.natAbs := Nat.gcd_le_right _ (by omega)
  refine log_lt (a := a) ?_ h0 h9
  unfold dvs
  split <;> omega
theorem dvs_neg {t b : Int} (h : b < 0) : dvs t b = -((Nat.gcd t.natAbs b.natAbs : Nat) : Int) := if_pos h
theorem dvs_nn {t b : Int} (h : ¬ b < 0) : dvs t b = ((Nat.gcd t.natAbs b.natAbs : Nat) : Int) := if_neg h
/-! ### as data -/
def dq (q : Rat) : PyData := if q.den = 1 then .int q.num else .tuple [.int q.num, .int (q.den : Int)]
theorem dq_int {q : Rat} (h : q.den = 1) : dq q = .int q.num := if_pos h
theorem dq_tup {q : Rat} (h : q.den ≠ 1) : dq q = .tuple [.int q.num, .int (q.den : Int)] := if_neg h
theorem dp_q {K : PySem.W.Frag} {H : Hp} {x : V} {q : Rat} (h : NumQ H x q) : Dp K H x (dq q) := by
  rcases h with ⟨d, e⟩ | ⟨d, a, e, h⟩
  · rw [dq_int d, e]
    exact .int _
  · rw [dq_tup d, e]
    exact .tup (.inl (.inl h)) (.cons (.int _) (.cons (.int _) .nil))
theorem pf_look (v : V) : ([(("_prime" : Str), v)] : List (Str × V)).lookup ("_prime" : Str) = some v := by simp [List.lookup]
theorem pf_no (v : V) {m : Str} (h : (m == ("_prime" : Str)) = false) : ([(("_prime" : Str), v)] : List (Str × V)).lookup m = none := by simp [List.lookup, h]
theorem ok_bq {q : Rat} (o : Ok100 q) : Bq 333 q := by
  have h1 := o.1
  have h2 := o.2
  unfold absI FL at h1
  unfold FL at h2
  have e : (2 : Nat) ^ 333 = 17498005798264095394980017816940970922825355447145699491406164851279623993595007385788105416184430592 := by decide
  unfold Bq
  rw [e]
  split at h1 <;> omega
theorem den_bq {n : Nat} {q : Rat} (h : Bq n q) : ((q.den : Nat) : Int).natAbs < 2 ^ n := h.2
theorem to4000 {n k : Nat} (h : k < 2 ^ n) (hn : n ≤ 4000) : k < 2 ^ 4000 := Nat.lt_of_lt_of_le h (Nat.pow_le_pow_right (by decide) hn)
section
variable {P : Program} {w : World} {K : PySem.W.Frag} {mg : Str → Option Value} {base : Heap}
/-! ### is_prime -/
theorem call_isqrt {X : Cx} : CallR X (.builtin "math.isqrt") (fun vs H Q => ∃ a : Int, vs = [.int a] ∧ 0 ≤ a ∧ a < 2 ^ 64 ∧ Q (.int ((Float64.isqrt a.toNat : Nat) : Int)) H) := by
  intro pins s σ H vs us Q I r h
  obtain ⟨a, rfl, h0, h1, q⟩ := h
  obtain ⟨u, rfl, t, rfl⟩ := vals1 r
  exact PySem.W.mg_isqrt h0 h1 ⟨.int _, H, I.tok _, ⟨_, rfl⟩, q⟩
def spIsPrime : Sp := fun vs H Q _ => ∃ v : Int, vs = [.int v] ∧ prB Float64.isqrt v = true ∧ Float64.isqrt v.toNat ≤ 1000000 ∧ Q (.bl true) H
theorem range_odd (r : Nat) : Builtin.Range.rangeSize 3 ((r : Int) + 1) 2 = (((r + 1 - 3 + 1) / 2 : Nat) : Int) := by
  unfold Builtin.Range.rangeSize
  rw [if_pos (by decide)]
  by_cases h : (3 : Int) < (r : Int) + 1
  · rw [if_pos h]
    omega
  · rw [if_neg h]
    omega
theorem small_odd {r : Nat} (h : r ≤ 1000000) : Builtin.Range.small 3 ((r : Int) + 1) 2 = true := by
  unfold Builtin.Range.small
  rw [range_odd]
  have h2 : (r + 1 - 3 + 1) / 2 ≤ 1000000 := by omega
  generalize (r + 1 - 3 + 1) / 2 = n at h2
  have f1 : ∀ i : Int, 0 ≤ i → i ≤ 2000000 → Builtin.Range.rangeFitsLong i = true := fun i h0 h1 => by
    unfold Builtin.Range.rangeFitsLong
    rw [decide_eq_true (show -(2 ^ 63 : Int) ≤ i by omega), decide_eq_true (show i < (2 ^ 63 : Int) by omega)]
    rfl
  rw [f1 3 (by omega) (by omega), f1 ((r : Int) + 1) (by omega) (by omega), f1 2 (by omega) (by omega), f1 (n : Int) (by omega) (by omega), if_pos (by decide), f1 ((r : Int) + 1 + (2 - 1)) (by omega) (by omega), Bool.or_true]
  rfl
theorem ok_is_prime (T : Tx K mg) : FnG P w K mg base CX0 3 (He.ga K "is_prime") spIsPrime := by
  refine mk_is_prime T.d (fun vs H Q E h => ?_) (fun cdv A outer s H vs Q E hg hr h => ?_)
  · obtain ⟨v, rfl, _⟩ := h
    rfl
  · obtain ⟨v, rfl, hp, hq, q⟩ := h
    obtain ⟨tg, gp⟩ := T.gp
    have hp1 : ((decide (2 ≤ v) && decide (v ≤ 1000000000)) && (if v % 2 = 0 then decide (v = 2) else oddOk v.toNat ((Float64.isqrt v.toNat + 1 - 3 + 1) / 2))) = true := hp
    rw [Bool.and_eq_true, Bool.and_eq_true] at hp1
    obtain ⟨⟨p1, p2⟩, p3⟩ := hp1
    have v2 : 2 ≤ v := of_decide_eq_true p1
    have v9 : v ≤ 1000000000 := of_decide_eq_true p2
    refine ⟨_, pss_cons (ps_if (pt_not (pt_val (pe_callG (ok_is_between T) hr hg (by rfl) (T.g "is_between" (by decide +kernel)) (kp_is_between T.d) pass0 (pa_cons (pv 0) (pa_cons pe_int (pa_cons (pe_glob (v := .int 1000000000) (by rfl) gp ⟨_, rfl⟩) pa_nil)))))) (pss_one (ps_ret pe_bl)) pss_nil)
      (pss_cons (ps_if (pt_cmpR op_eq (pe_op op_and (pv 0) pe_int) pe_int (nomark _)) (pss_one (ps_ret (pe_cmpR op_eq (pv 0) pe_int (nomark _)))) pss_nil)
      (pss_cons (ps_for PassesOwn.never rfl (pi_range3 (by rfl) (T.z "range" (by decide +kernel)) (pa_cons pe_int (pa_cons (pe_op op_add (pe_callBfun call_isqrt (by rfl) T.isq (pa_cons (pv 0) pa_nil)) pe_int) (pa_cons pe_int pa_nil)))) (pg_name (i := 1) sc_is_prime.nd rfl (.inl rfl))
        (pss_one (ps_if (pt_cmpR op_eq (pe_op op_mod (pv 0) (pv 1)) pe_int (nomark _)) (pss_one (ps_ret pe_bl)) pss_nil)))
      (pss_one (ps_ret pe_bl)))), ?_⟩
    refine ⟨_, rfl, .int v, .int v, 2, 1000000000, rfl, .int v, _, rfl, ?_⟩
    show (if (!(decide (2 ≤ v) && decide (v ≤ 1000000000))) = true then _ else _)
    rw [p1, p2]
    refine ifF rfl ⟨_, rfl, _, _, rfl, rfl, rfl, _, rfl, ?_⟩
    rw [iEq, bitAnd_m1]
    by_cases e : v % 2 = 0
    · rw [if_pos e] at p3
      refine ifT (decide_eq_true e) ⟨_, rfl, rfl, ?_⟩
      rw [iEq, p3]
      exact q
    · rw [if_neg e] at p3
      refine ifF (decide_eq_false e) ⟨_, rfl, v, rfl, by omega, by omega, _, _, rfl, rfl, 3, _, 2, _, rfl, ⟨by decide, by decide, small_odd hq, range_odd _⟩, ?_⟩
      refine for_rangeC (lo := 3) (c := 2) (fun i σ H' => ∃ d : Option V, σ = [some (.int v), d] ∧ H' = H) ⟨none, rfl, rfl⟩ ?_ ?_
      · rintro i σ H' hi ⟨d, rfl, rfl⟩
        refine ⟨_, rfl, _, rfl, _, _, rfl, rfl, (by show (0 : Int) < 3 + (i : Int) * 2; omega), rfl, _, rfl, ?_⟩
        rw [iEq]
        refine ifF (decide_eq_false fun z => ?_) ⟨_, rfl, rfl⟩
        have o := List.all_eq_true.mp p3 i (List.mem_range.mpr hi)
        have z2 : v.toNat % (3 + 2 * i) = 0 := by
          have e1 : ((v.toNat % (3 + 2 * i) : Nat) : Int) = v % (3 + (i : Int) * 2) := by
            rw [Int.natCast_emod]
            congr 1
            · omega
            · rw [Int.natCast_add, Int.natCast_mul]
              omega
          omega
        rw [z2] at o
        cases o
      · rintro σ H' ⟨d, rfl, rfl⟩
        exact q
def spFInit (K : PySem.W.Frag) : Sp := fun vs H Q _ => ∃ (f C dx : Addr) (p : Int), vs = [.ref f, .int p] ∧ FC K C ∧ H f = some (.ins C dx []) ∧ Q .non (upd H f (.ins C dx [(("_prime" : Str), V.int p)]))
theorem ok_finit (T : Tx K mg) : FnG P w K mg base CX0 1 (He.ma K (He.ga K "Field") "__init__") (spFInit K) := by
  refine mk_Field___init__ T.d (fun vs H Q E h => ?_) (fun cdv A outer s H vs Q E hg hr h => ?_)
  · obtain ⟨f, C, dx, p, rfl, _⟩ := h
    rfl
  · obtain ⟨f, C, dx, p, rfl, c, hf, q⟩ := h
    exact ⟨_, pss_one (ps_fld (pv 0) (pv 1) rfl), ⟨_, rfl, _, rfl, f, C, dx, [], rfl, hf, c.cl, c.np, (by show 0 < 1000; decide), q⟩⟩
def spMInit (K : PySem.W.Frag) : Sp := fun vs H Q _ => ∃ (f dx : Addr) (p : Int), vs = [.ref f, .int p] ∧ prB Float64.isqrt p = true ∧ Float64.isqrt p.toNat ≤ 1000000 ∧ H f = some (.ins (He.ga K "Modulo") dx []) ∧ Q .non (upd H f (.ins (He.ga K "Modulo") dx [(("_prime" : Str), V.int p)]))
theorem ok_minit (T : Tx K mg) : FnG P w K mg base CX0 4 (He.ma K (He.ga K "Modulo") "__init__") (spMInit K) := by
  refine mk_Modulo___init__ T.d (fun vs H Q E h => ?_) (fun cdv A outer s H vs Q E hg hr h => ?_)
  · obtain ⟨f, dx, p, rfl, _⟩ := h
    rfl
  · obtain ⟨f, dx, p, rfl, p1, p2, hf, q⟩ := h
    refine ⟨_, pss_cons (ps_if (pt_not (pt_val (pe_callG (ok_is_prime T) hr hg (by rfl) (T.g "is_prime" (by decide +kernel)) (kp_is_prime T.d) pass0 (pa_cons (pv 1) pa_nil)))) pss_never pss_nil)
      (pss_one (ps_expr (pe_clsG (by rfl) (T.g "Field" (by decide +kernel)) T.rdF T.gaF T.fiF (kp_Field___init__ T.d) (ok_finit T) (hr.mono (by decide)) hg pass0 (pa_cons (pv 0) (pa_cons (pv 1) pa_nil))))), ?_⟩
    exact ⟨_, rfl, p, rfl, p1, p2, _, rfl, ifF rfl ⟨_, rfl, _, rfl, f, _, dx, p, rfl, T.fcM, hf, q⟩⟩
def spFInitF (K : PySem.W.Frag) : Sp := fun vs H Q _ => ∃ (f C dx : Addr), vs = [.ref f, .non] ∧ FC K C ∧ H f = some (.ins C dx []) ∧ Q .non (upd H f (.ins C dx [(("_prime" : Str), V.non)]))
theorem ok_finitF (T : Tx K mg) : FnG P w K mg base CX0 1 (He.ma K (He.ga K "Field") "__init__") (spFInitF K) := by
  refine mk_Field___init__ T.d (fun vs H Q E h => ?_) (fun cdv A outer s H vs Q E hg hr h => ?_)
  · obtain ⟨f, C, dx, rfl, _⟩ := h
    rfl
  · obtain ⟨f, C, dx, rfl, c, hf, q⟩ := h
    exact ⟨_, pss_one (ps_fld (pv 0) (pv 1) rfl), ⟨_, rfl, _, rfl, f, C, dx, [], rfl, hf, c.cl, c.np, (by show 0 < 1000; decide), q⟩⟩
def spFracInit (K : PySem.W.Frag) : Sp := fun vs H Q _ => ∃ (f dx : Addr), vs = [.ref f] ∧ H f = some (.ins (He.ga K "Fractions") dx []) ∧ Q .non (upd H f (.ins (He.ga K "Fractions") dx [(("_prime" : Str), V.non)]))
theorem ok_fracinit (T : Tx K mg) : FnG P w K mg base CX0 2 (He.ma K (He.ga K "Fractions") "__init__") (spFracInit K) := by
  refine mk_Fractions___init__ T.d (fun vs H Q E h => ?_) (fun cdv A outer s H vs Q E hg hr h => ?_)
  · obtain ⟨f, dx, rfl, _⟩ := h
    rfl
  · obtain ⟨f, dx, rfl, hf, q⟩ := h
    refine ⟨_, pss_one (ps_expr (pe_clsG (by rfl) (T.g "Field" (by decide +kernel)) T.rdF T.gaF T.fiF (kp_Field___init__ T.d) (ok_finitF T) hr hg pass0 (pa_cons (pv 0) (pa_cons pe_non pa_nil)))), ?_⟩
    exact ⟨_, rfl, f, _, dx, rfl, T.fcF, hf, q⟩
end
end K07

namespace K07
open PySem PySem.Spec PyProof.Rows L2 Ver Num
/-! ### both kinds of fields -/
/-- what the text asks of a prime that it draws -/
structure Pm (p : Int) : Prop where
  md : Md p
  pr : prB Float64.isqrt p = true
  sq : Float64.isqrt p.toNat ≤ 1000000
theorem pm2 : Pm 2 := ⟨md2, by decide +kernel, by decide +kernel⟩
theorem pm3 : Pm 3 := ⟨md3, by decide +kernel, by decide +kernel⟩
theorem pm5 : Pm 5 := ⟨md5, by decide +kernel, by decide +kernel⟩
theorem pm7 : Pm 7 := ⟨md7, by decide +kernel, by decide +kernel⟩
theorem pm101 : Pm 101 := ⟨md101, by decide +kernel, by decide +kernel⟩
theorem pm1000003 : Pm 1000003 := ⟨md1000003, by decide +kernel, by decide +kernel⟩
def pval : Fk → V
  | .fr => .non
  | .md p => .int p
def okP : Fk → Prop
  | .fr => True
  | .md p => Pm p
def FieldC (K : PySem.W.Frag) (H : Hp) (f : Addr) (φ : Fk) : Prop := ∃ C dx, FC K C ∧ MC K C ∧ H f = some (.ins C dx [(("_prime" : Str), pval φ)])
theorem FieldC.same {K : PySem.W.Frag} {H H' : Hp} {f : Addr} {φ : Fk} (F : FieldC K H f φ) (s : Same H H') : FieldC K H' f φ := by
  obtain ⟨C, dx, c, m, e⟩ := F
  exact ⟨C, dx, c, m, s _ _ e⟩
theorem FieldC.but {K : PySem.W.Frag} {H H' : Hp} {f d : Addr} {φ : Fk} {k : Int} (F : FieldC K H f φ) (pen : PenAt H d k) (b : But d H H') : FieldC K H' f φ := by
  obtain ⟨C, dx, c, m, e⟩ := F
  obtain ⟨cc, cells, b1, l, h1, _⟩ := pen.ex
  exact ⟨C, dx, c, m, b.1 _ _ e (ne_of e h1 (by intro z; cases z))⟩
theorem go_methG {K : PySem.W.Frag} {σ : L2.St} {H : Hp} {f : Addr} {φ : Fk} {i : Nat} {Q : VK} {m : Str} {sp : Sp} {E : XK} {t : TA} (h0 : σ[i]? = some (some (.ref f))) (F : FieldC K H f φ)
    (hm : m ∈ (["is_number", "text", "read", "holds"] : List Str)) (hn : (m == ("_prime" : Str)) = false)
    (q : t σ H fun vs H2 => sp (.ref f :: vs) H2 Q E) : tMethG K m (He.ma K (He.ga K "Field") m) sp E (tVar i) t σ H Q := by
  obtain ⟨C, dx, c, mm, e⟩ := F
  exact ⟨.ref f, h0, f, C, dx, _, rfl, e, c.cl, c.m m hm, pf_no _ hn, q⟩
theorem rd_prime {K : PySem.W.Frag} {σ : L2.St} {H : Hp} {f : Addr} {φ : Fk} {i : Nat} {Q : VK} (h0 : σ[i]? = some (some (.ref f))) (F : FieldC K H f φ) (q : Q (pval φ) H) : tFld K (tVar i) "_prime" σ H Q := by
  obtain ⟨C, dx, c, m, e⟩ := F
  exact ⟨.ref f, h0, f, C, dx, _, pval φ, rfl, e, c.cl, c.np, pf_look _, q⟩
/-! ### parts, is_longer -/
def two : PyData → Option (Int × Int)
  | .int t => some (t, 1)
  | .tuple [.int t, .int b] => some (t, b)
  | _ => none
theorem two_cases {d : PyData} {t b : Int} (h : two d = some (t, b)) : (d = .int t ∧ b = 1) ∨ d = .tuple [.int t, .int b] := by
  unfold two at h
  split at h
  · cases h
    exact .inl ⟨rfl, rfl⟩
  · cases h
    exact .inr rfl
  · cases h
theorem do_pair {K : PySem.W.Frag} {H : Hp} {x : V} {t b : Int} (h : Do K H x (.tuple [.int t, .int b])) : ∃ a, x = .ref a ∧ SqT K H a [.int t, .int b] := by
  cases h with
  | tup hs ha =>
    cases ha with
    | cons h1 ha =>
      cases ha with
      | cons h2 ha =>
        cases ha
        cases h1
        cases h2
        exact ⟨_, rfl, hs⟩
theorem do_q {K : PySem.W.Frag} {H : Hp} {x : V} {q : Rat} (h : NumQ H x q) : Do K H x (dq q) := by
  rcases h with ⟨d, e⟩ | ⟨d, a, e, h⟩
  · rw [dq_int d, e]
    exact .int _
  · rw [dq_tup d, e]
    exact .tup (.inl (.inl h)) (.cons (.int _) (.cons (.int _) .nil))
section
variable {P : Program} {w : World} {K : PySem.W.Frag} {mg : Str → Option Value} {base : Heap}
def spParts (K : PySem.W.Frag) : Sp := fun vs H Q _ => ∃ (x : V) (d : PyData) (t b : Int), vs = [x] ∧ Do K H x d ∧ two d = some (t, b) ∧ ∀ (p : Addr) (H' : Hp), Same H H' → SqT K H' p [.int t, .int b] → Q (.ref p) H'
theorem ok_parts (T : Tx K mg) : FnG P w K mg base CX0 1 (He.ga K "parts") (spParts K) := by
  refine mk_parts T.d (fun vs H Q E h => ?_) (fun cdv A outer s H vs Q E hg hr h => ?_)
  · obtain ⟨x, d, t, b, rfl, _⟩ := h
    rfl
  · obtain ⟨x, d, t, b, rfl, hd, h2, q⟩ := h
    refine ⟨_, pss_one (ps_ret (pe_ifExp (pt_val (pe_callB call_isi (by rfl) (T.z "isinstance" (by decide +kernel)) (by decide +kernel) (pa_cons (pv 0) (pa_cons (pe_bltn (v := .ty "tuple") (by rfl) (T.z "tuple" (by decide +kernel)) (by decide +kernel) rfl) pa_nil))))
      (pv 0) (pe_tup (pa_cons (pv 0) (pa_cons pe_int pa_nil))))), ?_⟩
    refine ⟨_, rfl, _, _, _, _, _, rfl, .ty "tuple", hd.ty, kit_tuple d, _, rfl, ?_⟩
    rcases two_cases h2 with ⟨rfl, rfl⟩ | rfl
    · cases hd
      exact ifF rfl ⟨_, rfl, (by show 2 ≤ sizeLine; decide), fun p np => q p _ (same_up np) (.inl (.inl upd_same))⟩
    · obtain ⟨a, rfl, hs⟩ := do_pair hd
      exact ifT rfl ⟨_, rfl, q a H (Same.refl H) hs⟩
def spIsLonger (K : PySem.W.Frag) : Sp := fun vs H Q _ => ∃ (x : V) (d : PyData) (t b l : Int), vs = [x, .int l] ∧ Do K H x d ∧ two d = some (t, b) ∧ ∀ H' : Hp, Same H H' → Q (.bl (decide (l ≤ absI t) || decide (l ≤ b))) H'
theorem ok_is_longer (T : Tx K mg) : FnG P w K mg base CX0 2 (He.ga K "is_longer") (spIsLonger K) := by
  refine mk_is_longer T.d (fun vs H Q E h => ?_) (fun cdv A outer s H vs Q E hg hr h => ?_)
  · obtain ⟨x, d, t, b, l, rfl, _⟩ := h
    rfl
  · obtain ⟨x, d, t, b, l, rfl, hd, h2, q⟩ := h
    refine ⟨_, pss_cons (ps_asg (pe_callG (ok_parts T) hr hg (by rfl) (T.g "parts" (by decide +kernel)) (kp_parts T.d) pass0 (pa_cons (pv 0) pa_nil))
        (pg_tup rfl (pgs_cons (pg_name (i := 2) sc_is_longer.nd rfl (.inl rfl)) (pgs_cons (pg_name (i := 3) sc_is_longer.nd rfl (.inl rfl)) pgs_nil))))
      (pss_one (ps_ret (pe_or (pe_cmpR op_ge (pe_callB call_abs (by rfl) (T.z "abs" (by decide +kernel)) (by decide +kernel) (pa_cons (pv 2) pa_nil)) (pv 1) (nomark _))
        (pe_one (pe_cmpR op_ge (pv 3) (pv 1) (nomark _)))))), ?_⟩
    refine ⟨_, rfl, x, d, t, b, rfl, hd, h2, fun p H1 s1 hp => ?_⟩
    refine ⟨p, _, rfl, hp, rfl, _, _, rfl, _, _, rfl, rfl, ?_⟩
    refine ⟨_, rfl, _, rfl, _, rfl, _, _, rfl, rfl, _, rfl, ?_⟩
    have q1 := q H1 s1
    by_cases h : l ≤ absI t
    · rw [decide_eq_true h] at q1
      exact ifT (decide_eq_true h) q1
    · rw [decide_eq_false h] at q1
      exact ifF (decide_eq_false h) ⟨_, rfl, _, rfl, _, _, rfl, rfl, q1⟩
/-! ### holds, is_number -/
def holdsB : Fk → PyData → Bool
  | .fr, d => isI d || frac d
  | .md p, d => btw 0 (p - 1) d
theorem two_int {d : PyData} (h : isI d = true) : ∃ t, d = .int t := by
  cases d <;> first | exact ⟨_, rfl⟩ | cases h
theorem two_frac {d : PyData} (h : frac d = true) : ∃ t b, d = .tuple [.int t, .int b] ∧ 2 ≤ b ∧ Nat.gcd t.natAbs b.natAbs = 1 := by
  unfold frac at h
  split at h
  · rename_i t b
    rw [Bool.and_eq_true] at h
    exact ⟨t, b, rfl, of_decide_eq_true h.1, of_decide_eq_true h.2⟩
  · cases h
theorem btw_int {lo hi : Int} {d : PyData} (h : btw lo hi d = true) : ∃ t, d = .int t ∧ lo ≤ t ∧ t ≤ hi := by
  cases d <;> first | (rename_i t; have h : (decide (lo ≤ t) && decide (t ≤ hi)) = true := h; rw [Bool.and_eq_true] at h; exact ⟨t, rfl, of_decide_eq_true h.1, of_decide_eq_true h.2⟩) | cases h
theorem holds_two {φ : Fk} {d : PyData} (h : holdsB φ d = true) : ∃ t b, two d = some (t, b) := by
  cases φ with
  | fr =>
    have h : (isI d || frac d) = true := h
    rw [Bool.or_eq_true] at h
    rcases h with h | h
    · obtain ⟨t, rfl⟩ := two_int h
      exact ⟨t, 1, rfl⟩
    · obtain ⟨t, b, rfl, _⟩ := two_frac h
      exact ⟨t, b, rfl⟩
  | md p =>
    obtain ⟨t, rfl, _⟩ := btw_int h
    exact ⟨t, 1, rfl⟩
/-- at least so great above or below -/
def longB (l : Int) (d : PyData) : Bool := match two d with
  | some (t, b) => decide (l ≤ absI t) || decide (l ≤ b)
  | none => false
theorem longB_two {l : Int} {d : PyData} {t b : Int} (h : two d = some (t, b)) : longB l d = (decide (l ≤ absI t) || decide (l ≤ b)) := by
  unfold longB
  rw [h]
def numB (φ : Fk) (d : PyData) : Bool := holdsB φ d && !longB FL d
def spHolds (K : PySem.W.Frag) : Sp := fun vs H Q _ => ∃ (f : Addr) (x : V) (d : PyData) (φ : Fk), vs = [.ref f, x] ∧ FieldC K H f φ ∧ Do K H x d ∧ okP φ ∧ Q (.bl (holdsB φ d)) H
theorem ok_holds (T : Tx K mg) : FnG P w K mg base CX0 3 (He.ma K (He.ga K "Field") "holds") (spHolds K) := by
  refine mk_Field_holds T.d (fun vs H Q E h => ?_) (fun cdv A outer s H vs Q E hg hr h => ?_)
  · obtain ⟨f, x, d, φ, rfl, _⟩ := h
    rfl
  · obtain ⟨f, x, d, φ, rfl, F, hd, ok, q⟩ := h
    refine ⟨_, pss_cons (ps_if (pt_cmp (pc_notN (pe_fld (pv 0) rfl))) (pss_one (ps_ret (pe_callG (ok_is_between T) hr hg (by rfl) (T.g "is_between" (by decide +kernel)) (kp_is_between T.d) pass0 (pa_cons (pv 1) (pa_cons pe_int (pa_cons (pe_op op_sub (pe_fld (pv 0) rfl) pe_int) pa_nil)))))) pss_nil)
      (pss_one (ps_ret (pe_or (pe_callG (ok_is_integer T) (hr.mono (by decide)) hg (by rfl) (T.g "is_integer" (by decide +kernel)) (kp_is_integer T.d) pass0 (pa_cons (pv 1) pa_nil))
        (pe_one (pe_callG (ok_is_fraction T) hr hg (by rfl) (T.g "is_fraction" (by decide +kernel)) (kp_is_fraction T.d) pass0 (pa_cons (pv 1) pa_nil)))))), ?_⟩
    cases φ with
    | fr =>
      refine rd_prime rfl F ⟨_, rfl, ifF rfl ?_⟩
      have q : Q (.bl (isI d || frac d)) H := q
      refine ⟨_, rfl, x, d, rfl, hd, _, rfl, ?_⟩
      cases e : isI d with
      | true =>
        rw [e] at q
        exact ifT rfl q
      | false =>
        rw [e] at q
        exact ifF rfl ⟨_, rfl, x, d, rfl, hd, q⟩
    | md p =>
      refine rd_prime rfl F ⟨_, rfl, ifT rfl ?_⟩
      obtain ⟨C, dx, c, m, e⟩ := F
      exact ⟨_, rfl, _, rfl, f, C, dx, _, .int p, rfl, e, c.cl, c.np, pf_look _, _, _, rfl, rfl, x, d, 0, p - 1, rfl, hd, q⟩
def spIsNumber (K : PySem.W.Frag) : Sp := fun vs H Q _ => ∃ (f : Addr) (x : V) (d : PyData) (φ : Fk), vs = [.ref f, x] ∧ FieldC K H f φ ∧ Do K H x d ∧ okP φ ∧ ∀ H', Same H H' → Q (.bl (numB φ d)) H'
theorem ok_is_number (T : Tx K mg) : FnG P w K mg base CX0 4 (He.ma K (He.ga K "Field") "is_number") (spIsNumber K) := by
  refine mk_Field_is_number T.d (fun vs H Q E h => ?_) (fun cdv A outer s H vs Q E hg hr h => ?_)
  · obtain ⟨f, x, d, φ, rfl, _⟩ := h
    rfl
  · obtain ⟨f, x, d, φ, rfl, F, hd, ok, q⟩ := h
    obtain ⟨tl, gl⟩ := T.fl
    refine ⟨_, pss_one (ps_ret (pe_and (pe_methG (pv 0) (kp_Field_holds T.d) (ok_holds T) hr hg pass0 (pa_cons (pv 1) pa_nil))
      (pe_one (pe_not (pe_callG (ok_is_longer T) (hr.mono (by decide)) hg (by rfl) (T.g "is_longer" (by decide +kernel)) (kp_is_longer T.d) pass0 (pa_cons (pv 1) (pa_cons (pe_glob (v := .int FL) (by rfl) gl ⟨_, rfl⟩) pa_nil))))))), ?_⟩
    refine go_methG rfl F (by decide +kernel) (by decide +kernel) ⟨_, rfl, f, x, d, φ, rfl, F, hd, ok, _, rfl, ?_⟩
    have q : ∀ H', Same H H' → Q (.bl (holdsB φ d && !longB FL d)) H' := q
    cases e : holdsB φ d with
    | false =>
      rw [e] at q
      exact ifF rfl (q H (Same.refl H))
    | true =>
      obtain ⟨t, b, h2⟩ := holds_two e
      rw [e, longB_two h2] at q
      exact ifT rfl ⟨_, rfl, x, d, t, b, FL, rfl, hd, h2, fun H' s' => ⟨_, rfl, q H' s'⟩⟩
end
end K07

namespace K07
open PySem PySem.Spec PyProof.Rows L2 Ver Num
theorem NumQ.but {H H' : Hp} {x : V} {q : Rat} {d : Addr} {k : Int} (h : NumQ H x q) (pen : PenAt H d k) (b : But d H H') : NumQ H' x q := by
  obtain ⟨cc, cells, b1, l, h1, _⟩ := pen.ex
  rcases h with h | ⟨e, a, ex, h⟩
  · exact .inl h
  · exact .inr ⟨e, a, ex, b.1 _ _ h (ne_of h h1 (by intro z; cases z))⟩
theorem abs_nat {n : Int} : absI n = (n.natAbs : Int) := by
  unfold absI
  split <;> omega
theorem fl_bits : FL < 2 ^ 333 := by
  unfold FL
  decide
theorem fl_nat {n : Nat} (h : (n : Int) < FL) : n < 2 ^ 333 := by
  have h2 := Int.lt_trans h fl_bits
  have e : ((2 : Int) ^ 333) = ((2 ^ 333 : Nat) : Int) := by rw [Int.natCast_pow]; rfl
  rw [e] at h2
  exact Int.ofNat_lt.mp h2
theorem ok100_div {t b : Int} (h : absI t < FL) (b0 : 0 < b) (b9 : b < FL) : Ok100 (Rat.divInt t b) := by
  obtain ⟨_, _, _, _, h5, h6⟩ := dvs_out (t := t) (show b ≠ 0 by omega)
  rw [abs_nat] at h
  refine ⟨?_, ?_⟩
  · rw [abs_nat]
    omega
  · omega
section
variable {P : Program} {w : World} {K : PySem.W.Frag} {mg : Str → Option Value} {base : Heap}
def spShort : Sp := fun vs H Q _ => ∃ (t b : Int), vs = [.int t, .int b] ∧ b ≠ 0 ∧ b.natAbs < 2 ^ 4000 ∧ ∀ (x : V) (H' : Hp), Same H H' → NumQ H' x (Rat.divInt t b) → Q x H'
def spTens : Sp := fun vs H Q _ => vs = [.int 100] ∧ Q (.int FL) H
theorem ok_tens (T : Tx K mg) : FnG P w K mg base CX0 1 (He.ga K "_law_tens") spTens := by
  refine mk__law_tens T.d (fun vs H Q E h => ?_) (fun cdv A outer s H vs Q E hg hr h => ?_)
  · obtain ⟨rfl, _⟩ := h
    rfl
  · obtain ⟨rfl, q⟩ := h
    have nd := sc__law_tens.nd
    refine ⟨_, pss_cons (ps_set (i := 1) nd rfl (Or.inl rfl) pe_int)
      (pss_cons (ps_for PassesOwn.never rfl (pi_range1 (by rfl) (T.z "range" (by decide +kernel)) (pa_cons (pv 0) pa_nil)) (pg_name (i := 2) nd rfl (.inl rfl))
        (pss_one (ps_set (i := 1) nd rfl (Or.inl rfl) (pe_op op_mul pe_int (pv 1)))))
      (pss_one (ps_ret (pv 1)))), ?_⟩
    refine ⟨_, rfl, _, rfl, by decide, by decide, ?_⟩
    refine for_range (lo := 0) (fun i σ H' => ∃ v : Option V, σ = [some (.int 100), some (.int (10 ^ i)), v] ∧ H' = H) ⟨none, rfl, rfl⟩ ?_ ?_
    · rintro i σ H' hi ⟨v, rfl, rfl⟩
      have e : (10 : Int) * 10 ^ i = 10 ^ (i + 1) := by rw [Int.pow_succ, Int.mul_comm]
      exact ⟨_, rfl, _, _, rfl, rfl, .inl ⟨by decide, by decide⟩, some (.int (0 + (i : Int))), by rw [← e]; rfl, rfl⟩
    · rintro σ H' ⟨v, rfl, rfl⟩
      have e : (10 : Int) ^ (100 : Int).toNat = FL := by decide
      refine ⟨_, rfl, ?_⟩
      rw [e]
      exact q
def spSigned : Sp := fun vs H Q _ => ∃ (d : Addr) (k n : Int), vs = [.ref d, .int n] ∧ PenAt H d k ∧ k < 1000000 ∧ ∀ (m : Int) (H' : Hp), absI m = absI n → But d H H' → PenAt H' d (k + 1) → Q (.int m) H'
theorem ok_signed (T : Tx K mg) : FnG P w K mg base CX0 2 (He.ga K "_law_signed") spSigned := by
  refine mk__law_signed T.d (fun vs H Q E h => ?_) (fun cdv A outer s H vs Q E hg hr h => ?_)
  · obtain ⟨d, k, n, rfl, _⟩ := h
    rfl
  · obtain ⟨d, k, n, rfl, pen, k9, q⟩ := h
    refine ⟨_, pss_one (ps_ret (pe_ifExp (pt_cmpR op_eq (pe_callG (ok_draw T) hr hg (by rfl) (T.g "_law_draw" (by decide +kernel)) (kp__law_draw T.d) pass0 (pa_cons (pv 0) (pa_cons pe_int pa_nil))) pe_int (nomark _))
      (pv 1) (pe_op op_sub pe_int (pv 1)))), ?_⟩
    refine ⟨_, rfl, d, k, 2, rfl, pen, by omega, by decide, by decide, fun i H1 bt pen1 i0 i1 => ⟨rfl, _, rfl, ?_⟩⟩
    rw [iEq]
    by_cases e : i = 0
    · exact ifT (decide_eq_true e) ⟨_, rfl, q _ H1 rfl bt pen1⟩
    · refine ifF (decide_eq_false e) ⟨_, rfl, _, _, rfl, rfl, q _ H1 ?_ bt pen1⟩
      unfold absI
      split <;> split <;> omega
def spGcd : Sp := fun vs H Q _ => ∃ (a b : Int), vs = [.int a, .int b] ∧ Q (.int ((Nat.gcd a.natAbs b.natAbs : Nat) : Int)) H
theorem ok_gcd (T : Tx K mg) : FnG P w K mg base CX0 1 (He.ga K "_law_gcd") spGcd := by
  refine mk__law_gcd T.d (fun vs H Q E h => ?_) (fun cdv A outer s H vs Q E hg hr h => ?_)
  · obtain ⟨a, b, rfl, _⟩ := h
    rfl
  · obtain ⟨a, b, rfl, q⟩ := h
    refine ⟨_, pss_cons (ps_while PassesOwn.never (pt_cmpR op_ne (pv 1) pe_int (nomark _))
        (pss_one (ps_par (i := 0) (j := 1) rfl sc__law_gcd.nd rfl rfl (by decide) rfl rfl (pa_cons (pv 1) (pa_cons (pe_op op_modN (pe_callTy call_int1 (by rfl) (T.z "int" (by decide +kernel)) (by decide +kernel) (pa_cons (pv 0) pa_nil)) (pv 1)) pa_nil)) (by rfl))))
      (pss_one (ps_ret (pe_callB call_abs (by rfl) (T.z "abs" (by decide +kernel)) (by decide +kernel) (pa_cons (pv 0) pa_nil)))), ?_⟩
    refine ⟨fun k σ H' => ∃ x y : Int, k = y.natAbs ∧ H' = H ∧ σ = [some (.int x), some (.int y)] ∧ Int.gcd x y = Int.gcd a b, ⟨_, a, b, rfl, rfl, rfl, rfl⟩, ?_⟩
    rintro k σ H' ⟨x, y, rfl, rfl, rfl, g⟩
    refine ⟨_, rfl, rfl, _, rfl, ?_⟩
    rw [iEq]
    by_cases y0 : y = 0
    · subst y0
      refine ifF (by decide) ⟨_, rfl, _, rfl, ?_⟩
      have e : (if x < 0 then -x else x) = ((Nat.gcd a.natAbs b.natAbs : Nat) : Int) := by
        have g2 : x.natAbs = Nat.gcd a.natAbs b.natAbs := by
          rw [Int.gcd_zero_right] at g
          exact g
        rw [← g2]
        split <;> omega
      rw [e]
      exact q
    · refine ifT (by rw [decide_eq_false y0]; rfl) ?_
      refine ⟨fun σ' H'' => ∃ x' y' : Int, y'.natAbs < y.natAbs ∧ H'' = H' ∧ σ' = [some (.int x'), some (.int y')] ∧ Int.gcd x' y' = Int.gcd a b, ?_, ?_⟩
      · rintro σ' H' ⟨x', y', hlt, e1, e2, e3⟩
        exact ⟨_, hlt, x', y', rfl, e1, e2, e3⟩
      · refine ⟨_, rfl, _, rfl, .inl ⟨_, rfl, _, rfl, _, _, rfl, rfl, y0, _, _, rfl, ?_⟩⟩
        exact ⟨_, _, fmod_lt y0, rfl, rfl, by rw [gcd_fmod]; exact g⟩
theorem dvs_neg0 {t b : Int} (h : b < 0) : dvs t b = 0 - ((Nat.gcd t.natAbs b.natAbs : Nat) : Int) := by
  rw [dvs_neg h]
  omega
theorem ok_told (T : Tx K mg) : FnG P w K mg base CX0 2 (He.ga K "_law_told") spShort := by
  refine mk__law_told T.d (fun vs H Q E h => ?_) (fun cdv A outer s H vs Q E hg hr h => ?_)
  · obtain ⟨t, b, rfl, _⟩ := h
    rfl
  · obtain ⟨t, b, rfl, b0, bb, q⟩ := h
    have nd := sc__law_told.nd
    have gg := T.g "_law_gcd" (by decide +kernel)
    refine ⟨_, pss_cons (ps_set (i := 2) nd rfl (Or.inl rfl) (pe_ifExp (pt_cmpR op_gt (pv 1) pe_int (nomark _)) (pe_callG (ok_gcd T) hr hg (by rfl) gg (kp__law_gcd T.d) pass0 (pa_cons (pv 0) (pa_cons (pv 1) pa_nil)))
        (pe_op op_sub pe_int (pe_callG (ok_gcd T) hr hg (by rfl) gg (kp__law_gcd T.d) pass0 (pa_cons (pv 0) (pa_cons (pv 1) pa_nil))))))
      (pss_one (ps_ret (pe_ifExp (pt_cmpR op_eq (pv 1) (pv 2) (nomark _)) (pe_op op_fdivZ (pv 0) (pv 2)) (pe_tup (pa_cons (pe_op op_fdivZ (pv 0) (pv 2)) (pa_cons (pe_op op_fdivZ (pv 1) (pv 2)) pa_nil)))))), ?_⟩
    obtain ⟨o1, o2, o3, o4, _, _⟩ := dvs_out (t := t) b0
    have o5 := dvs_log (t := t) b0 bb (by decide) (by decide)
    refine ⟨_, rfl, _, _, rfl, rfl, _, rfl, ?_⟩
    by_cases hn : b < 0
    · rw [dvs_neg0 hn] at o1 o2 o3 o4 o5
      refine ifF (decide_eq_false (by omega)) ⟨_, rfl, _, rfl, t, b, rfl, _, _, rfl, rfl, ?_⟩
      refine ⟨_, rfl, _, rfl, rfl, _, rfl, ?_⟩
      rw [iEq]
      by_cases e : b = 0 - ((Nat.gcd t.natAbs b.natAbs : Nat) : Int)
      · exact ifT (decide_eq_true e) ⟨_, rfl, _, rfl, _, _, rfl, rfl, ⟨o1, o5⟩, q _ H (Same.refl H) (NumQ.int o2.symm (o4.mp e) rfl)⟩
      · refine ifF (decide_eq_false e) ⟨_, rfl, _, rfl, _, _, rfl, rfl, ⟨o1, o5⟩, _, rfl, _, rfl, _, _, rfl, rfl, ⟨o1, o5⟩, by show 2 ≤ sizeLine; decide, fun p np => q _ _ (same_up np) (.inr ⟨fun z => e (o4.mpr z), p, rfl, ?_⟩)⟩
        rw [← o2, ← o3]
        exact upd_same
    · rw [dvs_nn hn] at o1 o2 o3 o4 o5
      refine ifT (decide_eq_true (by omega)) ⟨_, rfl, _, rfl, t, b, rfl, ?_⟩
      refine ⟨_, rfl, _, rfl, rfl, _, rfl, ?_⟩
      rw [iEq]
      by_cases e : b = ((Nat.gcd t.natAbs b.natAbs : Nat) : Int)
      · exact ifT (decide_eq_true e) ⟨_, rfl, _, rfl, _, _, rfl, rfl, ⟨o1, o5⟩, q _ H (Same.refl H) (NumQ.int o2.symm (o4.mp e) rfl)⟩
      · refine ifF (decide_eq_false e) ⟨_, rfl, _, rfl, _, _, rfl, rfl, ⟨o1, o5⟩, _, rfl, _, rfl, _, _, rfl, rfl, ⟨o1, o5⟩, by show 2 ≤ sizeLine; decide, fun p np => q _ _ (same_up np) (.inr ⟨fun z => e (o4.mpr z), p, rfl, ?_⟩)⟩
        rw [← o2, ← o3]
        exact upd_same
def spFar : Sp := fun vs H Q _ => ∃ (d : Addr) (k : Int), vs = [.ref d] ∧ PenAt H d k ∧ k < 500000 ∧ ∀ (n : Int) (H' : Hp), 0 ≤ n → n < FL → But d H H' → PenAt H' d (k + 20) → Q (.int n) H'
theorem ok_far (T : Tx K mg) : FnG P w K mg base CX0 3 (He.ga K "_law_far") spFar := by
  refine mk__law_far T.d (fun vs H Q E h => ?_) (fun cdv A outer s H vs Q E hg hr h => ?_)
  · obtain ⟨d, k, rfl, _⟩ := h
    rfl
  · obtain ⟨d, k, rfl, pen, k9, q⟩ := h
    have nd := sc__law_far.nd
    have gp := T.g "_law_pick" (by decide +kernel)
    have gd := T.g "_law_draw" (by decide +kernel)
    refine ⟨_, pss_cons (ps_set (i := 1) nd rfl (Or.inl rfl) pe_int)
      (pss_cons (ps_for PassesOwn.never rfl (pi_range1 (by rfl) (T.z "range" (by decide +kernel)) (pa_cons (pe_callG (ok_pick T) hr hg (by rfl) gp (kp__law_pick T.d) pass0 (pa_cons (pv 0) (pa_cons (pe_lst (pa_cons pe_int (pa_cons pe_int (pa_cons pe_int (pa_cons pe_int pa_nil))))) pa_nil))) pa_nil)) (pg_name (i := 2) nd rfl (.inl rfl))
        (pss_one (ps_set (i := 1) nd rfl (Or.inl rfl) (pe_op op_add (pe_op op_mul (pv 1) (pe_op op_pow pe_int pe_int)) (pe_callG (ok_draw T) (hr.mono (by decide)) hg (by rfl) gd (kp__law_draw T.d) pass0 (pa_cons (pv 0) (pa_cons (pe_op op_pow pe_int pe_int) pa_nil)))))))
      (pss_one (ps_ret (pe_callG (ok_pick T) hr hg (by rfl) gp (kp__law_pick T.d) pass0 (pa_cons (pv 0) (pa_cons (pe_lst (pa_cons (pv 1) (pa_cons (pv 1) (pa_cons (pv 1) (pa_cons
        (pe_op op_sub (pe_op op_sub (pe_callG (ok_tens T) (hr.mono (by decide)) hg (by rfl) (T.g "_law_tens" (by decide +kernel)) (kp__law_tens T.d) pass0 (pa_cons pe_int pa_nil)) pe_int) (pe_callG (ok_draw T) (hr.mono (by decide)) hg (by rfl) gd (kp__law_draw T.d) pass0 (pa_cons (pv 0) (pa_cons pe_int pa_nil)))) pa_nil))))) pa_nil)))))), ?_⟩
    refine ⟨_, rfl, by show 4 ≤ sizeLine; decide, fun l nl => ?_⟩
    have s0 := same_up (o := .lst [V.int 1, V.int 1, V.int 3, V.int 10]) nl
    refine ⟨d, l, k, _, rfl, pen.same s0, by omega, upd_same, by show 0 < 4; decide, by show 4 < 1000; decide, fun x H1 hx bt1 pen1 => ?_⟩
    obtain ⟨m, rfl, m0, m10⟩ : ∃ m : Int, x = .int m ∧ 0 ≤ m ∧ m ≤ 10 := by
      simp only [List.mem_cons, List.not_mem_nil, or_false] at hx
      rcases hx with rfl | rfl | rfl | rfl
      · exact ⟨1, rfl, by decide, by decide⟩
      · exact ⟨1, rfl, by decide, by decide⟩
      · exact ⟨3, rfl, by decide, by decide⟩
      · exact ⟨10, rfl, by decide, by decide⟩
    have bt := (But.same s0).trans bt1
    refine ⟨m, rfl, by omega, by omega, ?_⟩
    refine for_range (lo := 0) (fun i σ H' => ∃ (n : Int) (v : Option V), σ = [some (.ref d), some (.int n), v] ∧ 0 ≤ n ∧ n < 10 ^ (9 * i) ∧ But d H H' ∧ PenAt H' d (k + 1 + i)) ⟨0, none, rfl, by decide, by decide, bt, pen1.mono (by omega)⟩ ?_ ?_
    · rintro i σ H2 hi ⟨n, v, rfl, n0, n9, bt2, pen2⟩
      refine ⟨_, rfl, _, _, rfl, rfl, ⟨by decide, by decide, by decide⟩, _, _, rfl, rfl, .inr ⟨by rw [ten9]; decide, by rw [ten9]; decide⟩, ?_⟩
      refine ⟨_, rfl, _, _, rfl, rfl, ⟨by decide, by decide, by decide⟩, d, _, _, rfl, pen2, by omega, by rw [ten9]; decide, by rw [ten9]; decide, fun x H3 bt3 pen3 x0 x1 => ?_⟩
      rw [ten9] at x1
      refine ⟨_, _, rfl, rfl, _, _, rfl, ?_, ?_, bt2.trans bt3, pen3.mono (by omega)⟩
      · rw [ten9]
        omega
      · rw [ten9, show 9 * (i + 1) = 9 * i + 9 by omega, Int.pow_add]
        have e9 : (10 : Int) ^ 9 = 1000000000 := by decide
        rw [e9]
        omega
    · rintro σ H2 ⟨n, v, rfl, n0, n9, bt2, pen2⟩
      have nFL : n < FL := by
        refine Int.lt_trans n9 ?_
        have e : (10 : Int) ^ (9 * m.toNat) ≤ 10 ^ 90 := by
          have c : ∀ j : Nat, (10 : Int) ^ j = ((10 ^ j : Nat) : Int) := fun j => by rw [Int.natCast_pow]; rfl
          rw [c, c]
          exact Int.ofNat_le.mpr (Nat.pow_le_pow_right (by decide) (by omega))
        have e2 : (10 : Int) ^ 90 < FL := by unfold FL; decide
        omega
      refine ⟨_, rfl, _, rfl, _, rfl, _, rfl, rfl, _, _, rfl, rfl, _, rfl, d, _, 3, rfl, pen2, by omega, by decide, by decide, fun x H3 bt3 pen3 x0 x1 => ⟨_, _, rfl, rfl, by show 4 ≤ sizeLine; decide, fun l2 nl2 => ?_⟩⟩
      have s3 := same_up (o := .lst [V.int n, V.int n, V.int n, V.int (FL - 1 - x)]) nl2
      refine ⟨d, l2, _, _, rfl, pen3.same s3, by omega, upd_same, by show 0 < 4; decide, by show 4 < 1000; decide, fun y H4 hy bt4 pen4 => ?_⟩
      have b4 := (bt2.trans bt3).trans ((But.same s3).trans bt4)
      have p4 : PenAt H4 d (k + 20) := pen4.mono (by omega)
      have fl3 : 3 < FL := by unfold FL; decide
      simp only [List.mem_cons, List.not_mem_nil, or_false] at hy
      rcases hy with rfl | rfl | rfl | rfl
      · exact q _ H4 n0 nFL b4 p4
      · exact q _ H4 n0 nFL b4 p4
      · exact q _ H4 n0 nFL b4 p4
      · exact q _ H4 (by omega) (by omega) b4 p4
def spPrime : Sp := fun vs H Q _ => ∃ (d : Addr) (k : Int), vs = [.ref d] ∧ PenAt H d k ∧ k < 1000000000000 ∧ ∀ (p : Int) (H' : Hp), Pm p → But d H H' → PenAt H' d (k + 1) → Q (.int p) H'
theorem ok_lprime (T : Tx K mg) : FnG P w K mg base CX0 3 (He.ga K "_law_prime") spPrime := by
  refine mk__law_prime T.d (fun vs H Q E h => ?_) (fun cdv A outer s H vs Q E hg hr h => ?_)
  · obtain ⟨d, k, rfl, _⟩ := h
    rfl
  · obtain ⟨d, k, rfl, pen, k9, q⟩ := h
    refine ⟨_, pss_one (ps_ret (pe_callG (ok_pick T) hr hg (by rfl) (T.g "_law_pick" (by decide +kernel)) (kp__law_pick T.d) pass0
      (pa_cons (pv 0) (pa_cons (pe_lst (pa_cons pe_int (pa_cons pe_int (pa_cons pe_int (pa_cons pe_int (pa_cons pe_int (pa_cons pe_int (pa_cons pe_int (pa_cons pe_int pa_nil))))))))) pa_nil)))), ?_⟩
    refine ⟨_, rfl, by show 8 ≤ sizeLine; decide, fun l nl => ?_⟩
    have s0 := same_up (o := .lst [V.int 2, V.int 2, V.int 3, V.int 3, V.int 5, V.int 7, V.int 101, V.int 1000003]) nl
    refine ⟨d, l, k, _, rfl, pen.same s0, k9, upd_same, by show 0 < 8; decide, by show 8 < 1000; decide, fun x H1 hx bt pen1 => ?_⟩
    have b := (But.same s0).trans bt
    simp only [List.mem_cons, List.not_mem_nil, or_false] at hx
    rcases hx with rfl | rfl | rfl | rfl | rfl | rfl | rfl | rfl
    · exact q _ H1 pm2 b pen1
    · exact q _ H1 pm2 b pen1
    · exact q _ H1 pm3 b pen1
    · exact q _ H1 pm3 b pen1
    · exact q _ H1 pm5 b pen1
    · exact q _ H1 pm7 b pen1
    · exact q _ H1 pm101 b pen1
    · exact q _ H1 pm1000003 b pen1
def spNumber : Sp := fun vs H Q _ => ∃ (d : Addr) (k p : Int), vs = [.ref d, .int p] ∧ PenAt H d k ∧ k < 1000000000 ∧ Md p ∧ ∀ (a : Int) (H' : Hp), 0 ≤ a → a < p → But d H H' → PenAt H' d (k + 2) → Q (.int a) H'
theorem ok_number (T : Tx K mg) : FnG P w K mg base CX0 3 (He.ga K "_law_number") spNumber := by
  refine mk__law_number T.d (fun vs H Q E h => ?_) (fun cdv A outer s H vs Q E hg hr h => ?_)
  · obtain ⟨d, k, p, rfl, _⟩ := h
    rfl
  · obtain ⟨d, k, p, rfl, pen, k9, m, q⟩ := h
    have hlo := m.lo
    have hhi := m.hi
    refine ⟨_, pss_one (ps_ret (pe_callG (ok_pick T) hr hg (by rfl) (T.g "_law_pick" (by decide +kernel)) (kp__law_pick T.d) pass0
      (pa_cons (pv 0) (pa_cons (pe_lst (pa_cons pe_int (pa_cons pe_int (pa_cons pe_int (pa_cons (pe_op op_sub (pe_callTy call_int1 (by rfl) (T.z "int" (by decide +kernel)) (by decide +kernel) (pa_cons (pv 1) pa_nil)) pe_int)
        (pa_cons (pe_callG (ok_draw T) (hr.mono (by decide)) hg (by rfl) (T.g "_law_draw" (by decide +kernel)) (kp__law_draw T.d) pass0 (pa_cons (pv 0) (pa_cons (pv 1) pa_nil))) pa_nil)))))) pa_nil)))), ?_⟩
    refine ⟨_, rfl, _, rfl, .inl ⟨_, rfl, _, _, rfl, rfl, _, rfl, _, rfl, d, k, p, rfl, pen, by omega, by omega, by omega, fun i H1 bt pen1 i0 i1 => ⟨by show 5 ≤ sizeLine; decide, fun l nl => ?_⟩⟩⟩
    have s0 := same_up (o := .lst [V.int 0, V.int 0, V.int 1, V.int (p - 1), V.int i]) nl
    refine ⟨d, l, k + 1, _, rfl, pen1.same s0, by omega, upd_same, by show 0 < 5; decide, by show 5 < 1000; decide, fun x H2 hx bt2 pen2 => ?_⟩
    have b := bt.trans ((But.same s0).trans bt2)
    have pen3 : PenAt H2 d (k + 2) := pen2.mono (by omega)
    simp only [List.mem_cons, List.not_mem_nil, or_false] at hx
    rcases hx with rfl | rfl | rfl | rfl | rfl
    · exact q _ H2 (by omega) (by omega) b pen3
    · exact q _ H2 (by omega) (by omega) b pen3
    · exact q _ H2 (by omega) (by omega) b pen3
    · exact q _ H2 (by omega) (by omega) b pen3
    · exact q _ H2 i0 i1 b pen3
def spAnyPrime : Sp := fun vs H Q _ => ∃ (d : Addr) (k : Int), vs = [.ref d] ∧ PenAt H d k ∧ k < 100000 ∧ ∀ (φ : Fk) (H' : Hp), okP φ → But d H H' → PenAt H' d (k + 2) → Q (.int φ.code) H'
theorem ok_any_prime (T : Tx K mg) : FnG P w K mg base CX0 4 (He.ga K "_law_any_prime") spAnyPrime := by
  refine mk__law_any_prime T.d (fun vs H Q E h => ?_) (fun cdv A outer s H vs Q E hg hr h => ?_)
  · obtain ⟨d, k, rfl, _⟩ := h
    rfl
  · obtain ⟨d, k, rfl, pen, k9, q⟩ := h
    refine ⟨_, pss_one (ps_ret (pe_callG (ok_pick T) (hr.mono (by decide)) hg (by rfl) (T.g "_law_pick" (by decide +kernel)) (kp__law_pick T.d) pass0
      (pa_cons (pv 0) (pa_cons (pe_lst (pa_cons pe_int (pa_cons (pe_callG (ok_lprime T) hr hg (by rfl) (T.g "_law_prime" (by decide +kernel)) (kp__law_prime T.d) pass0 (pa_cons (pv 0) pa_nil)) pa_nil))) pa_nil)))), ?_⟩
    refine ⟨_, rfl, _, rfl, d, k, rfl, pen, by omega, fun p H1 pm bt1 pen1 => ⟨by show 2 ≤ sizeLine; decide, fun l nl => ?_⟩⟩
    have s1 := same_up (o := .lst [V.int 0, V.int p]) nl
    refine ⟨d, l, _, _, rfl, pen1.same s1, by omega, upd_same, by show 0 < 2; decide, by show 2 < 1000; decide, fun x H2 hx bt2 pen2 => ?_⟩
    have c := bt1.trans ((But.same s1).trans bt2)
    simp only [List.mem_cons, List.not_mem_nil, or_false] at hx
    rcases hx with rfl | rfl
    · exact q .fr H2 trivial c (pen2.mono (by omega))
    · exact q (.md p) H2 pm c (pen2.mono (by omega))
def spMade (K : PySem.W.Frag) : Sp := fun vs H Q _ => ∃ φ : Fk, vs = [.int φ.code] ∧ okP φ ∧ ∀ (f : Addr) (H' : Hp), Same H H' → FieldC K H' f φ → Q (.ref f) H'
theorem made_same {H : Hp} {x dx : Addr} {o1 o2 o3 : HO} (hx : H x = none) (hd : H dx = none) : Same H (upd (upd (upd H dx o1) x o2) x o3) := fun b o e => by
  rw [upd_ne (ne_of_none e hx), upd_ne (ne_of_none e hx), upd_ne (ne_of_none e hd)]
  exact e
theorem ok_made (T : Tx K mg) : FnG P w K mg base CX0 6 (He.ga K "_law_made_field") (spMade K) := by
  refine mk__law_made_field T.d (fun vs H Q E h => ?_) (fun cdv A outer s H vs Q E hg hr h => ?_)
  · obtain ⟨φ, rfl, _⟩ := h
    rfl
  · obtain ⟨φ, rfl, ok, q⟩ := h
    refine ⟨_, pss_one (ps_ret (pe_ifExp (pt_cmpR op_eq (pv 0) pe_int (nomark _)) (pe_makeG0 T.mF.mkr (ok_fracinit T) (hr.mono (by decide)) hg (by rfl) (T.g "Fractions" (by decide +kernel)) pass0)
      (pe_makeG T.mM.mkr (ok_minit T) hr hg (by rfl) (T.g "Modulo" (by decide +kernel)) pass0 (pa_cons (pv 0) pa_nil)))), ?_⟩
    refine ⟨_, rfl, rfl, _, rfl, ?_⟩
    rw [iEq]
    cases φ with
    | fr => exact ifT (by decide) fun x dx nx nd ne => ⟨x, dx, rfl, upd_same, rfl, q x _ (made_same nx nd) ⟨_, dx, T.fcF, T.mF, upd_same⟩⟩
    | md p =>
      have hlo := (show Pm p from ok).md.lo
      refine ifF (decide_eq_false (show ¬ p = 0 by omega)) ⟨_, rfl, fun x dx nx nd ne => ⟨x, dx, p, rfl, (show Pm p from ok).pr, (show Pm p from ok).sq, upd_same, rfl, q x _ (made_same nx nd) ⟨_, dx, T.fcM, T.mM, upd_same⟩⟩⟩
def okM : Fk → Rat → Prop
  | .fr, _ => True
  | .md p, q => q.den = 1 ∧ 0 ≤ q.num ∧ q.num < p
def spAny : Sp := fun vs H Q _ => ∃ (d : Addr) (k : Int) (φ : Fk) (sm : Bool), vs = [.ref d, .int φ.code, .bl sm] ∧ okP φ ∧ PenAt H d k ∧ k < 100000 ∧ ∀ (x : V) (r : Rat) (H' : Hp), NumQ H' x r → Ok100 r → okM φ r → But d H H' → PenAt H' d (k + 60) → Q x H'
theorem ok_any (T : Tx K mg) : FnG P w K mg base CX0 4 (He.ga K "_law_any_number") spAny := by
  refine mk__law_any_number T.d (fun vs H Q E h => ?_) (fun cdv A outer s H vs Q E hg hr h => ?_)
  · obtain ⟨d, k, φ, sm, rfl, _⟩ := h
    rfl
  · obtain ⟨d, k, φ, sm, rfl, ok, pen, k9, q⟩ := h
    have nd := sc__law_any_number.nd
    have gp := T.g "_law_pick" (by decide +kernel)
    have gd := T.g "_law_draw" (by decide +kernel)
    have gs := T.g "_law_signed" (by decide +kernel)
    have gf := T.g "_law_far" (by decide +kernel)
    have hu := hr
    refine ⟨_, pss_cons (ps_if (pt_cmpR op_gt (pv 1) pe_int (nomark _)) (pss_one (ps_ret (pe_callG (ok_number T) hr hg (by rfl) (T.g "_law_number" (by decide +kernel)) (kp__law_number T.d) pass0 (pa_cons (pv 0) (pa_cons (pv 1) pa_nil))))) pss_nil)
      (pss_cons (ps_set (i := 3) nd rfl (Or.inl rfl) (pe_callG (ok_signed T) (hr.mono (by decide)) hg (by rfl) gs (kp__law_signed T.d) pass0 (pa_cons (pv 0) (pa_cons (pe_callG (ok_pick T) (hr.mono (by decide)) hg (by rfl) gp (kp__law_pick T.d) pass0 (pa_cons (pv 0) (pa_cons (pe_lst (pa_cons pe_int (pa_cons pe_int
          (pa_cons (pe_callG (ok_draw T) (hr.mono (by decide)) hg (by rfl) gd (kp__law_draw T.d) pass0 (pa_cons (pv 0) (pa_cons pe_int pa_nil)))
          (pa_cons (pe_callG (ok_draw T) (hr.mono (by decide)) hg (by rfl) gd (kp__law_draw T.d) pass0 (pa_cons (pv 0) (pa_cons (pe_op op_pow pe_int pe_int) pa_nil))) pa_nil))))) pa_nil))) pa_nil))))
      (pss_cons (ps_set (i := 4) nd rfl (Or.inl rfl) (pe_callG (ok_pick T) (hr.mono (by decide)) hg (by rfl) gp (kp__law_pick T.d) pass0 (pa_cons (pv 0) (pa_cons (pe_lst (pa_cons pe_int (pa_cons pe_int
          (pa_cons (pe_op op_add pe_int (pe_callG (ok_draw T) (hr.mono (by decide)) hg (by rfl) gd (kp__law_draw T.d) pass0 (pa_cons (pv 0) (pa_cons pe_int pa_nil))))
          (pa_cons (pe_op op_add pe_int (pe_callG (ok_draw T) (hr.mono (by decide)) hg (by rfl) gd (kp__law_draw T.d) pass0 (pa_cons (pv 0) (pa_cons (pe_op op_pow pe_int pe_int) pa_nil)))) pa_nil))))) pa_nil))))
      (pss_cons (ps_if (PW.pt (pw_and (pt_not (pt_val (pv 2))) (pw_and1 (pt_cmpR op_eq (pe_callG (ok_draw T) (hr.mono (by decide)) hg (by rfl) gd (kp__law_draw T.d) pass0 (pa_cons (pv 0) (pa_cons pe_int pa_nil))) pe_int (nomark _)))))
        (pss_one (ps_par (i := 3) (j := 4) rfl nd rfl rfl (by decide) rfl rfl
          (pa_cons (pe_callG (ok_signed T) (hr.mono (by decide)) hg (by rfl) gs (kp__law_signed T.d) pass0 (pa_cons (pv 0) (pa_cons (pe_callG (ok_far T) hr hg (by rfl) gf (kp__law_far T.d) pass0 (pa_cons (pv 0) pa_nil)) pa_nil)))
          (pa_cons (pe_callG (ok_pick T) (hr.mono (by decide)) hg (by rfl) gp (kp__law_pick T.d) pass0 (pa_cons (pv 0) (pa_cons (pe_lst (pa_cons pe_int (pa_cons pe_int
            (pa_cons (pe_callB (call_max2 rfl) (by rfl) (T.z "max" (by decide +kernel)) (by decide +kernel) (pa_cons pe_int (pa_cons (pe_callG (ok_far T) hr hg (by rfl) gf (kp__law_far T.d) pass0 (pa_cons (pv 0) pa_nil)) pa_nil))) pa_nil)))) pa_nil))) pa_nil)) (by rfl))) pss_nil)
      (pss_one (ps_ret (pe_callG (ok_told T) (hr.mono (by decide)) hg (by rfl) (T.g "_law_told" (by decide +kernel)) (kp__law_told T.d) pass0 (pa_cons (pv 3) (pa_cons (pv 4) pa_nil)))))))), ?_⟩
    have f9 : (1000000001 : Int) < FL := by unfold FL; decide
    refine ⟨_, rfl, _, _, rfl, rfl, _, rfl, ?_⟩
    cases φ with
    | md p =>
      have pm : Pm p := ok
      have hlo := pm.md.lo
      have hhi := pm.md.hi
      refine ifT (decide_eq_true (show (0 : Int) < p by omega)) ?_
      refine ⟨_, rfl, _, rfl, d, k, p, rfl, pen, by omega, pm.md, fun a H1 a0 ap bt pen1 => q _ (iq a) H1 (.inl ⟨rfl, rfl⟩) ⟨?_, ?_⟩ ⟨rfl, a0, ap⟩ bt (pen1.mono (by omega))⟩
      · show absI a < FL
        unfold absI
        split <;> omega
      · show (1 : Int) < FL
        omega
    | fr =>
      refine ifF (by decide) ?_
      -- the top
      refine ⟨_, rfl, _, rfl, _, rfl, d, k, 12, rfl, pen, by omega, by decide, by decide, fun x1 H1 bt1 pen1 x10 x11 => ?_⟩
      refine ⟨_, rfl, _, _, rfl, rfl, ⟨by decide, by decide, by decide⟩, d, _, _, rfl, pen1, by omega, by rw [ten9]; decide, by rw [ten9]; decide, fun x2 H2 bt2 pen2 x20 x21 => ⟨by show 4 ≤ sizeLine; decide, fun l nl => ?_⟩⟩
      rw [ten9] at x21
      have s2 := same_up (o := .lst [V.int 0, V.int 1, V.int x1, V.int x2]) nl
      refine ⟨d, l, _, _, rfl, pen2.same s2, by omega, upd_same, by show 0 < 4; decide, by show 4 < 1000; decide, fun y H3 hy bt3 pen3 => ?_⟩
      obtain ⟨t0, rfl, t00, t09⟩ : ∃ t0 : Int, y = .int t0 ∧ 0 ≤ t0 ∧ t0 < 1000000000 := by
        simp only [List.mem_cons, List.not_mem_nil, or_false] at hy
        rcases hy with rfl | rfl | rfl | rfl
        · exact ⟨0, rfl, by decide, by decide⟩
        · exact ⟨1, rfl, by decide, by decide⟩
        · exact ⟨x1, rfl, x10, by omega⟩
        · exact ⟨x2, rfl, x20, x21⟩
      have c3 := (bt1.trans bt2).trans ((But.same s2).trans bt3)
      refine ⟨d, _, t0, rfl, pen3, by omega, fun t H4 ht bt4 pen4 => ?_⟩
      have c4 := c3.trans bt4
      have tFL : absI t < FL := by
        rw [ht]
        unfold absI
        split <;> omega
      -- the bottom
      refine ⟨_, rfl, _, rfl, d, _, 12, rfl, pen4, by omega, by decide, by decide, fun z1 H5 bt5 pen5 z10 z11 => ?_⟩
      refine ⟨_, _, rfl, rfl, _, rfl, _, _, rfl, rfl, ⟨by decide, by decide, by decide⟩, d, _, _, rfl, pen5, by omega, by rw [ten9]; decide, by rw [ten9]; decide, fun z2 H6 bt6 pen6 z20 z21 => ?_⟩
      rw [ten9] at z21
      refine ⟨_, _, rfl, rfl, by show 4 ≤ sizeLine; decide, fun l2 nl2 => ?_⟩
      have s6 := same_up (o := .lst [V.int 1, V.int 1, V.int (1 + z1), V.int (1 + z2)]) nl2
      refine ⟨d, l2, _, _, rfl, pen6.same s6, by omega, upd_same, by show 0 < 4; decide, by show 4 < 1000; decide, fun y2 H7 hy2 bt7 pen7 => ?_⟩
      obtain ⟨b, rfl, b0, b9⟩ : ∃ b : Int, y2 = .int b ∧ 0 < b ∧ b ≤ 1000000000 := by
        simp only [List.mem_cons, List.not_mem_nil, or_false] at hy2
        rcases hy2 with rfl | rfl | rfl | rfl
        · exact ⟨1, rfl, by decide, by decide⟩
        · exact ⟨1, rfl, by decide, by decide⟩
        · exact ⟨_, rfl, by omega, by omega⟩
        · exact ⟨_, rfl, by omega, by omega⟩
      have c7 := (c4.trans (bt5.trans bt6)).trans ((But.same s6).trans bt7)
      have big : ∀ n : Int, 0 < n → n < FL → n.natAbs < 2 ^ 4000 := fun n h0 h1 => to4000 (fl_nat (n := n.natAbs) (by omega)) (by decide)
      refine ⟨_, rfl, _, rfl, ?_⟩
      cases sm with
      | true => 
        refine ifF rfl (ifF rfl ?_)
        refine ⟨_, rfl, _, rfl, t, b, rfl, by omega, big b b0 (by omega), fun x H8 s8 n8 => q x _ H8 n8 (ok100_div tFL b0 (by omega)) True.intro (c7.trans (But.same s8)) ((pen7.same s8).mono (by omega))⟩
      | false =>
        refine ifT rfl ?_
        refine ⟨_, rfl, d, _, 3, rfl, pen7, by omega, by decide, by decide, fun x3 H8 bt8 pen8 x30 x31 => ⟨rfl, _, rfl, ?_⟩⟩
        rw [iEq]
        have c8 := c7.trans bt8
        by_cases e : x3 = 0
        · refine ifT (decide_eq_true e) ?_
          refine ⟨_, rfl, _, rfl, d, _, rfl, pen8, by omega, fun n H9 n0 nF bt9 pen9 => ?_⟩
          refine ⟨d, _, n, rfl, pen9, by omega, fun t2 H10 ht2 bt10 pen10 => ?_⟩
          refine ⟨_, rfl, _, rfl, d, _, rfl, pen10, by omega, fun n2 H11 n20 n2F bt11 pen11 => ⟨_, _, rfl, by show 3 ≤ sizeLine; decide, fun l3 nl3 => ?_⟩⟩
          have s11 := same_up (o := .lst [V.int 1, V.int 2, V.int (if n2 > 1 then n2 else 1)]) nl3
          refine ⟨d, l3, _, _, rfl, pen11.same s11, by omega, upd_same, by show 0 < 3; decide, by show 3 < 1000; decide, fun y3 H12 hy3 bt12 pen12 => ⟨_, _, rfl, ?_⟩⟩
          obtain ⟨b2, rfl, b20, b2F⟩ : ∃ b : Int, y3 = .int b ∧ 0 < b ∧ b < FL := by
            simp only [List.mem_cons, List.not_mem_nil, or_false] at hy3
            rcases hy3 with rfl | rfl | rfl
            · exact ⟨1, rfl, by decide, by omega⟩
            · exact ⟨2, rfl, by decide, by omega⟩
            · exact ⟨_, rfl, by split <;> omega, by split <;> omega⟩
          have c12 := ((c8.trans bt9).trans (bt10.trans bt11)).trans ((But.same s11).trans bt12)
          have t2F : absI t2 < FL := by
            rw [ht2]
            unfold absI
            split <;> omega
          refine ⟨_, rfl, _, rfl, t2, b2, rfl, by omega, big b2 b20 b2F, fun x H13 s13 n13 => q x _ H13 n13 (ok100_div t2F b20 b2F) True.intro (c12.trans (But.same s13)) ((pen12.same s13).mono (by omega))⟩
        · refine ifF (decide_eq_false e) ?_
          refine ⟨_, rfl, _, rfl, t, b, rfl, by omega, big b b0 (by omega), fun x H9 s9 n9 => q x _ H9 n9 (ok100_div tFL b0 (by omega)) True.intro (c8.trans (But.same s9)) ((pen8.same s9).mono (by omega))⟩
end
end K07

namespace K07
open PySem PySem.Spec PyProof.Rows L2 Ver Num
theorem fl_big : (1000000000 : Int) < FL := by unfold FL; decide
theorem long_int {t : Int} : longB FL (.int t) = decide (FL ≤ absI t) := by
  rw [longB_two (t := t) (b := 1) rfl, decide_eq_false (show ¬ FL ≤ 1 by have := fl_big; omega), Bool.or_false]
theorem numB_int_md {p t : Int} (pm : Pm p) : numB (.md p) (.int t) = (decide (0 ≤ t) && decide (t < p)) := by
  have h1 := pm.md.hi
  have h2 := fl_big
  show ((decide (0 ≤ t) && decide (t ≤ p - 1)) && !longB FL (.int t)) = _
  rw [long_int]
  by_cases a : 0 ≤ t
  · by_cases b : t < p
    · rw [decide_eq_true a, decide_eq_true b, decide_eq_true (show t ≤ p - 1 by omega), decide_eq_false (show ¬ FL ≤ absI t by unfold absI; split <;> omega)]
      rfl
    · rw [decide_eq_true a, decide_eq_false b, decide_eq_false (show ¬ t ≤ p - 1 by omega)]
      rfl
  · rw [decide_eq_false a]
    rfl
theorem numB_not_md {p : Int} {d : PyData} (h : isI d = false) : numB (.md p) d = false := by
  show (btw 0 (p - 1) d && _) = false
  rw [btw_not h]
  rfl
theorem not_le_lt (a b : Int) : (!decide (a ≤ b)) = decide (b < a) := by
  by_cases h : a ≤ b
  · rw [decide_eq_true h, decide_eq_false (show ¬ b < a by omega)]
    rfl
  · rw [decide_eq_false h, decide_eq_true (show b < a by omega)]
    rfl
theorem numB_int_fr {t : Int} : numB .fr (.int t) = decide (absI t < FL) := by
  show ((isI (.int t) || frac (.int t)) && !longB FL (.int t)) = _
  rw [long_int, show isI (.int t) = true from rfl, Bool.true_or, Bool.true_and, not_le_lt]
theorem numB_two_fr {t b : Int} : numB .fr (.tuple [.int t, .int b]) = ((decide (2 ≤ b) && decide (Nat.gcd t.natAbs b.natAbs = 1)) && (decide (absI t < FL) && decide (b < FL))) := by
  show ((false || (decide (2 ≤ b) && decide (Nat.gcd t.natAbs b.natAbs = 1))) && !longB FL (.tuple [.int t, .int b])) = _
  rw [longB_two (t := t) (b := b) rfl, Bool.false_or, Bool.not_or, not_le_lt, not_le_lt]
theorem numB_not_fr {d : PyData} (h : isI d = false) (h2 : frac d = false) : numB .fr d = false := by
  show ((isI d || frac d) && _) = false
  rw [h, h2]
  rfl
section
variable {P : Program} {w : World} {K : PySem.W.Frag} {mg : Str → Option Value} {base : Heap}
def spLNum (K : PySem.W.Frag) : Sp := fun vs H Q _ => ∃ (φ : Fk) (x : V) (d : PyData), vs = [.int φ.code, x] ∧ okP φ ∧ Do K H x d ∧ Q (.bl (numB φ d)) H
theorem ok_lnum (T : Tx K mg) : FnG P w K mg base CX0 2 (He.ga K "_law_is_number") (spLNum K) := by
  refine mk__law_is_number T.d (fun vs H Q E h => ?_) (fun cdv A outer s H vs Q E hg hr h => ?_)
  · obtain ⟨φ, x, d, rfl, _⟩ := h
    rfl
  · obtain ⟨φ, x, d, rfl, ok, hd, q⟩ := h
    have gw := T.g "_law_is_whole" (by decide +kernel)
    have gt := T.g "_law_tens" (by decide +kernel)
    have za := T.z "abs" (by decide +kernel)
    have ba : bootBuiltins "abs" = some (.builtin "abs") := by decide +kernel
    refine ⟨_, pss_cons (ps_if (pt_cmpR op_gt (pv 0) pe_int (nomark _)) (pss_one (ps_ret (pe_and (pe_callG (ok_is_whole T) hr hg (by rfl) gw (kp__law_is_whole T.d) pass0 (pa_cons (pv 1) pa_nil)) (pe_one (pe_chain op_le op_lt pe_int (pv 1) (pv 0)))))) pss_nil)
      (pss_cons (ps_if (pt_val (pe_callG (ok_is_whole T) hr hg (by rfl) gw (kp__law_is_whole T.d) pass0 (pa_cons (pv 1) pa_nil)))
        (pss_one (ps_ret (pe_cmpR op_lt (pe_callB call_abs (by rfl) za ba (pa_cons (pv 1) pa_nil)) (pe_callG (ok_tens T) hr hg (by rfl) gt (kp__law_tens T.d) pass0 (pa_cons pe_int pa_nil)) (nomark _)))) pss_nil)
      (pss_cons (ps_if (PW.pt (pw_or (pt_not (pt_val (pe_callB call_isi (by rfl) (T.z "isinstance" (by decide +kernel)) (by decide +kernel) (pa_cons (pv 1) (pa_cons (pe_bltn (v := .ty "tuple") (by rfl) (T.z "tuple" (by decide +kernel)) (by decide +kernel) rfl) pa_nil)))))
          (pw_or (pt_cmpR op_ne (pe_callB call_len_seq (by rfl) (T.z "len" (by decide +kernel)) (by decide +kernel) (pa_cons (pv 1) pa_nil)) pe_int (nomark _))
          (pw_or (pt_not (pt_val (pe_callG (ok_is_whole T) hr hg (by rfl) gw (kp__law_is_whole T.d) pass0 (pa_cons (pe_ix ix_tup (pv 1) pe_int (fun _ _ => rfl)) pa_nil))))
          (pw_or1 (pt_not (pt_val (pe_callG (ok_is_whole T) hr hg (by rfl) gw (kp__law_is_whole T.d) pass0 (pa_cons (pe_ix ix_tup (pv 1) pe_int (fun _ _ => rfl)) pa_nil))))))))) (pss_one (ps_ret pe_bl)) pss_nil)
      (pss_cons (ps_if (PW.pt (pw_or (pt_cmpR op_lt (pe_ix ix_tup (pv 1) pe_int (fun _ _ => rfl)) pe_int (nomark _))
          (pw_or1 (pt_cmpR op_ne (pe_callG (ok_gcd T) hr hg (by rfl) (T.g "_law_gcd" (by decide +kernel)) (kp__law_gcd T.d) pass0 (pa_cons (pe_ix ix_tup (pv 1) pe_int (fun _ _ => rfl)) (pa_cons (pe_ix ix_tup (pv 1) pe_int (fun _ _ => rfl)) pa_nil))) pe_int (nomark _))))) (pss_one (ps_ret pe_bl)) pss_nil)
      (pss_one (ps_ret (pe_and (pe_cmpR op_lt (pe_callB call_abs (by rfl) za ba (pa_cons (pe_ix ix_tup (pv 1) pe_int (fun _ _ => rfl)) pa_nil)) (pe_callG (ok_tens T) hr hg (by rfl) gt (kp__law_tens T.d) pass0 (pa_cons pe_int pa_nil)) (nomark _))
        (pe_one (pe_cmpR op_lt (pe_ix ix_tup (pv 1) pe_int (fun _ _ => rfl)) (pe_callG (ok_tens T) hr hg (by rfl) gt (kp__law_tens T.d) pass0 (pa_cons pe_int pa_nil)) (nomark _)))))))))  , ?_⟩
    refine ⟨_, rfl, _, _, rfl, rfl, _, rfl, ?_⟩
    cases φ with
    | md p =>
      have pm : Pm p := ok
      have hlo := pm.md.lo
      refine ifT (decide_eq_true (show (0 : Int) < p by omega)) ?_
      refine ⟨_, rfl, x, d, rfl, hd, _, rfl, ?_⟩
      cases e : isI d with
      | false =>
        rw [numB_not_md e] at q
        exact ifF rfl q
      | true =>
        cases hd with
        | int t =>
          rw [numB_int_md pm] at q
          refine ifT rfl ⟨_, rfl, _, _, rfl, rfl, _, rfl, ?_⟩
          by_cases a : 0 ≤ t
          · rw [decide_eq_true a] at q
            exact ifT (decide_eq_true a) ⟨_, rfl, _, _, rfl, rfl, q⟩
          · rw [decide_eq_false a] at q
            exact ifF (decide_eq_false a) q
        | _ => cases e
    | fr =>
      refine ifF (by decide) ?_
      refine ⟨_, rfl, x, d, rfl, hd, _, rfl, ?_⟩
      cases e : isI d with
      | true =>
        cases hd with
        | int t =>
          rw [numB_int_fr] at q
          exact ifT rfl ⟨_, rfl, _, rfl, rfl, _, _, rfl, rfl, q⟩
        | _ => cases e
      | false =>
        refine ifF rfl ?_
        refine ⟨_, rfl, _, _, _, _, _, rfl, .ty "tuple", hd.ty, kit_tuple d, _, rfl, ?_⟩
        cases e2 : is_tuple d with
        | false =>
          rw [numB_not_fr e (frac_not e2)] at q
          exact ifT rfl (ifT rfl q)
        | true =>
          refine ifF rfl ?_
          cases hd with
          | tup hs ha =>
            rename_i a xs ds
            have lx := doall_len ha
            refine ⟨_, rfl, a, _, rfl, .inr hs, rfl, _, rfl, ?_⟩
            rw [iEq]
            by_cases l2 : ds.length = 2
            · refine ifF (by rw [decide_eq_true (show ((xs.length : Nat) : Int) = 2 by omega)]; rfl) ?_
              obtain ⟨d1, d2, rfl⟩ : ∃ d1 d2, ds = [d1, d2] := by
                match ds, l2 with
                | [d1, d2], _ => exact ⟨d1, d2, rfl⟩
              obtain ⟨x1, x2, rfl⟩ : ∃ x1 x2, xs = [x1, x2] := by
                have lx2 : xs.length = 2 := lx
                match xs, lx2 with
                | [x1, x2], _ => exact ⟨x1, x2, rfl⟩
              cases ha with
              | cons h1 ha =>
                cases ha with
                | cons h2 _ =>
                  refine ⟨_, rfl, a, _, _, _, rfl, rfl, hs, rfl, x1, d1, rfl, h1, _, rfl, ?_⟩
                  cases e1 : isI d1 with
                  | false =>
                    rw [numB_not_fr e (by rw [frac_two]; cases d1 <;> first | rfl | cases e1)] at q
                    exact ifT rfl (ifT rfl q)
                  | true =>
                    refine ifF rfl ⟨_, rfl, a, _, _, _, rfl, rfl, hs, rfl, x2, d2, rfl, h2, _, rfl, ?_⟩
                    cases e3 : isI d2 with
                    | false =>
                      rw [numB_not_fr e (by rw [frac_two]; cases d1 <;> cases d2 <;> first | rfl | cases e3)] at q
                      exact ifT rfl q
                    | true =>
                      refine ifF rfl ?_
                      cases h1 with
                      | int t =>
                        cases h2 with
                        | int b =>
                          rw [numB_two_fr] at q
                          refine ⟨_, rfl, a, _, _, _, rfl, rfl, hs, rfl, _, _, rfl, rfl, _, rfl, ?_⟩
                          by_cases hb : 2 ≤ b
                          · rw [decide_eq_true hb] at q
                            refine ifF (decide_eq_false (by omega)) ?_
                            refine ⟨_, rfl, a, _, _, _, rfl, rfl, hs, rfl, _, rfl, a, _, _, _, rfl, rfl, hs, rfl, t, b, rfl, rfl, _, rfl, ?_⟩
                            rw [iEq]
                            by_cases g : Nat.gcd t.natAbs b.natAbs = 1
                            · rw [decide_eq_true g] at q
                              refine ifF (by rw [decide_eq_true (show ((Nat.gcd t.natAbs b.natAbs : Nat) : Int) = 1 by omega)]; rfl) ?_
                              refine ⟨_, rfl, a, _, _, _, rfl, rfl, hs, rfl, _, rfl, rfl, _, _, rfl, rfl, _, rfl, ?_⟩
                              by_cases c : absI t < FL
                              · rw [decide_eq_true c] at q
                                exact ifT (decide_eq_true c) ⟨_, rfl, a, _, _, _, rfl, rfl, hs, rfl, rfl, _, _, rfl, rfl, q⟩
                              · rw [decide_eq_false c] at q
                                exact ifF (decide_eq_false c) q
                            · rw [decide_eq_false g] at q
                              exact ifT (by rw [decide_eq_false (show ¬ ((Nat.gcd t.natAbs b.natAbs : Nat) : Int) = 1 by omega)]; rfl) q
                          · rw [decide_eq_false hb] at q
                            exact ifT (decide_eq_true (by omega)) (ifT rfl q)
                        | _ => cases e3
                      | _ => cases e1
            · rw [numB_not_fr e (frac_len l2)] at q
              exact ifT (by rw [decide_eq_false (show ¬ ((xs.length : Nat) : Int) = 2 by omega)]; rfl) (ifT rfl q)
          | _ => cases e2
end
end K07

namespace K07
open PySem PySem.Spec PyProof.Rows L2 Ver Num SX PySem.Builtin.Str
/-! ### texts by sign -/
def digits : Str := "0123456789"
def dgB (c : Nat) : Bool := decide (48 ≤ c) && decide (c ≤ 57)
theorem dig_has (c : Nat) : digits.cps.contains c = dgB c := by
  have e : digits.cps = #[48, 49, 50, 51, 52, 53, 54, 55, 56, 57] := by decide +kernel
  rw [e, Bool.eq_iff_iff]
  unfold dgB
  simp
  omega
theorem all_dg {a : List Nat} : NumText.AllDigits a ↔ a.all dgB = true := by
  rw [List.all_eq_true]
  constructor
  · intro h c hc
    have := h c hc
    unfold dgB
    rw [decide_eq_true this.1, decide_eq_true this.2]
    rfl
  · intro h c hc
    have z : (decide (48 ≤ c) && decide (c ≤ 57)) = true := h c hc
    rw [Bool.and_eq_true, decide_eq_true_eq, decide_eq_true_eq] at z
    exact z
theorem S_nil {a : List Nat} : S a = "" ↔ a = [] := by
  constructor
  · intro h
    exact S_inj (b := []) h
  · intro h
    rw [h]
    rfl
theorem tw_all : ∀ a : List Nat, a.all dgB = true → a.takeWhile dgB = a
  | [], _ => rfl
  | c :: r, h => by
    rw [List.all_cons, Bool.and_eq_true] at h
    rw [List.takeWhile_cons, if_pos h.1, tw_all r h.2]
theorem strip_dg (a : List Nat) : decide (Txt.stripChars (S a) digits = "") = a.all dgB := by
  have hp : (fun c => digits.cps.contains c) = dgB := funext dig_has
  have e : Txt.stripChars (S a) digits = strSub (S a) (stripLo dgB true (S a)) (stripHi dgB true (S a) (stripLo dgB true (S a))) := by
    unfold Txt.stripChars
    rw [show digits.cps.contains = dgB from hp]
    exact stripBy_eq _ _ _ _
  have e2 : TL.tl (Txt.stripChars (S a) digits) = (a.drop (a.takeWhile dgB).length).take (a.length - ((a.drop (a.takeWhile dgB).length).reverse.takeWhile dgB).length - (a.takeWhile dgB).length) := by
    rw [e, TL.tl_strSub]
    show _ = (a.drop _).take _
    have e3 : stripLo dgB true (S a) = (a.takeWhile dgB).length := rfl
    have e4 : stripHi dgB true (S a) (a.takeWhile dgB).length = a.length - ((a.drop (a.takeWhile dgB).length).reverse.takeWhile dgB).length := by
      show (S a).length - _ = _
      rw [S_len]
    rw [e3, e4]
  have iff1 : Txt.stripChars (S a) digits = "" ↔ TL.tl (Txt.stripChars (S a) digits) = [] := by
    constructor
    · intro h
      rw [h]
      rfl
    · intro h
      exact TL.ext_tl h
  rw [Bool.eq_iff_iff, decide_eq_true_eq, iff1, e2]
  constructor
  · intro h
    rw [List.all_eq_true]
    by_cases full : (a.takeWhile dgB).length = a.length
    · intro c hc
      have et : a.takeWhile dgB = a := (List.takeWhile_prefix dgB).eq_of_length full
      rw [← et] at hc
      exact (List.all_eq_true.mp List.all_takeWhile) c hc
    · exfalso
      have le : (a.takeWhile dgB).length ≤ a.length := (List.takeWhile_prefix dgB).length_le
      generalize hn : (a.takeWhile dgB).length = n at *
      have hd : a.drop n = a.dropWhile dgB := by
        have := List.takeWhile_append_dropWhile (p := dgB) (l := a)
        conv => lhs; rw [← this]
        rw [← hn]
        exact List.drop_left
      have lt : ((a.drop n).reverse.takeWhile dgB).length < (a.drop n).length := by
        have l1 : ((a.drop n).reverse.takeWhile dgB).length ≤ (a.drop n).reverse.length := (List.takeWhile_prefix dgB).length_le
        rw [List.length_reverse] at l1
        refine Nat.lt_of_le_of_ne l1 fun z => ?_
        have et : (a.drop n).reverse.takeWhile dgB = (a.drop n).reverse := (List.takeWhile_prefix dgB).eq_of_length (by rw [z, List.length_reverse])
        have all : ∀ c ∈ a.drop n, dgB c = true := fun c hc => by
          have hc' : c ∈ (a.drop n).reverse := List.mem_reverse.mpr hc
          rw [← et] at hc'
          exact (List.all_eq_true.mp List.all_takeWhile) c hc'
        cases hd2 : a.dropWhile dgB with
        | nil =>
          have l2 := congrArg List.length hd
          rw [hd2, List.length_drop] at l2
          simp at l2
          omega
        | cons c r =>
          have hc : dgB c = true := all c (by rw [hd, hd2]; exact List.mem_cons_self)
          have := List.head?_dropWhile_not dgB a
          rw [hd2] at this
          simp at this
          rw [this] at hc
          cases hc
      have l3 := congrArg List.length h
      rw [List.length_take, List.length_drop] at l3
      rw [List.length_drop] at lt
      simp at l3
      omega
  · intro h
    have et : a.takeWhile dgB = a := tw_all a h
    rw [et, List.drop_length, List.take_nil]
theorem starts_one (c : Nat) (a : List Nat) : Txt.startswith (S a) (S [c]) = decide (a.head? = some c) := by
  unfold Txt.startswith subAt
  rw [S_len, S_len]
  cases a with
  | nil => simp
  | cons d r =>
    have e2 : (S (d :: r)).cps.extract 0 (0 + [c].length) = #[d] := by
      apply Array.toList_inj.mp
      simp [S]
    rw [e2]
    simp [S]
    rw [Bool.eq_iff_iff]
    simp
theorem rmp_one (c : Nat) (a : List Nat) : Txt.removeprefix (S (c :: a)) (S [c]) = S a := by
  unfold Txt.removeprefix
  have e : subAt (S (c :: a)) (S [c]) 0 = true := by
    unfold subAt
    rw [S_len]
    have e2 : (S (c :: a)).cps.extract 0 (0 + [c].length) = #[c] := by
      apply Array.toList_inj.mp
      simp [S]
    rw [e2]
    simp [S]
  rw [if_pos e]
  unfold Txt.affix
  rw [S_len, S_len]
  have hne : ((c :: a).length - [c].length == (c :: a).length) = false := by
    rw [beq_eq_false_iff_ne]
    simp
  dsimp only
  rw [if_neg (by rw [hne]; decide)]
  refine TL.ext_tl ?_
  rw [TL.tl_strSub]
  show ((c :: a).drop 1).take ((c :: a).length - 1) = a
  simp
/-! ### the integers that texts are -/
def natOf (a : List Nat) : Option Nat := if (decide (1 ≤ a.length) && (decide (a.length ≤ 100) && a.all dgB)) = true then (if (decide (a.head? = some 48) && !decide (a = [48])) = true then none else some (NumText.digitsVal a)) else none
def sgnOf (a : List Nat) : Option Int := match a with
  | 45 :: r => (match natOf r with
    | some n => if n = 0 then none else some (-(n : Int))
    | none => none)
  | a => (natOf a).map fun n : Nat => (n : Int)
theorem natOf_some {a : List Nat} {n : Nat} (h : natOf a = some n) : 1 ≤ a.length ∧ a.length ≤ 100 ∧ a.all dgB = true ∧ (a.head? = some 48 → a = [48]) ∧ n = NumText.digitsVal a := by
  unfold natOf at h
  split at h
  · rename_i h1
    rw [Bool.and_eq_true, Bool.and_eq_true, decide_eq_true_eq, decide_eq_true_eq] at h1
    split at h
    · cases h
    · rename_i h2
      refine ⟨h1.1, h1.2.1, h1.2.2, fun e => ?_, (Option.some.inj h).symm⟩
      by_cases z : a = [48]
      · exact z
      · exfalso
        apply h2
        rw [decide_eq_true e, decide_eq_false z]
        rfl
  · cases h
theorem dgs_back : ∀ a : List Nat, a.all dgB = true → (a.map Char.ofNat).map Char.toNat = a
  | [], _ => rfl
  | c :: r, h => by
    rw [List.all_cons, Bool.and_eq_true] at h
    have hc := h.1
    unfold dgB at hc
    rw [Bool.and_eq_true, decide_eq_true_eq, decide_eq_true_eq] at hc
    have e : (Char.ofNat c).toNat = c := by
      have : ∀ d : Nat, d < 58 → (Char.ofNat d).toNat = d := by decide
      exact this c (by omega)
    rw [List.map_cons, List.map_cons, e, dgs_back r h.2]
/-- str of what was read is the text -/
theorem num_back {a : List Nat} {n : Nat} (h : natOf a = some n) : TL.numL n = a := by
  obtain ⟨l1, l2, al, hd, rfl⟩ := natOf_some h
  unfold TL.numL
  have e := NumText.toDigits_digitsVal (a.length - 1) a (by omega) (all_dg.mpr al) (by
    cases a with
    | nil => simp at l1
    | cons c r =>
      by_cases z : c = 48
      · have := hd (by rw [z]; rfl)
        cases this
        exact .inl rfl
      · refine .inr ⟨c, r, rfl, ?_⟩
        rw [List.all_cons, Bool.and_eq_true] at al
        have hc := al.1
        unfold dgB at hc
        rw [Bool.and_eq_true, decide_eq_true_eq, decide_eq_true_eq] at hc
        omega)
  rw [e, dgs_back a al]
theorem text_nat (n : Nat) : Str.ofString (toString ((n : Nat) : Int)) = S (TL.numL n) := num_S n
theorem text_neg {n : Nat} (h : n ≠ 0) : Str.ofString (toString (-((n : Nat) : Int))) = S (45 :: TL.numL n) := by
  rw [toString_neg (by omega)]
  have e : (0 : Int) - -((n : Nat) : Int) = ((n : Nat) : Int) := by omega
  rw [e]
  have e2 : Str.ofString ("-" ++ toString ((n : Nat) : Int)) = Str.ofString "-" ++ Str.ofString (toString ((n : Nat) : Int)) := by
    refine TL.ext_tl ?_
    rw [TL.tl_append]
    show (Str.ofString _).cps.toList = (Str.ofString _).cps.toList ++ (Str.ofString _).cps.toList
    rw [Str.ofString_eq_toList, Str.ofString_eq_toList, Str.ofString_eq_toList]
    simp
  rw [e2, text_nat]
  refine TL.ext_tl ?_
  rw [TL.tl_append]
  rfl
theorem sgn_back {a : List Nat} {i : Int} (h : sgnOf a = some i) : Str.ofString (toString i) = S a := by
  unfold sgnOf at h
  split at h
  · rename_i r
    split at h
    · rename_i n hn
      split at h
      · cases h
      · rename_i n0
        cases h
        rw [text_neg n0, num_back hn]
    · cases h
  · obtain ⟨n, hn, rfl⟩ := Option.map_eq_some_iff.mp h
    rw [text_nat, num_back hn]
end K07

namespace K07
open PySem PySem.Spec PyProof.Rows L2 Ver Num SX
theorem sEq (a b : Str) : decide (V.str a = V.str b) = decide (a = b) := by
  by_cases h : a = b
  · rw [decide_eq_true h, decide_eq_true (by rw [h])]
  · rw [decide_eq_false h, decide_eq_false fun z => h (V.str.inj z)]
theorem eS (a b : List Nat) : decide (S a = S b) = decide (a = b) := by
  by_cases h : a = b
  · rw [decide_eq_true h, decide_eq_true (by rw [h])]
  · rw [decide_eq_false h, decide_eq_false fun z => h (S_inj z)]
theorem sl_of {n : Nat} (h : n ≤ 20000) : n ≤ sizeLine := by rw [sizeLine_eq]; omega
def optV : Option Int → V
  | none => .non
  | some i => .int i
def optD : Option Int → PyData
  | none => .none
  | some i => .int i
theorem do_opt {K : PySem.W.Frag} {H : Hp} : ∀ o : Option Int, Do K H (optV o) (optD o)
  | none => .non
  | some i => .int i
def natI (a : List Nat) : Option Int := (natOf a).map fun n : Nat => (n : Int)
section
variable {P : Program} {w : World} {K : PySem.W.Frag} {mg : Str → Option Value} {base : Heap}
/-! ### integer_of, signed_integer_of -/
def spIntOf : Sp := fun vs H Q _ => ∃ (a : List Nat), vs = [.str (S a), .int 100] ∧ a.length ≤ 20000 ∧ Q (optV (natI a)) H
theorem ok_int_of (T : Tx K mg) : FnG P w K mg base CX0 1 (He.ga K "integer_of") spIntOf := by
  refine mk_integer_of T.d (fun vs H Q E h => ?_) (fun cdv A outer s H vs Q E hg hr h => ?_)
  · obtain ⟨a, rfl, _⟩ := h
    rfl
  · obtain ⟨a, rfl, tl, q⟩ := h
    obtain ⟨tk, dg⟩ := T.dd
    refine ⟨_, pss_cons (ps_if (PW.pt (pw_or (pt_not (pt_chain op_le op_le pe_int (pe_callB call_len_str (by rfl) (T.z "len" (by decide +kernel)) (by decide +kernel) (pa_cons (pv 0) pa_nil)) (pv 1)))
        (pw_or1 (pt_cmpR op_ne (pe_m1 PySem.F.slot_str_strip PySem.F.type_str_strip mt_stripChars (pv 0) (pe_glob (v := .str digits) (by rfl) dg ⟨_, rfl⟩)) pe_str (nomark _))))) (pss_one (ps_ret pe_non)) pss_nil)
      (pss_cons (ps_if (PW.pt (pw_and (pt_val (pe_m1 PySem.F.slot_str_startswith PySem.F.type_str_startswith mt_startswith (pv 0) pe_str)) (pw_and1 (pt_cmpR op_ne (pv 0) pe_str (nomark _))))) (pss_one (ps_ret pe_non)) pss_nil)
      (pss_one (ps_ret (pe_callTy call_int_str (by rfl) (T.z "int" (by decide +kernel)) (by decide +kernel) (pa_cons (pv 0) pa_nil))))), ?_⟩
    have ls : (S a).length = a.length := S_len a
    have sl : (S a).length ≤ sizeLine := by rw [ls]; exact sl_of tl
    refine ⟨_, rfl, _, rfl, sl, _, _, rfl, rfl, _, rfl, ?_⟩
    rw [ls]
    have bad : (decide (1 ≤ a.length) && (decide (a.length ≤ 100) && a.all dgB)) = false → Q .non H := fun e => by
      have z : natI a = none := by
        unfold natI natOf
        rw [e]
        rfl
      rw [z] at q
      exact q
    have z0 : ("0" : Str) = S [48] := by decide +kernel
    by_cases h1 : (1 : Int) ≤ (a.length : Int)
    · refine ifT (decide_eq_true h1) ⟨_, rfl, _, _, rfl, rfl, _, rfl, ?_⟩
      by_cases h2 : (a.length : Int) ≤ 100
      · rw [decide_eq_true h2]
        refine ifF rfl ?_
        refine ⟨_, rfl, ⟨_, rfl⟩, _, _, rfl, rfl, sl, rfl, _, rfl, ?_⟩
        rw [sEq, strip_dg]
        cases h3 : a.all dgB with
        | true =>
          refine ifF rfl ?_
          have c1 : (decide (1 ≤ a.length) && (decide (a.length ≤ 100) && a.all dgB)) = true := by
            rw [decide_eq_true (show 1 ≤ a.length by omega), decide_eq_true (show a.length ≤ 100 by omega), h3]
            rfl
          refine ⟨_, rfl, ⟨_, rfl⟩, _, _, rfl, rfl, _, rfl, ?_⟩
          rw [z0, starts_one]
          have fin : (decide (a.head? = some 48) && !decide (a = [48])) = false → ∃ n, PySem.intText? (S a) = some n ∧ Q (.int n) H := fun eb => by
            have e : natI a = some ((NumText.digitsVal a : Nat) : Int) := by
              unfold natI natOf
              rw [if_pos c1, if_neg (by rw [eb]; decide)]
              rfl
            rw [e] at q
            exact ⟨_, int_S h3 (fun z => by rw [z] at h1; simp at h1) (by omega), q⟩
          have le : (S a).length ≤ 640 := by rw [ls]; omega
          by_cases hs : a.head? = some 48
          · refine ifT (decide_eq_true hs) ⟨_, rfl, rfl, _, rfl, ?_⟩
            rw [sEq, eS]
            by_cases h4 : a = [48]
            · obtain ⟨n, hn, qn⟩ := fin (by rw [decide_eq_true h4]; simp)
              exact ifF (by rw [decide_eq_true h4]; rfl) ⟨_, rfl, _, n, rfl, hn, le, qn⟩
            · have z : natI a = none := by
                unfold natI natOf
                rw [if_pos c1, if_pos (by rw [decide_eq_true hs, decide_eq_false h4]; rfl)]
                rfl
              rw [z] at q
              exact ifT (by rw [decide_eq_false h4]; rfl) q
          · obtain ⟨n, hn, qn⟩ := fin (by rw [decide_eq_false hs]; rfl)
            exact ifF (decide_eq_false hs) (ifF rfl ⟨_, rfl, _, n, rfl, hn, le, qn⟩)
        | false => exact ifT rfl (bad (by rw [h3, Bool.and_false, Bool.and_false]))
      · rw [decide_eq_false h2]
        exact ifT rfl (ifT rfl (bad (by rw [decide_eq_false (show ¬ a.length ≤ 100 by omega), Bool.false_and, Bool.and_false])))
    · refine ifF (decide_eq_false h1) ⟨_, rfl, ?_⟩
      exact ifT rfl (ifT rfl (bad (by rw [decide_eq_false (show ¬ 1 ≤ a.length by omega), Bool.false_and])))
def spSgn : Sp := fun vs H Q _ => ∃ (a : List Nat), vs = [.str (S a)] ∧ a.length ≤ 20000 ∧ Q (optV (sgnOf a)) H
theorem sgn_no {a : List Nat} (h : a.head? ≠ some 45) : sgnOf a = natI a := by
  unfold sgnOf
  split
  · exact absurd rfl h
  · rfl
theorem ok_sgn (T : Tx K mg) : FnG P w K mg base CX0 2 (He.ga K "signed_integer_of") spSgn := by
  refine mk_signed_integer_of T.d (fun vs H Q E h => ?_) (fun cdv A outer s H vs Q E hg hr h => ?_)
  · obtain ⟨a, rfl, _⟩ := h
    rfl
  · obtain ⟨a, rfl, tl, q⟩ := h
    obtain ⟨tD, crD, cvD⟩ := T.cdF
    have nd := sc_signed_integer_of.nd
    refine ⟨_, pss_cons (ps_if (pt_not (pt_val (pe_m1 PySem.F.slot_str_startswith PySem.F.type_str_startswith mt_startswith (pv 0) pe_str)))
        (pss_one (ps_ret (pe_callG (ok_int_of T) hr hg (by rfl) (T.g "integer_of" (by decide +kernel)) (kp_integer_of T.d) pass0 (pa_cons (pv 0) (pa_cons (ClX.pe_cval (pe_glob (v := .ref (He.ga K "Field")) (by rfl) (T.g "Field" (by decide +kernel)) rfl)) pa_nil))))) pss_nil)
      (pss_cons (ps_set (i := 1) nd rfl (Or.inl rfl) (pe_callG (ok_int_of T) hr hg (by rfl) (T.g "integer_of" (by decide +kernel)) (kp_integer_of T.d) pass0 (pa_cons (pe_m1 PySem.F.slot_str_removeprefix PySem.F.type_str_removeprefix mt_removeprefix (pv 0) pe_str) (pa_cons (ClX.pe_cval (pe_glob (v := .ref (He.ga K "Field")) (by rfl) (T.g "Field" (by decide +kernel)) rfl)) pa_nil))))
      (pss_one (ps_ret (pe_ifExp (PW.pt (pw_or (pt_cmp (pc_isN (pv 1))) (pw_or1 (pt_cmpR op_eq (pv 1) pe_int (nomark _))))) pe_non (pe_un un_neg (pv 1)))))), ?_⟩
    have z0 : ("-" : Str) = S [45] := by decide +kernel
    have ls : (S a).length = a.length := S_len a
    have sl : (S a).length ≤ sizeLine := by rw [ls]; exact sl_of tl
    refine ⟨_, rfl, ⟨_, rfl⟩, _, _, rfl, rfl, _, rfl, ?_⟩
    rw [z0, starts_one]
    by_cases hs : a.head? = some 45
    · obtain ⟨r, rfl⟩ : ∃ r, a = 45 :: r := by
        cases a with
        | nil => cases hs
        | cons c r =>
          cases hs
          exact ⟨r, rfl⟩
      refine ifF (by rw [decide_eq_true hs]; rfl) ?_
      refine ⟨_, rfl, ⟨_, rfl⟩, _, _, rfl, rfl, sl, ?_⟩
      rw [rmp_one]
      refine ⟨_, _, _, _, rfl, crD, cvD, r, rfl, by rw [List.length_cons] at tl; omega, ?_⟩
      have q : Q (optV (match natOf r with
        | some n => if n = 0 then none else some (-(n : Int))
        | none => none)) H := q
      cases hn : natOf r with
      | none =>
        rw [hn] at q
        have e : natI r = none := by unfold natI; rw [hn]; rfl
        rw [e]
        exact ⟨_, rfl, _, rfl, ifT rfl q⟩
      | some n =>
        rw [hn] at q
        have e : natI r = some (n : Int) := by unfold natI; rw [hn]; rfl
        rw [e]
        refine ⟨_, rfl, _, rfl, ifF rfl ⟨_, rfl, rfl, _, rfl, ?_⟩⟩
        have eq0 : decide (optV (some (n : Int)) = V.int 0) = decide ((n : Int) = 0) := iEq _ _
        rw [eq0]
        by_cases n0 : n = 0
        · have q : Q (optV (if n = 0 then none else some (-(n : Int)))) H := q
          rw [if_pos n0] at q
          exact ifT (decide_eq_true (by omega)) q
        · have q : Q (optV (if n = 0 then none else some (-(n : Int)))) H := q
          rw [if_neg n0] at q
          exact ifF (decide_eq_false (by omega)) ⟨_, rfl, _, rfl, q⟩
    · rw [sgn_no hs] at q
      exact ifT (by rw [decide_eq_false hs]; rfl) ⟨_, rfl, _, _, _, _, rfl, crD, cvD, a, rfl, tl, q⟩
end
end K07

namespace K07
open PySem PySem.Spec PyProof.Rows L2 Ver Num SX
/-! ### the data of number_of -/
def numD (a : List Nat) : PyData := match TL.par [47] [] a with
  | none => optD (sgnOf a)
  | some (p, q) => .tuple [optD (sgnOf p), optD (natI q)]
theorem first_at {c : Nat} : ∀ {a : List Nat}, c ∈ a → ∃ p q, a = p ++ c :: q ∧ c ∉ p
  | d :: r, h => by
    by_cases e : d = c
    · exact ⟨[], r, by rw [e]; rfl, by simp⟩
    · obtain ⟨p, q, rfl, n⟩ := first_at ((List.mem_cons.mp h).resolve_left (fun z => e z.symm))
      exact ⟨d :: p, q, rfl, fun z => (List.mem_cons.mp z).elim (fun y => e y.symm) n⟩
  | [], h => by cases h
theorem numD_no {a : List Nat} (h : 47 ∉ a) : numD a = optD (sgnOf a) := by
  unfold numD
  rw [par_head_none h]
theorem numD_at {p q : List Nat} (h : 47 ∉ p) : numD (p ++ 47 :: q) = .tuple [optD (sgnOf p), optD (natI q)] := by
  unfold numD
  have e : TL.par [47] [] (p ++ 47 :: q) = some (p, q) := par_head (c := 47) (sep := []) q h
  rw [e]
/-- what is read -/
def rdA (φ : Fk) (a : List Nat) : Option PyData := if numB φ (numD a) = true then some (numD a) else none
def readD (φ : Fk) : PyData → Option PyData
  | .str s => rdA φ (TL.tl s)
  | _ => none
def smallD (d : PyData) : Prop := ∀ s, d = .str s → s.length ≤ 20000
def TopP (H : Hp) (x : V) (d : PyData) : Prop := ∀ t b : Int, d = .tuple [.int t, .int b] → ∃ a, x = .ref a ∧ H a = some (.tup [.int t, .int b])
theorem TopP.same {H H' : Hp} {x : V} {d : PyData} (h : TopP H x d) (s : Same H H') : TopP H' x d := fun t b e => by
  obtain ⟨a, e1, e2⟩ := h t b e
  exact ⟨a, e1, s _ _ e2⟩
theorem TopS.p {p : Addr} {H : Hp} {x : V} {d : PyData} (h : TopS p H x d) : TopP H x d := fun t b e => h H But.refl t b e
theorem TopP.int {H : Hp} {x : V} {i : Int} : TopP H x (.int i) := fun t b e => by cases e
section
variable {P : Program} {w : World} {K : PySem.W.Frag} {mg : Str → Option Value} {base : Heap}
/-- a def that lets errors out, called where none comes -/
theorem FnG.down {CX : CXT} {k : Nat} {f : Addr} {sp : Sp} (F : FnG P w K mg base (L2.CX P w) k f sp) : FnG P w K mg base CX k f (fun vs H Q _ => sp vs H Q fun _ _ _ => False) :=
  fun A outer s H us vs Q E g hr e0 r q => codeAny_mono (F A outer s H us vs Q _ g hr e0 r q) fun rs s' z => by
    match rs, z with
    | .error _, ⟨_, _, _, _, _, _, _, _, _, _, _, _, z⟩ => exact z.elim
    | .ok (.ret _), z => exact z
    | .ok .next, z => exact z.elim
    | .ok .brk, z => exact z.elim
    | .ok .cont, z => exact z.elim
def spNumOf : Sp := fun vs H Q _ => ∃ (a : List Nat), vs = [.str (S a)] ∧ a.length ≤ 20000 ∧ (47 ∉ a → ∀ H', Same H H' → Q (optV (sgnOf a)) H') ∧
  ∀ p q, a = p ++ 47 :: q → 47 ∉ p → ∀ (t : Addr) (H' : Hp), Same H H' → H' t = some (.tup [optV (sgnOf p), optV (natI q)]) → Q (.ref t) H'
theorem ok_num_of (T : Tx K mg) : FnG P w K mg base CX0 3 (He.ga K "number_of") spNumOf := by
  refine mk_number_of T.d (fun vs H Q E h => ?_) (fun cdv A outer s H vs Q E hg hr h => ?_)
  · obtain ⟨a, rfl, _⟩ := h
    rfl
  · obtain ⟨a, rfl, tl, q0, q1⟩ := h
    obtain ⟨tD, crD, cvD⟩ := T.cdF
    have nd := sc_number_of.nd
    refine ⟨_, pss_cons (ps_asg (pe_partition (pv 0) pe_str) (pg_tup rfl (pgs_cons (pg_name (i := 1) nd rfl (.inl rfl)) (pgs_cons (pg_name (i := 2) nd rfl (.inl rfl)) (pgs_cons (pg_name (i := 3) nd rfl (.inl rfl)) pgs_nil)))))
      (pss_cons (ps_if (pt_cmpR op_eq (pv 2) pe_str (nomark _)) (pss_one (ps_ret (pe_callG (ok_sgn T) hr hg (by rfl) (T.g "signed_integer_of" (by decide +kernel)) (kp_signed_integer_of T.d) pass0 (pa_cons (pv 1) pa_nil)))) pss_nil)
      (pss_one (ps_ret (pe_tup (pa_cons (pe_callG (ok_sgn T) hr hg (by rfl) (T.g "signed_integer_of" (by decide +kernel)) (kp_signed_integer_of T.d) pass0 (pa_cons (pv 1) pa_nil))
        (pa_cons (pe_callG (ok_int_of T) (hr.mono (by decide)) hg (by rfl) (T.g "integer_of" (by decide +kernel)) (kp_integer_of T.d) pass0 (pa_cons (pv 3) (pa_cons (ClX.pe_cval (pe_glob (v := .ref (He.ga K "Field")) (by rfl) (T.g "Field" (by decide +kernel)) rfl)) pa_nil))) pa_nil)))))), ?_⟩
    have z0 : ("/" : Str) = S [47] := by decide +kernel
    have ze : ("" : Str) = S [] := by decide +kernel
    have sl : (S a).length ≤ sizeLine := by rw [S_len]; exact sl_of tl
    refine ⟨_, rfl, ⟨_, rfl⟩, _, _, rfl, rfl, by decide +kernel, sl, fun t nt => ?_⟩
    refine ⟨t, _, rfl, SqT.of upd_same, rfl, _, _, rfl, _, _, rfl, _, _, rfl, rfl, ?_⟩
    have st := same_up (o := .tup [.str (Txt.partition (S a) "/").1, .str (Txt.partition (S a) "/").2.1, .str (Txt.partition (S a) "/").2.2]) nt
    by_cases h : 47 ∈ a
    · obtain ⟨p, r, rfl, n⟩ := first_at h
      have e : Txt.partition (S (p ++ 47 :: r)) "/" = (S p, S [47], S r) := by
        rw [z0]
        exact partition_some (by decide) (par_head (c := 47) (sep := []) r n)
      have lp : p.length ≤ 20000 ∧ r.length ≤ 20000 := by
        rw [List.length_append, List.length_cons] at tl
        omega
      rw [e] at st ⊢
      refine ⟨_, rfl, rfl, _, rfl, ?_⟩
      have c0 : decide (V.str (S p, S [47], S r).2.1 = V.str "") = false := by
        rw [sEq, ze]
        show decide (S [47] = S []) = false
        rw [eS]
        decide
      refine ifF c0 ?_
      refine ⟨_, rfl, p, rfl, lp.1, _, rfl, _, _, _, _, rfl, crD, cvD, r, rfl, lp.2, by show 2 ≤ sizeLine; decide, fun t2 nt2 => ?_⟩
      exact q1 p r rfl n t2 _ (st.trans (same_up nt2)) upd_same
    · have e : Txt.partition (S a) "/" = (S a, S [], S []) := by
        rw [z0]
        exact partition_none (by decide) (par_head_none h)
      rw [e] at st ⊢
      refine ⟨_, rfl, rfl, _, rfl, ?_⟩
      have c0 : decide (V.str (S a, S [], S []).2.1 = V.str "") = true := by
        rw [sEq, ze]
        show decide (S [] = S []) = true
        rw [eS]
        decide
      refine ifT c0 ⟨_, rfl, a, rfl, tl, q0 h _ st⟩
/-! ### read -/
/-- the promise of an __init__ that keeps one field -/
def spErr (C : Addr) (f : Str) : Sp := fun vs H Q _ => ∃ (a : Addr) (x : V), vs = [.ref a, x] ∧ H a = some (exo a C none) ∧ ∀ dx, H dx = none → dx ≠ a → Q .non (upd (upd H dx (exd dx [(f, x)])) a (exo a C (some dx)))
theorem ok_InvalidNumber (T : Tx K mg) : ∃ fd, FnOk P w K mg base CX0 1 (He.ma K (He.ga K "InvalidNumber") "__init__") fd ["self", "value"] (spErr (He.ga K "InvalidNumber") "value") ∧ Binds K fd ["self", "value"] [] := by
  have EC := T.eN
  obtain ⟨fd, FD⟩ := T.d.def_ 40 (d := d_InvalidNumber___init__) rfl
  have hb : Binds K fd ["self", "value"] [] := FD.bindsN fun _ _ _ _ _ _ us hl => match us, hl with | [_, _], _ => rfl
  obtain ⟨⟨oc, od, dV, kV, doc, pm, an, cdv, ct, osl, rfl, lk, hcd, _⟩, _⟩ := FD
  refine ⟨_, fn_of lk hcd sc_InvalidNumber___init__ (fun vs H Q E h => ?_) (fun A outer s H vs Q E hr h => ?_), hb⟩
  · obtain ⟨a, x, rfl, _⟩ := h
    rfl
  · obtain ⟨a, x, rfl, ea, q⟩ := h
    refine ⟨_, PSs.nox (pss_cons (ps_expr (pe_veinit (by rfl) (T.z "ValueError" (by decide +kernel)) T.vV (pa_cons (pv 0) (pa_cons (pv 1) pa_nil)))) (pss_one (ps_ost (pv 0) (pv 1)))), ?_⟩
    exact ⟨_, rfl, _, rfl, a, He.ga K "InvalidNumber", [x], rfl, by show 1 ≤ 1000; decide, EC.ox, ea, _, rfl, _, rfl, a, He.ga K "InvalidNumber", rfl, EC.ox, EC.nf, .inl ⟨ea, q⟩⟩
theorem ok_InvalidText (T : Tx K mg) : ∃ fd, FnOk P w K mg base CX0 1 (He.ma K (He.ga K "InvalidText") "__init__") fd ["self", "line"] (spErr (He.ga K "InvalidText") "line") ∧ Binds K fd ["self", "line"] [] := by
  have EC := T.eX
  obtain ⟨fd, FD⟩ := T.d.def_ 41 (d := d_InvalidText___init__) rfl
  have hb : Binds K fd ["self", "line"] [] := FD.bindsN fun _ _ _ _ _ _ us hl => match us, hl with | [_, _], _ => rfl
  obtain ⟨⟨oc, od, dV, kV, doc, pm, an, cdv, ct, osl, rfl, lk, hcd, _⟩, _⟩ := FD
  refine ⟨_, fn_of lk hcd sc_InvalidText___init__ (fun vs H Q E h => ?_) (fun A outer s H vs Q E hr h => ?_), hb⟩
  · obtain ⟨a, x, rfl, _⟩ := h
    rfl
  · obtain ⟨a, x, rfl, ea, q⟩ := h
    refine ⟨_, PSs.nox (pss_cons (ps_expr (pe_veinit (by rfl) (T.z "ValueError" (by decide +kernel)) T.vV (pa_cons (pv 0) (pa_cons (pv 1) pa_nil)))) (pss_one (ps_ost (pv 0) (pv 1)))), ?_⟩
    exact ⟨_, rfl, _, rfl, a, He.ga K "InvalidText", [x], rfl, by show 1 ≤ 1000; decide, EC.ox, ea, _, rfl, _, rfl, a, He.ga K "InvalidText", rfl, EC.ox, EC.nf, .inl ⟨ea, q⟩⟩
/-- what a raise of such an error leaves -/
theorem err_mk {C : Addr} {f : Str} {x : V} {H : Hp} {a : Addr} {Q : XK} (na : H a = none) (q : ∀ (dd : Addr) (H' : Hp), Same H H' → H' dd = some (.xd [(f, x)]) → Q (.ref C) (some dd) H') :
    spErr C f [.ref a, x] (upd H a (exo a C none)) (fun v H2 => v = .non ∧ ∃ (d : Addr) (fs : List (Str × V)), H2 a = some (exo a C (some d)) ∧ H2 d = some (exd d fs) ∧ H d = none ∧ Q (.ref C) (some d) (upd (del H2 a) d (.xd fs))) (fun _ _ _ => False) := by
  refine ⟨a, x, rfl, upd_same, fun dx hd ne => ⟨rfl, dx, [(f, x)], upd_same, by rw [upd_ne ne]; exact upd_same, ?_, q dx _ (fun b o e => ?_) upd_same⟩⟩
  · rw [upd_ne ne] at hd
    exact hd
  · have hdx : H dx = none := by
      rw [upd_ne ne] at hd
      exact hd
    rw [upd_ne (ne_of_none e hdx), del_ne (ne_of_none e na), upd_ne (ne_of_none e na), upd_ne (ne_of_none e hdx), upd_ne (ne_of_none e na)]
    exact e
def spReadX (K : PySem.W.Frag) : Sp := fun vs H Q E => ∃ (f : Addr) (x : V) (d : PyData) (φ : Fk), vs = [.ref f, x] ∧ FieldC K H f φ ∧ okP φ ∧ Do K H x d ∧ smallD d ∧
  (readD φ d = none → ∀ (dd : Addr) (H' : Hp), Same H H' → H' dd = some (.xd [(("line" : Str), .int 0)]) → E (.ref (He.ga K "InvalidText")) (some dd) H') ∧
  (∀ e, readD φ d = some e → ∀ (z : V) (H' : Hp), Same H H' → Do K H' z e → TopP H' z e → Q z H')
theorem ok_readX (T : Tx K mg) : FnG P w K mg base (L2.CX P w) 5 (He.ma K (He.ga K "Field") "read") (spReadX K) := by
  refine mkX_Field_read T.d (fun vs H Q E h => ?_) (fun cdv A outer s H vs Q E hg hr h => ?_)
  · obtain ⟨f, x, d, φ, rfl, _⟩ := h
    rfl
  · obtain ⟨f, x, d, φ, rfl, F, ok, hd, sm, qn, q⟩ := h
    obtain ⟨fd, F1, bd⟩ := ok_InvalidText (P := P) (w := w) (base := base) T
    have nd := sc_Field_read.nd
    refine ⟨_, pss_cons (ps_set (i := 2) nd rfl (Or.inl rfl) (pe_ifExp (pt_val (pe_callB call_isi (by rfl) (T.z "isinstance" (by decide +kernel)) (by decide +kernel) (pa_cons (pv 1) (pa_cons (pe_bltn (v := .ty "str") (by rfl) (T.z "str" (by decide +kernel)) (by decide +kernel) rfl) pa_nil))))
        (pe_callG (ok_num_of T) (hr.mono (by decide)) hg (by rfl) (T.g "number_of" (by decide +kernel)) (kp_number_of T.d) pass0 (pa_cons (pv 1) pa_nil)) pe_non))
      (pss_cons (ps_if (pt_not (pt_val (pe_methG (pv 0) (kp_Field_is_number T.d) (ok_is_number T) hr hg pass0 (pa_cons (pv 2) pa_nil))))
        (pss_one (ps_raise rfl (takes_of rfl rfl rfl rfl) (pmk_oex T.eX.ox T.eX.iC T.eX.tI F1 (hr.mono (by decide)) bd .nil pass0 (by rfl) (T.g "InvalidText" (by decide +kernel)) (pa_cons pe_int pa_nil)))) pss_nil)
      (pss_one (ps_ret (pv 2)))), ?_⟩
    refine ⟨_, rfl, _, _, _, _, _, rfl, .ty "str", hd.ty, kit_str d, _, rfl, ?_⟩
    have opt_int : ∀ (o : Option Int) (i : Int), optD o = .int i → optV o = .int i := fun o i h => by
      cases o with
      | none => cases h
      | some j =>
        cases h
        rfl
    cases es : is_str d with
    | false =>
      have hr2 : readD φ d = (if numB φ .none = true then some .none else none) := by
        have n0 : numB φ .none = false := by cases φ <;> rfl
        rw [n0]
        cases d with
        | str s => cases es
        | _ => rfl
      refine ifF rfl ?_
      refine go_methG rfl F (by decide +kernel) (by decide +kernel) ⟨_, rfl, f, .non, .none, φ, rfl, F, .non, ok, fun H2 s2 => ⟨_, rfl, ?_⟩⟩
      cases en : numB φ .none with
      | true => exact ifF rfl ⟨_, rfl, q .none (by rw [hr2, en]; rfl) .non H2 s2 .non (fun t b e => by cases e)⟩
      | false => exact ifT rfl ⟨by show 1 ≤ 1000; decide, fun a na => err_mk na fun dd H3 s3 hdd => qn (by rw [hr2, en]; rfl) dd H3 (s2.trans s3) hdd⟩
    | true =>
      obtain ⟨s', rfl⟩ : ∃ s', d = .str s' := by
        cases d with
        | str s' => exact ⟨s', rfl⟩
        | _ => cases es
      cases hd
      obtain ⟨a, rfl⟩ : ∃ a, s' = S a := ⟨TL.tl s', (S_tl s').symm⟩
      have hr2 : readD φ (.str (S a)) = (if numB φ (numD a) = true then some (numD a) else none) := rfl
      have la : a.length ≤ 20000 := by
        have := sm _ rfl
        rw [S_len] at this
        exact this
      refine ifT rfl ⟨_, rfl, a, rfl, la, fun n47 H1 s1 => ?_, fun p r ea n47 t H1 s1 ht => ?_⟩
      · have h1 : Do K H1 (optV (sgnOf a)) (numD a) := by
          rw [numD_no n47]
          exact do_opt _
        have t1 : TopP H1 (optV (sgnOf a)) (numD a) := fun t b e => by
          rw [numD_no n47] at e
          cases ho : sgnOf a with
          | none => rw [ho] at e; cases e
          | some i => rw [ho] at e; cases e
        refine go_methG rfl (F.same s1) (by decide +kernel) (by decide +kernel) ⟨_, rfl, f, _, numD a, φ, rfl, F.same s1, h1, ok, fun H2 s2 => ⟨_, rfl, ?_⟩⟩
        cases en : numB φ (numD a) with
        | true => exact ifF rfl ⟨_, rfl, q _ (by rw [hr2, en]; rfl) _ H2 (s1.trans s2) (Do.same s2 _ _ h1) (t1.same s2)⟩
        | false => exact ifT rfl ⟨by show 1 ≤ 1000; decide, fun a na => err_mk na fun dd H3 s3 hdd => qn (by rw [hr2, en]; rfl) dd H3 ((s1.trans s2).trans s3) hdd⟩
      · have eD : numD a = .tuple [optD (sgnOf p), optD (natI r)] := by
          rw [ea]
          exact numD_at n47
        have h1 : Do K H1 (.ref t) (numD a) := by
          rw [eD]
          exact .tup (SqT.of ht) (.cons (do_opt _) (.cons (do_opt _) .nil))
        have t1 : TopP H1 (.ref t) (numD a) := fun u b e => by
          rw [eD] at e
          have e2 := PyData.tuple.inj e
          have e3 := (List.cons.inj e2).1
          have e4 := (List.cons.inj (List.cons.inj e2).2).1
          rw [opt_int _ _ e3, opt_int _ _ e4] at ht
          exact ⟨t, rfl, ht⟩
        refine go_methG rfl (F.same s1) (by decide +kernel) (by decide +kernel) ⟨_, rfl, f, _, numD a, φ, rfl, F.same s1, h1, ok, fun H2 s2 => ⟨_, rfl, ?_⟩⟩
        cases en : numB φ (numD a) with
        | true => exact ifF rfl ⟨_, rfl, q _ (by rw [hr2, en]; rfl) _ H2 (s1.trans s2) (Do.same s2 _ _ h1) (t1.same s2)⟩
        | false => exact ifT rfl ⟨by show 1 ≤ 1000; decide, fun a na => err_mk na fun dd H3 s3 hdd => qn (by rw [hr2, en]; rfl) dd H3 ((s1.trans s2).trans s3) hdd⟩
end
end K07

set_option exponentiation.threshold 9000
namespace Ver
open PySem PySem.Spec PyProof.Rows L2
/-! ### texts of great ints -/
theorem ns_none {K : PySem.W.Frag} {h : Heap} {ns : Addr} {mc : Str → Option Value} {n : Str} (X : K.In h) (G : h.Ns ns mc) (e : PySem.W.nsIn K ns n = some none) : mc n = none := by
  obtain ⟨o, es, ep, ho, hd, _, hf⟩ := G
  unfold PySem.W.nsIn at e
  split at e
  · rename_i c d es' n' sl q
    have := X _ _ q
    rw [ho] at this
    cases this
    cases hd
    split at e
    · cases e
    · rename_i he
      rw [← hf]
      unfold nsFind findBy
      rw [← Array.find?_toList, he]
      rfl
  · cases e
section
variable {X : Cx} {pins : List (Addr × Obj)} {σ : L2.St} {H : Hp} {s : Shared}
theorem nodig (I : Inv X pins σ H s) (e : PySem.W.nsIn X.K PySem.cStatics "sys.int_max_str_digits" = some none) : s.heap.NoDigits := by
  obtain ⟨mc, h1, _⟩ := I.mod.nolimit.keeps I.bk
  exact ⟨mc, h1, ns_none I.kIn h1 e⟩
/-- {x}: an int below 10 ^ 4300, as a text -/
def tFmtB (te : TE) : TE := fun σ H Q => te σ H fun x H1 => ∃ i : Int, x = .int i ∧ i.natAbs < 10 ^ 4300 ∧ Q (.str (toString i)) H1
theorem pe_fmtB {e : Expr} {te : TE} {pos : Pos} (dg : PySem.W.nsIn X.K PySem.cStatics "sys.int_max_str_digits" = some none) (hc : X.calm = true) (he : PE X e te) : PE X (.FormattedValue e (-1) none pos) (tFmtB te) := by
  refine ⟨fun pins s σ H Q I h => ?_⟩
  refine wpAny_FormattedValue_plain (thn (he.run pins s σ H _ I h) fun v s1 hv => ?_)
  obtain ⟨x, H1, I1, r1, i, rfl, hz, q⟩ := hv
  obtain ⟨t, rfl⟩ := r1
  exact formatField_int (I1.ok.hd hc) (nodig I1 dg) (fun _ => ⟨.str (toString i), H1, I1.tok _, ⟨_, rfl⟩, q⟩) fun z => absurd hz (Nat.not_lt.mpr z)
theorem call_strB (dg : PySem.W.nsIn X.K PySem.cStatics "sys.int_max_str_digits" = some none) (hc : X.calm = true) : CallR X (.type "str") (fun xs H Q => ∃ i, xs = [.int i] ∧ i.natAbs < 10 ^ 4300 ∧ Q (.str (toString i)) H) := by
  intro pins s σ H xs us Q I r h
  obtain ⟨i, rfl, hz, q⟩ := h
  obtain ⟨u, rfl, t, rfl⟩ := vals1 r
  exact str_of_int_or (I.ok.hd hc) (nodig I dg) (fun _ => ⟨.str _, H, I.tok _, ⟨_, rfl⟩, q⟩) fun z => absurd hz (Nat.not_lt.mpr z)
def CPowW (i j : Int) : Prop := 0 ≤ j ∧ (Builtin.Int.intBits i : Int) * j ≤ 2 ^ 27
theorem op_powW : OpR X (binaryOp .Pow) (rI CPowW fun i j => .int (i ^ j.toNat)) := opI fun _ _ _ _ _ _ _ hc q => pow_int hc.1 hc.2 q
end
end Ver
namespace K07
open PySem PySem.Spec PyProof.Rows L2 Ver Num SX
def FL10 : Int := FL ^ (10 : Int).toNat
theorem fl10_lt : FL10 < 2 ^ 3400 := by decide +kernel
theorem fl10_p : FL10 ≤ 10 ^ 1000 := by decide +kernel
theorem p4300 : (2 : Nat) ^ 3400 < 10 ^ 4300 := by decide +kernel
theorem text_len {i : Int} (h : i.natAbs < 2 ^ 3400) : i.natAbs < 10 ^ 4300 ∧ (Str.ofString (toString i)).length ≤ 3401 := by
  refine ⟨Nat.lt_trans h p4300, ?_⟩
  have l := PySem.Flt.log2_lt_of (by decide) h
  have e := int_text_length_le (k := 3400) (by decide) l
  rw [PySem.ofString_length]
  exact e
theorem nat3400 {i : Int} (h : absI i < FL10) : i.natAbs < 2 ^ 3400 := by
  have h2 := fl10_lt
  have e : ((2 : Int) ^ 3400) = ((2 ^ 3400 : Nat) : Int) := by rw [Int.natCast_pow]; rfl
  rw [e] at h2
  have h3 : absI i = (i.natAbs : Int) := by
    unfold absI
    split <;> omega
  rw [h3] at h
  generalize (2 ^ 3400 : Nat) = N at *
  omega
/-- how a number is told -/
def textS (t b : Int) : Str := if b = 1 then toString t else Str.empty ++ Str.ofString (toString t) ++ "/" ++ Str.ofString (toString b)
section
variable {P : Program} {w : World} {K : PySem.W.Frag} {mg : Str → Option Value} {base : Heap}
theorem ok_tl (T : Tx K mg) : FnG P w K mg base CX0 1 (He.ma K (He.ga K "TooLong") "__init__") (spInitN (He.ga K "TooLong")) := by
  refine mk_TooLong___init__ T.d (fun vs H Q E h => ?_) (fun cdv A outer s H vs Q E hg hr h => ?_)
  · obtain ⟨a, rfl, _⟩ := h
    rfl
  · obtain ⟨a, rfl, ha, q⟩ := h
    refine ⟨_, pss_one (ps_expr (pe_binit PySem.F.excBase_OverflowError (by rfl) (T.z "OverflowError" (by decide +kernel)) (by decide +kernel) (by kernel_rfl) (by decide +kernel) (by decide +kernel) (by first | rfl | kernel_rfl) (pa_cons (pv 0) pa_nil))), ?_⟩
    exact ⟨_, rfl, a, He.ga K "TooLong", [], rfl, by decide, T.tl.q, ha, q⟩
def spTextX (K : PySem.W.Frag) : Sp := fun vs H Q E => ∃ (f : Addr) (x : V) (d : PyData) (φ : Fk), vs = [.ref f, x] ∧ FieldC K H f φ ∧ okP φ ∧ Do K H x d ∧ TopP H x d ∧
  (holdsB φ d = false → ∀ (dd : Addr) (H' : Hp), Same H H' → H' dd = some (.xd [(("value" : Str), x)]) → E (.ref (He.ga K "InvalidNumber")) (some dd) H') ∧
  (∀ t b, holdsB φ d = true → two d = some (t, b) → (FL10 ≤ absI t ∨ FL10 ≤ b) → ∀ H', Same H H' → E (.ref (He.ga K "TooLong")) none H') ∧
  (∀ t b, holdsB φ d = true → two d = some (t, b) → absI t < FL10 → b < FL10 → ∀ H', Same H H' → Q (.str (textS t b)) H')
theorem ok_textX (T : Tx K mg) : FnG P w K mg base (L2.CX P w) 5 (He.ma K (He.ga K "Field") "text") (spTextX K) := by
  refine mkX_Field_text T.d (fun vs H Q E h => ?_) (fun cdv A outer s H vs Q E hg hr h => ?_)
  · obtain ⟨f, x, d, φ, rfl, _⟩ := h
    rfl
  · obtain ⟨f, x, d, φ, rfl, F, ok, hd, tx, qn, ql, q⟩ := h
    obtain ⟨fd, F1, bd⟩ := ok_InvalidNumber (P := P) (w := w) (base := base) T
    obtain ⟨tl, gl⟩ := T.fl
    have nd := sc_Field_text.nd
    refine ⟨_, pss_cons (ps_if (pt_not (pt_val (pe_methG (pv 0) (kp_Field_holds T.d) (ok_holds T) (hr.mono (by decide)) hg pass0 (pa_cons (pv 1) pa_nil))))
        (pss_one (ps_raise rfl (takes_of rfl rfl rfl rfl) (pmk_oex T.eN.ox T.eN.iC T.eN.tI F1 (hr.mono (by decide)) bd .nil pass0 (by rfl) (T.g "InvalidNumber" (by decide +kernel)) (pa_cons (pv 1) pa_nil)))) pss_nil)
      (pss_cons (ps_if (pt_val (pe_callG (ok_is_longer T) (hr.mono (by decide)) hg (by rfl) (T.g "is_longer" (by decide +kernel)) (kp_is_longer T.d) pass0 (pa_cons (pv 1) (pa_cons (pe_op op_powW (pe_glob (v := .int FL) (by rfl) gl ⟨_, rfl⟩) pe_int) pa_nil))))
        (pss_one (ps_raise rfl (takes_of rfl rfl rfl rfl) (pmk_n PySem.F.excBase_OverflowError T.tl (ok_tl T) (hr.mono (by decide)) hg pass0 (by rfl) (T.g "TooLong" (by decide +kernel))))) pss_nil)
      (pss_cons (ps_asg (pe_callG (ok_parts T) (hr.mono (by decide)) hg (by rfl) (T.g "parts" (by decide +kernel)) (kp_parts T.d) pass0 (pa_cons (pv 1) pa_nil)) (pg_tup rfl (pgs_cons (pg_name (i := 2) nd rfl (.inl rfl)) (pgs_cons (pg_name (i := 3) nd rfl (.inl rfl)) pgs_nil))))
      (pss_one (ps_ret (pe_ifExp (pt_cmpR op_eq (pv 3) pe_int (nomark _)) (pe_joined1 (pe_fmtB T.dgN rfl (pv 2))) (pe_joined (.cons (pe_fmtB T.dgN rfl (pv 2)) (.cons pe_str (.cons (pe_fmtB T.dgN rfl (pv 3)) .nil))))))))), ?_⟩
    refine go_methG rfl F (by decide +kernel) (by decide +kernel) ⟨_, rfl, f, x, d, φ, rfl, F, hd, ok, _, rfl, ?_⟩
    cases eh : holdsB φ d with
    | false => exact ifT rfl ⟨_, rfl, by show 1 ≤ 1000; decide, fun a na => err_mk na fun dd H3 s3 hdd => qn eh dd H3 s3 hdd⟩
    | true =>
      obtain ⟨t, b, h2⟩ := holds_two eh
      refine ifF rfl ⟨_, rfl, _, _, rfl, rfl, ⟨by decide, by decide +kernel⟩, x, d, t, b, FL10, rfl, hd, h2, fun H1 s1 => ⟨_, rfl, ?_⟩⟩
      by_cases ht : FL10 ≤ absI t
      · exact ifT (by rw [decide_eq_true ht]; rfl) (ql t b eh h2 (.inl ht) H1 s1)
      · by_cases hb : FL10 ≤ b
        · exact ifT (by rw [decide_eq_true hb, Bool.or_true]) (ql t b eh h2 (.inr hb) H1 s1)
        · have q := q t b eh h2 (by omega) (by omega)
          have b1 : 1 ≤ b := by
            cases φ with
            | fr =>
              have eh : (isI d || frac d) = true := eh
              rw [Bool.or_eq_true] at eh
              rcases eh with eh | eh
              · obtain ⟨i, rfl⟩ := two_int eh
                cases h2
                decide
              · obtain ⟨t2, b2, rfl, b3, _⟩ := two_frac eh
                cases h2
                omega
            | md p =>
              obtain ⟨i, rfl, _⟩ := btw_int eh
              cases h2
              decide
          obtain ⟨nt, lt⟩ := text_len (nat3400 (i := t) (by omega))
          obtain ⟨nb, lb⟩ := text_len (nat3400 (i := b) (by unfold absI; split <;> omega))
          refine ifF (by rw [decide_eq_false ht, decide_eq_false hb]; rfl) ?_
          refine ⟨_, rfl, x, d, t, b, rfl, Do.same s1 _ _ hd, h2, fun p H2 s2 hp => ?_⟩
          refine ⟨p, _, rfl, hp, rfl, _, _, rfl, _, _, rfl, rfl, ?_⟩
          refine ⟨_, rfl, rfl, _, rfl, ?_⟩
          rw [iEq]
          by_cases e1 : b = 1
          · refine ifT (decide_eq_true e1) ⟨_, rfl, t, rfl, nt, ?_⟩
            have z := q H2 (s1.trans s2)
            unfold textS at z
            rw [if_pos e1] at z
            exact z
          · refine ifF (decide_eq_false e1) ⟨_, rfl, t, rfl, nt, _, rfl, ?_, _, rfl, ?_, _, rfl, b, rfl, nb, _, rfl, ?_, ?_⟩
            · rw [strLen_append, sizeLine_eq]
              have e0 : (Str.empty).length = 0 := rfl
              omega
            · rw [strLen_append, strLen_append, sizeLine_eq]
              have e0 : (Str.empty).length = 0 := rfl
              have e2 : ("/" : Str).length = 1 := rfl
              omega
            · rw [strLen_append, strLen_append, strLen_append, sizeLine_eq]
              have e0 : (Str.empty).length = 0 := rfl
              have e2 : ("/" : Str).length = 1 := rfl
              omega
            · have z := q H2 (s1.trans s2)
              unfold textS at z
              rw [if_neg e1] at z
              exact z
end
end K07

namespace Ver
open PySem PySem.Spec PyProof.Rows L2
/-- a comprehension over a text -/
theorem lc_str {x : Str} {g : TG} {tt : TT} {te : TE} {vs : List Nat} {σ : L2.St} {H1 : Hp} {D : Addr} {Qd : Hp → Prop} (Pv : Nat → Hp → Prop) (h0 : Pv 0 (upd H1 D (.lst [])))
    (hs : ∀ i c H, x.cps[i]? = some c → Pv i H → g (.str ⟨#[c]⟩) (wipe σ vs) H fun σ2 H2 => wipe σ2 vs = wipe σ vs ∧ tt σ2 H2 fun b H3 =>
      if b = true then te σ2 H3 fun y H4 => ∃ acc, H4 D = some (.lst acc) ∧ acc.length < sizeLine ∧ Pv (i + 1) (upd H4 D (.lst (acc ++ [y]))) else Pv (i + 1) H3) (hd : ∀ H, Pv x.cps.size H → Qd H) :
    ∃ W : Nat → Nat → Hp → Prop, (∃ m, W 0 m (upd H1 D (.lst []))) ∧ ∀ i m H, W i m H →
      ((Its x).stop i H ∧ Qd H) ∨ ((Its x).go i H ∧ ∃ Nx : Hp → Prop, (∀ H', Nx H' → ∃ m', m' < m ∧ W (i + 1) m' H') ∧ ∀ v H', (Its x).yld i H v H' → g v (wipe σ vs) H' fun σ2 H2 => wipe σ2 vs = wipe σ vs ∧ tt σ2 H2 fun b H3 =>
        if b = true then te σ2 H3 fun y H4 => ∃ acc, H4 D = some (.lst acc) ∧ acc.length < sizeLine ∧ Nx (upd H4 D (.lst (acc ++ [y]))) else Nx H3) := by
  refine ⟨fun i m H => m = x.cps.size - i ∧ i ≤ x.cps.size ∧ Pv i H, ⟨x.cps.size, by simp, Nat.zero_le _, h0⟩, ?_⟩
  rintro i m H ⟨rfl, hi, p⟩
  by_cases hlt : i < x.cps.size
  · refine .inr ⟨hlt, Pv (i + 1), fun H' p' => ⟨x.cps.size - (i + 1), by omega, rfl, hlt, p'⟩, fun v H' y => ?_⟩
    obtain ⟨rfl, c, hc, rfl⟩ := y
    exact hs i c _ hc p
  · have e : i = x.cps.size := by omega
    subst e
    exact .inl ⟨Nat.le_refl _, hd H p⟩
section
variable {X : Cx}
/-! ### == and != and in of data without dicts, any texts -/
def rEqP (K : PySem.W.Frag) : R2 := fun x y H Q => ∃ d e, Do K H x d ∧ Do K H y e ∧ d.plain = true ∧ e.plain = true ∧ d.depth ≤ 64 ∧ Q (.bl (PyData.eqv d e)) H
def rNeP (K : PySem.W.Frag) : R2 := fun x y H Q => ∃ d e, Do K H x d ∧ Do K H y e ∧ d.plain = true ∧ e.plain = true ∧ d.depth ≤ 64 ∧ Q (.bl (!PyData.eqv d e)) H
def rInP (K : PySem.W.Frag) : R2 := fun x y H Q => ∃ d ds, Do K H x d ∧ Do K H y (.list ds) ∧ d.plain = true ∧ PyData.plainAll ds = true ∧ d.depth ≤ 60 ∧ Q (.bl (ds.any fun z => PyData.eqv z d)) H
theorem op_eqP (sm : Sm X.K) (hu : X.A.units + 64 < cLine) : OpR X (compareOp .Eq) (rEqP X.K) := by
  intro pins s σ H x y v u Q I rx ry h
  obtain ⟨d, e, hd, he, sd, se, dd, q⟩ := h
  obtain ⟨as, r1, _⟩ := Do.reads sm I d x v hd rx
  obtain ⟨bs, r2, _⟩ := Do.reads sm I e y u he ry
  exact SeqAt.eq_plain r1 r2 sd se (by omega) ⟨.bl _, H, I, rfl, q⟩
theorem op_neP (sm : Sm X.K) (hu : X.A.units + 64 < cLine) : OpR X (compareOp .NotEq) (rNeP X.K) := by
  intro pins s σ H x y v u Q I rx ry h
  obtain ⟨d, e, hd, he, sd, se, dd, q⟩ := h
  obtain ⟨as, r1, _⟩ := Do.reads sm I d x v hd rx
  obtain ⟨bs, r2, _⟩ := Do.reads sm I e y u he ry
  exact SeqAt.ne_plain r1 r2 sd se (by omega) ⟨.bl _, H, I, rfl, q⟩
theorem op_inP (sm : Sm X.K) (hu : X.A.units + 64 < cLine) : OpR X (compareOp .In) (rInP X.K) := by
  intro pins s σ H x y v u Q I rx ry h
  obtain ⟨d, ds, hd, he, sd, se, dd, q⟩ := h
  obtain ⟨as, r1, _⟩ := Do.reads sm I d x v hd rx
  obtain ⟨bs, r2, _⟩ := Do.reads sm I (.list ds) y u he ry
  exact SeqAt.in_list_data r2 r1 se sd (by omega) ⟨.bl _, H, I, rfl, q⟩
end
end Ver
namespace K07
open PySem PySem.Spec PyProof.Rows L2 Ver Num SX
/-! ### _law_integer -/
theorem cut_to (a : List Nat) : cutS (S a) none (some 1) = S (a.take 1) := by
  rw [C8.cutS_slice, slice_to (by decide)]
  rfl
theorem cut_from (a : List Nat) : cutS (S a) (some 1) none = S (a.drop 1) := by
  rw [C8.cutS_slice, slice_from (by decide)]
  rfl
theorem dig_S : ("0123456789" : Str) = S [48, 49, 50, 51, 52, 53, 54, 55, 56, 57] := by decide +kernel
theorem dig_in (c : Nat) : decide (c ∈ ([48, 49, 50, 51, 52, 53, 54, 55, 56, 57] : List Nat)) = dgB c := by
  rw [Bool.eq_iff_iff]
  unfold dgB
  simp
  omega
def strsV (l : List Nat) : List V := l.map fun c => V.str (S [c])
def strsD (l : List Nat) : List PyData := l.map fun c => PyData.str (S [c])
theorem do_strs {K : PySem.W.Frag} {H : Hp} : ∀ l : List Nat, DoAll K H (strsV l) (strsD l)
  | [] => .nil
  | c :: r => .cons (.str _) (do_strs r)
theorem plain_strs : ∀ l : List Nat, PyData.plainAll (strsD l) = true
  | [] => rfl
  | c :: r => by
    show (PyData.plain (.str (S [c])) && PyData.plainAll (strsD r)) = true
    rw [plain_strs r]
    rfl
theorem depth_strs : ∀ l : List Nat, PyData.depthAll (strsD l) ≤ 1
  | [] => by simp [strsD, PyData.depthAll]
  | c :: r => by
    have h := depth_strs r
    show PyData.depthAll (PyData.str (S [c]) :: strsD r) ≤ 1
    simp only [PyData.depthAll, PyData.depth]
    omega
theorem eqv_strs (l : List Nat) : PyData.eqv (.list (strsD l)) (.list []) = decide (l = []) := by
  cases l with
  | nil => exact SeqAt.eqv_refl_plain _ rfl
  | cons c r => simp [strsD, PyData.eqv, PyData.eqvAll]
theorem filter_all (e : List Nat) : decide (e.filter (fun c => !dgB c) = []) = e.all dgB := by
  rw [Bool.eq_iff_iff, decide_eq_true_eq, List.filter_eq_nil_iff, List.all_eq_true]
  constructor
  · intro h c hc
    have := h c hc
    simpa using this
  · intro h c hc
    rw [h c hc]
    decide
/-- digits of a, without its sign -/
theorem core_bad {a e : List Nat} (he : e = if a.head? = some 45 then a.drop 1 else a) (h : ¬ 1 ≤ e.length ∨ ¬ e.length ≤ 100 ∨ e.all dgB = false ∨ a = [45, 48] ∨ (e.head? = some 48 ∧ 1 < e.length)) : sgnOf a = none := by
  have nat : natOf e = none ∨ e = [48] ∧ a = [45, 48] := by
    rcases h with h | h | h | h | h
    · left
      unfold natOf
      rw [decide_eq_false h, Bool.false_and]
      rfl
    · left
      unfold natOf
      rw [decide_eq_false h, Bool.false_and, Bool.and_false]
      rfl
    · left
      unfold natOf
      rw [h, Bool.and_false, Bool.and_false]
      rfl
    · right
      rw [he, h]
      exact ⟨rfl, rfl⟩
    · left
      unfold natOf
      have hn : e ≠ [48] := fun z => by rw [z] at h; simp at h
      rw [decide_eq_true h.1, decide_eq_false hn]
      split <;> rfl
  rcases nat with nat | ⟨_, rfl⟩
  · by_cases hs : a.head? = some 45
    · obtain ⟨r, rfl⟩ : ∃ r, a = 45 :: r := by
        cases a with
        | nil => cases hs
        | cons c r => cases hs; exact ⟨r, rfl⟩
      rw [if_pos hs] at he
      have he : e = r := he
      subst he
      show (match natOf e with | some n => if n = 0 then none else some (-(n : Int)) | none => none) = none
      rw [nat]
    · rw [if_neg hs] at he
      subst he
      rw [sgn_no hs]
      unfold natI
      rw [nat]
      rfl
  · rfl
theorem core_good {a e : List Nat} (he : e = if a.head? = some 45 then a.drop 1 else a) (h1 : 1 ≤ e.length) (h2 : e.length ≤ 100) (h3 : e.all dgB = true) (h4 : a ≠ [45, 48]) (h5 : ¬ (e.head? = some 48 ∧ 1 < e.length)) :
    ∃ n, PySem.intText? (S a) = some n ∧ sgnOf a = some n ∧ a.length ≤ 101 := by
  have hne : e ≠ [] := fun z => by rw [z] at h1; simp at h1
  have n48 : e.head? = some 48 → e = [48] := fun z => by
    cases e with
    | nil => cases z
    | cons c r =>
      cases z
      have : ¬ 1 < (48 :: r).length := fun y => h5 ⟨rfl, y⟩
      cases r with
      | nil => rfl
      | cons d t => simp at this
  have nat : natOf e = some (NumText.digitsVal e) := by
    unfold natOf
    rw [decide_eq_true h1, decide_eq_true h2, h3]
    rw [if_pos (show (true && (true && true)) = true from rfl)]
    by_cases z : e.head? = some 48
    · rw [if_neg (by rw [decide_eq_true z, decide_eq_true (n48 z)]; decide)]
    · rw [if_neg (by rw [decide_eq_false z]; simp)]
  by_cases hs : a.head? = some 45
  · obtain ⟨r, rfl⟩ : ∃ r, a = 45 :: r := by
      cases a with
      | nil => cases hs
      | cons c r => cases hs; exact ⟨r, rfl⟩
    rw [if_pos hs] at he
    have he : e = r := he
    subst he
    have pos : NumText.digitsVal e ≠ 0 := by
      cases e with
      | nil => exact absurd rfl hne
      | cons c t =>
        by_cases z : c = 48
        · exact absurd (by rw [n48 (by rw [z]; rfl)]) h4
        · rw [List.all_cons, Bool.and_eq_true] at h3
          have hc := h3.1
          unfold dgB at hc
          rw [Bool.and_eq_true, decide_eq_true_eq, decide_eq_true_eq] at hc
          have := NumText.digitsVal_pos (c := c) (cs := t) (by omega)
          omega
    refine ⟨-((NumText.digitsVal e : Nat) : Int), intText_neg (x := S (45 :: e)) rfl (all_dg.mpr h3) hne (by rw [S_len, List.length_cons]; omega), ?_, by rw [List.length_cons]; omega⟩
    show (match natOf e with | some n => if n = 0 then none else some (-(n : Int)) | none => none) = _
    rw [nat]
    exact if_neg pos
  · rw [if_neg hs] at he
    subst he
    refine ⟨_, int_S h3 hne (by omega), ?_, by omega⟩
    rw [sgn_no hs]
    unfold natI
    rw [nat]
    rfl
section
variable {P : Program} {w : World} {K : PySem.W.Frag} {mg : Str → Option Value} {base : Heap}
def spLInt : Sp := fun vs H Q _ => ∃ (a : List Nat), vs = [.str (S a)] ∧ a.length ≤ 20000 ∧ ∀ H', Same H H' → Q (optV (sgnOf a)) H'
theorem ok_lint (T : Tx K mg) : FnG P w K mg base CX0 1 (He.ga K "_law_integer") spLInt := by
  refine mk__law_integer T.d (fun vs H Q E h => ?_) (fun cdv A outer s H vs Q E hg hr h => ?_)
  · obtain ⟨a, rfl, _⟩ := h
    rfl
  · obtain ⟨a, rfl, tl, q⟩ := h
    have nd := sc__law_integer.nd
    have hu := hr.units
    have zl := T.z "len" (by decide +kernel)
    have bl : bootBuiltins "len" = some (.builtin "len") := by decide +kernel
    refine ⟨_, pss_cons (ps_set (i := 1) nd rfl (Or.inl rfl) (pe_ifExp (pt_cmpR op_eq (pe_slice sl_str (pv 0) po_none (po_some pe_int)) pe_str (nomark _)) (pe_slice sl_str (pv 0) (po_some pe_int) po_none) (pv 0)))
      (pss_cons (ps_if (PW.pt (pw_or (pt_not (pt_chain op_le op_le pe_int (pe_callB call_len_str (by rfl) zl bl (pa_cons (pv 1) pa_nil)) pe_int))
          (pw_or (pt_cmpR (op_neP T.sm hu) (pe_lc (own := [("_law_sign", 2)]) (g := gName 2) rfl nd (pi_str (pv 1)) (blkOk_by (N := n__law_integer) (sc := defScope s__law_integer) (by decide +kernel)) (fun _ _ _ _ _ => pg_name (i := 2) nd rfl (Or.inl rfl))
              (fun _ _ _ _ _ => pts_one (pt_cmpR op_notIn_str (pv 2) pe_str (by rfl))) (fun _ _ _ _ _ => pv 2)) (pe_lst pa_nil) (nomark _))
          (pw_or1 (pt_cmpR op_eq (pv 0) pe_str (nomark _)))))) (pss_one (ps_ret pe_non)) pss_nil)
      (pss_one (ps_ret (pe_ifExp (PW.pt (pw_and (pt_cmpR op_eq (pe_ix ix_str (pv 1) pe_int (fun _ _ => rfl)) pe_str (nomark _)) (pw_and1 (pt_cmpR op_gt (pe_callB call_len_str (by rfl) zl bl (pa_cons (pv 1) pa_nil)) pe_int (nomark _))))) pe_non
        (pe_callTy call_int_str (by rfl) (T.z "int" (by decide +kernel)) (by decide +kernel) (pa_cons (pv 0) pa_nil)))))), ?_⟩
    have zm : ("-" : Str) = S [45] := by decide +kernel
    have z0 : ("0" : Str) = S [48] := by decide +kernel
    have zm0 : ("-0" : Str) = S [45, 48] := by decide +kernel
    have ls : (S a).length = a.length := S_len a
    have sl : (S a).length ≤ sizeLine := by rw [ls]; exact sl_of tl
    refine ⟨_, rfl, 1, rfl, _, rfl, sl, rfl, _, rfl, ?_⟩
    rw [sEq, cut_to, zm, eS]
    have ht1 : decide (a.take 1 = [45]) = decide (a.head? = some 45) := by
      cases a with
      | nil => rfl
      | cons c r => simp
    rw [ht1]
    by_cases hs : a.head? = some 45
    · refine ifT (decide_eq_true hs) ⟨_, rfl, 1, rfl, _, rfl, sl, ?_⟩
      rw [cut_from]
      have le : (S (a.drop 1)).length = (a.drop 1).length := S_len (a.drop 1)
      have lee : (a.drop 1).length ≤ 20000 := by rw [List.length_drop]; omega
      have sle : (S (a.drop 1)).length ≤ sizeLine := by rw [le]; exact sl_of lee
      have he : (a.drop 1) = if a.head? = some 45 then a.drop 1 else a := by rw [if_pos hs]
      refine ⟨_, rfl, _, rfl, sle, _, _, rfl, rfl, _, rfl, ?_⟩
      rw [le]
      by_cases c1 : (1 : Int) ≤ ((a.drop 1).length : Int)
      · refine ifT (decide_eq_true c1) ⟨_, _, rfl, rfl, _, rfl, ?_⟩
        by_cases c2 : ((a.drop 1).length : Int) ≤ 100
        · rw [decide_eq_true c2]
          refine ifF rfl ?_
          refine ⟨_, rfl, _, rfl, fun D nD => lc_str (x := S (a.drop 1)) (fun i H2 => Same H H2 ∧ H2 D = some (.lst (strsV (((a.drop 1).take i).filter fun c => !dgB c)))) ⟨same_up nD, by rw [upd_same]; rfl⟩ ?_ ?_⟩
          · rintro i c H2 hc ⟨sm, eD⟩
            have hc' : (a.drop 1)[i]? = some c := by
              have z : (S (a.drop 1)).cps[i]? = (a.drop 1)[i]? := by simp [S]
              rw [← z]
              exact hc
            have li := (List.getElem?_eq_some_iff.mp hc').1
            refine ⟨rfl, ?_⟩
            refine ⟨_, rfl, S [c], _, rfl, rfl, _, rfl, ?_⟩
            rw [dig_S, in_one, dig_in]
            rw [List.take_add_one, hc', List.filter_append] 
            cases ed : dgB c with
            | true =>
              refine ifF rfl ⟨sm, ?_⟩
              rw [eD]
              simp [strsV, List.filter, ed]
            | false =>
              refine ifT rfl ⟨_, rfl, _, eD, ?_, fun b o z => ?_, ?_⟩
              · unfold strsV
                rw [List.length_map]
                refine Nat.lt_of_le_of_lt (Nat.le_trans (List.length_filter_le _ _) ?_) (show (a.drop 1).length < sizeLine by rw [sizeLine_eq]; omega)
                rw [List.length_take]
                omega
              · rw [upd_ne (ne_of_none z nD)]
                exact sm b o z
              · rw [upd_same]
                simp [strsV, List.filter, ed]
          · rintro H2 ⟨sm, eD⟩
            have sz : (S (a.drop 1)).cps.size = (a.drop 1).length := by simp [S]
            rw [sz, List.take_of_length_le (Nat.le_refl _)] at eD
            refine ⟨by show 0 ≤ sizeLine; decide, fun z nz => ?_⟩
            have s3 := sm.trans (same_up (o := .lst []) nz)
            refine ⟨.list (strsD ((a.drop 1).filter fun c => !dgB c)), .list [], .lst (SqL.of (same_up nz _ _ eD)) (do_strs _), .lst (SqL.of upd_same) .nil, by show PyData.plainAll _ = true; exact plain_strs _, rfl, by
              have := depth_strs ((a.drop 1).filter fun c => !dgB c)
              simp only [PyData.depth]
              omega, _, rfl, ?_⟩
            rw [eqv_strs, filter_all]
            have q := q _ s3
            cases c3 : (a.drop 1).all dgB with
            | false =>
              rw [core_bad he (.inr (.inr (.inl c3)))] at q
              exact ifT rfl (ifT rfl q)
            | true =>
              refine ifF rfl ⟨_, rfl, rfl, _, rfl, ?_⟩
              rw [sEq, zm0, eS]
              by_cases c4 : a = [45, 48]
              · rw [core_bad he (.inr (.inr (.inr (.inl c4))))] at q
                exact ifT (decide_eq_true c4) q
              · refine ifF (decide_eq_false c4) ?_
                obtain ⟨c, r, ecr⟩ : ∃ c r, (a.drop 1) = c :: r := by
                  cases hh : (a.drop 1) with
                  | nil => rw [hh] at c1; simp at c1
                  | cons c r => exact ⟨c, r, rfl⟩
                refine ⟨_, rfl, _, 0, c, rfl, rfl, sle, by rw [ecr]; exact atI_nat (rfl : (c :: r)[0]? = some c), rfl, _, rfl, ?_⟩
                rw [sEq, z0]
                have ec : decide ((⟨#[c]⟩ : Str) = S [48]) = decide ((a.drop 1).head? = some 48) := by
                  have z : (⟨#[c]⟩ : Str) = S [c] := rfl
                  rw [z, eS, ecr]
                  simp
                rw [ec]
                have fin : ¬ ((a.drop 1).head? = some 48 ∧ 1 < (a.drop 1).length) → ∃ n, PySem.intText? (S a) = some n ∧ (S a).length ≤ 640 ∧ Q (.int n) (upd H2 z (.lst [])) := fun c5 => by
                  obtain ⟨n, hn, en, l⟩ := core_good he (by omega) (by omega) c3 c4 c5
                  rw [en] at q
                  exact ⟨n, hn, by rw [ls]; omega, q⟩
                by_cases c5 : (a.drop 1).head? = some 48
                · refine ifT (decide_eq_true c5) ⟨_, rfl, _, rfl, sle, _, _, rfl, rfl, _, rfl, ?_⟩
                  rw [le]
                  by_cases c6 : (1 : Int) < ((a.drop 1).length : Int)
                  · rw [core_bad he (.inr (.inr (.inr (.inr ⟨c5, by omega⟩))))] at q
                    exact ifT (decide_eq_true c6) q
                  · obtain ⟨n, hn, l, qn⟩ := fin (fun z => by omega)
                    exact ifF (decide_eq_false c6) ⟨_, rfl, _, n, rfl, hn, l, qn⟩
                · obtain ⟨n, hn, l, qn⟩ := fin (fun z => c5 z.1)
                  exact ifF (decide_eq_false c5) (ifF rfl ⟨_, rfl, _, n, rfl, hn, l, qn⟩)
        · rw [decide_eq_false c2]
          have q := q _ (Same.refl H)
          rw [core_bad he (.inr (.inl (by omega)))] at q
          exact ifT rfl (ifT rfl q)
      · have q := q _ (Same.refl H)
        rw [core_bad he (.inl (by omega))] at q
        exact ifF (decide_eq_false c1) ⟨_, rfl, ifT rfl (ifT rfl q)⟩
    · refine ifF (decide_eq_false hs) ⟨_, rfl, ?_⟩
      have le : (S a).length = a.length := S_len a
      have lee : a.length ≤ 20000 := tl
      have sle : (S a).length ≤ sizeLine := by rw [le]; exact sl_of lee
      have he : a = if a.head? = some 45 then a.drop 1 else a := by rw [if_neg hs]
      refine ⟨_, rfl, _, rfl, sle, _, _, rfl, rfl, _, rfl, ?_⟩
      rw [le]
      by_cases c1 : (1 : Int) ≤ (a.length : Int)
      · refine ifT (decide_eq_true c1) ⟨_, _, rfl, rfl, _, rfl, ?_⟩
        by_cases c2 : (a.length : Int) ≤ 100
        · rw [decide_eq_true c2]
          refine ifF rfl ?_
          refine ⟨_, rfl, _, rfl, fun D nD => lc_str (x := S a) (fun i H2 => Same H H2 ∧ H2 D = some (.lst (strsV ((a.take i).filter fun c => !dgB c)))) ⟨same_up nD, by rw [upd_same]; rfl⟩ ?_ ?_⟩
          · rintro i c H2 hc ⟨sm, eD⟩
            have hc' : a[i]? = some c := by
              have z : (S a).cps[i]? = a[i]? := by simp [S]
              rw [← z]
              exact hc
            have li := (List.getElem?_eq_some_iff.mp hc').1
            refine ⟨rfl, ?_⟩
            refine ⟨_, rfl, S [c], _, rfl, rfl, _, rfl, ?_⟩
            rw [dig_S, in_one, dig_in]
            rw [List.take_add_one, hc', List.filter_append] 
            cases ed : dgB c with
            | true =>
              refine ifF rfl ⟨sm, ?_⟩
              rw [eD]
              simp [strsV, List.filter, ed]
            | false =>
              refine ifT rfl ⟨_, rfl, _, eD, ?_, fun b o z => ?_, ?_⟩
              · unfold strsV
                rw [List.length_map]
                refine Nat.lt_of_le_of_lt (Nat.le_trans (List.length_filter_le _ _) ?_) (show a.length < sizeLine by rw [sizeLine_eq]; omega)
                rw [List.length_take]
                omega
              · rw [upd_ne (ne_of_none z nD)]
                exact sm b o z
              · rw [upd_same]
                simp [strsV, List.filter, ed]
          · rintro H2 ⟨sm, eD⟩
            have sz : (S a).cps.size = a.length := by simp [S]
            rw [sz, List.take_of_length_le (Nat.le_refl _)] at eD
            refine ⟨by show 0 ≤ sizeLine; decide, fun z nz => ?_⟩
            have s3 := sm.trans (same_up (o := .lst []) nz)
            refine ⟨.list (strsD (a.filter fun c => !dgB c)), .list [], .lst (SqL.of (same_up nz _ _ eD)) (do_strs _), .lst (SqL.of upd_same) .nil, by show PyData.plainAll _ = true; exact plain_strs _, rfl, by
              have := depth_strs (a.filter fun c => !dgB c)
              simp only [PyData.depth]
              omega, _, rfl, ?_⟩
            rw [eqv_strs, filter_all]
            have q := q _ s3
            cases c3 : a.all dgB with
            | false =>
              rw [core_bad he (.inr (.inr (.inl c3)))] at q
              exact ifT rfl (ifT rfl q)
            | true =>
              refine ifF rfl ⟨_, rfl, rfl, _, rfl, ?_⟩
              rw [sEq, zm0, eS]
              by_cases c4 : a = [45, 48]
              · rw [core_bad he (.inr (.inr (.inr (.inl c4))))] at q
                exact ifT (decide_eq_true c4) q
              · refine ifF (decide_eq_false c4) ?_
                obtain ⟨c, r, ecr⟩ : ∃ c r, a = c :: r := by
                  cases hh : a with
                  | nil => rw [hh] at c1; simp at c1
                  | cons c r => exact ⟨c, r, rfl⟩
                refine ⟨_, rfl, _, 0, c, rfl, rfl, sle, by rw [ecr]; exact atI_nat (rfl : (c :: r)[0]? = some c), rfl, _, rfl, ?_⟩
                rw [sEq, z0]
                have ec : decide ((⟨#[c]⟩ : Str) = S [48]) = decide (a.head? = some 48) := by
                  have z : (⟨#[c]⟩ : Str) = S [c] := rfl
                  rw [z, eS, ecr]
                  simp
                rw [ec]
                have fin : ¬ (a.head? = some 48 ∧ 1 < a.length) → ∃ n, PySem.intText? (S a) = some n ∧ (S a).length ≤ 640 ∧ Q (.int n) (upd H2 z (.lst [])) := fun c5 => by
                  obtain ⟨n, hn, en, l⟩ := core_good he (by omega) (by omega) c3 c4 c5
                  rw [en] at q
                  exact ⟨n, hn, by rw [ls]; omega, q⟩
                by_cases c5 : a.head? = some 48
                · refine ifT (decide_eq_true c5) ⟨_, rfl, _, rfl, sle, _, _, rfl, rfl, _, rfl, ?_⟩
                  rw [le]
                  by_cases c6 : (1 : Int) < (a.length : Int)
                  · rw [core_bad he (.inr (.inr (.inr (.inr ⟨c5, by omega⟩))))] at q
                    exact ifT (decide_eq_true c6) q
                  · obtain ⟨n, hn, l, qn⟩ := fin (fun z => by omega)
                    exact ifF (decide_eq_false c6) ⟨_, rfl, _, n, rfl, hn, l, qn⟩
                · obtain ⟨n, hn, l, qn⟩ := fin (fun z => c5 z.1)
                  exact ifF (decide_eq_false c5) (ifF rfl ⟨_, rfl, _, n, rfl, hn, l, qn⟩)
        · rw [decide_eq_false c2]
          have q := q _ (Same.refl H)
          rw [core_bad he (.inr (.inl (by omega)))] at q
          exact ifT rfl (ifT rfl q)
      · have q := q _ (Same.refl H)
        rw [core_bad he (.inl (by omega))] at q
        exact ifF (decide_eq_false c1) ⟨_, rfl, ifT rfl (ifT rfl q)⟩
end
end K07

namespace K07
open PySem PySem.Spec PyProof.Rows L2 Ver Num SX
/-! ### _law_due -/
def seenD (φ : Fk) (d : PyData) : PyData := match readD φ d with
  | some e => e
  | none => .str "none"
def pcs (a : List Nat) : List (List Nat) := TL.spl [47] 0 [] a
theorem pcs_no {a : List Nat} (h : 47 ∉ a) : pcs a = [a] := TL.spl_last1 (acc := []) h
theorem pcs_at {p q : List Nat} (h : 47 ∉ p) : pcs (p ++ 47 :: q) = p :: pcs q := TL.spl_part1 (S := []) (acc := []) (rest := q) h
theorem pcs_ne (a : List Nat) : pcs a ≠ [] := by
  by_cases h : 47 ∈ a
  · obtain ⟨p, q, rfl, n⟩ := first_at h
    rw [pcs_at n]
    exact List.cons_ne_nil _ _
  · rw [pcs_no h]
    exact List.cons_ne_nil _ _
theorem pcs_len : ∀ (n : Nat) (a : List Nat), a.length = n → (pcs a).length ≤ n + 1 ∧ ∀ p ∈ pcs a, p.length ≤ n := by
  intro n
  induction n using Nat.strongRecOn with
  | _ n ih =>
    intro a ha
    by_cases h : 47 ∈ a
    · obtain ⟨p, q, rfl, nn⟩ := first_at h
      rw [List.length_append, List.length_cons] at ha
      obtain ⟨i1, i2⟩ := ih q.length (by omega) q rfl
      rw [pcs_at nn]
      refine ⟨by rw [List.length_cons]; omega, fun x hx => ?_⟩
      rcases List.mem_cons.mp hx with rfl | hx
      · omega
      · have := i2 x hx
        omega
    · rw [pcs_no h]
      refine ⟨by simp, fun x hx => ?_⟩
      rw [List.mem_singleton.mp hx]
      omega
theorem nat_no {a : List Nat} (h : 47 ∈ a) : natI a = none := by
  unfold natI natOf
  have e : a.all dgB = false := by
    cases z : a.all dgB with
    | false => rfl
    | true =>
      have := List.all_eq_true.mp z 47 h
      cases this
  rw [e, Bool.and_false, Bool.and_false]
  rfl
theorem nat_sgn {a : List Nat} {i : Int} (h : natI a = some i) : sgnOf a = some i := by
  have hh : a.head? ≠ some 45 := fun z => by
    have e : a.all dgB = false := by
      cases y : a.all dgB with
      | false => rfl
      | true =>
        cases a with
        | nil => cases z
        | cons c r =>
          cases z
          rw [List.all_cons, Bool.and_eq_true] at y
          have := y.1
          cases this
    unfold natI natOf at h
    rw [e, Bool.and_false, Bool.and_false] at h
    cases h
  rw [sgn_no hh, h]
theorem sgn_nat {a : List Nat} {i : Int} (h : sgnOf a = some i) : natI a = some i ∨ (natI a = none ∧ i < 0) := by
  unfold sgnOf at h
  split at h
  · rename_i r
    split at h
    · rename_i n hn
      split at h
      · cases h
      · rename_i n0
        cases h
        refine .inr ⟨?_, by omega⟩
        have e : (45 :: r).all dgB = false := rfl
        unfold natI natOf
        rw [e, Bool.and_false, Bool.and_false]
        rfl
    · cases h
  · exact .inl h
theorem numB_two (φ : Fk) (d e : PyData) (h : frac2 d e = false) : numB φ (.tuple [d, e]) = false := by
  cases φ with
  | fr => exact numB_not_fr rfl (by rw [frac_two]; exact h)
  | md p => rfl
theorem numB_non (φ : Fk) : numB φ .none = false := by cases φ <;> rfl
theorem frac2_l (o : PyData) : frac2 .none o = false := by cases o <;> rfl
theorem frac2_r (o : PyData) : frac2 o .none = false := by cases o <;> rfl
/-- found: by the law's pieces -/
theorem due_one {φ : Fk} {a : List Nat} (h : 47 ∉ a) {i : Int} (hi : sgnOf a = some i) : readD φ (.str (S a)) = if numB φ (.int i) = true then some (.int i) else none := by
  show (if numB φ (numD a) = true then some (numD a) else none) = _
  rw [numD_no h, hi]
  rfl
theorem due_two {φ : Fk} {p q : List Nat} (n : 47 ∉ p) {t b : Int} (ht : sgnOf p = some t) (hb : sgnOf q = some b) : readD φ (.str (S (p ++ 47 :: q))) = if numB φ (.tuple [.int t, .int b]) = true then some (.tuple [.int t, .int b]) else none := by
  show (if numB φ (numD (p ++ 47 :: q)) = true then some (numD (p ++ 47 :: q)) else none) = _
  rw [numD_at n, ht]
  rcases sgn_nat hb with h | ⟨h, neg⟩
  · rw [h]
    rfl
  · rw [h]
    have e1 : numB φ (.tuple [optD (some t), optD none]) = false := numB_two _ _ _ (frac2_r _)
    have e2 : numB φ (.tuple [.int t, .int b]) = false := numB_two _ _ _ (by
      show (decide (2 ≤ b) && _) = false
      rw [decide_eq_false (by omega)]
      rfl)
    rw [e1, e2]
    rfl
theorem due_none {φ : Fk} {a : List Nat} (h : (∃ p ∈ pcs a, sgnOf p = none) ∨ 2 < (pcs a).length) : readD φ (.str (S a)) = none := by
  show (if numB φ (numD a) = true then some (numD a) else none) = _
  have z : numB φ (numD a) = false := by
    by_cases hs : 47 ∈ a
    · obtain ⟨p, q, rfl, n⟩ := first_at hs
      rw [numD_at n]
      rw [pcs_at n] at h
      cases hp : sgnOf p with
      | none => exact numB_two _ _ _ (frac2_l _)
      | some t =>
        cases hq : natI q with
        | none => exact numB_two _ _ _ (frac2_r _)
        | some b =>
          exfalso
          have q47 : 47 ∉ q := fun z => by
            rw [nat_no z] at hq
            cases hq
          rw [pcs_no q47] at h
          rcases h with ⟨x, hx, e⟩ | h
          · simp only [List.mem_cons, List.not_mem_nil, or_false] at hx
            rcases hx with rfl | rfl
            · rw [hp] at e; cases e
            · rw [nat_sgn hq] at e; cases e
          · simp at h
    · rw [numD_no hs]
      rw [pcs_no hs] at h
      rcases h with ⟨x, hx, e⟩ | h
      · rw [List.mem_singleton.mp hx] at e
        rw [e]
        exact numB_non φ
      · simp at h
  rw [z]
  rfl
theorem any_none (ps : List (List Nat)) : ((ps.map fun p => optD (sgnOf p)).any fun z => PyData.eqv z .none) = ps.any fun p => (sgnOf p).isNone := by
  induction ps with
  | nil => rfl
  | cons p r ih =>
    rw [List.map_cons, List.any_cons, List.any_cons, ih]
    congr 1
    cases sgnOf p with
    | none => exact SeqAt.eqv_refl_plain .none rfl
    | some i => simp [optD, PyData.eqv]
theorem plain_opts : ∀ ps : List (List Nat), PyData.plainAll (ps.map fun p => optD (sgnOf p)) = true
  | [] => rfl
  | p :: r => by
    show (PyData.plain (optD (sgnOf p)) && PyData.plainAll (r.map fun p => optD (sgnOf p))) = true
    rw [plain_opts r]
    cases sgnOf p <;> rfl
theorem do_opts {K : PySem.W.Frag} {H : Hp} : ∀ ps : List (List Nat), DoAll K H (ps.map fun p => optV (sgnOf p)) (ps.map fun p => optD (sgnOf p))
  | [] => .nil
  | p :: r => .cons (do_opt _) (do_opts r)
section
variable {P : Program} {w : World} {K : PySem.W.Frag} {mg : Str → Option Value} {base : Heap}
def spDue (K : PySem.W.Frag) : Sp := fun vs H Q _ => ∃ (φ : Fk) (a : List Nat), vs = [.int φ.code, .str (S a)] ∧ okP φ ∧ a.length ≤ 20000 ∧ ∀ (x : V) (H' : Hp), Same H H' → Do K H' x (seenD φ (.str (S a))) → Q x H'
theorem ok_due (T : Tx K mg) : FnG P w K mg base CX0 3 (He.ga K "_law_due") (spDue K) := by
  refine mk__law_due T.d (fun vs H Q E h => ?_) (fun cdv A outer s H vs Q E hg hr h => ?_)
  · obtain ⟨φ, a, rfl, _⟩ := h
    rfl
  · obtain ⟨φ, a, rfl, ok, tl, q⟩ := h
    have nd := sc__law_due.nd
    have hu := hr.units
    have zl := T.z "len" (by decide +kernel)
    have bl : bootBuiltins "len" = some (.builtin "len") := by decide +kernel
    refine ⟨_, pss_cons (ps_setLc (i := 2) (own := [("_law_piece", 3)]) (g := gName 3) (tt := tYes) rfl nd rfl rfl (sw_true rfl rfl rfl rfl) (pi_list (pe_split (pv 1) pe_str)) (blkOk_by (N := n__law_due) (sc := defScope s__law_due) (by decide +kernel)) (fun _ _ _ _ _ => pg_name (i := 3) nd rfl (Or.inl rfl))
        (fun _ _ _ _ _ => pts_nil) (fun _ _ _ _ _ => pe_callG (ok_lint T) (hr.mono (by decide)) hg (by rfl) (T.g "_law_integer" (by decide +kernel)) (kp__law_integer T.d) pass0 (pa_cons (pv 3) pa_nil)))
      (pss_cons (ps_if (PW.pt (pw_or (pt_cmpR (op_inP T.sm hu) pe_non (pv 2) (by rfl)) (pw_or1 (pt_cmpR op_gt (pe_callB call_len_seq (by rfl) zl bl (pa_cons (pv 2) pa_nil)) pe_int (nomark _))))) (pss_one (ps_ret pe_str)) pss_nil)
      (pss_cons (ps_set (i := 4) nd rfl (Or.inl rfl) (pe_ifExp (pt_cmpR op_eq (pe_callB call_len_seq (by rfl) zl bl (pa_cons (pv 2) pa_nil)) pe_int (nomark _)) (pe_ix ix_list (pv 2) pe_int (fun _ _ => rfl)) (pe_tup (pa_cons (pe_ix ix_list (pv 2) pe_int (fun _ _ => rfl)) (pa_cons (pe_ix ix_list (pv 2) pe_int (fun _ _ => rfl)) pa_nil)))))
      (pss_one (ps_ret (pe_ifExp (pt_val (pe_callG (ok_lnum T) (hr.mono (by decide)) hg (by rfl) (T.g "_law_is_number" (by decide +kernel)) (kp__law_is_number T.d) pass0 (pa_cons (pv 0) (pa_cons (pv 4) pa_nil)))) (pv 4) pe_str))))), ?_⟩
    have z1 : ("/" : Str) = S [47] := by decide +kernel
    have ls : (S a).length = a.length := S_len a
    have sl : (S a).length + 2 ≤ sizeLine := by rw [ls, sizeLine_eq]; omega
    have esp : Txt.split (S a) "/" = (pcs a).map S := by
      rw [z1]
      exact split_S (by decide) (by decide)
    obtain ⟨pl, pm⟩ := pcs_len _ a rfl
    refine ⟨_, rfl, ⟨_, rfl⟩, _, _, rfl, rfl, by decide +kernel, sl, fun l nl => ?_⟩
    rw [esp]
    have s1 := same_up (o := .lst (((pcs a).map S).map V.str)) nl
    refine ⟨l, rfl, ⟨_, SqL.of upd_same⟩, fun D nD => lc_list (K := K) (a := l) (xs := ((pcs a).map S).map V.str) (g := gName 3) (tt := tYes) (te := fun σ H Q => tCons (tVar 3) tNil σ H fun vs H1 => spLInt vs H1 Q E0) (vs := [3]) (fun i H2 => Same (upd H l (.lst (((pcs a).map S).map V.str))) H2 ∧ H2 D = some (.lst (((pcs a).take i).map fun p => optV (sgnOf p))))
      ⟨same_up nD, by rw [upd_same]; rfl⟩ (fun i H2 _ p => SqL.of (p.1 _ _ upd_same)) ?_ ?_⟩
    · rintro i x H2 hi ⟨sm, eD⟩
      rw [List.map_map, List.getElem?_map] at hi
      obtain ⟨p, hp, rfl⟩ := Option.map_eq_some_iff.mp hi
      have li := (List.getElem?_eq_some_iff.mp hp).1
      refine ⟨rfl, ?_⟩
      refine ⟨_, rfl, p, rfl, Nat.le_trans (pm p (List.mem_of_getElem? hp)) tl, fun H3 s3 => ?_⟩
      refine ⟨_, s3 _ _ eD, ?_, fun b o z => ?_, ?_⟩
      · rw [List.length_map, List.length_take, sizeLine_eq]
        omega
      · rw [upd_ne (ne_of_none z nD)]
        exact s3 _ _ (sm b o z)
      · rw [upd_same, List.take_add_one, hp, List.map_append]
        rfl
    · rintro H2 ⟨sm, eD⟩
      rw [List.length_map, List.length_map, List.take_length] at eD
      have s2 := s1.trans sm
      refine ⟨.ref D, rfl, .none, (pcs a).map fun p => optD (sgnOf p), .non, .lst (SqL.of eD) (do_opts _), rfl, plain_opts _, by decide, _, rfl, ?_⟩
      rw [any_none]
      have bad : ((∃ p ∈ pcs a, sgnOf p = none) ∨ 2 < (pcs a).length) → Q (.str "none") H2 := fun h => q _ _ s2 (by
        unfold seenD
        rw [due_none h]
        exact .str _)
      cases en : (pcs a).any fun p => (sgnOf p).isNone with
      | true =>
        obtain ⟨p, hp, e⟩ := List.any_eq_true.mp en
        exact ifT rfl (ifT rfl (bad (.inl ⟨p, hp, by simpa using e⟩)))
      | false =>
        have all : ∀ p ∈ pcs a, ∃ i, sgnOf p = some i := fun p hp => by
          have := List.any_eq_false.mp en p hp
          exact Option.isSome_iff_exists.mp (Option.isSome_iff_ne_none.mpr (by simpa using this))
        refine ifF rfl ⟨.ref D, rfl, D, _, rfl, .inl (SqL.of eD), _, _, rfl, rfl, _, rfl, ?_⟩
        rw [List.length_map]
        by_cases h2 : (2 : Int) < ((pcs a).length : Int)
        · exact ifT (decide_eq_true h2) (bad (.inr (by omega)))
        · refine ifF (decide_eq_false h2) ?_
          refine ⟨.ref D, rfl, D, _, rfl, .inl (SqL.of eD), rfl, _, rfl, ?_⟩
          rw [List.length_map, iEq]
          by_cases hs : 47 ∈ a
          · obtain ⟨p, r, rfl, n⟩ := first_at hs
            have er : pcs r = [r] := by
              by_cases h4 : 47 ∈ r
              · exfalso
                obtain ⟨p2, r2, rfl, n2⟩ := first_at h4
                rw [pcs_at n, pcs_at n2] at h2
                have := List.length_pos_iff.mpr (pcs_ne r2)
                simp only [List.length_cons] at h2
                omega
              · exact pcs_no h4
            have ep : pcs (p ++ 47 :: r) = [p, r] := by rw [pcs_at n, er]
            rw [ep] at eD all ⊢
            obtain ⟨t, ht⟩ := all p (by simp)
            obtain ⟨b, hb⟩ := all r (by simp)
            refine ifF (decide_eq_false (show ¬ ((2 : Nat) : Int) = 1 by decide)) ?_
            have eD : H2 D = some (.lst [optV (sgnOf p), optV (sgnOf r)]) := eD
            rw [ht, hb] at eD
            refine ⟨.ref D, rfl, D, _, 0, .int t, rfl, rfl, SqL.of eD, rfl, .ref D, rfl, D, _, 1, .int b, rfl, rfl, SqL.of eD, rfl, by show 2 ≤ sizeLine; decide, fun t2 n2 => ?_⟩
            have s3 := s2.trans (same_up (o := .tup [.int t, .int b]) n2)
            have hd2 : Do K (upd H2 t2 (.tup [.int t, .int b])) (.ref t2) (.tuple [.int t, .int b]) := .tup (SqT.of upd_same) (.cons (.int t) (.cons (.int b) .nil))
            refine ⟨_, rfl, _, rfl, φ, _, _, rfl, ok, hd2, _, rfl, ?_⟩
            have rd := due_two (φ := φ) n ht hb
            cases eb : numB φ (.tuple [.int t, .int b]) with
            | true =>
              rw [eb] at rd
              refine ifT rfl ⟨_, rfl, q _ _ s3 ?_⟩
              unfold seenD
              rw [rd]
              exact hd2
            | false =>
              rw [eb] at rd
              refine ifF rfl (q _ _ s3 ?_)
              unfold seenD
              rw [rd]
              exact .str _
          · rw [pcs_no hs] at eD all ⊢
            obtain ⟨i, hi⟩ := all a (by simp)
            refine ifT (decide_eq_true (show ((1 : Nat) : Int) = 1 by decide)) ?_
            have eD : H2 D = some (.lst [optV (sgnOf a)]) := eD
            rw [hi] at eD
            refine ⟨.ref D, rfl, D, _, 0, .int i, rfl, rfl, SqL.of eD, rfl, ?_⟩
            refine ⟨_, rfl, _, rfl, φ, _, _, rfl, ok, .int i, _, rfl, ?_⟩
            have rd := due_one (φ := φ) hs hi
            cases eb : numB φ (.int i) with
            | true =>
              rw [eb] at rd
              refine ifT rfl ⟨_, rfl, q _ _ s2 ?_⟩
              unfold seenD
              rw [rd]
              exact .int i
            | false =>
              rw [eb] at rd
              refine ifF rfl (q _ _ s2 ?_)
              unfold seenD
              rw [rd]
              exact .str _
end
end K07

namespace Ver
open PySem PySem.Spec PyProof.Rows L2
/-! ### two clauses, each with the name -/
section
variable {X : Cx} {x x2 n : Str} {c c2 : Value} {i : Nat} {body : List Stmt} {w1 w2 : List Stmt} {b1 b2 : Stmt} {q1 q2 r1 r2 pos : Pos} {tb : WX → TS} {t1 t2 : Addr → Value → Option Addr → TS} {Wout : WX}
theorem ps_try_as22 (stk : X.stack = X.env :: X.outer) (hf : X.env.frame = some X.env.locals) (hN : X.N.Nodup) (hi : X.N[i]? = some n) (loc : X.env.kindOf n = some .local) (hc : Names X x c) (hc2 : Names X x2 c2) (tk : Takes X Wout)
    (hb : ∀ (W : WX) (pn : List (Addr × Obj)) (xe : Value → Shared → Prop), Takes (X.tr pn xe) W → PassesOwn (model X.prog X.w) X.A X.env xe → PSs (X.tr pn xe) body (tb W))
    (s1 : ∀ (a : Addr) (oe : Obj) (cls : Value) (d : Option Addr) (pn : List (Addr × Obj)), Zc cls d oe → (∃ vs, oe.data = .fields vs) → PSs (X.suite a ((a, oe) :: pn)) (b1 :: w1) (t1 a cls d))
    (s2 : ∀ (a : Addr) (oe : Obj) (cls : Value) (d : Option Addr) (pn : List (Addr × Obj)), Zc cls d oe → (∃ vs, oe.data = .fields vs) → PSs (X.suite a ((a, oe) :: pn)) (b2 :: w2) (t2 a cls d)) :
    PS X (.Try body [.ExceptHandler (some (.Name x q1)) (some n) (b1 :: w1) r1, .ExceptHandler (some (.Name x2 q2)) (some n) (b2 :: w2) r2] [] [] pos) (fun D σ H => tb (wAs X.K c i t1 (wAs X.K c2 i t2 Wout D) D) D σ H) := by
  refine ⟨fun pins s σ H D I h => ?_⟩
  have ok := I.ok
  have frm : X.A.frames = some (X.env :: X.outer) := ok.frames.trans (congrArg some stk)
  refine wpAny_Try_except (wpAny_mono ((hb _ (X.pn ++ pins) (fun e s₁ => wpAny (model X.prog X.w) X.A (noteFrame e X.env) (fun _ s₂ => wpAny (model X.prog X.w) X.A (setFlight e none) (fun _ s₃ =>
    wpAny (model X.prog X.w) X.A (handleBy e X.env [.ExceptHandler (some (.Name x q1)) (some n) (b1 :: w1) r1, .ExceptHandler (some (.Name x2 q2)) (some n) (b2 :: w2) r2])
      (SP X pins D) X.xe s₃) X.xe s₂) X.xe s₁) (fun u s' xx => ?_) PassesOwn.looking).run [] s σ H D (I.toTry _) h) (fun f sE z => ?_) fun _ _ z => z)
  · obtain ⟨a, B, sI, pins', σ', H', cls, d, rfl, Jt, nb, up, sky, na, os, ag, b, m1, yes, no⟩ := xx
    have J : Inv X pins σ' H' sI := Jt.ofTry ok
    rw [stk] at sky
    show wpAny (model X.prog X.w) X.A (noteFrame (.ref a) X.env) _ _ _
    refine Sky.land Zc.steady frm hf sky fun h3 fl3 up3 => ?_
    have J3 : Inv X pins σ' H' { s' with heap := h3 } := J.landed nb fl3.1 (up.trans up3) os ag
    obtain ⟨o3, v3, e3, z3, d3⟩ := fl3.there
    have off : a ∉ frs (X.env :: X.outer) := fun hm => by
      obtain ⟨_, o', e', nf⟩ := fl3.2.2.1.mem hm
      rw [e3] at e'
      cases e'
      exact nf _ d3
    have offL : a ≠ X.env.locals := fun z => off (List.mem_filterMap.mpr ⟨X.env, List.mem_cons_self, by rw [hf, z]⟩)
    have offF : a ∉ X.fs := fun hm => by
      obtain ⟨e, he, q⟩ := List.mem_filterMap.mp hm
      exact off (List.mem_filterMap.mpr ⟨e, List.mem_cons_of_mem _ he, q⟩)
    have S3 := J3.suite e3 d3 na offL offF
    have read : ∀ {y : Str} {cy : Value} {np : Pos} {Q E : Value → Shared → Prop}, Names X y cy → Q cy { s' with heap := h3 } →
        wpAny (model X.prog X.w) (X.A.mark (some (.ref a))) (eval (.Name y np) X.env) Q E { s' with heap := h3 } := fun {y cy np Q E} hy q => by
      obtain ⟨hg, db, hm | ⟨hm, hv, hn⟩⟩ := hy
      · exact ld_glob (X := X.suite a ((a, o3) :: (X.pn ++ pins))) S3 hg hm q db
      · exact ld_blt (X := X.suite a ((a, o3) :: (X.pn ++ pins))) S3 hg hm hv q hn db
    have ty : PySem.W.Looks (model X.prog X.w) h3 (typeOf (.ref a)) cls := fun A Q E s k q =>
      wpAny_typeOf_ref (k _ _ e3) (by rw [z3.1]; exact q)
    refine wpAny_handleBy_cons (codeAny_handlers_test (read hc ((PySem.W.exm_one (M := model X.prog X.w) J3.kIn ty m1).here ?_))) (by intro q; cases q)
    cases b with
    | true =>
      refine codeAny_handlers_suite_as (HandSPX.lands_againZ fl3 fun h4 fl4 up4 => ?_)
      have J4 : Inv X pins σ' H' { s' with heap := h4 } := J.landed nb fl4.1 ((up.trans up3).trans up4) os ag
      obtain ⟨o4, v4, e4, z4, d4⟩ := fl4.there
      refine store_ok (X := X.suite a ((a, o4) :: (X.pn ++ pins))) (v := .ref a) (J4.suite e4 d4 na offL offF) hN hi (.inl loc) rfl (fun s5 S5 => ?_) (.inr loc)
      refine wpAny_mono ((s1 a o4 cls d (X.pn ++ pins) z4 ⟨_, d4⟩).run [] s5 _ H' _ S5 (yes rfl a na)) (fun f s6 z => ?_) fun _ _ z => z.elim
      have fin : ∀ {σ6 : L2.St} {H6 : Hp} {Q : Shared → Prop}, Inv (X.suite a ((a, o4) :: (X.pn ++ pins))) [] σ6 H6 s6 → (∀ s7, Inv X pins (σ6.set i none) H6 s7 → Q s7) →
          wpAny (model X.prog X.w) X.A (do bindName X.env n .none; unbindBehindTheSuite X.env n r1) (fun _ s7 => Q s7) X.xe s6 :=
        fun {σ6 H6 Q} S6 hq => gone_ok (S6.unsuite ok) hN hi loc hq
      match f, z with
      | .next, ⟨_, _, S6, q6⟩ => exact fin S6 fun s7 J7 => ⟨_, _, J7, q6⟩
      | .brk, ⟨_, _, S6, q6⟩ => exact fin S6 fun s7 J7 => ⟨_, _, J7, q6⟩
      | .cont, ⟨_, _, S6, q6⟩ => exact fin S6 fun s7 J7 => ⟨_, _, J7, q6⟩
      | .ret u, ⟨_, _, _, S6, r6, q6⟩ => exact fin S6 fun s7 J7 => ⟨_, _, _, J7, r6, q6⟩
    | false =>
      obtain ⟨b, m2, yes2, no2⟩ := no rfl
      show wpAny _ X.A (handleBy (.ref a) X.env [.ExceptHandler (some (.Name x2 q2)) (some n) (b2 :: w2) r2]) _ _ _
      refine wpAny_handleBy_cons (codeAny_handlers_test (read hc2 ((PySem.W.exm_one (M := model X.prog X.w) J3.kIn ty m2).here ?_))) (by intro q; cases q)
      cases b with
      | true =>
        refine codeAny_handlers_suite_as (HandSPX.lands_againZ fl3 fun h4 fl4 up4 => ?_)
        have J4 : Inv X pins σ' H' { s' with heap := h4 } := J.landed nb fl4.1 ((up.trans up3).trans up4) os ag
        obtain ⟨o4, v4, e4, z4, d4⟩ := fl4.there
        refine store_ok (X := X.suite a ((a, o4) :: (X.pn ++ pins))) (v := .ref a) (J4.suite e4 d4 na offL offF) hN hi (.inl loc) rfl (fun s5 S5 => ?_) (.inr loc)
        refine wpAny_mono ((s2 a o4 cls d (X.pn ++ pins) z4 ⟨_, d4⟩).run [] s5 _ H' _ S5 (yes2 rfl a na)) (fun f s6 z => ?_) fun _ _ z => z.elim
        have fin : ∀ {σ6 : L2.St} {H6 : Hp} {Q : Shared → Prop}, Inv (X.suite a ((a, o4) :: (X.pn ++ pins))) [] σ6 H6 s6 → (∀ s7, Inv X pins (σ6.set i none) H6 s7 → Q s7) →
            wpAny (model X.prog X.w) X.A (do bindName X.env n .none; unbindBehindTheSuite X.env n r2) (fun _ s7 => Q s7) X.xe s6 :=
          fun {σ6 H6 Q} S6 hq => gone_ok (S6.unsuite ok) hN hi loc hq
        match f, z with
        | .next, ⟨_, _, S6, q6⟩ => exact fin S6 fun s7 J7 => ⟨_, _, J7, q6⟩
        | .brk, ⟨_, _, S6, q6⟩ => exact fin S6 fun s7 J7 => ⟨_, _, J7, q6⟩
        | .cont, ⟨_, _, S6, q6⟩ => exact fin S6 fun s7 J7 => ⟨_, _, J7, q6⟩
        | .ret u, ⟨_, _, _, S6, r6, q6⟩ => exact fin S6 fun s7 J7 => ⟨_, _, _, J7, r6, q6⟩
      | false =>
        show wpAny _ X.A (handleBy (.ref a) X.env []) _ _ _
        obtain ⟨_, _, _, oe, vs, T, oT, ts', he, hz, hd, h1, hr⟩ := id fl3
        refine wpAny_handleBy_nil ?_
        unfold PySem.passOn
        refine wpAny_bind (wpAny_field he hd h1 ?_)
        have nn : ¬ ((Value.ref T == Value.none) = true) := by simp
        rw [if_neg nn]
        have out : wpAny (model X.prog X.w) X.A (setFlight (.ref a) X.env.frame)
            (fun _ s4 => wpAny (model X.prog X.w) X.A (throw (.ref a) : Sem Flow) (SP X pins D) X.xe s4) X.xe { s' with heap := h3 } := by
          rw [hf]
          refine HandSPX.setFlight_upZ fl3 fun h4 hh4 up4 => wpAny_throw (tk _ _ ?_)
          rw [← stk] at hh4
          exact ⟨a, B, sI, pins, σ', H', cls, d, rfl, J, nb, (up.trans up3).trans up4, .inr (.inr hh4), na, os, ag, no2 rfl⟩
        first
          | exact wpAny_bind (wpAny_pure (wpAny_bind out))
          | exact wpAny_bind out
  · match f, z with
    | .next, ⟨_, _, J, q⟩ => exact wpAny_execs_nil ⟨_, _, J.ofTry ok, q⟩
    | .brk, ⟨_, _, J, q⟩ => exact ⟨_, _, J.ofTry ok, q⟩
    | .cont, ⟨_, _, J, q⟩ => exact ⟨_, _, J.ofTry ok, q⟩
    | .ret u, ⟨_, _, _, J, r, q⟩ => exact ⟨_, _, _, J.ofTry ok, r, q⟩
end
end Ver

set_option exponentiation.threshold 9000
namespace K07
open PySem PySem.Spec PyProof.Rows L2 Ver Num SX
theorem go_methS {K : PySem.W.Frag} {σ : L2.St} {H : Hp} {f : Addr} {φ : Fk} {i : Nat} {Q : VK} {m : Str} {sp : Sp} {E : L2.St → XK} {t : TA} (h0 : σ[i]? = some (some (.ref f))) (F : FieldC K H f φ)
    (hm : m ∈ (["is_number", "text", "read", "holds"] : List Str)) (hn : (m == ("_prime" : Str)) = false)
    (q : t σ H fun vs H2 => sp (.ref f :: vs) H2 Q (E σ)) : tMethGS K m (He.ma K (He.ga K "Field") m) sp E (tVar i) t σ H Q := by
  obtain ⟨C, dx, c, mm, e⟩ := F
  exact ⟨.ref f, h0, f, C, dx, _, rfl, e, c.cl, c.m m hm, pf_no _ hn, q⟩
def ShowOk (d : PyData) : Prop := d.showable = true ∧ d.shown.length ≤ sizeLine ∧ d.depth ≤ 60
theorem textS_cat (t b : Int) : textS t b = if b = 1 then Str.ofString (toString t) else Str.ofString (toString t) ++ "/" ++ Str.ofString (toString b) := by
  unfold textS
  by_cases h : b = 1
  · rw [if_pos h, if_pos h]
  · rw [if_neg h, if_neg h]
    refine TL.ext_tl ?_
    rw [TL.tl_append, TL.tl_append, TL.tl_append, TL.tl_append, TL.tl_append]
    rfl
section
variable {P : Program} {w : World} {K : PySem.W.Frag} {mg : Str → Option Value} {base : Heap}
/-! ### _law_two, _law_spelt -/
theorem ok_two (T : Tx K mg) : FnG P w K mg base CX0 1 (He.ga K "_law_two") (spParts K) := by
  refine mk__law_two T.d (fun vs H Q E h => ?_) (fun cdv A outer s H vs Q E hg hr h => ?_)
  · obtain ⟨x, d, t, b, rfl, _⟩ := h
    rfl
  · obtain ⟨x, d, t, b, rfl, hd, h2, q⟩ := h
    refine ⟨_, pss_one (ps_ret (pe_ifExp (pt_val (pe_callB call_isi (by rfl) (T.z "isinstance" (by decide +kernel)) (by decide +kernel) (pa_cons (pv 0) (pa_cons (pe_bltn (v := .ty "tuple") (by rfl) (T.z "tuple" (by decide +kernel)) (by decide +kernel) rfl) pa_nil))))
      (pv 0) (pe_tup (pa_cons (pv 0) (pa_cons pe_int pa_nil))))), ?_⟩
    refine ⟨_, rfl, _, _, _, _, _, rfl, .ty "tuple", hd.ty, kit_tuple d, _, rfl, ?_⟩
    rcases two_cases h2 with ⟨rfl, rfl⟩ | rfl
    · cases hd
      exact ifF rfl ⟨_, rfl, (by show 2 ≤ sizeLine; decide), fun p np => q p _ (same_up np) (.inl (.inl upd_same))⟩
    · obtain ⟨a, rfl, hs⟩ := do_pair hd
      exact ifT rfl ⟨_, rfl, q a H (Same.refl H) hs⟩
def spSpelt (K : PySem.W.Frag) : Sp := fun vs H Q _ => ∃ (x : V) (d : PyData) (t b : Int), vs = [x] ∧ Do K H x d ∧ two d = some (t, b) ∧ absI t < FL10 ∧ 1 ≤ b ∧ b < FL10 ∧ ∀ H', Same H H' → Q (.str (textS t b)) H'
theorem ok_spelt (T : Tx K mg) : FnG P w K mg base CX0 2 (He.ga K "_law_spelt") (spSpelt K) := by
  refine mk__law_spelt T.d (fun vs H Q E h => ?_) (fun cdv A outer s H vs Q E hg hr h => ?_)
  · obtain ⟨x, d, t, b, rfl, _⟩ := h
    rfl
  · obtain ⟨x, d, t, b, rfl, hd, h2, ht, b1, hb, q⟩ := h
    have nd := sc__law_spelt.nd
    have zs := T.z "str" (by decide +kernel)
    have bs : bootBuiltins "str" = some (.type "str") := by decide +kernel
    refine ⟨_, pss_cons (ps_asg (pe_callG (ok_two T) hr hg (by rfl) (T.g "_law_two" (by decide +kernel)) (kp__law_two T.d) pass0 (pa_cons (pv 0) pa_nil)) (pg_tup rfl (pgs_cons (pg_name (i := 1) nd rfl (.inl rfl)) (pgs_cons (pg_name (i := 2) nd rfl (.inl rfl)) pgs_nil))))
      (pss_one (ps_ret (pe_ifExp (pt_cmpR op_eq (pv 2) pe_int (nomark _)) (pe_callTy (call_strB T.dgN rfl) (by rfl) zs bs (pa_cons (pv 1) pa_nil))
        (pe_op op_add_str (pe_op op_add_str (pe_callTy (call_strB T.dgN rfl) (by rfl) zs bs (pa_cons (pv 1) pa_nil)) pe_str) (pe_callTy (call_strB T.dgN rfl) (by rfl) zs bs (pa_cons (pv 2) pa_nil)))))), ?_⟩
    obtain ⟨nt, lt⟩ := text_len (nat3400 (i := t) ht)
    obtain ⟨nb, lb⟩ := text_len (nat3400 (i := b) (by unfold absI; split <;> omega))
    refine ⟨_, rfl, x, d, t, b, rfl, hd, h2, fun p H2 s2 hp => ?_⟩
    refine ⟨p, _, rfl, hp, rfl, _, _, rfl, _, _, rfl, rfl, ?_⟩
    refine ⟨_, rfl, rfl, _, rfl, ?_⟩
    rw [iEq]
    have z := q H2 s2
    rw [textS_cat] at z
    by_cases e1 : b = 1
    · rw [if_pos e1] at z
      exact ifT (decide_eq_true e1) ⟨_, rfl, t, rfl, nt, z⟩
    · rw [if_neg e1] at z
      refine ifF (decide_eq_false e1) ⟨_, rfl, t, rfl, nt, _, _, rfl, rfl, ?_, _, rfl, b, rfl, nb, _, _, rfl, rfl, ?_, z⟩
      · rw [sizeLine_eq]
        have e2 : ("/" : Str).length = 1 := rfl
        omega
      · rw [strLen_append, sizeLine_eq]
        have e2 : ("/" : Str).length = 1 := rfl
        omega
/-! ### _law_read_told -/
def tCauX (K : PySem.W.Frag) (a dd : Addr) : TS := tRet (tIf (tAnd (tTest (tOp rEq (tCB (rReprO K) (tCons (tXf a (.ref (He.ga K "InvalidText")) (some dd) (He.ga K "InvalidText") "line" (tVar 2)) tNil)) (tC (.str "0"))))
  (tB (tCB (rIsED K (He.ga K "InvalidText") a dd) (tCons (tVar 2) (tCons (tC (.ty "ValueError")) tNil))))) (tC (.str "none")) (tC (.str "odd")))
def spRTold (K : PySem.W.Frag) : Sp := fun vs H Q _ => ∃ (f : Addr) (x : V) (d : PyData) (φ : Fk), vs = [.ref f, x] ∧ FieldC K H f φ ∧ okP φ ∧ Do K H x d ∧ smallD d ∧ ∀ (z : V) (H' : Hp), Same H H' → Do K H' z (seenD φ d) → TopP H' z (seenD φ d) → Q z H'
theorem ok_rtold (T : Tx K mg) : FnG P w K mg base CX0 6 (He.ga K "_law_read_told") (spRTold K) := by
  refine mk__law_read_told T.d (fun vs H Q E h => ?_) (fun cdv A outer s H vs Q E hg hr h => ?_)
  · obtain ⟨f, x, d, φ, rfl, _⟩ := h
    rfl
  · obtain ⟨f, x, d, φ, rfl, F, ok, hd, sm, q⟩ := h
    have nd := sc__law_read_told.nd
    have hu := hr.units
    have zr := T.z "repr" (by decide +kernel)
    have br : bootBuiltins "repr" = some (.builtin "repr") := by decide +kernel
    refine ⟨_, pss_one (ps_try_as (i := 2) (ts := fun a cls d D σ H => cls = .ref (He.ga K "InvalidText") ∧ ∃ dd, d = some dd ∧ tCauX K a dd D σ H) rfl rfl nd rfl rfl ⟨rfl, by decide +kernel, .inl (T.g "InvalidText" (by decide +kernel))⟩ takes0
        (fun W pn xe tk _ => pss_one (ps_ret (pe_methGS K rfl (E := WE W) (pv 0) (kp_Field_read T.d) (ok_readX T) hr hg (passAt tk) (pa_cons (pv 1) pa_nil))))
        (fun a oe cls d pn hz hf => ⟨fun pins s σ H D I h => by
          obtain ⟨rfl, dd, rfl, h⟩ := h
          exact (pss_one (ps_ret (pe_ifExp (PW.pt (pw_and (pt_cmpR op_eq (pe_callB (call_reprO T.sm (by exact hg) (by exact hu)) (by rfl) zr br (pa_cons (pe_xf T.eX.xf T.eX.nf hz hf (pv 2)) pa_nil)) pe_str (nomark _))
            (pw_and1 (pt_val (pe_callB (call_isED T.eX.ec hz hf) (by rfl) (T.z "isinstance" (by decide +kernel)) (by decide +kernel) (pa_cons (pv 2) (pa_cons (pe_bltn (v := .ty "ValueError") (by rfl) (T.z "ValueError" (by decide +kernel)) (by decide +kernel) rfl) pa_nil))))))) pe_str pe_str))).run pins s σ H D I h⟩)), ?_⟩
    refine go_methS rfl F (by decide +kernel) (by decide +kernel) ⟨_, rfl, f, x, d, φ, rfl, F, ok, hd, sm, fun hn dd H' s' hdd => ?_, fun e he z H' s' h1 t1 => ?_⟩
    · refine ⟨true, T.eX.te, fun _ c hc => ⟨rfl, dd, rfl, ?_⟩, fun z => nomatch z⟩
      refine ⟨_, rfl, rfl, rfl, dd, _, .int 0, rfl, hdd, rfl, .int 0, .int 0, rfl, .int 0, by decide +kernel, by decide +kernel, by decide +kernel, rfl, _, rfl, ?_⟩
      refine ifT (by decide +kernel) ⟨_, rfl, _, _, true, _, rfl, fun u r => r, T.eX.isV, hdd, _, rfl, ifT rfl ?_⟩
      have e : seenD φ d = .str "none" := by unfold seenD; rw [hn]
      exact q _ _ s' (by rw [e]; exact .str _) (by rw [e]; exact fun t b z => by cases z)
    · have e2 : seenD φ d = e := by unfold seenD; rw [he]
      exact q z H' s' (by rw [e2]; exact h1) (by rw [e2]; exact t1)
/-! ### _law_text_told -/
def tCauN (K : PySem.W.Frag) (a dd : Addr) : TS := tRet (tTup (tCons (tC (.str "wrong")) (tCons (tCB (rReprO K) (tCons (tXf a (.ref (He.ga K "InvalidNumber")) (some dd) (He.ga K "InvalidNumber") "value" (tVar 2)) tNil)) tNil)))
def tCauL (K : PySem.W.Frag) (a : Addr) : TS := tRet (tTup (tCons (tC (.str "long")) (tCons (tCB (rIsE K (He.ga K "TooLong") a) (tCons (tVar 2) (tCons (tC (.ty "OverflowError")) tNil))) tNil)))
def spTTold (K : PySem.W.Frag) : Sp := fun vs H Q _ => ∃ (f : Addr) (x : V) (d : PyData) (φ : Fk), vs = [.ref f, x] ∧ FieldC K H f φ ∧ okP φ ∧ Do K H x d ∧ TopP H x d ∧ (holdsB φ d = false → ShowOk d) ∧
  (holdsB φ d = false → ∀ (p : Addr) (H' : Hp), Same H H' → H' p = some (.tup [.str "wrong", .str d.shown]) → Q (.ref p) H') ∧
  (∀ t b, holdsB φ d = true → two d = some (t, b) → (FL10 ≤ absI t ∨ FL10 ≤ b) → ∀ (p : Addr) (H' : Hp), Same H H' → H' p = some (.tup [.str "long", .bl true]) → Q (.ref p) H') ∧
  (∀ t b, holdsB φ d = true → two d = some (t, b) → absI t < FL10 → b < FL10 → ∀ (p : Addr) (H' : Hp), Same H H' → H' p = some (.tup [.str "text", .str (textS t b)]) → Q (.ref p) H')
theorem ok_ttold (T : Tx K mg) : FnG P w K mg base CX0 6 (He.ga K "_law_text_told") (spTTold K) := by
  refine mk__law_text_told T.d (fun vs H Q E h => ?_) (fun cdv A outer s H vs Q E hg hr h => ?_)
  · obtain ⟨f, x, d, φ, rfl, _⟩ := h
    rfl
  · obtain ⟨f, x, d, φ, rfl, F, ok, hd, tx, hs, qn, ql, q⟩ := h
    have nd := sc__law_text_told.nd
    have hu := hr.units
    have zr := T.z "repr" (by decide +kernel)
    have br : bootBuiltins "repr" = some (.builtin "repr") := by decide +kernel
    refine ⟨_, PSs.nox (pss_one (ps_try_as22 (i := 2) (t1 := fun a cls d D σ H => cls = .ref (He.ga K "InvalidNumber") ∧ ∃ dd, d = some dd ∧ tCauN K a dd D σ H) (t2 := fun a cls d D σ H => cls = .ref (He.ga K "TooLong") ∧ d = none ∧ tCauL K a D σ H) rfl rfl nd rfl rfl
      ⟨rfl, by decide +kernel, .inl (T.g "InvalidNumber" (by decide +kernel))⟩ ⟨rfl, by decide +kernel, .inl (T.g "TooLong" (by decide +kernel))⟩ L2.takes0
      (fun W pn xe tk _ => pss_one (ps_ret (pe_tup (pa_cons pe_str (pa_cons (pe_methGS K rfl (E := WE W) (pv 0) (kp_Field_text T.d) (ok_textX T) hr hg (passAt tk) (pa_cons (pv 1) pa_nil)) pa_nil)))))
      (fun a oe cls d pn hz hf => ⟨fun pins s σ H D I h => by
        obtain ⟨rfl, dd, rfl, h⟩ := h
        exact (pss_one (ps_ret (pe_tup (pa_cons pe_str (pa_cons (pe_callB (call_reprO T.sm (by exact hg) (by exact hu)) (by rfl) zr br (pa_cons (pe_xf T.eN.xf T.eN.nf hz hf (pv 2)) pa_nil)) pa_nil))))).run pins s σ H D I h⟩)
      (fun a oe cls d pn hz hf => ⟨fun pins s σ H D I h => by
        obtain ⟨rfl, rfl, h⟩ := h
        exact (pss_one (ps_ret (pe_tup (pa_cons pe_str (pa_cons (pe_callB (call_isE T.tlc hz hf) (by rfl) (T.z "isinstance" (by decide +kernel)) (by decide +kernel)
          (pa_cons (pv 2) (pa_cons (pe_bltn (v := .ty "OverflowError") (by rfl) (T.z "OverflowError" (by decide +kernel)) (by decide +kernel) rfl) pa_nil))) pa_nil))))).run pins s σ H D I h⟩))), ?_⟩
    refine go_methS rfl F (by decide +kernel) (by decide +kernel) ⟨_, rfl, f, x, d, φ, rfl, F, ok, hd, tx, fun hn dd H' s' hdd => ?_, fun t b eh h2 hl H' s' => ?_, fun t b eh h2 l1 l2 H' s' => ⟨by show 2 ≤ sizeLine; decide, fun p np => ?_⟩⟩
    · refine ⟨true, T.eN.te, fun _ a ha => ⟨rfl, dd, rfl, ?_⟩, fun z => nomatch z⟩
      obtain ⟨so, sl, sd⟩ := hs hn
      refine ⟨_, rfl, rfl, rfl, dd, _, x, rfl, hdd, rfl, x, d, rfl, Do.same s' _ _ hd, so, sl, sd, by show 2 ≤ sizeLine; decide, fun p np => ?_⟩
      exact qn hn p _ (s'.trans (same_up np)) upd_same
    · refine ⟨false, T.teX, fun z => (nomatch z), fun _ => ⟨true, T.teL, fun _ a ha => ⟨rfl, rfl, ?_⟩, fun z => nomatch z⟩⟩
      refine ⟨_, rfl, _, _, true, rfl, fun u r => r, T.isO, by show 2 ≤ sizeLine; decide, fun p np => ?_⟩
      exact ql t b eh h2 hl p _ (s'.trans (same_up np)) upd_same
    · exact q t b eh h2 l1 l2 p _ (s'.trans (same_up np)) upd_same
end
end K07

set_option exponentiation.threshold 9000
namespace K07
open PySem PySem.Spec PyProof.Rows L2 Ver Num SX
/-! ### the texts of numbers, read -/
theorem numL_head : ∀ n : Nat, n ≠ 0 → (TL.numL n).head? ≠ some 48 := by
  intro n
  induction n using Nat.strongRecOn with
  | _ n ih =>
    intro h
    by_cases l : n < 10
    · rw [TL.numL_lt l]
      simp
      omega
    · rw [TL.numL_step (by omega)]
      have z := ih (n / 10) (by omega) (by omega)
      cases e : TL.numL (n / 10) with
      | nil => exact absurd e (TL.numL_ne _)
      | cons c r =>
        rw [e] at z
        exact z
theorem nat_fwd {n : Nat} (h : n < 10 ^ 100) : natOf (TL.numL n) = some n := by
  have l1 : 1 ≤ (TL.numL n).length := List.length_pos_iff.mpr (TL.numL_ne n)
  have l2 : (TL.numL n).length ≤ 100 := TL.numL_len (by decide) h
  have al : (TL.numL n).all dgB = true := all_dg.mp (TL.numL_digits n)
  unfold natOf
  rw [decide_eq_true l1, decide_eq_true l2, al, if_pos (show (true && (true && true)) = true from rfl)]
  by_cases n0 : n = 0
  · subst n0
    rfl
  · rw [decide_eq_false (numL_head n n0), if_neg (by simp), TL.numL_val]
/-- the signs of an int's text -/
def sgnL (i : Int) : List Nat := if i < 0 then 45 :: TL.numL i.natAbs else TL.numL i.natAbs
theorem text_sgn (i : Int) : Str.ofString (toString i) = S (sgnL i) := by
  unfold sgnL
  by_cases h : i < 0
  · rw [if_pos h]
    have e : i = -((i.natAbs : Nat) : Int) := by omega
    have z := text_neg (n := i.natAbs) (by omega)
    rw [← e] at z
    exact z
  · rw [if_neg h]
    have e : i = ((i.natAbs : Nat) : Int) := by omega
    have z := text_nat i.natAbs
    rw [← e] at z
    exact z
theorem sgn_fwd {i : Int} (h : i.natAbs < 10 ^ 100) : sgnOf (sgnL i) = some i := by
  unfold sgnL
  by_cases hi : i < 0
  · rw [if_pos hi]
    show (match natOf (TL.numL i.natAbs) with | some n => if n = 0 then none else some (-(n : Int)) | none => none) = _
    rw [nat_fwd h]
    show (if i.natAbs = 0 then none else some (-((i.natAbs : Nat) : Int))) = _
    rw [if_neg (by omega)]
    congr 1
    omega
  · rw [if_neg hi]
    have hh : (TL.numL i.natAbs).head? ≠ some 45 := fun z => by
      cases e : TL.numL i.natAbs with
      | nil => rw [e] at z; cases z
      | cons c r =>
        rw [e] at z
        cases z
        have := TL.numL_digits i.natAbs 45 (by rw [e]; exact List.mem_cons_self)
        omega
    rw [sgn_no hh]
    unfold natI
    rw [nat_fwd h]
    show some ((i.natAbs : Nat) : Int) = some i
    congr 1
    omega
theorem sgnL_no (i : Int) : 47 ∉ sgnL i := by
  have h : 47 ∉ TL.numL i.natAbs := TL.numL_free (by omega)
  unfold sgnL
  split
  · intro z
    rcases List.mem_cons.mp z with z | z
    · cases z
    · exact h z
  · exact h
theorem fl_100 : FL = ((10 ^ 100 : Nat) : Int) := by decide +kernel
theorem abs_nat100 {i : Int} (h : absI i < FL) : i.natAbs < 10 ^ 100 := by
  have e : absI i = (i.natAbs : Int) := by
    unfold absI
    split <;> omega
  rw [e, fl_100] at h
  generalize (10 ^ 100 : Nat) = N at *
  omega
/-- the signs of a number's text -/
def qL (q : Rat) : List Nat := if q.den = 1 then sgnL q.num else sgnL q.num ++ 47 :: TL.numL q.den
theorem S_app (a b c : List Nat) : S a ++ S b ++ S c = S (a ++ b ++ c) := by rw [S_cat, S_cat]
theorem text_q (q : Rat) : textS q.num (q.den : Int) = S (qL q) := by
  rw [textS_cat]
  unfold qL
  by_cases e : q.den = 1
  · rw [if_pos (by rw [e]; rfl), if_pos e, text_sgn]
  · rw [if_neg (fun z => e (by omega)), if_neg e, text_sgn, text_nat]
    have z : ("/" : Str) = S [47] := by decide +kernel
    rw [z, S_app]
    congr 1
    simp
theorem numD_q {q : Rat} (h : Ok100 q) : numD (qL q) = dq q := by
  obtain ⟨h1, h2⟩ := h
  unfold qL
  by_cases e : q.den = 1
  · rw [if_pos e, numD_no (sgnL_no _), sgn_fwd (abs_nat100 h1), dq_int e]
    rfl
  · rw [if_neg e, numD_at (sgnL_no _), sgn_fwd (abs_nat100 h1), dq_tup e]
    have d : natI (TL.numL q.den) = some (q.den : Int) := by
      unfold natI
      rw [nat_fwd (by
        rw [fl_100] at h2
        generalize (10 ^ 100 : Nat) = N at *
        omega)]
      rfl
    rw [d]
    rfl
theorem len_numL {n : Nat} (h : n < 10 ^ 100) : (TL.numL n).length ≤ 100 := TL.numL_len (by decide) h
theorem qL_len {q : Rat} (h : Ok100 q) : (qL q).length ≤ 300 := by
  obtain ⟨h1, h2⟩ := h
  have l1 := len_numL (abs_nat100 h1)
  have l2 : (TL.numL q.den).length ≤ 100 := len_numL (by
    rw [fl_100] at h2
    generalize (10 ^ 100 : Nat) = N at *
    omega)
  have l3 : (sgnL q.num).length ≤ 101 := by
    unfold sgnL
    split
    · rw [List.length_cons]
      omega
    · omega
  unfold qL
  split
  · omega
  · rw [List.length_append, List.length_cons]
    omega
/-! ### numbers among data -/
def okN : Fk → Rat → Prop
  | .fr, q => Ok100 q
  | .md p, q => q.den = 1 ∧ 0 ≤ q.num ∧ q.num < p
theorem two_q (q : Rat) : two (dq q) = some (q.num, (q.den : Int)) := by
  by_cases e : q.den = 1
  · rw [dq_int e, e]
    rfl
  · rw [dq_tup e]
    rfl
theorem long_q {q : Rat} (h : Ok100 q) : longB FL (dq q) = false := by
  rw [longB_two (two_q q), decide_eq_false (by have := h.1; omega), decide_eq_false (by have := h.2; omega)]
  rfl
theorem holds_q {φ : Fk} {q : Rat} (h : okM φ q) : holdsB φ (dq q) = true := by
  cases φ with
  | md p =>
    obtain ⟨e, h0, h1⟩ := h
    rw [dq_int e]
    show (decide (0 ≤ q.num) && decide (q.num ≤ p - 1)) = true
    rw [decide_eq_true h0, decide_eq_true (by omega)]
    rfl
  | fr =>
    by_cases e : q.den = 1
    · rw [dq_int e]
      rfl
    · rw [dq_tup e]
      show (false || (decide ((2 : Int) ≤ (q.den : Int)) && decide (Nat.gcd q.num.natAbs (q.den : Int).natAbs = 1))) = true
      have d0 := q.den_pos
      rw [decide_eq_true (show (2 : Int) ≤ (q.den : Int) by omega), Int.natAbs_natCast, decide_eq_true (show Nat.gcd q.num.natAbs q.den = 1 from q.reduced)]
      rfl
theorem numB_q {φ : Fk} {q : Rat} (h : okM φ q) (o : Ok100 q) : numB φ (dq q) = true := by
  unfold numB
  rw [holds_q h, long_q o]
  rfl
theorem q_of {φ : Fk} {d : PyData} (ok : okP φ) (h : numB φ d = true) : ∃ q, Ok100 q ∧ d = dq q := by
  have h : (holdsB φ d && !longB FL d) = true := h
  rw [Bool.and_eq_true] at h
  obtain ⟨h1, h2⟩ := h
  cases φ with
  | md p =>
    have pm : Pm p := ok
    have hi := pm.md.hi
    obtain ⟨t, rfl, t0, t1⟩ := btw_int h1
    refine ⟨iq t, ⟨?_, by show (1 : Int) < FL; unfold FL; decide⟩, (dq_int (q := iq t) rfl).symm⟩
    show absI t < FL
    have f9 : (1000000001 : Int) < FL := by unfold FL; decide
    unfold absI
    split <;> omega
  | fr =>
    have h1 : (isI d || frac d) = true := h1
    rw [Bool.or_eq_true] at h1
    rcases h1 with h1 | h1
    · obtain ⟨t, rfl⟩ := two_int h1
      rw [longB_two (t := t) (b := 1) rfl] at h2
      have e1 : decide (FL ≤ absI t) = false := by
        cases e : decide (FL ≤ absI t) with
        | false => rfl
        | true => rw [e] at h2; cases h2
      have lt : absI t < FL := by have := of_decide_eq_false e1; omega
      exact ⟨iq t, ⟨lt, by show (1 : Int) < FL; unfold FL; decide⟩, (dq_int (q := iq t) rfl).symm⟩
    · obtain ⟨t, b, rfl, b2, g⟩ := two_frac h1
      rw [longB_two (t := t) (b := b) rfl] at h2
      have e1 : decide (FL ≤ absI t) = false := by
        cases e : decide (FL ≤ absI t) with
        | false => rfl
        | true => rw [e] at h2; cases h2
      have e2 : decide (FL ≤ b) = false := by
        rw [e1] at h2
        cases e : decide (FL ≤ b) with
        | false => rfl
        | true => rw [e] at h2; cases h2
      have l1 : absI t < FL := by have := of_decide_eq_false e1; omega
      have l2 : b < FL := by have := of_decide_eq_false e2; omega
      have eb : ((b.toNat : Nat) : Int) = b := Int.toNat_of_nonneg (by omega)
      have cop : Nat.Coprime t.natAbs b.toNat := by
        have e3 : b.natAbs = b.toNat := by omega
        rw [e3] at g
        exact g
      refine ⟨⟨t, b.toNat, by omega, cop⟩, ⟨l1, ?_⟩, ?_⟩
      · show ((b.toNat : Nat) : Int) < FL
        rw [eb]
        exact l2
      · rw [dq_tup (q := ⟨t, b.toNat, by omega, cop⟩) (show b.toNat ≠ 1 by omega)]
        show PyData.tuple [.int t, .int b] = PyData.tuple [.int t, .int ((b.toNat : Nat) : Int)]
        rw [eb]
/-! ### what was read is told as it stood -/
theorem fl_fl10 : FL < FL10 := by decide +kernel
theorem text_back {φ : Fk} {a : List Nat} {e : PyData} {t b : Int} (h : readD φ (.str (S a)) = some e) (h2 : two e = some (t, b)) : textS t b = S a := by
  have h : (if numB φ (numD a) = true then some (numD a) else none) = some e := h
  split at h
  · rename_i hn
    have h := Option.some.inj h
    subst h
    rw [textS_cat]
    by_cases hs : 47 ∈ a
    · obtain ⟨p, q, rfl, n⟩ := first_at hs
      rw [numD_at n] at h2 hn
      cases hp : sgnOf p with
      | none => rw [hp] at h2; cases h2
      | some t' =>
        cases hq : natI q with
        | none => rw [hp, hq] at h2; cases h2
        | some b' =>
          rw [hp, hq] at h2 hn
          have h2 : some (t', b') = some (t, b) := h2
          cases h2
          have nb : b ≠ 1 := fun z => by
            subst z
            have : numB φ (.tuple [.int t, .int 1]) = false := numB_two _ _ _ rfl
            have hn : numB φ (.tuple [.int t, .int 1]) = true := hn
            rw [this] at hn
            cases hn
          obtain ⟨m, hm, rfl⟩ := Option.map_eq_some_iff.mp hq
          rw [if_neg nb, sgn_back hp, text_nat, num_back hm]
          have z : ("/" : Str) = S [47] := by decide +kernel
          rw [z, S_app]
          congr 1
          simp
    · rw [numD_no hs] at h2
      cases hp : sgnOf a with
      | none => rw [hp] at h2; cases h2
      | some i =>
        rw [hp] at h2
        have h2 : some (i, (1 : Int)) = some (t, b) := h2
        cases h2
        rw [if_pos rfl, sgn_back hp]
  · cases h
theorem read_q {φ : Fk} {q : Rat} (h : okM φ q) (o : Ok100 q) : readD φ (.str (S (qL q))) = some (dq q) := by
  show (if numB φ (numD (qL q)) = true then some (numD (qL q)) else none) = _
  rw [numD_q o, numB_q h o]
  rfl
section
variable {P : Program} {w : World} {K : PySem.W.Frag} {mg : Str → Option Value} {base : Heap}
theorem ten_lt (i : Nat) : ((10 : Int) ^ i).natAbs < 2 ^ (4 * i + 1) := by
  have e : ((10 : Int) ^ i).natAbs = 10 ^ i := by rw [Int.natAbs_pow]; rfl
  rw [e]
  have h : (10 : Nat) ^ i ≤ 16 ^ i := Nat.pow_le_pow_left (by decide) i
  have h2 : (16 : Nat) ^ i = 2 ^ (4 * i) := by rw [Nat.pow_mul]
  have h3 : (2 : Nat) ^ (4 * i) < 2 ^ (4 * i + 1) := Nat.pow_lt_pow_right (by decide) (by omega)
  omega
def spTensN : Sp := fun vs H Q _ => ∃ n : Nat, vs = [.int (n : Int)] ∧ n ≤ 6000 ∧ Q (.int (10 ^ n)) H
theorem ok_tensN (T : Tx K mg) : FnG P w K mg base CX0 1 (He.ga K "_law_tens") spTensN := by
  refine mk__law_tens T.d (fun vs H Q E h => ?_) (fun cdv A outer s H vs Q E hg hr h => ?_)
  · obtain ⟨n, rfl, _⟩ := h
    rfl
  · obtain ⟨n, rfl, n6, q⟩ := h
    have nd := sc__law_tens.nd
    refine ⟨_, pss_cons (ps_set (i := 1) nd rfl (Or.inl rfl) pe_int)
      (pss_cons (ps_for PassesOwn.never rfl (pi_range1 (by rfl) (T.z "range" (by decide +kernel)) (pa_cons (pv 0) pa_nil)) (pg_name (i := 2) nd rfl (.inl rfl))
        (pss_one (ps_set (i := 1) nd rfl (Or.inl rfl) (pe_op op_mulW pe_int (pv 1)))))
      (pss_one (ps_ret (pv 1)))), ?_⟩
    refine ⟨_, rfl, _, rfl, by omega, by omega, ?_⟩
    refine for_range (lo := 0) (fun i σ H' => ∃ v : Option V, σ = [some (.int (n : Int)), some (.int (10 ^ i)), v] ∧ H' = H) ⟨none, rfl, rfl⟩ ?_ ?_
    · rintro i σ H' hi ⟨v, rfl, rfl⟩
      have hi2 : i < n := by
        have e : ((n : Nat) : Int).toNat = n := Int.toNat_natCast n
        omega
      have e : (10 : Int) * 10 ^ i = 10 ^ (i + 1) := by rw [Int.pow_succ, Int.mul_comm]
      exact ⟨_, rfl, _, _, rfl, rfl, wide_mul (a := 4) (b := 4 * i + 1) (by decide) (ten_lt i) (by decide) (by omega) (by omega), some (.int (0 + (i : Int))), by rw [← e]; rfl, rfl⟩
    · rintro σ H' ⟨v, rfl, rfl⟩
      refine ⟨_, rfl, ?_⟩
      have e : ((n : Nat) : Int).toNat = n := Int.toNat_natCast n
      first
        | exact q
        | (rw [e]; exact q)
/-! ### _law_bent -/
theorem many_size (b : Array Nat) : ∀ (n : Nat) (a : Array Nat), ((List.replicate n b).foldl (· ++ ·) a).size = a.size + n * b.size
  | 0, a => by simp
  | n + 1, a => by
    rw [List.replicate_succ, List.foldl_cons, many_size b n, Array.size_append, Nat.succ_mul]
    omega
theorem nine_len (n : Nat) : (⟨(List.replicate n ("9" : Str).cps).foldl (· ++ ·) #[]⟩ : Str).length = n := by
  have h := many_size ("9" : Str).cps n #[]
  have e : ("9" : Str).cps.size = 1 := by decide +kernel
  rw [e] at h
  show ((List.replicate n ("9" : Str).cps).foldl (· ++ ·) #[]).size = n
  rw [h]
  simp
end
end K07

set_option exponentiation.threshold 600
namespace K07
open PySem PySem.Spec PyProof.Rows L2 Ver Num
theorem int_len {n : Int} (h : n.natAbs < 2 ^ 400) : n.natAbs.log2 < 1920 ∧ (PyData.int n).shown.length ≤ 401 := by
  have l := PySem.Flt.log2_lt_of (by decide) h
  refine ⟨by omega, ?_⟩
  have e := int_text_length_le (k := 400) (by decide) l
  simp only [PyData.shown]
  have e2 : (Str.ofString (toString n)).length ≤ 401 := by
    rw [PySem.ofString_length]
    exact e
  exact e2
theorem ok_int {i : Int} (h : i.natAbs < 2 ^ 400) : OkO (.int i) := by
  obtain ⟨a1, a2⟩ := int_len h
  exact ⟨by simp only [PyData.showable]; exact decide_eq_true a1, by show (PyData.int i).shown.length ≤ 1000; omega, by simp [PyData.depth], rfl, rfl⟩
theorem fl400 : FL * 1000000000 * 4 < 2 ^ 400 := by
  unfold FL
  decide
theorem nat400 {i : Int} (h1 : -(FL * 1000000000 * 4) < i) (h2 : i < FL * 1000000000 * 4) : i.natAbs < 2 ^ 400 := by
  have h := fl400
  have e : ((2 : Int) ^ 400) = ((2 ^ 400 : Nat) : Int) := by rw [Int.natCast_pow]; rfl
  rw [e] at h
  generalize (2 ^ 400 : Nat) = N at h ⊢
  omega
def Ok2 (d : PyData) : Prop := d.showable = true ∧ d.shown.length ≤ 3000 ∧ d.depth ≤ 20
/-- parts that may be shown -/
def OkAll (n : Nat) (ds : List PyData) : Prop := PyData.showableAll ds = true ∧ piled (PyData.shownAll ds) ≤ n ∧ PyData.depthAll ds ≤ 10
theorem tup_len (ts : List Str) : (tupleText ts).length ≤ piled ts + 4 := by
  unfold tupleText
  rw [strLen_append, strLen_append]
  have e1 : ("(" : Str).length = 1 := rfl
  have e2 : ((if ts.length == 1 then ",)" else ")" : String) : Str).length ≤ 2 := by
    split
    · exact Nat.le_refl 2
    · exact Nat.le_succ 1
  by_cases h : ts = []
  · subst h
    have e3 : (Str.join ", " []).length = 0 := rfl
    omega
  · have j := join_length_add ts h
    omega
theorem lst_len (ts : List Str) : (listText ts).length ≤ piled ts + 2 := by
  have e1 := textFrom_up ts 0 "["
  have e3 : (listText ts).length = (textFrom 0 "[" ts).length + 1 := by
    show (textFrom 0 "[" _ ++ "]").length = _
    rw [strLen_append]
    rfl
  have e4 : ("[" : Str).length = 1 := rfl
  omega
theorem ok2_tup {ds : List PyData} (h : OkAll 2900 ds) : Ok2 (.tuple ds) := by
  obtain ⟨h1, h2, h3⟩ := h
  have l := tup_len (PyData.shownAll ds)
  refine ⟨by simpa only [PyData.showable] using h1, ?_, by simp only [PyData.depth]; omega⟩
  simp only [PyData.shown]
  omega
theorem ok2_lst {ds : List PyData} (h : OkAll 2900 ds) : Ok2 (.list ds) := by
  obtain ⟨h1, h2, h3⟩ := h
  have l := lst_len (PyData.shownAll ds)
  refine ⟨by simpa only [PyData.showable] using h1, ?_, by simp only [PyData.depth]; omega⟩
  simp only [PyData.shown]
  omega
theorem okAll_nil {n : Nat} : OkAll n [] := ⟨by simp only [PyData.showableAll], by simp [PyData.shownAll, piled], by simp [PyData.depthAll]⟩
theorem okAll_cons {n : Nat} {d : PyData} {ds : List PyData} (h1 : d.showable = true) (h2 : d.shown.length + 2 ≤ n) (h3 : d.depth ≤ 10) (h : OkAll (n - (d.shown.length + 2)) ds) : OkAll n (d :: ds) := by
  obtain ⟨a, b, c⟩ := h
  refine ⟨by simp only [PyData.showableAll, h1, a, Bool.and_self], ?_, ?_⟩
  · simp only [PyData.shownAll]
    rw [piled_cons]
    omega
  · simp only [PyData.depthAll]
    omega
theorem okAll_inv {n : Nat} {d : PyData} {ds : List PyData} (h : OkAll n (d :: ds)) : d.showable = true ∧ d.shown.length + 2 ≤ n ∧ d.depth ≤ 10 ∧ OkAll (n - (d.shown.length + 2)) ds := by
  obtain ⟨a, b, c⟩ := h
  simp only [PyData.showableAll, Bool.and_eq_true] at a
  simp only [PyData.shownAll] at b
  rw [piled_cons] at b
  simp only [PyData.depthAll] at c
  exact ⟨a.1, by omega, by omega, a.2, by omega, by omega⟩
theorem OkAll.mono {m n : Nat} {ds : List PyData} (h : OkAll m ds) (l : m ≤ n) : OkAll n ds := ⟨h.1, Nat.le_trans h.2.1 l, h.2.2⟩
theorem okAll_app : ∀ {n m : Nat} {ds es : List PyData}, OkAll n ds → OkAll m es → OkAll (n + m) (ds ++ es)
  | n, m, [], es, h1, h2 => h2.mono (by omega)
  | n, m, d :: ds, es, h1, h2 => by
    obtain ⟨a, b, c, e⟩ := okAll_inv h1
    exact okAll_cons a (by omega) c ((okAll_app e h2).mono (by omega))
theorem okAll_take : ∀ {n : Nat} {ds : List PyData} (i : Nat), OkAll n ds → OkAll n (ds.take i)
  | n, ds, 0, h => by rw [List.take_zero]; exact okAll_nil
  | n, [], i + 1, h => by rw [List.take_nil]; exact okAll_nil
  | n, d :: ds, i + 1, h => by
    obtain ⟨a, b, c, e⟩ := okAll_inv h
    rw [List.take_succ_cons]
    exact okAll_cons a b c (okAll_take i e)
theorem okAll_drop : ∀ {n : Nat} {ds : List PyData} (i : Nat), OkAll n ds → OkAll n (ds.drop i)
  | n, ds, 0, h => by rw [List.drop_zero]; exact h
  | n, [], i + 1, h => by rw [List.drop_nil]; exact okAll_nil
  | n, d :: ds, i + 1, h => by
    obtain ⟨a, b, c, e⟩ := okAll_inv h
    rw [List.drop_succ_cons]
    exact okAll_drop i (e.mono (by omega))
theorem okO_all {ds : List PyData} (h : OkO (.tuple ds)) : OkAll 1000 ds := by
  obtain ⟨h1, h2, h3, _⟩ := h
  simp only [PyData.showable] at h1
  simp only [PyData.depth] at h3
  exact ⟨h1, h2, by omega⟩
theorem ok2_in {ds : List PyData} (h : OkO (.tuple ds)) : Ok2 (.tuple [.tuple ds, .int 2]) := by
  have l : (PyData.tuple ds).shown.length ≤ 1004 := by
    have a := tup_len (PyData.shownAll ds)
    have b := (okO_all h).2.1
    simp only [PyData.shown]
    omega
  have l2 : (PyData.int 2).shown.length = 1 := by decide +kernel
  have dd := h.2.2.1
  exact ok2_tup (okAll_cons h.1 (by omega) (by omega) (okAll_cons (by decide +kernel) (by omega) (by decide +kernel) okAll_nil))
theorem okO_ok2 {d : PyData} (h : OkO d) : Ok2 d := by
  cases d with
  | tuple ds => exact ok2_tup ((okO_all h).mono (by decide))
  | _ =>
    obtain ⟨h1, h2, h3, _⟩ := h
    exact ⟨h1, Nat.le_trans h2 (by decide), by omega⟩
theorem showOk_of {d : PyData} (h : OkO d) : ShowOk d := by
  obtain ⟨a, b, c⟩ := okO_ok2 h
  exact ⟨a, Nat.le_trans b (by rw [sizeLine_eq]; decide), Nat.le_trans c (by decide)⟩
theorem showOk_int {i : Int} (h1 : -(FL * 1000000000 * 4) < i) (h2 : i < FL * 1000000000 * 4) : ShowOk (.int i) := showOk_of (ok_int (nat400 h1 h2))
theorem showOk_pair {a b : Int} (ha : a.natAbs < 2 ^ 400) (hb : b.natAbs < 2 ^ 400) : ShowOk (.tuple [.int a, .int b]) := by
  obtain ⟨a1, a2⟩ := int_len ha
  obtain ⟨b1, b2⟩ := int_len hb
  have sa : (PyData.int a).showable = true := by simp only [PyData.showable]; exact decide_eq_true a1
  have sb : (PyData.int b).showable = true := by simp only [PyData.showable]; exact decide_eq_true b1
  obtain ⟨h1, h2, h3⟩ := ok2_tup (ds := [.int a, .int b]) (okAll_cons sa (by omega) (by simp [PyData.depth]) (okAll_cons sb (by omega) (by simp [PyData.depth]) okAll_nil))
  exact ⟨h1, Nat.le_trans h2 (by rw [sizeLine_eq]; decide), Nat.le_trans h3 (by decide)⟩
theorem showOk_q {q : Rat} (h : Ok100 q) : ShowOk (dq q) := by
  obtain ⟨h1, h2⟩ := h
  have f := fl_big
  unfold absI at h1
  by_cases e : q.den = 1
  · rw [dq_int e]
    refine showOk_int ?_ ?_ <;> split at h1 <;> omega
  · rw [dq_tup e]
    refine showOk_pair (nat400 ?_ ?_) (nat400 ?_ ?_) <;> (try split at h1) <;> omega
theorem showOk_str {s : Str} (h : (PyData.str s).shown.length ≤ 1000) : ShowOk (.str s) := ⟨rfl, Nat.le_trans h (by rw [sizeLine_eq]; decide), by simp [PyData.depth]⟩
theorem showOk_seen {φ : Fk} (ok : okP φ) (d : PyData) : ShowOk (seenD φ d) := by
  unfold seenD
  cases h : readD φ d with
  | none => exact showOk_str (by decide +kernel)
  | some e =>
    have hn : numB φ e = true := by
      cases d with
      | str s =>
        have h : (if numB φ (numD (TL.tl s)) = true then some (numD (TL.tl s)) else none) = some e := h
        split at h
        · rename_i z
          rw [← Option.some.inj h]
          exact z
        · cases h
      | _ => cases h
    obtain ⟨q, o, rfl⟩ := q_of ok hn
    exact showOk_q o
end K07

namespace K07
open PySem PySem.Spec PyProof.Rows L2 Ver Num SX
section
variable {P : Program} {w : World} {K : PySem.W.Frag} {mg : Str → Option Value} {base : Heap}
def spBent : Sp := fun vs H Q _ => ∃ (d : Addr) (k : Int) (t : Str), vs = [.ref d, .str t] ∧ PenAt H d k ∧ k < 1000000 ∧ t.length ≤ 1000 ∧ ∀ (s : Str) (H' : Hp), s.length ≤ 20000 → But d H H' → PenAt H' d (k + 3) → Q (.str s) H'
abbrev nine (n : Nat) : Str := ⟨(List.replicate n ("9" : Str).cps).foldl (· ++ ·) #[]⟩
def shortV (x : V) : Prop := ∃ s, x = .str s ∧ s.length ≤ 20000
theorem ok_bent (T : Tx K mg) : FnG P w K mg base CX0 3 (He.ga K "_law_bent") spBent := by
  refine mk__law_bent T.d (fun vs H Q E h => ?_) (fun cdv A outer s H vs Q E hg hr h => ?_)
  · obtain ⟨d, k, t, rfl, _⟩ := h
    rfl
  · obtain ⟨d, k, t, rfl, pen, k9, lt, q⟩ := h
    have nd := sc__law_bent.nd
    have zl := T.z "len" (by decide +kernel)
    have bl : bootBuiltins "len" = some (.builtin "len") := by decide +kernel
    refine ⟨_, pss_cons (ps_set (i := 2) nd rfl (Or.inl rfl) (pe_callG (ok_draw T) (hr.mono (by decide)) hg (by rfl) (T.g "_law_draw" (by decide +kernel)) (kp__law_draw T.d) pass0 (pa_cons (pv 0) (pa_cons (pe_op op_add (pe_callB call_len_str (by rfl) zl bl (pa_cons (pv 1) pa_nil)) pe_int) pa_nil))))
      (pss_cons (ps_set (i := 3) nd rfl (Or.inl rfl) (pe_callG (ok_pick T) (hr.mono (by decide)) hg (by rfl) (T.g "_law_pick" (by decide +kernel)) (kp__law_pick T.d) pass0 (pa_cons (pv 0) (pa_cons (pe_lst (pa_cons pe_str (pa_cons pe_str (pa_cons pe_str (pa_cons pe_str (pa_cons pe_str (pa_cons pe_str (pa_cons pe_str (pa_cons pe_str (pa_cons pe_str (pa_cons pe_str (pa_cons pe_str (pa_cons pe_str pa_nil))))))))))))) pa_nil))))
      (pss_cons (ps_set (i := 4) nd rfl (Or.inl rfl) (pe_lst
        (pa_cons (pe_op op_add_str (pe_op op_add_str (pe_slice sl_str (pv 1) po_none (po_some (pv 2))) (pv 3)) (pe_slice sl_str (pv 1) (po_some (pv 2)) po_none))
        (pa_cons (pe_op op_add_str (pe_slice sl_str (pv 1) po_none (po_some (pv 2))) (pe_slice sl_str (pv 1) (po_some (pe_op op_add (pv 2) pe_int)) po_none))
        (pa_cons (pe_op op_add_str (pe_op op_add_str (pv 1) pe_str) (pv 1))
        (pa_cons (pe_op op_add_str pe_str (pv 1))
        (pa_cons (pe_op op_add_str (pv 1) pe_str) pa_nil)))))))
      (pss_cons (ps_set (i := 4) nd rfl (Or.inl rfl) (pe_op op_cat (pv 4) (pe_lst
        (pa_cons (pe_op op_strMul pe_str pe_int) (pa_cons (pe_op op_strMul pe_str pe_int) (pa_cons (pe_op op_strMul pe_str pe_int)
        (pa_cons (pe_op op_add_str pe_str (pe_op op_strMul pe_str pe_int)) (pa_cons (pe_op op_add_str pe_str (pe_op op_strMul pe_str pe_int))
        (pa_cons pe_str (pa_cons pe_str (pa_cons pe_str pa_nil)))))))))))
      (pss_one (ps_ret (pe_callG (ok_pick T) (hr.mono (by decide)) hg (by rfl) (T.g "_law_pick" (by decide +kernel)) (kp__law_pick T.d) pass0 (pa_cons (pv 0) (pa_cons (pe_op op_cat (pv 4) (pe_lst
        (pa_cons pe_str (pa_cons pe_str (pa_cons pe_str (pa_cons pe_str (pa_cons pe_str (pa_cons pe_str (pa_cons pe_str (pa_cons pe_str (pa_cons pe_str pa_nil))))))))))) pa_nil)))))))), ?_⟩
    have big : ∀ n : Nat, n ≤ 20000 → n ≤ sizeLine := fun n h => sl_of h
    have stl : t.length ≤ sizeLine := big _ (by omega)
    refine ⟨_, rfl, _, rfl, t, rfl, stl, _, _, rfl, rfl, d, k, _, rfl, pen, by omega, by omega, by omega, fun i H1 bt1 pen1 i0 i1 => ?_⟩
    refine ⟨_, rfl, by show 12 ≤ sizeLine; decide, fun l1 n1 => ?_⟩
    have s1 := same_up (o := .lst [.str "-", .str "+", .str "0", .str "/", .str " ", .str "1", .str ".", .str "a", .str "/1", .str "/2", .str "00", .str "\n"]) n1
    refine ⟨d, l1, _, _, rfl, pen1.same s1, by omega, upd_same, by show 0 < 12; decide, by show 12 < 1000; decide, fun y H2 hy bt2 pen2 => ?_⟩
    obtain ⟨sg, rfl, lsg⟩ : ∃ sg : Str, y = .str sg ∧ sg.length ≤ 2 := by
      simp only [List.mem_cons, List.not_mem_nil, or_false] at hy
      rcases hy with rfl | rfl | rfl | rfl | rfl | rfl | rfl | rfl | rfl | rfl | rfl | rfl <;> exact ⟨_, rfl, by decide +kernel⟩
    have c2 := (bt1.trans (But.same s1)).trans bt2
    have lc : ∀ lo hi, (cutS t lo hi).length ≤ 1000 := fun lo hi => Nat.le_trans (cutS_length t lo hi) lt
    have e1 : ("/" : Str).length = 1 := rfl
    have e2 : ("-" : Str).length = 1 := rfl
    have e3 : ("/1" : Str).length = 2 := rfl
    have e4 : ("1/" : Str).length = 2 := rfl
    have lcn := lc none (some i)
    have lci := lc (some i) none
    have lcj := lc (some (i + 1)) none
    have n100 := nine_len 100
    have n101 := nine_len 101
    have n5000 := nine_len 5000
    -- five
    refine ⟨_, rfl, _, rfl, i, rfl, t, rfl, stl, _, rfl, _, _, rfl, rfl, big _ (by omega), _, rfl, _, rfl, i, rfl, t, rfl, stl, _, _, rfl, rfl, big _ (by rw [strLen_append]; omega), ?_⟩
    refine ⟨_, rfl, _, rfl, i, rfl, t, rfl, stl, _, rfl, _, rfl, _, _, rfl, rfl, _, rfl, t, rfl, stl, _, _, rfl, rfl, big _ (by omega), ?_⟩
    refine ⟨_, rfl, _, _, rfl, rfl, big _ (by omega), _, rfl, _, _, rfl, rfl, big _ (by rw [strLen_append]; omega), ?_⟩
    refine ⟨_, rfl, _, _, rfl, rfl, big _ (by omega), ?_⟩
    refine ⟨_, rfl, _, _, rfl, rfl, big _ (by omega), by show 5 ≤ sizeLine; decide, fun l2 n2 => ?_⟩
    generalize hA : [V.str (cutS t none (some i) ++ sg ++ cutS t (some i) none), V.str (cutS t none (some i) ++ cutS t (some (i + 1)) none), V.str (t ++ "/" ++ t), V.str ("-" ++ t), V.str (t ++ "/1")] = As at *
    have okA : ∀ x ∈ As, shortV x := fun x hx => by
      rw [← hA] at hx
      simp only [List.mem_cons, List.not_mem_nil, or_false] at hx
      rcases hx with rfl | rfl | rfl | rfl | rfl
      · exact ⟨_, rfl, by rw [strLen_append, strLen_append]; omega⟩
      · exact ⟨_, rfl, by rw [strLen_append]; omega⟩
      · exact ⟨_, rfl, by rw [strLen_append, strLen_append]; omega⟩
      · exact ⟨_, rfl, by rw [strLen_append]; omega⟩
      · exact ⟨_, rfl, by rw [strLen_append]; omega⟩
    have lA : As.length = 5 := by rw [← hA]; rfl
    have s2 := same_up (o := .lst As) n2
    -- eight
    refine ⟨_, rfl, _, _, rfl, rfl, by decide +kernel, by decide +kernel, by decide, by decide, big _ (by rw [show (100 : Int).toNat = 100 from rfl, n100]; decide), ?_⟩
    refine ⟨_, _, rfl, rfl, by decide +kernel, by decide +kernel, by decide, by decide, big _ (by rw [show (101 : Int).toNat = 101 from rfl, n101]; decide), ?_⟩
    refine ⟨_, _, rfl, rfl, by decide +kernel, by decide +kernel, by decide, by decide, big _ (by rw [show (5000 : Int).toNat = 5000 from rfl, n5000]; decide), ?_⟩
    refine ⟨_, _, rfl, rfl, by decide +kernel, by decide +kernel, by decide, by decide, big _ (by rw [show (100 : Int).toNat = 100 from rfl, n100]; decide), _, _, rfl, rfl, big _ (by rw [show (100 : Int).toNat = 100 from rfl, n100, e4]; decide), ?_⟩
    refine ⟨_, _, rfl, rfl, by decide +kernel, by decide +kernel, by decide, by decide, big _ (by rw [show (101 : Int).toNat = 101 from rfl, n101]; decide), _, _, rfl, rfl, big _ (by rw [show (101 : Int).toNat = 101 from rfl, n101, e4]; decide), ?_⟩
    refine ⟨by show 8 ≤ sizeLine; decide, fun l3 n3 => ?_⟩
    generalize hB : [V.str (nine (100 : Int).toNat), V.str (nine (101 : Int).toNat), V.str (nine (5000 : Int).toNat), V.str ("1/" ++ nine (100 : Int).toNat), V.str ("1/" ++ nine (101 : Int).toNat), V.str "-0", V.str "0/2", V.str "2/4"] = Bs
    have okB : ∀ x ∈ Bs, shortV x := fun x hx => by
      rw [← hB] at hx
      simp only [List.mem_cons, List.not_mem_nil, or_false] at hx
      rcases hx with rfl | rfl | rfl | rfl | rfl | rfl | rfl | rfl
      · exact ⟨_, rfl, by rw [show (100 : Int).toNat = 100 from rfl, n100]; decide⟩
      · exact ⟨_, rfl, by rw [show (101 : Int).toNat = 101 from rfl, n101]; decide⟩
      · exact ⟨_, rfl, by rw [show (5000 : Int).toNat = 5000 from rfl, n5000]; decide⟩
      · exact ⟨_, rfl, by rw [strLen_append, show (100 : Int).toNat = 100 from rfl, n100, e4]; decide⟩
      · exact ⟨_, rfl, by rw [strLen_append, show (101 : Int).toNat = 101 from rfl, n101, e4]; decide⟩
      · exact ⟨_, rfl, by decide +kernel⟩
      · exact ⟨_, rfl, by decide +kernel⟩
      · exact ⟨_, rfl, by decide +kernel⟩
    have lB : Bs.length = 8 := by rw [← hB]; rfl
    have s3 := same_up (o := .lst Bs) n3
    have bigc : ∀ n : Nat, n ≤ 100 → n ≤ sizeLine := fun n h => sl_of (by omega)
    refine ⟨l2, l3, As, Bs, rfl, rfl, s3 _ _ upd_same, upd_same, bigc _ (by omega), fun c4 n4 => ?_⟩
    have s4 := same_up (o := .lst (As ++ Bs)) n4
    refine ⟨_, rfl, _, rfl, by show 9 ≤ sizeLine; decide, fun l5 n5 => ?_⟩
    generalize hC : [V.str "", V.str "/", V.str "-", V.str "1/0", V.str "1/-2", V.str "-1/2", V.str "- 1", V.str "1/2/3", V.str "1 /2"] = Cs at n5 ⊢
    have okC : ∀ x ∈ Cs, shortV x := fun x hx => by
      rw [← hC] at hx
      simp only [List.mem_cons, List.not_mem_nil, or_false] at hx
      rcases hx with rfl | rfl | rfl | rfl | rfl | rfl | rfl | rfl | rfl <;> exact ⟨_, rfl, by decide +kernel⟩
    have lC : Cs.length = 9 := by rw [← hC]; rfl
    have s5 := same_up (o := .lst Cs) n5
    refine ⟨c4, l5, As ++ Bs, Cs, rfl, rfl, s5 _ _ upd_same, upd_same, bigc _ (by rw [List.length_append]; omega), fun c6 n6 => ?_⟩
    have s6 := same_up (o := .lst (As ++ Bs ++ Cs)) n6
    have sAll := (((s2.trans s3).trans s4).trans s5).trans s6
    have ll : (As ++ Bs ++ Cs).length = 22 := by rw [List.length_append, List.length_append]; omega
    refine ⟨d, c6, _, _, rfl, pen2.same sAll, by omega, upd_same, by omega, by omega, fun x H7 hx bt7 pen7 => ?_⟩
    have hx' : shortV x := by
      rcases List.mem_append.mp hx with hx | hx
      · rcases List.mem_append.mp hx with hx | hx
        · exact okA x hx
        · exact okB x hx
      · exact okC x hx
    obtain ⟨s, rfl, ls⟩ := hx'
    exact q s H7 ls ((c2.trans (But.same sAll)).trans bt7) (pen7.mono (by omega))
end
end K07

set_option exponentiation.threshold 9000
namespace K07
open PySem PySem.Spec PyProof.Rows L2 Ver Num SX
theorem topq {H : Hp} {x : V} {q : Rat} (h : NumQ H x q) : TopP H x (dq q) := fun t b e => by
  rcases h with ⟨e1, rfl⟩ | ⟨e1, a, rfl, ha⟩
  · rw [dq_int e1] at e
    cases e
  · rw [dq_tup e1] at e
    cases e
    exact ⟨a, rfl, ha⟩
theorem small_int (i : Int) : smallD (.int i) := fun s e => by cases e
theorem small_S {a : List Nat} (h : a.length ≤ 20000) : smallD (.str (S a)) := fun s e => by
  cases e
  rw [S_len]
  exact h
theorem q10 {q : Rat} (h : Ok100 q) : absI q.num < FL10 ∧ 1 ≤ (q.den : Int) ∧ (q.den : Int) < FL10 := by
  have h1 := h.1
  have h2 := h.2
  have h3 := fl_fl10
  have h4 := q.den_pos
  exact ⟨by omega, by omega, by omega⟩
theorem dq_plain (q : Rat) : (dq q).plain = true ∧ (dq q).depth ≤ 10 := by
  by_cases e : q.den = 1
  · rw [dq_int e]
    exact ⟨rfl, by simp [PyData.depth]⟩
  · rw [dq_tup e]
    exact ⟨by simp [PyData.plain, PyData.plainAll], by simp [PyData.depth, PyData.depthAll]⟩
theorem dq_str (q : Rat) (s : Str) : PyData.eqv (dq q) (.str s) = false := by
  by_cases e : q.den = 1
  · rw [dq_int e]
    simp [PyData.eqv]
  · rw [dq_tup e]
    simp [PyData.eqv]
/-- what is told, as data -/
def toldD (a b : Str) : List PyData := [.str a, .str b]
theorem told_plain (a b : Str) : PyData.plain (.tuple (toldD a b)) = true ∧ (PyData.tuple (toldD a b)).depth ≤ 64 := ⟨by simp [toldD, PyData.plain, PyData.plainAll], by simp [toldD, PyData.depth, PyData.depthAll]⟩
theorem do_told {K : PySem.W.Frag} {H : Hp} {p : Addr} {a b : Str} (h : H p = some (.tup [.str a, .str b])) : Do K H (.ref p) (.tuple (toldD a b)) := .tup (SqT.of h) (.cons (.str _) (.cons (.str _) .nil))
theorem odd_small {d : PyData} (h : OkO d) : smallD d := fun s e => by
  subst e
  have z : decide (s.length ≤ 100) = true := h.2.2.2.2
  have := of_decide_eq_true z
  omega
theorem odd_pair {t b : Int} (h : OkO (.tuple [.int t, .int b])) : t.natAbs < 1000 ∧ b.natAbs < 1000 := by
  have z : (decide (t.natAbs < 1000) && decide (b.natAbs < 1000)) = true := h.2.2.2.2
  rw [Bool.and_eq_true, decide_eq_true_eq, decide_eq_true_eq] at z
  exact z
theorem p1920 : ((2 ^ 1920 : Nat) : Int) < FL10 := by decide +kernel
theorem odd_int {i : Int} (h : OkO (.int i)) : absI i < FL10 := by
  have z : decide (i.natAbs.log2 < 1920) = true := h.1
  have l := lt_of_log2 (of_decide_eq_true z)
  have p := p1920
  rw [abs_nat]
  generalize (2 ^ 1920 : Nat) = N at *
  omega
/-- an odd thing that holds is a number, or a great int among the fractions -/
theorem odd_holds {φ : Fk} {d : PyData} (ok : okP φ) (o : OkO d) (h : holdsB φ d = true) (n : numB φ d = false) : φ = .fr ∧ ∃ i, d = .int i := by
  have l : longB FL d = true := by
    unfold numB at n
    rw [h] at n
    simpa using n
  cases φ with
  | md p =>
    have pm : Pm p := ok
    have hi := pm.md.hi
    obtain ⟨t, rfl, t0, t1⟩ := btw_int h
    rw [longB_two (t := t) (b := 1) rfl] at l
    have f9 : (1000000001 : Int) < FL := by unfold FL; decide
    rw [decide_eq_false (by rw [abs_nat]; omega), decide_eq_false (by omega)] at l
    cases l
  | fr =>
    refine ⟨rfl, ?_⟩
    have h : (isI d || frac d) = true := h
    rw [Bool.or_eq_true] at h
    rcases h with h | h
    · exact two_int h
    · obtain ⟨t, b, rfl, _, _⟩ := two_frac h
      obtain ⟨s1, s2⟩ := odd_pair o
      rw [longB_two (t := t) (b := b) rfl] at l
      have f9 : (1000000001 : Int) < FL := by unfold FL; decide
      rw [decide_eq_false (by rw [abs_nat]; omega), decide_eq_false (by omega)] at l
      cases l
section
variable {P : Program} {w : World} {K : PySem.W.Frag} {mg : Str → Option Value} {base : Heap}
def spLaw (K : PySem.W.Frag) : Sp := fun vs H Q _ => ∃ (a : Addr) (ns : List Int), vs = [.ref a] ∧ SqL K H a (ns.map V.int) ∧ ns.length ≤ 63 ∧ ∀ H', Q (.bl true) H'
theorem ok_law (T : Tx K mg) : FnG P w K mg base CX0 8 (He.ga K "law") (spLaw K) := by
  refine mk_law T.d (fun vs H Q E h => ?_) (fun cdv A outer s H vs Q E hg hr h => ?_)
  · obtain ⟨a, ns, rfl, _⟩ := h
    rfl
  · obtain ⟨ad, ns, rfl, hs, hl, q⟩ := h
    have nd := sc_law.nd
    have zg := T.z "range" (by decide +kernel)
    have hu := hr.units
    have zr := T.z "repr" (by decide +kernel)
    have br : bootBuiltins "repr" = some (.builtin "repr") := by decide +kernel
    have zs := T.z "str" (by decide +kernel)
    have bs : bootBuiltins "str" = some (.type "str") := by decide +kernel
    have zi := T.z "isinstance" (by decide +kernel)
    have bi : bootBuiltins "isinstance" = some (.builtin "isinstance") := by decide +kernel
    have gpk := T.g "_law_pick" (by decide +kernel)
    have gtn := T.g "_law_tens" (by decide +kernel)
    have grt := T.g "_law_read_told" (by decide +kernel)
    have gtt := T.g "_law_text_told" (by decide +kernel)
    have gdu := T.g "_law_due" (by decide +kernel)
    have gsp := T.g "_law_spelt" (by decide +kernel)
    refine ⟨_, pss_cons (ps_set (i := 1) nd rfl (Or.inl rfl) (pe_callG (ok_pen T) (hr.mono (by decide)) hg (by rfl) (T.g "_law_pen" (by decide +kernel)) (kp__law_pen T.d) pass0 (pa_cons (pv 0) pa_nil)))
      (pss_cons (ps_for PassesOwn.never rfl (pi_range1 (by rfl) zg (pa_cons pe_int pa_nil)) (pg_name (i := 2) nd rfl (.inl rfl))
        (pss_cons (ps_set (i := 3) nd rfl (Or.inl rfl) (pe_callG (ok_any_prime T) (hr.mono (by decide)) hg (by rfl) (T.g "_law_any_prime" (by decide +kernel)) (kp__law_any_prime T.d) pass0 (pa_cons (pv 1) pa_nil)))
        (pss_cons (ps_par (i := 4) (j := 5) rfl nd rfl rfl (by decide) rfl rfl (pa_cons (pe_callG (ok_made T) (hr.mono (by decide)) hg (by rfl) (T.g "_law_made_field" (by decide +kernel)) (kp__law_made_field T.d) pass0 (pa_cons (pv 3) pa_nil))
          (pa_cons (pe_callG (ok_any T) (hr.mono (by decide)) hg (by rfl) (T.g "_law_any_number" (by decide +kernel)) (kp__law_any_number T.d) pass0 (pa_cons (pv 1) (pa_cons (pv 3) (pa_cons pe_bl pa_nil)))) pa_nil)) rfl)
        (pss_cons (ps_set (i := 6) nd rfl (Or.inl rfl) (pe_methG (pv 4) (kp_Field_text T.d) (FnG.down (CX := CX0) (ok_textX T)) (hr.mono (by decide)) hg pass0 (pa_cons (pv 5) pa_nil)))
        (pss_cons (ps_if (PW.pt (pw_or (pt_cmpR op_ne (pv 6) (pe_callG (ok_spelt T) (hr.mono (by decide)) hg (by rfl) gsp (kp__law_spelt T.d) pass0 (pa_cons (pv 5) pa_nil)) (nomark _))
          (pw_or1 (pt_cmpR op_ne (pe_callB (call_reprO T.sm hg hu) (by rfl) zr br (pa_cons (pe_methG (pv 4) (kp_Field_read T.d) (FnG.down (CX := CX0) (ok_readX T)) (hr.mono (by decide)) hg pass0 (pa_cons (pv 6) pa_nil)) pa_nil))
            (pe_callB (call_reprO T.sm hg hu) (by rfl) zr br (pa_cons (pv 5) pa_nil)) (nomark _))))) pss_never pss_nil)
        (pss_cons (ps_for PassesOwn.never rfl (pi_range1 (by rfl) zg (pa_cons pe_int pa_nil)) (pg_name (i := 7) nd rfl (.inl rfl))
          (pss_cons (ps_set (i := 8) nd rfl (Or.inl rfl) (pe_callG (ok_bent T) (hr.mono (by decide)) hg (by rfl) (T.g "_law_bent" (by decide +kernel)) (kp__law_bent T.d) pass0 (pa_cons (pv 1) (pa_cons
            (pe_callG (ok_pick T) (hr.mono (by decide)) hg (by rfl) gpk (kp__law_pick T.d) pass0 (pa_cons (pv 1) (pa_cons (pe_lst (pa_cons (pv 6) (pa_cons pe_str (pa_cons pe_str (pa_cons pe_str pa_nil))))) pa_nil))) pa_nil))))
          (pss_cons (ps_set (i := 9) nd rfl (Or.inl rfl) (pe_callG (ok_rtold T) (hr.mono (by decide)) hg (by rfl) grt (kp__law_read_told T.d) pass0 (pa_cons (pv 4) (pa_cons (pv 8) pa_nil))))
          (pss_one (ps_if (PW.pt (pw_or (pt_cmpR op_ne (pe_callB (call_reprO T.sm hg hu) (by rfl) zr br (pa_cons (pv 9) pa_nil)) (pe_callB (call_reprO T.sm hg hu) (by rfl) zr br (pa_cons (pe_callG (ok_due T) (hr.mono (by decide)) hg (by rfl) gdu (kp__law_due T.d) pass0 (pa_cons (pv 3) (pa_cons (pv 8) pa_nil))) pa_nil)) (nomark _))
            (pw_or1 (PW.pt (pw_and (pt_cmpR (op_neP T.sm hu) (pv 9) pe_str (nomark _)) (pw_and1 (pt_cmpR op_ne (pe_methG (pv 4) (kp_Field_text T.d) (FnG.down (CX := CX0) (ok_textX T)) (hr.mono (by decide)) hg pass0 (pa_cons (pv 9) pa_nil)) (pv 8) (nomark _)))))))) pss_never pss_nil)))))
        (pss_cons (ps_set (i := 10) nd rfl (Or.inl rfl) (pe_callG (ok_odd T) (hr.mono (by decide)) hg (by rfl) (T.g "_law_odd" (by decide +kernel)) (kp__law_odd T.d) pass0 (pa_cons (pv 1) pa_nil)))
        (pss_cons (ps_set (i := 11) nd rfl (Or.inl rfl) (pe_ifExp (pt_val (pe_callB call_isi (by rfl) zi bi (pa_cons (pv 10) (pa_cons (pe_bltn (v := .ty "str") (by rfl) zs bs rfl) pa_nil))))
          (pe_callG (ok_due T) (hr.mono (by decide)) hg (by rfl) gdu (kp__law_due T.d) pass0 (pa_cons (pv 3) (pa_cons (pv 10) pa_nil))) pe_str))
        (pss_cons (ps_if (pt_cmpR op_ne (pe_callB (call_reprO T.sm hg hu) (by rfl) zr br (pa_cons (pe_callG (ok_rtold T) (hr.mono (by decide)) hg (by rfl) grt (kp__law_read_told T.d) pass0 (pa_cons (pv 4) (pa_cons (pv 10) pa_nil))) pa_nil))
          (pe_callB (call_reprO T.sm hg hu) (by rfl) zr br (pa_cons (pv 11) pa_nil)) (nomark _)) pss_never pss_nil)
        (pss_cons (ps_set (i := 11) nd rfl (Or.inl rfl) (pe_ifExp (pt_val (pe_callG (ok_lnum T) (hr.mono (by decide)) hg (by rfl) (T.g "_law_is_number" (by decide +kernel)) (kp__law_is_number T.d) pass0 (pa_cons (pv 3) (pa_cons (pv 10) pa_nil))))
          (pe_tup (pa_cons pe_str (pa_cons (pe_callG (ok_spelt T) (hr.mono (by decide)) hg (by rfl) gsp (kp__law_spelt T.d) pass0 (pa_cons (pv 10) pa_nil)) pa_nil)))
          (pe_tup (pa_cons pe_str (pa_cons (pe_callB (call_reprO T.sm hg hu) (by rfl) zr br (pa_cons (pv 10) pa_nil)) pa_nil)))))
        (pss_cons (ps_if (PW.pt (pw_and (pt_cmpR op_eq (pv 3) pe_int (nomark _)) (pw_and1 (pt_val (pe_callG (ok_is_whole T) (hr.mono (by decide)) hg (by rfl) (T.g "_law_is_whole" (by decide +kernel)) (kp__law_is_whole T.d) pass0 (pa_cons (pv 10) pa_nil))))))
          (pss_one (ps_set (i := 11) nd rfl (Or.inl rfl) (pe_tup (pa_cons pe_str (pa_cons (pe_callTy (call_strB T.dgN rfl) (by rfl) zs bs (pa_cons (pv 10) pa_nil)) pa_nil))))) pss_nil)
        (pss_one (ps_if (pt_cmpR (op_neP T.sm hu) (pe_callG (ok_ttold T) (hr.mono (by decide)) hg (by rfl) gtt (kp__law_text_told T.d) pass0 (pa_cons (pv 4) (pa_cons (pv 10) pa_nil))) (pv 11) (nomark _)) pss_never pss_nil)))))))))))))
      (pss_cons (ps_par (i := 4) (j := 12) rfl nd rfl rfl (by decide) rfl rfl (pa_cons (pe_makeG0 T.mF.mkr (ok_fracinit T) (hr.mono (by decide)) hg (by rfl) (T.g "Fractions" (by decide +kernel)) pass0)
        (pa_cons (pe_callG (ok_tensN T) (hr.mono (by decide)) hg (by rfl) gtn (kp__law_tens T.d) pass0 (pa_cons pe_int pa_nil)) pa_nil)) rfl)
      (pss_cons (ps_if (pt_not (pt_val (pe_callB call_isi (by rfl) zi bi (pa_cons (pv 4) (pa_cons (pe_glob (v := .ref (He.ga K "Field")) (by rfl) (T.g "Field" (by decide +kernel)) rfl) pa_nil))))) pss_never pss_nil)
      (pss_cons (ps_par (i := 13) (j := 14) rfl nd rfl rfl (by decide) rfl rfl (pa_cons (pe_callG (ok_pick T) (hr.mono (by decide)) hg (by rfl) gpk (kp__law_pick T.d) pass0 (pa_cons (pv 1) (pa_cons (pe_lst (pa_cons (pe_op op_fdivW (pv 12) pe_int) (pa_cons (pe_op op_sub (pv 12) pe_int)
          (pa_cons (pe_op op_mulW (pe_callG (ok_tensN T) (hr.mono (by decide)) hg (by rfl) gtn (kp__law_tens T.d) pass0 (pa_cons pe_int pa_nil)) pe_int) pa_nil)))) pa_nil)))
        (pa_cons (pe_callG (ok_pick T) (hr.mono (by decide)) hg (by rfl) gpk (kp__law_pick T.d) pass0 (pa_cons (pv 1) (pa_cons (pe_lst (pa_cons pe_int (pa_cons (pe_un un_neg pe_int) pa_nil))) pa_nil))) pa_nil)) rfl)
      (pss_cons (ps_if (pt_cmpR (op_neP T.sm hu) (pe_callG (ok_ttold T) (hr.mono (by decide)) hg (by rfl) gtt (kp__law_text_told T.d) pass0 (pa_cons (pv 4) (pa_cons (pe_op op_mulW (pv 14) (pv 13)) pa_nil)))
        (pe_tup (pa_cons pe_str (pa_cons (pe_callTy (call_strB T.dgN rfl) (by rfl) zs bs (pa_cons (pe_op op_mulW (pv 14) (pv 13)) pa_nil)) pa_nil))) (nomark _)) pss_never pss_nil)
      (pss_cons (ps_if (pt_cmpR (op_neP T.sm hu) (pe_callG (ok_ttold T) (hr.mono (by decide)) hg (by rfl) gtt (kp__law_text_told T.d) pass0 (pa_cons (pv 4) (pa_cons (pe_tup (pa_cons (pv 14) (pa_cons (pv 13) pa_nil))) pa_nil)))
        (pe_tup (pa_cons pe_str (pa_cons (pe_op op_add_str (pe_op op_add_str (pe_callTy (call_strB T.dgN rfl) (by rfl) zs bs (pa_cons (pv 14) pa_nil)) pe_str) (pe_callTy (call_strB T.dgN rfl) (by rfl) zs bs (pa_cons (pv 13) pa_nil))) pa_nil))) (nomark _)) pss_never pss_nil)
      (pss_cons (ps_set (i := 15) nd rfl (Or.inl rfl) (pe_lst (pa_cons (pv 12) (pa_cons (pe_op op_sub pe_int (pv 12)) (pa_cons (pe_tup (pa_cons pe_int (pa_cons (pv 12) pa_nil))) (pa_cons (pe_tup (pa_cons (pv 12) (pa_cons pe_int pa_nil)))
        (pa_cons (pe_callG (ok_tensN T) (hr.mono (by decide)) hg (by rfl) gtn (kp__law_tens T.d) pass0 (pa_cons pe_int pa_nil)) (pa_cons (pe_tup (pa_cons (pe_un un_neg pe_int) (pa_cons (pe_op op_add (pe_callG (ok_tensN T) (hr.mono (by decide)) hg (by rfl) gtn (kp__law_tens T.d) pass0 (pa_cons pe_int pa_nil)) pe_int) pa_nil))) pa_nil))))))))
      (pss_cons (ps_set (i := 15) nd rfl (Or.inl rfl) (pe_callG (ok_pick T) (hr.mono (by decide)) hg (by rfl) gpk (kp__law_pick T.d) pass0 (pa_cons (pv 1) (pa_cons (pv 15) pa_nil))))
      (pss_one (ps_ret (pe_cmpR (op_eqP T.sm hu) (pe_callG (ok_ttold T) (hr.mono (by decide)) hg (by rfl) gtt (kp__law_text_told T.d) pass0 (pa_cons (pv 4) (pa_cons (pv 15) pa_nil))) (pe_tup (pa_cons pe_str (pa_cons pe_bl pa_nil))) (nomark _)))))))))))), ?_⟩
    refine ⟨_, rfl, ad, ns, rfl, hs, hl, fun d H1 s1 hd pen1 => ?_⟩
    refine ⟨_, rfl, by decide, by decide, ?_⟩
    refine for_range (lo := 0) (fun i σ H' => ∃ v2 v3 v4 v5 v6 v7 v8 v9 v10 v11 v12 v13 v14 v15 : Option V, PenAt H' d (100 * (i : Int)) ∧ σ = [some (.ref ad), some (.ref d), v2, v3, v4, v5, v6, v7, v8, v9, v10, v11, v12, v13, v14, v15]) ⟨_, _, _, _, _, _, _, _, _, _, _, _, _, _, pen1.mono (by omega), rfl⟩ ?_ ?_
    · rintro i σ H0 hi ⟨v2, v3, v4, v5, v6, v7, v8, v9, v10, v11, v12, v13, v14, v15, pen0, rfl⟩
      have hi14 : i < 14 := hi
      refine ⟨_, rfl, d, _, rfl, pen0, by omega, fun φ H2 ok bt2 pen2 => ?_⟩
      refine ⟨_, rfl, φ, rfl, ok, fun f H3 s3 F3 => ?_⟩
      refine ⟨_, rfl, _, rfl, d, _, φ, false, rfl, ok, pen2.same s3, by omega, fun x r H4 nx o100 om bt4 pen4 => ⟨_, _, rfl, ?_⟩⟩
      have F4 := F3.but (pen2.same s3) bt4
      obtain ⟨r1, r2, r3⟩ := q10 o100
      have lq := qL_len o100
      -- text
      refine go_methG rfl F4 (by decide +kernel) (by decide +kernel) ⟨_, rfl, f, x, dq r, φ, rfl, F4, ok, do_q nx, topq nx, (fun z => by rw [holds_q om] at z; cases z), (fun t b _ h2 hl => by
        rw [two_q] at h2
        cases h2
        omega), fun t b _ h2 _ _ H5 s5 => ?_⟩
      rw [two_q] at h2
      cases h2
      rw [text_q]
      have F5 := F4.same s5
      have nx5 := nx.same s5
      refine ⟨_, rfl, _, rfl, x, dq r, _, _, rfl, do_q nx5, two_q r, r1, r2, r3, fun H6 s6 => ?_⟩
      rw [text_q]
      refine ⟨rfl, _, rfl, ?_⟩
      rw [sEq]
      refine ifF (by rw [decide_eq_true rfl]; rfl) ?_
      have s56 := s5.trans s6
      refine go_methG rfl (F4.same s56) (by decide +kernel) (by decide +kernel) ⟨_, rfl, f, _, .str (S (qL r)), φ, rfl, F4.same s56, ok, .str _, small_S (by omega), (fun z => by rw [read_q om o100] at z; cases z), fun e he z7 H7 s7 h7 t7 => ?_⟩
      rw [read_q om o100] at he
      cases he
      obtain ⟨so, sl, sd⟩ := showOk_q o100
      refine ⟨z7, dq r, rfl, h7, so, sl, sd, _, rfl, x, dq r, rfl, do_q ((nx.same s56).same s7), so, sl, sd, rfl, _, rfl, ?_⟩
      rw [sEq]
      refine ifF (by rw [decide_eq_true rfl]; rfl) ?_
      have pen7 := (pen4.same s56).same s7
      have F7 := (F4.same s56).same s7
      -- bent texts
      refine ⟨_, rfl, by decide, by decide, ?_⟩
      refine for_range (lo := 0) (fun j σ H' => ∃ v2 v7 v8 v9 v10 v11 v12 v13 v14 v15 : Option V, PenAt H' d (100 * (i : Int) + 62 + 4 * (j : Int)) ∧ FieldC K H' f φ ∧ σ = [some (.ref ad), some (.ref d), v2, some (.int φ.code), some (.ref f), some x, some (.str (S (qL r))), v7, v8, v9, v10, v11, v12, v13, v14, v15])
        ⟨_, _, _, _, _, _, _, _, _, _, pen7.mono (by omega), F7, rfl⟩ ?_ ?_
      · rintro j σ J0 hj ⟨v2, v7, v8, v9, v10, v11, v12, v13, v14, v15, pn0, G0, rfl⟩
        have hj4 : j < 4 := hj
        refine ⟨_, rfl, _, rfl, _, rfl, by show 4 ≤ sizeLine; decide, fun l nl => ?_⟩
        have sl1 := same_up (o := .lst [.str (S (qL r)), .str "1/2", .str "12", .str "-7/10"]) nl
        refine ⟨d, l, _, _, rfl, pn0.same sl1, by omega, upd_same, by show 0 < 4; decide, by show 4 < 1000; decide, fun y J1 hy bt1 pn1 => ?_⟩
        obtain ⟨tt, rfl, ltt⟩ : ∃ tt : Str, y = .str tt ∧ tt.length ≤ 1000 := by
          simp only [List.mem_cons, List.not_mem_nil, or_false] at hy
          rcases hy with rfl | rfl | rfl | rfl
          · exact ⟨_, rfl, by rw [S_len]; omega⟩
          · exact ⟨_, rfl, by decide +kernel⟩
          · exact ⟨_, rfl, by decide +kernel⟩
          · exact ⟨_, rfl, by decide +kernel⟩
        refine ⟨d, _, tt, rfl, pn1, by omega, ltt, fun s J2 ls bt2' pn2 => ?_⟩
        obtain ⟨a, rfl⟩ : ∃ a, s = S a := ⟨TL.tl s, (S_tl s).symm⟩
        rw [S_len] at ls
        have G2 := ((G0.same sl1).but (pn0.same sl1) bt1).but pn1 bt2'
        refine ⟨_, rfl, _, rfl, f, _, .str (S a), φ, rfl, G2, ok, .str _, small_S ls, fun z J3 s3' h3 t3 => ?_⟩
        obtain ⟨so2, sl2, sd2⟩ := showOk_seen ok (.str (S a))
        refine ⟨_, rfl, z, _, rfl, h3, so2, sl2, sd2, _, rfl, _, rfl, φ, a, rfl, ok, ls, fun x4 J4 s4 h4 => ?_⟩
        refine ⟨x4, _, rfl, h4, so2, sl2, sd2, rfl, _, rfl, ?_⟩
        rw [sEq]
        refine ifF (by rw [decide_eq_true rfl]; rfl) ?_
        have s34 := s3'.trans s4
        have h5 := Do.same s4 _ _ h3
        have t5 := TopP.same t3 s4
        cases er : readD φ (.str (S a)) with
        | none =>
          have es : seenD φ (.str (S a)) = .str "none" := by unfold seenD; rw [er]
          rw [es] at h5
          refine ⟨_, rfl, .str "none", .str "none", h5, .str _, rfl, rfl, by decide, _, rfl, ?_⟩
          rw [SeqAt.eqv_refl_plain (.str "none") rfl]
          exact ifF rfl (ifF rfl ⟨_, _, _, _, _, _, _, _, _, _, (pn2.same s34).mono (by omega), G2.same s34, rfl⟩)
        | some e =>
          have es : seenD φ (.str (S a)) = e := by unfold seenD; rw [er]
          rw [es] at h5 t5
          have en : numB φ e = true := by
            have er2 : (if numB φ (numD a) = true then some (numD a) else none) = some e := er
            split at er2
            · rename_i zz
              rw [← Option.some.inj er2]
              exact zz
            · cases er2
          obtain ⟨g, og, rfl⟩ := q_of ok en
          obtain ⟨g1, g2, g3⟩ := q10 og
          have eh : holdsB φ (dq g) = true := by
            have zz : (holdsB φ (dq g) && !longB FL (dq g)) = true := en
            rw [Bool.and_eq_true] at zz
            exact zz.1
          obtain ⟨pl, pd⟩ := dq_plain g
          refine ⟨_, rfl, dq g, .str "none", h5, .str _, pl, rfl, by omega, _, rfl, ?_⟩
          rw [dq_str]
          refine ifT rfl (go_methG rfl (G2.same s34) (by decide +kernel) (by decide +kernel) ⟨_, rfl, f, z, dq g, φ, rfl, G2.same s34, ok, h5, t5, (fun zz => by rw [eh] at zz; cases zz), (fun t b _ h2 hl => by
            rw [two_q] at h2
            cases h2
            omega), fun t b _ h2 _ _ J6 s6' => ?_⟩)
          rw [text_back er h2]
          refine ⟨_, rfl, rfl, _, rfl, ?_⟩
          rw [sEq]
          refine ifF (by rw [decide_eq_true rfl]; rfl) ?_
          exact ⟨_, _, _, _, _, _, _, _, _, _, ((pn2.same s34).same s6').mono (by omega), (G2.same s34).same s6', rfl⟩
      · rintro σ H5' ⟨v2, v7, v8, v9, v10, v11, v12, v13, v14, v15, pen5, F5', rfl⟩
        refine ⟨_, rfl, d, _, rfl, pen5, by omega, fun ox od H6 don ton ook bt6 pen6 => ?_⟩
        have F := F5'.but pen5 bt6
        have hdo : Do K H6 ox od := don _ (fun b o n e => e)
        have hto : TopP H6 ox od := ton _ (fun b o n e => e)
        refine ⟨_, rfl, _, _, _, _, _, rfl, .ty "str", hdo.ty, kit_str od, _, rfl, ?_⟩
        cases es : is_str od with
        | false =>
          have e0 : seenD φ od = .str "none" := by
            cases od with
            | str s => cases es
            | _ => rfl
          refine ifF rfl ?_
          have sx : Same H6 H6 := Same.refl _
          have hw : Do K H6 (.str "none") (seenD φ od) := by
            rw [e0]
            exact .str _
          generalize (V.str "none") = wv at hw ⊢
          -- read and due of the odd one
          refine ⟨_, rfl, _, rfl, f, ox, od, φ, rfl, F.same sx, ok, Do.same sx _ _ hdo, odd_small ook, fun z Hy sy h1 t1 => ?_⟩
          obtain ⟨so, sl2, sd⟩ := showOk_seen ok od
          refine ⟨z, _, rfl, h1, so, sl2, sd, _, rfl, wv, _, rfl, Do.same sy _ _ hw, so, sl2, sd, rfl, _, rfl, ?_⟩
          rw [sEq]
          refine ifF (by rw [decide_eq_true rfl]; rfl) ?_
          have sxy := sx.trans sy
          have hdy := Do.same sxy _ _ hdo
          have tdy := TopP.same hto sxy
          have Fy := F.same sxy
          -- what is due
          refine ⟨_, rfl, _, rfl, φ, ox, od, rfl, ok, hdy, _, rfl, ?_⟩
          cases en : numB φ od with
          | true =>
            obtain ⟨g, og, rfl⟩ := q_of ok en
            obtain ⟨g1, g2, g3⟩ := q10 og
            have eh : holdsB φ (dq g) = true := by
              have z : (holdsB φ (dq g) && !longB FL (dq g)) = true := en
              rw [Bool.and_eq_true] at z
              exact z.1
            refine ifT rfl ⟨_, rfl, ox, dq g, _, _, rfl, hdy, two_q g, g1, g2, g3, fun Hz sz => ⟨by show 2 ≤ sizeLine; decide, fun p np => ?_⟩⟩
            have sp := same_up (o := .tup [.str "text", .str (textS g.num (g.den : Int))]) np
            have sA := (sxy.trans sz).trans sp
            refine ⟨_, rfl, rfl, _, rfl, ?_⟩
            rw [iEq]
            by_cases c0 : φ.code = 0
            · refine ifT (decide_eq_true c0) ⟨_, rfl, ox, dq g, rfl, Do.same sA _ _ hdo, _, rfl, ?_⟩
              cases ei : isI (dq g) with
              | true =>
                obtain ⟨i, ei2⟩ := two_int ei
                have den1 : g.den = 1 := by
                  by_cases e : g.den = 1
                  · exact e
                  · rw [dq_tup e] at ei2
                    cases ei2
                have num1 : g.num = i := by
                  rw [dq_int den1] at ei2
                  cases ei2
                  rfl
                have hox : ox = .int i := by
                  rw [ei2] at hdo
                  cases hdo
                  rfl
                have ni : i.natAbs < 10 ^ 4300 := (text_len (nat3400 (i := i) (by rw [← num1]; exact g1))).1
                have et : textS g.num (g.den : Int) = Str.ofString (toString i) := by
                  rw [textS_cat, if_pos (by rw [den1]; rfl), num1]
                refine ifT rfl ⟨_, rfl, i, by rw [hox], ni, by show 2 ≤ sizeLine; decide, fun p2 np2 => ?_⟩
                have sp2 := same_up (o := .tup [.str "text", .str (Str.ofString (toString i))]) np2
                have sB := sA.trans sp2
                refine ⟨_, rfl, _, rfl, f, ox, dq g, φ, rfl, F.same sB, ok, Do.same sB _ _ hdo, TopP.same hto sB, (fun z => by rw [eh] at z; cases z), (fun z => by rw [eh] at z; cases z), (fun t b _ h2 hl => ?_), fun t b _ h2 _ _ q2 Hd sd3 hq2 => ?_⟩
                · rw [two_q] at h2
                  cases h2
                  omega
                · rw [two_q] at h2
                  cases h2
                  obtain ⟨pl, pd⟩ := told_plain "text" (textS g.num (g.den : Int))
                  have due : Do K Hd (.ref p2) (.tuple (toldD "text" (textS g.num (g.den : Int)))) := by
                    have z := do_told (K := K) (sd3 _ _ (upd_same (a := p2)))
                    first
                      | exact z
                      | (rw [et]; exact z)
                  refine ⟨_, rfl, _, _, do_told hq2, due, pl, pl, pd, _, rfl, ?_⟩
                  rw [SeqAt.eqv_refl_plain _ pl]
                  exact ifF rfl ⟨_, _, _, _, _, _, _, _, _, _, _, _, _, _, (PenAt.mono ((pen6.same sB).same sd3) (by omega)), rfl⟩
              | false => 
                refine ifF rfl ?_
                refine ⟨_, rfl, _, rfl, f, ox, dq g, φ, rfl, F.same sA, ok, Do.same sA _ _ hdo, TopP.same hto sA, (fun z => by rw [eh] at z; cases z), (fun z => by rw [eh] at z; cases z), (fun t b _ h2 hl => ?_), fun t b _ h2 _ _ q2 Hd sd3 hq2 => ?_⟩
                · rw [two_q] at h2
                  cases h2
                  omega
                · rw [two_q] at h2
                  cases h2
                  obtain ⟨pl, pd⟩ := told_plain "text" (textS g.num (g.den : Int))
                  have due : Do K Hd (.ref p) (.tuple (toldD "text" (textS g.num (g.den : Int)))) := by
                    have z := do_told (K := K) (sd3 _ _ (upd_same (a := p)))
                    first
                      | exact z
                      | (rw [rfl]; exact z)
                  refine ⟨_, rfl, _, _, do_told hq2, due, pl, pl, pd, _, rfl, ?_⟩
                  rw [SeqAt.eqv_refl_plain _ pl]
                  exact ifF rfl ⟨_, _, _, _, _, _, _, _, _, _, _, _, _, _, (PenAt.mono ((pen6.same sA).same sd3) (by omega)), rfl⟩
            · refine ifF (decide_eq_false c0) (ifF rfl ?_)
              refine ⟨_, rfl, _, rfl, f, ox, dq g, φ, rfl, F.same sA, ok, Do.same sA _ _ hdo, TopP.same hto sA, (fun z => by rw [eh] at z; cases z), (fun z => by rw [eh] at z; cases z), (fun t b _ h2 hl => ?_), fun t b _ h2 _ _ q2 Hd sd3 hq2 => ?_⟩
              · rw [two_q] at h2
                cases h2
                omega
              · rw [two_q] at h2
                cases h2
                obtain ⟨pl, pd⟩ := told_plain "text" (textS g.num (g.den : Int))
                have due : Do K Hd (.ref p) (.tuple (toldD "text" (textS g.num (g.den : Int)))) := by
                  have z := do_told (K := K) (sd3 _ _ (upd_same (a := p)))
                  first
                    | exact z
                    | (rw [rfl]; exact z)
                refine ⟨_, rfl, _, _, do_told hq2, due, pl, pl, pd, _, rfl, ?_⟩
                rw [SeqAt.eqv_refl_plain _ pl]
                exact ifF rfl ⟨_, _, _, _, _, _, _, _, _, _, _, _, _, _, (PenAt.mono ((pen6.same sA).same sd3) (by omega)), rfl⟩
          | false =>
            cases eh : holdsB φ od with
            | true =>
              obtain ⟨rfl, i, rfl⟩ := odd_holds ok ook eh en
              have hi := odd_int ook
              obtain ⟨ni, _⟩ := text_len (nat3400 (i := i) hi)
              obtain ⟨so2, sl3, sd2⟩ := showOk_of ook
              cases hdo
              refine ifF rfl ⟨_, rfl, _, _, rfl, hdy, so2, sl3, sd2, by show 2 ≤ sizeLine; decide, fun p np => ?_⟩
              have sp := same_up (o := .tup [.str "wrong", .str (PyData.int i).shown]) np
              have sA := sxy.trans sp
              refine ⟨_, rfl, rfl, _, rfl, ?_⟩
              rw [iEq]
              refine ifT (by decide) ⟨_, rfl, .int i, .int i, rfl, .int i, _, rfl, ifT rfl ⟨_, rfl, i, rfl, ni, by show 2 ≤ sizeLine; decide, fun p2 np2 => ?_⟩⟩
              have sp2 := same_up (o := .tup [.str "text", .str (Str.ofString (toString i))]) np2
              have sB := sA.trans sp2
              refine ⟨_, rfl, _, rfl, f, .int i, .int i, .fr, rfl, F.same sB, ok, .int i, (fun t b e => by cases e), (fun z => by rw [eh] at z; cases z), (fun z => by rw [eh] at z; cases z), (fun t b _ h2 hl => ?_), fun t b _ h2 _ _ q2 Hd sd3 hq2 => ?_⟩
              · have h2 : some (i, (1 : Int)) = some (t, b) := h2
                cases h2
                have := fl_fl10
                have f1 : (1 : Int) < FL := by unfold FL; decide
                omega
              · have h2 : some (i, (1 : Int)) = some (t, b) := h2
                cases h2
                obtain ⟨pl, pd⟩ := told_plain "text" (textS i 1)
                refine ⟨_, rfl, .tuple (toldD "text" (textS i 1)), .tuple (toldD "text" (textS i 1)), do_told hq2, do_told (sd3 _ _ upd_same), pl, pl, pd, _, rfl, ?_⟩
                rw [SeqAt.eqv_refl_plain _ pl]
                exact ifF rfl ⟨_, _, _, _, _, _, _, _, _, _, _, _, _, _, (PenAt.mono ((pen6.same sB).same sd3) (by omega)), rfl⟩
            | false =>
              obtain ⟨so2, sl3, sd2⟩ := showOk_of ook
              refine ifF rfl ⟨_, rfl, ox, od, rfl, hdy, so2, sl3, sd2, by show 2 ≤ sizeLine; decide, fun p np => ?_⟩
              have sp := same_up (o := .tup [.str "wrong", .str od.shown]) np
              have sA := sxy.trans sp
              refine ⟨_, rfl, rfl, _, rfl, ?_⟩
              rw [iEq]
              by_cases c0 : φ.code = 0
              · refine ifT (decide_eq_true c0) ⟨_, rfl, ox, od, rfl, Do.same sA _ _ hdo, _, rfl, ?_⟩
                have ni : isI od = false := by
                  cases z : isI od with
                  | false => rfl
                  | true =>
                    cases φ with
                    | fr =>
                      have e : (isI od || frac od) = false := eh
                      rw [z] at e
                      cases e
                    | md pp =>
                      have pm : Pm pp := ok
                      have hlo := pm.md.lo
                      have c0 : pp = 0 := c0
                      omega
                rw [ni]
                refine ifF rfl ?_
                refine ⟨_, rfl, _, rfl, f, ox, od, φ, rfl, F.same sA, ok, Do.same sA _ _ hdo, TopP.same hto sA, (fun _ => ⟨so2, sl3, sd2⟩), (fun _ q2 Hd sd3 hq2 => ?_), (fun t b z => by rw [eh] at z; cases z), fun t b z => by rw [eh] at z; cases z⟩
                obtain ⟨pl, pd⟩ := told_plain "wrong" od.shown
                refine ⟨_, rfl, _, _, do_told hq2, do_told (sd3 _ _ (upd_same (a := p))), pl, pl, pd, _, rfl, ?_⟩
                rw [SeqAt.eqv_refl_plain _ pl]
                exact ifF rfl ⟨_, _, _, _, _, _, _, _, _, _, _, _, _, _, (PenAt.mono ((pen6.same sA).same sd3) (by omega)), rfl⟩
              · refine ifF (decide_eq_false c0) (ifF rfl ?_)
                refine ⟨_, rfl, _, rfl, f, ox, od, φ, rfl, F.same sA, ok, Do.same sA _ _ hdo, TopP.same hto sA, (fun _ => ⟨so2, sl3, sd2⟩), (fun _ q2 Hd sd3 hq2 => ?_), (fun t b z => by rw [eh] at z; cases z), fun t b z => by rw [eh] at z; cases z⟩
                obtain ⟨pl, pd⟩ := told_plain "wrong" od.shown
                refine ⟨_, rfl, _, _, do_told hq2, do_told (sd3 _ _ (upd_same (a := p))), pl, pl, pd, _, rfl, ?_⟩
                rw [SeqAt.eqv_refl_plain _ pl]
                exact ifF rfl ⟨_, _, _, _, _, _, _, _, _, _, _, _, _, _, (PenAt.mono ((pen6.same sA).same sd3) (by omega)), rfl⟩
        | true =>
          obtain ⟨s', rfl⟩ : ∃ s', od = .str s' := by
            cases od with
            | str s' => exact ⟨s', rfl⟩
            | _ => cases es
          obtain ⟨a, rfl⟩ : ∃ a, s' = S a := ⟨TL.tl s', (S_tl s').symm⟩
          have hox : ox = .str (S a) := by cases hdo; rfl
          have la : a.length ≤ 20000 := by
            have z := odd_small ook _ rfl
            rw [S_len] at z
            exact z
          subst hox
          refine ifT rfl ⟨_, rfl, _, rfl, φ, a, rfl, ok, la, fun wv Hx sx hw => ?_⟩
          generalize hod : PyData.str (S a) = od at *
          generalize V.str (S a) = ox at *
          -- read and due of the odd one
          refine ⟨_, rfl, _, rfl, f, ox, od, φ, rfl, F.same sx, ok, Do.same sx _ _ hdo, odd_small ook, fun z Hy sy h1 t1 => ?_⟩
          obtain ⟨so, sl2, sd⟩ := showOk_seen ok od
          refine ⟨z, _, rfl, h1, so, sl2, sd, _, rfl, wv, _, rfl, Do.same sy _ _ hw, so, sl2, sd, rfl, _, rfl, ?_⟩
          rw [sEq]
          refine ifF (by rw [decide_eq_true rfl]; rfl) ?_
          have sxy := sx.trans sy
          have hdy := Do.same sxy _ _ hdo
          have tdy := TopP.same hto sxy
          have Fy := F.same sxy
          -- what is due
          refine ⟨_, rfl, _, rfl, φ, ox, od, rfl, ok, hdy, _, rfl, ?_⟩
          cases en : numB φ od with
          | true =>
            obtain ⟨g, og, rfl⟩ := q_of ok en
            obtain ⟨g1, g2, g3⟩ := q10 og
            have eh : holdsB φ (dq g) = true := by
              have z : (holdsB φ (dq g) && !longB FL (dq g)) = true := en
              rw [Bool.and_eq_true] at z
              exact z.1
            refine ifT rfl ⟨_, rfl, ox, dq g, _, _, rfl, hdy, two_q g, g1, g2, g3, fun Hz sz => ⟨by show 2 ≤ sizeLine; decide, fun p np => ?_⟩⟩
            have sp := same_up (o := .tup [.str "text", .str (textS g.num (g.den : Int))]) np
            have sA := (sxy.trans sz).trans sp
            refine ⟨_, rfl, rfl, _, rfl, ?_⟩
            rw [iEq]
            by_cases c0 : φ.code = 0
            · refine ifT (decide_eq_true c0) ⟨_, rfl, ox, dq g, rfl, Do.same sA _ _ hdo, _, rfl, ?_⟩
              cases ei : isI (dq g) with
              | true =>
                obtain ⟨i, ei2⟩ := two_int ei
                have den1 : g.den = 1 := by
                  by_cases e : g.den = 1
                  · exact e
                  · rw [dq_tup e] at ei2
                    cases ei2
                have num1 : g.num = i := by
                  rw [dq_int den1] at ei2
                  cases ei2
                  rfl
                have hox : ox = .int i := by
                  rw [ei2] at hdo
                  cases hdo
                  rfl
                have ni : i.natAbs < 10 ^ 4300 := (text_len (nat3400 (i := i) (by rw [← num1]; exact g1))).1
                have et : textS g.num (g.den : Int) = Str.ofString (toString i) := by
                  rw [textS_cat, if_pos (by rw [den1]; rfl), num1]
                refine ifT rfl ⟨_, rfl, i, by rw [hox], ni, by show 2 ≤ sizeLine; decide, fun p2 np2 => ?_⟩
                have sp2 := same_up (o := .tup [.str "text", .str (Str.ofString (toString i))]) np2
                have sB := sA.trans sp2
                refine ⟨_, rfl, _, rfl, f, ox, dq g, φ, rfl, F.same sB, ok, Do.same sB _ _ hdo, TopP.same hto sB, (fun z => by rw [eh] at z; cases z), (fun z => by rw [eh] at z; cases z), (fun t b _ h2 hl => ?_), fun t b _ h2 _ _ q2 Hd sd3 hq2 => ?_⟩
                · rw [two_q] at h2
                  cases h2
                  omega
                · rw [two_q] at h2
                  cases h2
                  obtain ⟨pl, pd⟩ := told_plain "text" (textS g.num (g.den : Int))
                  have due : Do K Hd (.ref p2) (.tuple (toldD "text" (textS g.num (g.den : Int)))) := by
                    have z := do_told (K := K) (sd3 _ _ (upd_same (a := p2)))
                    first
                      | exact z
                      | (rw [et]; exact z)
                  refine ⟨_, rfl, _, _, do_told hq2, due, pl, pl, pd, _, rfl, ?_⟩
                  rw [SeqAt.eqv_refl_plain _ pl]
                  exact ifF rfl ⟨_, _, _, _, _, _, _, _, _, _, _, _, _, _, (PenAt.mono ((pen6.same sB).same sd3) (by omega)), rfl⟩
              | false => 
                refine ifF rfl ?_
                refine ⟨_, rfl, _, rfl, f, ox, dq g, φ, rfl, F.same sA, ok, Do.same sA _ _ hdo, TopP.same hto sA, (fun z => by rw [eh] at z; cases z), (fun z => by rw [eh] at z; cases z), (fun t b _ h2 hl => ?_), fun t b _ h2 _ _ q2 Hd sd3 hq2 => ?_⟩
                · rw [two_q] at h2
                  cases h2
                  omega
                · rw [two_q] at h2
                  cases h2
                  obtain ⟨pl, pd⟩ := told_plain "text" (textS g.num (g.den : Int))
                  have due : Do K Hd (.ref p) (.tuple (toldD "text" (textS g.num (g.den : Int)))) := by
                    have z := do_told (K := K) (sd3 _ _ (upd_same (a := p)))
                    first
                      | exact z
                      | (rw [rfl]; exact z)
                  refine ⟨_, rfl, _, _, do_told hq2, due, pl, pl, pd, _, rfl, ?_⟩
                  rw [SeqAt.eqv_refl_plain _ pl]
                  exact ifF rfl ⟨_, _, _, _, _, _, _, _, _, _, _, _, _, _, (PenAt.mono ((pen6.same sA).same sd3) (by omega)), rfl⟩
            · refine ifF (decide_eq_false c0) (ifF rfl ?_)
              refine ⟨_, rfl, _, rfl, f, ox, dq g, φ, rfl, F.same sA, ok, Do.same sA _ _ hdo, TopP.same hto sA, (fun z => by rw [eh] at z; cases z), (fun z => by rw [eh] at z; cases z), (fun t b _ h2 hl => ?_), fun t b _ h2 _ _ q2 Hd sd3 hq2 => ?_⟩
              · rw [two_q] at h2
                cases h2
                omega
              · rw [two_q] at h2
                cases h2
                obtain ⟨pl, pd⟩ := told_plain "text" (textS g.num (g.den : Int))
                have due : Do K Hd (.ref p) (.tuple (toldD "text" (textS g.num (g.den : Int)))) := by
                  have z := do_told (K := K) (sd3 _ _ (upd_same (a := p)))
                  first
                    | exact z
                    | (rw [rfl]; exact z)
                refine ⟨_, rfl, _, _, do_told hq2, due, pl, pl, pd, _, rfl, ?_⟩
                rw [SeqAt.eqv_refl_plain _ pl]
                exact ifF rfl ⟨_, _, _, _, _, _, _, _, _, _, _, _, _, _, (PenAt.mono ((pen6.same sA).same sd3) (by omega)), rfl⟩
          | false =>
            cases eh : holdsB φ od with
            | true =>
              obtain ⟨rfl, i, rfl⟩ := odd_holds ok ook eh en
              have hi := odd_int ook
              obtain ⟨ni, _⟩ := text_len (nat3400 (i := i) hi)
              obtain ⟨so2, sl3, sd2⟩ := showOk_of ook
              cases hdo
              refine ifF rfl ⟨_, rfl, _, _, rfl, hdy, so2, sl3, sd2, by show 2 ≤ sizeLine; decide, fun p np => ?_⟩
              have sp := same_up (o := .tup [.str "wrong", .str (PyData.int i).shown]) np
              have sA := sxy.trans sp
              refine ⟨_, rfl, rfl, _, rfl, ?_⟩
              rw [iEq]
              refine ifT (by decide) ⟨_, rfl, .int i, .int i, rfl, .int i, _, rfl, ifT rfl ⟨_, rfl, i, rfl, ni, by show 2 ≤ sizeLine; decide, fun p2 np2 => ?_⟩⟩
              have sp2 := same_up (o := .tup [.str "text", .str (Str.ofString (toString i))]) np2
              have sB := sA.trans sp2
              refine ⟨_, rfl, _, rfl, f, .int i, .int i, .fr, rfl, F.same sB, ok, .int i, (fun t b e => by cases e), (fun z => by rw [eh] at z; cases z), (fun z => by rw [eh] at z; cases z), (fun t b _ h2 hl => ?_), fun t b _ h2 _ _ q2 Hd sd3 hq2 => ?_⟩
              · have h2 : some (i, (1 : Int)) = some (t, b) := h2
                cases h2
                have := fl_fl10
                have f1 : (1 : Int) < FL := by unfold FL; decide
                omega
              · have h2 : some (i, (1 : Int)) = some (t, b) := h2
                cases h2
                obtain ⟨pl, pd⟩ := told_plain "text" (textS i 1)
                refine ⟨_, rfl, .tuple (toldD "text" (textS i 1)), .tuple (toldD "text" (textS i 1)), do_told hq2, do_told (sd3 _ _ upd_same), pl, pl, pd, _, rfl, ?_⟩
                rw [SeqAt.eqv_refl_plain _ pl]
                exact ifF rfl ⟨_, _, _, _, _, _, _, _, _, _, _, _, _, _, (PenAt.mono ((pen6.same sB).same sd3) (by omega)), rfl⟩
            | false =>
              obtain ⟨so2, sl3, sd2⟩ := showOk_of ook
              refine ifF rfl ⟨_, rfl, ox, od, rfl, hdy, so2, sl3, sd2, by show 2 ≤ sizeLine; decide, fun p np => ?_⟩
              have sp := same_up (o := .tup [.str "wrong", .str od.shown]) np
              have sA := sxy.trans sp
              refine ⟨_, rfl, rfl, _, rfl, ?_⟩
              rw [iEq]
              by_cases c0 : φ.code = 0
              · refine ifT (decide_eq_true c0) ⟨_, rfl, ox, od, rfl, Do.same sA _ _ hdo, _, rfl, ?_⟩
                have ni : isI od = false := by
                  cases z : isI od with
                  | false => rfl
                  | true =>
                    cases φ with
                    | fr =>
                      have e : (isI od || frac od) = false := eh
                      rw [z] at e
                      cases e
                    | md pp =>
                      have pm : Pm pp := ok
                      have hlo := pm.md.lo
                      have c0 : pp = 0 := c0
                      omega
                rw [ni]
                refine ifF rfl ?_
                refine ⟨_, rfl, _, rfl, f, ox, od, φ, rfl, F.same sA, ok, Do.same sA _ _ hdo, TopP.same hto sA, (fun _ => ⟨so2, sl3, sd2⟩), (fun _ q2 Hd sd3 hq2 => ?_), (fun t b z => by rw [eh] at z; cases z), fun t b z => by rw [eh] at z; cases z⟩
                obtain ⟨pl, pd⟩ := told_plain "wrong" od.shown
                refine ⟨_, rfl, _, _, do_told hq2, do_told (sd3 _ _ (upd_same (a := p))), pl, pl, pd, _, rfl, ?_⟩
                rw [SeqAt.eqv_refl_plain _ pl]
                exact ifF rfl ⟨_, _, _, _, _, _, _, _, _, _, _, _, _, _, (PenAt.mono ((pen6.same sA).same sd3) (by omega)), rfl⟩
              · refine ifF (decide_eq_false c0) (ifF rfl ?_)
                refine ⟨_, rfl, _, rfl, f, ox, od, φ, rfl, F.same sA, ok, Do.same sA _ _ hdo, TopP.same hto sA, (fun _ => ⟨so2, sl3, sd2⟩), (fun _ q2 Hd sd3 hq2 => ?_), (fun t b z => by rw [eh] at z; cases z), fun t b z => by rw [eh] at z; cases z⟩
                obtain ⟨pl, pd⟩ := told_plain "wrong" od.shown
                refine ⟨_, rfl, _, _, do_told hq2, do_told (sd3 _ _ (upd_same (a := p))), pl, pl, pd, _, rfl, ?_⟩
                rw [SeqAt.eqv_refl_plain _ pl]
                exact ifF rfl ⟨_, _, _, _, _, _, _, _, _, _, _, _, _, _, (PenAt.mono ((pen6.same sA).same sd3) (by omega)), rfl⟩
    · rintro σ H1' ⟨v2, v3, v4, v5, v6, v7, v8, v9, v10, v11, v12, v13, v14, v15, pen0, rfl⟩
      have tn : ∀ n : Nat, (10 : Int) ^ n = ((10 ^ n : Nat) : Int) := fun n => by rw [Int.natCast_pow]; rfl
      have big : ∀ {i : Int}, absI i < FL10 → i.natAbs < 10 ^ 4300 ∧ (Str.ofString (toString i)).length ≤ 3401 := fun h => text_len (nat3400 h)
      refine fun f dx nf ndx ne => ⟨f, dx, rfl, upd_same, rfl, 1000, rfl, by decide, _, _, rfl, ?_⟩
      have sm := made_same (o1 := .own f) (o2 := .ins (He.ga K "Fractions") dx []) (o3 := .ins (He.ga K "Fractions") dx [(("_prime" : Str), V.non)]) nf ndx
      have F0 : FieldC K (upd (upd (upd H1' dx (.own f)) f (.ins (He.ga K "Fractions") dx [])) f (.ins (He.ga K "Fractions") dx [(("_prime" : Str), V.non)])) f .fr := ⟨_, dx, T.fcF, T.mF, upd_same⟩
      have pen1 := pen0.same sm
      obtain ⟨C, dxx, fc, mc, hf⟩ := id F0
      refine ⟨_, rfl, _, _, _, _, true, rfl, .own _, .base (.ins hf fc.cl mc.cl T.clS T.clT mc.ob), mc.isF, _, rfl, ifF rfl ?_⟩
      have em : (10 : Int) ^ 1000 = FL10 := by decide +kernel
      rw [em]
      -- long, sign
      refine ⟨_, rfl, _, rfl, _, _, rfl, rfl, ⟨by decide, by decide⟩, _, rfl, _, _, rfl, rfl, 500, rfl, by decide, _, _, rfl, rfl, wide_mul (a := 2001) (b := 3) (by have := ten_lt 500; exact this) (by decide) (by decide) (by decide) (by decide), by show 3 ≤ sizeLine; decide, fun l1 n1 => ?_⟩
      have s1' := same_up (o := .lst [.int (FL10 / 10), .int (FL10 - 1), .int (10 ^ 500 * 7)]) n1
      refine ⟨d, l1, _, _, rfl, pen1.same s1', by omega, upd_same, by show 0 < 3; decide, by show 3 < 1000; decide, fun x1 G2 hx1 bt2 pen2 => ?_⟩
      obtain ⟨L, rfl, L2, Lf⟩ : ∃ L : Int, x1 = .int L ∧ 2 ≤ L ∧ L < FL10 := by
        simp only [List.mem_cons, List.not_mem_nil, or_false] at hx1
        rcases hx1 with rfl | rfl | rfl
        · exact ⟨_, rfl, by decide +kernel, by decide +kernel⟩
        · exact ⟨_, rfl, by decide +kernel, by decide +kernel⟩
        · exact ⟨_, rfl, by decide +kernel, by decide +kernel⟩
      refine ⟨_, rfl, _, rfl, by show 2 ≤ sizeLine; decide, fun l2 n2 => ?_⟩
      have s2' := same_up (o := .lst [.int 1, .int (-1)]) n2
      refine ⟨d, l2, _, _, rfl, pen2.same s2', by omega, upd_same, by show 0 < 2; decide, by show 2 < 1000; decide, fun x2 G3 hx2 bt3 pen3 => ?_⟩
      obtain ⟨sg, rfl, hsg⟩ : ∃ sg : Int, x2 = .int sg ∧ (sg = 1 ∨ sg = -1) := by
        simp only [List.mem_cons, List.not_mem_nil, or_false] at hx2
        rcases hx2 with rfl | rfl
        · exact ⟨_, rfl, .inl rfl⟩
        · exact ⟨_, rfl, .inr rfl⟩
      refine ⟨_, _, rfl, ?_⟩
      have F3 := (((F0.same s1').but (pen1.same s1') bt2).same s2').but (pen2.same s2') bt3
      have aL : absI L = L := by unfold absI; split <;> omega
      have aSL : absI (sg * L) < FL10 := by
        rw [abs_nat, Int.natAbs_mul]
        rcases hsg with rfl | rfl
        · show ((1 * L.natAbs : Nat) : Int) < FL10
          omega
        · show ((1 * L.natAbs : Nat) : Int) < FL10
          omega
      have aS : absI sg < FL10 := by
        have f1 : (1 : Int) < FL10 := by decide +kernel
        rcases hsg with rfl | rfl <;> exact f1
      obtain ⟨nSL, lSL⟩ := big aSL
      obtain ⟨nL, lL⟩ := big (i := L) (by rw [aL]; exact Lf)
      obtain ⟨nS, lS⟩ := big aS
      have wid : CMulW sg L := wide_mul (a := 2) (b := 3400) (by rcases hsg with rfl | rfl <;> decide) (nat3400 (by rw [aL]; exact Lf)) (by decide) (by decide) (by decide)
      have fl1 : (1 : Int) < FL10 := by decide +kernel
      -- an int
      refine ⟨_, rfl, _, rfl, _, rfl, _, _, rfl, rfl, wid, f, .int (sg * L), .int (sg * L), .fr, rfl, F3, True.intro, .int _, (fun t b e => by cases e), (fun z => by cases z), (fun z => by cases z), (fun t b _ h2 hl => ?_), fun t b _ h2 _ _ q2 G4 s4 hq2 => ?_⟩
      · have h2 : some (sg * L, (1 : Int)) = some (t, b) := h2
        cases h2
        omega
      · have h2 : some (sg * L, (1 : Int)) = some (t, b) := h2
        cases h2
        refine ⟨_, rfl, _, rfl, _, _, rfl, rfl, wid, _, rfl, nSL, by show 2 ≤ sizeLine; decide, fun p np => ?_⟩
        have sp := same_up (o := .tup [.str "text", .str (Str.ofString (toString (sg * L)))]) np
        have et : textS (sg * L) 1 = Str.ofString (toString (sg * L)) := by rw [textS_cat, if_pos rfl]
        obtain ⟨pl, pd⟩ := told_plain "text" (Str.ofString (toString (sg * L)))
        rw [et] at hq2
        refine ⟨_, _, do_told (sp _ _ hq2), do_told upd_same, pl, pl, pd, _, rfl, ?_⟩
        rw [SeqAt.eqv_refl_plain _ pl]
        refine ifF rfl ?_
        have s4p := s4.trans sp
        have pen4 := pen3.same s4p
        have F4 := F3.same s4p
        -- a fraction
        refine ⟨_, rfl, _, rfl, _, rfl, by show 2 ≤ sizeLine; decide, fun tp ntp => ?_⟩
        have stp := same_up (o := .tup [.int sg, .int L]) ntp
        have hfr : holdsB .fr (.tuple [.int sg, .int L]) = true := by
          show (false || (decide (2 ≤ L) && decide (Nat.gcd sg.natAbs L.natAbs = 1))) = true
          have g1 : Nat.gcd sg.natAbs L.natAbs = 1 := by
            have e1 : sg.natAbs = 1 := by rcases hsg with rfl | rfl <;> rfl
            rw [e1]
            exact Nat.gcd_one_left _
          rw [decide_eq_true L2, decide_eq_true g1]
          rfl
        refine ⟨f, .ref tp, .tuple [.int sg, .int L], .fr, rfl, F4.same stp, True.intro, .tup (SqT.of upd_same) (.cons (.int _) (.cons (.int _) .nil)), (fun t b e => by cases e; exact ⟨tp, rfl, upd_same⟩), (fun z => by rw [hfr] at z; cases z), (fun z => by rw [hfr] at z; cases z), (fun t b _ h2 hl => ?_), fun t b _ h2 _ _ q3 G5 s5 hq3 => ?_⟩
        · have h2 : some (sg, L) = some (t, b) := h2
          cases h2
          omega
        · have h2 : some (sg, L) = some (t, b) := h2
          cases h2
          have e2 : ("/" : Str).length = 1 := rfl
          refine ⟨_, rfl, _, rfl, nS, _, _, rfl, rfl, by rw [sizeLine_eq]; omega, _, rfl, _, rfl, nL, _, _, rfl, rfl, by rw [strLen_append, sizeLine_eq]; omega, by show 2 ≤ sizeLine; decide, fun p2 np2 => ?_⟩
          have et2 : textS sg L = Str.ofString (toString sg) ++ "/" ++ Str.ofString (toString L) := by rw [textS_cat, if_neg (by omega)]
          have sp2 := same_up (o := .tup [.str "text", .str (Str.ofString (toString sg) ++ "/" ++ Str.ofString (toString L))]) np2
          obtain ⟨pl2, pd2⟩ := told_plain "text" (Str.ofString (toString sg) ++ "/" ++ Str.ofString (toString L))
          rw [et2] at hq3
          refine ⟨_, _, do_told (sp2 _ _ hq3), do_told upd_same, pl2, pl2, pd2, _, rfl, ?_⟩
          rw [SeqAt.eqv_refl_plain _ pl2]
          refine ifF rfl ?_
          have s6 := (stp.trans s5).trans sp2
          have pen6 := pen4.same s6
          have F6 := F4.same s6
          generalize upd G5 p2 (.tup [.str "text", .str (Str.ofString (toString sg) ++ "/" ++ Str.ofString (toString L))]) = G6 at *
          -- far ones
          refine ⟨_, rfl, _, rfl, _, _, rfl, rfl, _, rfl, by show 2 ≤ sizeLine; decide, fun t1 m1 => ?_⟩
          have u1 := same_up (o := .tup [.int 1, .int FL10]) m1
          refine ⟨_, rfl, by show 2 ≤ sizeLine; decide, fun t2 m2 => ?_⟩
          have u2 := same_up (o := .tup [.int FL10, .int 7]) m2
          refine ⟨6000, rfl, by decide, _, rfl, 6000, rfl, by decide, _, _, rfl, rfl, by show 2 ≤ sizeLine; decide, fun t3 m3 => ?_⟩
          have u3 := same_up (o := .tup [.int (-1), .int (10 ^ 6000 + 1)]) m3
          refine ⟨by show 6 ≤ sizeLine; decide, fun l6 m6 => ?_⟩
          have u6 := same_up (o := .lst [.int FL10, .int (0 - FL10), .ref t1, .ref t2, .int (10 ^ 6000), .ref t3]) m6
          have uA := ((u1.trans u2).trans u3).trans u6
          have g1 := ((u2.trans u3).trans u6) _ _ (upd_same (a := t1) (o := .tup [.int 1, .int FL10]))
          have g2 := (u3.trans u6) _ _ (upd_same (a := t2) (o := .tup [.int FL10, .int 7]))
          have g3 := u6 _ _ (upd_same (a := t3) (o := .tup [.int (-1), .int (10 ^ 6000 + 1)]))
          refine ⟨_, rfl, _, rfl, d, l6, _, _, rfl, pen6.same uA, by omega, upd_same, by show 0 < 6; decide, by show 6 < 1000; decide, fun x G7 hx bt7 pen7 => ?_⟩
          obtain ⟨_, _, _, _, hdd, _⟩ := (pen6.same uA).ex
          have kp1 := bt7.1 _ _ g1 (ne_of g1 hdd (by intro z; cases z))
          have kp2 := bt7.1 _ _ g2 (ne_of g2 hdd (by intro z; cases z))
          have kp3 := bt7.1 _ _ g3 (ne_of g3 hdd (by intro z; cases z))
          have e6 : (10 : Int) ^ 6000 = ((10 ^ 6000 : Nat) : Int) := tn 6000
          have b6 : FL10 ≤ ((10 ^ 6000 : Nat) : Int) := by decide +kernel
          have aF : absI FL10 = FL10 := by decide +kernel
          have aF2 : absI (0 - FL10) = FL10 := by decide +kernel
          have far : ∃ (dd : PyData) (t b : Int), Do K G7 x dd ∧ TopP G7 x dd ∧ holdsB .fr dd = true ∧ two dd = some (t, b) ∧ (FL10 ≤ absI t ∨ FL10 ≤ b) := by
            simp only [List.mem_cons, List.not_mem_nil, or_false] at hx
            rcases hx with rfl | rfl | rfl | rfl | rfl | rfl
            · exact ⟨_, _, _, .int _, (fun t b e => by cases e), rfl, rfl, .inl (by rw [aF]; exact Int.le_refl _)⟩
            · exact ⟨_, _, _, .int _, (fun t b e => by cases e), rfl, rfl, .inl (by rw [aF2]; exact Int.le_refl _)⟩
            · exact ⟨.tuple [.int 1, .int FL10], 1, FL10, .tup (SqT.of kp1) (.cons (.int _) (.cons (.int _) .nil)), (fun t b e => by cases e; exact ⟨t1, rfl, kp1⟩), by decide +kernel, rfl, .inr (Int.le_refl _)⟩
            · exact ⟨.tuple [.int FL10, .int 7], FL10, 7, .tup (SqT.of kp2) (.cons (.int _) (.cons (.int _) .nil)), (fun t b e => by cases e; exact ⟨t2, rfl, kp2⟩), by decide +kernel, rfl, .inl (by rw [aF]; exact Int.le_refl _)⟩
            · refine ⟨_, _, _, .int _, (fun t b e => by cases e), rfl, rfl, .inl ?_⟩
              rw [e6, abs_nat]
              exact b6
            · refine ⟨.tuple [.int (-1), .int (10 ^ 6000 + 1)], -1, 10 ^ 6000 + 1, .tup (SqT.of kp3) (.cons (.int _) (.cons (.int _) .nil)), (fun t b e => by cases e; exact ⟨t3, rfl, kp3⟩), ?_, rfl, .inr ?_⟩
              · show (false || (decide ((2 : Int) ≤ 10 ^ 6000 + 1) && decide (Nat.gcd (-1 : Int).natAbs (10 ^ 6000 + 1 : Int).natAbs = 1))) = true
                have z1 : (2 : Int) ≤ 10 ^ 6000 + 1 := by rw [e6]; omega
                have z2 : Nat.gcd (-1 : Int).natAbs (10 ^ 6000 + 1 : Int).natAbs = 1 := Nat.gcd_one_left _
                rw [decide_eq_true z1, decide_eq_true z2]
                rfl
              · rw [e6]
                omega
          obtain ⟨dd, t, b, h1, h2, h3, h4, h5⟩ := far
          have F7 := (F6.same uA).but (pen6.same uA) bt7
          refine ⟨_, rfl, _, rfl, f, x, dd, .fr, rfl, F7, True.intro, h1, h2, (fun z => by rw [h3] at z; cases z), (fun z => by rw [h3] at z; cases z), (fun t' b' _ h4' hl q4 G8 s8 hq4 => ⟨by show 2 ≤ sizeLine; decide, fun p4 np4 => ?_⟩), fun t' b' _ h4' l1 l2 => ?_⟩
          · have sp4 := same_up (o := .tup [.str "long", .bl true]) np4
            have D1 : Do K (upd G8 p4 (.tup [.str "long", .bl true])) (.ref q4) (.tuple [.str "long", .bool true]) := .tup (SqT.of (sp4 _ _ hq4)) (.cons (.str _) (.cons (.bl _) .nil))
            have D2 : Do K (upd G8 p4 (.tup [.str "long", .bl true])) (.ref p4) (.tuple [.str "long", .bool true]) := .tup (SqT.of upd_same) (.cons (.str _) (.cons (.bl _) .nil))
            have pl4 : PyData.plain (.tuple [.str "long", .bool true]) = true := by simp [PyData.plain, PyData.plainAll]
            refine ⟨_, _, D1, D2, pl4, pl4, by simp [PyData.depth, PyData.depthAll], ?_⟩
            rw [SeqAt.eqv_refl_plain _ pl4]
            exact q _
          · rw [h4] at h4'
            cases h4'
            omega
end
end K07

namespace K07
open PySem PySem.Spec PyProof.Rows L2 Ver Num
theorem all_cons_ok {b : Bool} {l : List Bool} (h : (b :: l).all id = true) : b = true ∧ l.all id = true := He.ba h
theorem fc_of {K : PySem.W.Frag} {x : Str} (e : (xc K x).all id = true) : FC K (He.ga K x) ∧ MC K (He.ga K x) := by
  obtain ⟨a1, e⟩ := all_cons_ok e
  obtain ⟨a2, e⟩ := all_cons_ok e
  obtain ⟨a3, e⟩ := all_cons_ok e
  obtain ⟨a4, e⟩ := all_cons_ok e
  obtain ⟨a5, e⟩ := all_cons_ok e
  obtain ⟨a6, e⟩ := all_cons_ok e
  obtain ⟨a7, e⟩ := all_cons_ok e
  exact ⟨⟨He.cls_ok a1, He.noat_ok a2, fun m hm => by
    obtain ⟨h1, h2⟩ := He.ba (List.all_eq_true.mp a3 m hm)
    obtain ⟨h2, h3⟩ := He.ba h2
    exact ⟨He.eqO_ok h1, h2, h3⟩⟩, ⟨He.mkr_ok a4, of_decide_eq_true a5, He.eqO_ok a6, of_decide_eq_true a7⟩⟩
theorem ec_of {K : PySem.W.Frag} {x f : Str} (e : (xe K x f).all id = true) (hn : PySem.W.specialIn K (.builtin "object.__class__") "__get__" = some (some (.builtin "getset_descriptor.__get__"))) (ht : PySem.W.takesIn K (.builtin "object.__class__") = some true) : EC K (He.ga K x) f := by
  obtain ⟨a1, e⟩ := all_cons_ok e
  obtain ⟨a2, e⟩ := all_cons_ok e
  obtain ⟨a3, e⟩ := all_cons_ok e
  obtain ⟨a4, e⟩ := all_cons_ok e
  obtain ⟨a5, e⟩ := all_cons_ok e
  obtain ⟨a6, e⟩ := all_cons_ok e
  obtain ⟨a7, e⟩ := all_cons_ok e
  obtain ⟨a8, e⟩ := all_cons_ok e
  obtain ⟨a9, e⟩ := all_cons_ok e
  obtain ⟨a10, e⟩ := all_cons_ok e
  obtain ⟨a11, e⟩ := all_cons_ok e
  obtain ⟨a12, e⟩ := all_cons_ok e
  obtain ⟨a13, e⟩ := all_cons_ok e
  obtain ⟨a14, e⟩ := all_cons_ok e
  obtain ⟨a15, e⟩ := all_cons_ok e
  exact ⟨⟨oexB_ok a1, He.eqO_ok a2, of_decide_eq_true a3, of_decide_eq_true a4, a5⟩, He.eqO_ok a6, He.eqO_ok a7, of_decide_eq_true a8, ⟨He.eqO_ok a9, He.eqO_ok a10, of_decide_eq_true a3, a11⟩,
    ⟨He.eqO_ok a9, He.eqO_ok a10, of_decide_eq_true a3, a11, He.eqO_ok a12, hn, ht, of_decide_eq_true a13⟩, of_decide_eq_true a14, of_decide_eq_true a15⟩
theorem tx_of {K : PySem.W.Frag} {h : Heap} {mg : Str → Option Value} (X : K.In h) (G : h.Ns mainGlobals mg) (c : He.SaysD fa fn K) (e : ex K = true) : Tx K mg := by
  obtain ⟨e1, e⟩ := He.ba e
  obtain ⟨e2, e⟩ := He.ba e
  obtain ⟨e3, e⟩ := He.ba e
  obtain ⟨e4, e⟩ := He.ba e
  obtain ⟨e5, e⟩ := He.ba e
  obtain ⟨e7, e6⟩ := He.ba e
  obtain ⟨a1, e1⟩ := all_cons_ok e1
  obtain ⟨a2, e1⟩ := all_cons_ok e1
  obtain ⟨a3, e1⟩ := all_cons_ok e1
  obtain ⟨a4, e1⟩ := all_cons_ok e1
  obtain ⟨a5, e1⟩ := all_cons_ok e1
  obtain ⟨a6, e1⟩ := all_cons_ok e1
  obtain ⟨a7, e1⟩ := all_cons_ok e1
  obtain ⟨f1, f2⟩ := fc_of e2
  obtain ⟨m1, m2⟩ := fc_of e3
  obtain ⟨c1, e4⟩ := all_cons_ok e4
  obtain ⟨c2, e4⟩ := all_cons_ok e4
  obtain ⟨c3, e4⟩ := all_cons_ok e4
  obtain ⟨c4, e4⟩ := all_cons_ok e4
  obtain ⟨c5, e4⟩ := all_cons_ok e4
  obtain ⟨c6, e4⟩ := all_cons_ok e4
  obtain ⟨c7, e4⟩ := all_cons_ok e4
  obtain ⟨b1, e6⟩ := all_cons_ok e6
  obtain ⟨b2, e6⟩ := all_cons_ok e6
  obtain ⟨b3, e6⟩ := all_cons_ok e6
  obtain ⟨b4, e6⟩ := all_cons_ok e6
  obtain ⟨b5, e6⟩ := all_cons_ok e6
  obtain ⟨b6, e6⟩ := all_cons_ok e6
  obtain ⟨b7, e6⟩ := all_cons_ok e6
  obtain ⟨b8, e6⟩ := all_cons_ok e6
  obtain ⟨b9, e6⟩ := all_cons_ok e6
  obtain ⟨b10, e6⟩ := all_cons_ok e6
  obtain ⟨b11, e6⟩ := all_cons_ok e6
  obtain ⟨b12, e6⟩ := all_cons_ok e6
  obtain ⟨b13, e6⟩ := all_cons_ok e6
  obtain ⟨b14, e6⟩ := all_cons_ok e6
  obtain ⟨td, cd⟩ := cdB_ok c7
  exact
    { d := c
      g := fun x hx => He.glo_ok X G (He.SaysD.facts c (List.mem_append_left _ (List.mem_map_of_mem hx)))
      z := fun x hx => He.free_ok X G (He.SaysD.facts c (List.mem_append_right _ (List.mem_map_of_mem hx)))
      fl := He.int_ok X G a1
      gp := He.int_ok X G a2
      dd := He.str_ok X G a3
      gcd := PySem.W.mg_of X G (He.eqO_ok a4)
      isq := PySem.W.mg_of X G (He.eqO_ok a5)
      fcF := f1
      fcM := m1
      mF := f2
      mM := m2
      rdF := c1
      gaF := He.eqO_ok c2
      fiF := fcls_ok c3
      clS := He.eqO_ok c4
      clT := of_decide_eq_true c5
      sm := smTB_ok a6
      eN := ec_of e5 (He.eqO_ok c4) (of_decide_eq_true c5)
      vV := vvB_ok c6
      eX := ec_of e7 (He.eqO_ok c4) (of_decide_eq_true c5)
      cdF := ⟨td, ⟨c1, He.eqO_ok c2⟩, ⟨cd, ⟨td, rfl⟩⟩⟩
      tl := ⟨b1, He.eqO_ok (He.ba b2).1, of_decide_eq_true b3, of_decide_eq_true b4, of_decide_eq_true b5, b6⟩
      tlc := ⟨He.eqO_ok b7, He.eqO_ok b8, of_decide_eq_true b4, b9, He.eqO_ok b10, He.eqO_ok c4, of_decide_eq_true c5, of_decide_eq_true b11⟩
      teL := of_decide_eq_true b12
      teX := of_decide_eq_true b13
      isO := of_decide_eq_true b14
      dgN := He.eqO_ok a7 }
end K07
open PySem PySem.W PySem.Calls PyProof.Rows
theorem PySem.Challenge.cw_firstanswers_k07_whole_texts_of_numbers_holds : PySem.Challenge.rw_firstanswers_k07_whole_texts_of_numbers.Holds := by
  w_on; o_law
  refine HandSHeadRun.head_imp (r := K07.R) (q := K07.qv) (H := K07.hook) (ob := K07.ob) (M := 8000) (loose := K07.lo) (d := HandSHeadRun.topDef K07.R.prog 48) (kwd := []) K07.ob_eq K07.run
    (by kernel_rfl) (by kernel_rfl) (by kernel_rfl) (by rfl) (by first | assumption | decide +kernel) (by decide +kernel) ⟨rfl, rfl, rfl, rfl, rfl, by decide +kernel⟩ ?hw ?hc
  case hw => w_witness2
  case hc =>
    refine Ver.walkG (l := PySem.Challenge.rw_firstanswers_k07_whole_texts_of_numbers) (n := 63) (k := 8) rfl (by decide) (by kernel_rfl) ⟨rfl, by decide, by decide⟩ ?F
    intro w mg fa h Y G hmg0
    obtain ⟨K, KX, c, e⟩ := Y
    have hmg : mg ("law" : PySem.Str) = some (.ref fa) := by
      have q : (HandSHeadRun.topDef K07.R.prog 48).name = ("law" : PySem.Str) := by kernel_rfl
      rw [← q]
      exact hmg0
    have T := K07.tx_of KX G c e
    have ef := hmg.symm.trans (T.g "law" (by decide +kernel))
    cases ef
    exact ⟨K, K07.spLaw K, KX, fun H a ns hl _ hS => ⟨a, ns, rfl, hS, hl, fun _ => rfl⟩, fun base h1 h2 => K07.ok_law T⟩
