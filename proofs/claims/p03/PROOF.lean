import PyProof.Rows.All
import Wide.All
import OpenK.AllK
import Wide.FinOn
import PySem.Challenge.RW_firstanswers_k03_sums_of_fractions
import HandS.Base
import HandS.Call
import HandS.List
import HandS.Ends
import HandS.Dict
import HandS.More
import HandS.Defaults
import HandS.Words
import HandS.Star
import PyProof.ReprRoads
import HandS.HeadHook1
import HandS.HeadHook2
import HandS.Wide
import HandS.Gcd
import HandS.Exc
import HandS.ExcInit
import HandS.WordsExc
import KE.KExcInit
import HandS.ExcIs
import HandS.IsInst
import HandS.Iter
import HandS.WordsList
import PyProof.SumWalkG
import PyProof.WalksMore
import HandS.Comp
import HandS.Text
import HandS.TryOnly
import HandS.ExcOwn
import HandS.Head0
import HandS.Head1
import HandS.Head2
import HandS.Head3
import HandS.HeadHook4
set_option Elab.async false
set_option linter.all false
set_option maxRecDepth 100000
set_option maxHeartbeats 0
/-! Defs that show data (repr): their promise wants that no show is under way around them. -/
namespace Ver
open PySem PySem.Spec PyProof.Rows L2
/-- a promise for callers around whom nothing is being shown -/
def FnG (P : Program) (w : World) (K : PySem.W.Frag) (mg : Str → Option Value) (base : Heap) (CX : CXT) (k : Nat) (f : Addr) (sp : Sp) : Prop :=
  ∀ (A : Around) (outer : List Env) (s : Shared) (H : Hp) (us : List Value) (vs : List V) (Q : VK) (E : XK), A.guards = some [] → Room k A →
    Env0 P w K mg base A outer s H → Vals vs us → sp vs H Q E → codeAny (model P w) A (.call (.ref f) ⟨us, []⟩) (CR CX outer P w H s Q E) s
section
variable {P : Program} {w : World} {K : PySem.W.Frag} {mg : Str → Option Value} {base : Heap} {CX : CXT} {k : Nat} {f : Addr} {fd : FuncData} {sp : Sp}
variable {x qual : Str} {params : Arguments} {body : List Stmt} {scope : Scope} {N ps : List Str} {kws : List (Str × V)}
theorem FnG.ofR (F : FnR P w K mg base CX k f sp) : FnG P w K mg base CX k f sp := fun A outer s H us vs Q E _ hr e0 r h => F A outer s H us vs Q E hr e0 r h
theorem FnG.mono {j : Nat} (F : FnG P w K mg base CX j f sp) (h : j ≤ k) : FnG P w K mg base CX k f sp := fun A outer s H us vs Q E g hr e0 r q => F A outer s H us vs Q E g (hr.mono h) e0 r q
/-- the rule for such a def, its body as a term -/
theorem okG (F : FunD K x qual params body scope [] kws f fd) (S : FnScope N ps scope)
    (hb : ∀ (s : Shared) (us : List Value), us.length = ps.length → BindsTo s fd ⟨us, []⟩ (ps.zip us)) (len : ∀ vs H Q E, sp vs H Q E → vs.length = ps.length)
    (hbody : ∀ (cdv : Value) (A : Around) (outer : List Env) (s : Shared) (H : Hp) (vs : List V) (Q : VK) (E : XK), A.guards = some [] → Room k (A.deeper (envOfC qual scope s.heap.objs.size f cdv)) → sp vs H Q E →
      ∃ t, PSs (cxOf CX P w K mg base N qual scope f cdv A outer s H E) body t ∧ t { nx := fun _ H' => Q .non H', rt := Q } (start N vs) H) : FnG P w K mg base CX (k + 1) f sp := by
  obtain ⟨⟨oc, od, dV, kV, doc, pm, an, cdv, ct, osl, rfl, lk, hcd, _⟩, _⟩ := F
  intro A outer s H us vs Q E hg hr e0 r hsp
  have hl := len _ _ _ _ hsp
  refine StX.run_bnd (G := fun xs H2 => xs = vs ∧ H2 = H) lk hcd S hr e0 (fun A' Ex Q' q => ?_) fun s2 H2 xs g hr' => ?_
  · exact hb s us (by rw [← r.length]; exact hl) _ A' Ex Q' (q s H vs us e0 Un.refl rfl (fun _ _ z => z) r hl ⟨rfl, rfl⟩)
  · obtain ⟨rfl, rfl⟩ := g
    exact hbody cdv A outer s2 H2 xs Q E hg hr' hsp
end
section
variable {X : Cx} {CX : CXT} {k : Nat} {f : Addr} {sp : Sp} {E : XK} {x : Str} {p pos : Pos} {e : Expr} {es : List Expr} {t : TA}
/-- f(e, ..) -/
theorem pe_callG (F : FnG X.prog X.w X.K X.mg X.base CX k f sp) (hr : Room k X.A) (hgd : X.A.guards = some []) (hg : Gl X x) (hm : X.mg x = some (.ref f)) (hk : PySem.W.keepIn X.K (.ref f) = true) (hx : Passes CX X E)
    (ha : PA X (e :: es) t) (hdb : (x == ("__debug__" : Str)) = false := by decide) (he : starEach (e :: es) X.env = (false, eval e X.env) :: starEach es X.env := by rfl)
    (hpl : (backTo pos (starEach es X.env)).any (·.1) = false := by rfl) : PE X (.Call (.Name x p) (e :: es) [] pos) (fun σ H Q => t σ H fun vs H1 => sp vs H1 Q E) := by
  refine ⟨fun pins s σ H Q I h => wpAny_Call_Name_kw (ld_glob I hg hm (PySem.W.callWith_K (h₀ := X.base) I.ok.mod.kin hk (thn (ha.run pos pins s σ H _ I h) fun us s1 z => ?_) he hpl) hdb)⟩
  obtain ⟨vs, H1, I1, r, q⟩ := z
  refine ⟨I1.kIn, wpAny_call (codeAny_mono (F X.A X.stack s1 H1 us vs Q E hgd hr I1.env0 r q) fun rs s' hq => ?_)⟩
  match rs, hq with
  | .error e', hq => exact hx pins σ H1 s1 e' s' I1 hq
  | .ok (.ret u), hq => exact I1.after hq
  | .ok .next, hq => exact hq.elim
  | .ok .brk, hq => exact hq.elim
  | .ok .cont, hq => exact hq.elim
end
/-- the same rule for a def that lets no exception out -/
theorem ok0 {P : Program} {w : World} {K : PySem.W.Frag} {mg : Str → Option Value} {base : Heap} {k : Nat} {f : Addr} {fd : FuncData} {sp : Sp} {x qual : Str} {params : Arguments} {body : List Stmt} {scope : Scope} {N ps : List Str} {kws : List (Str × V)}
    (F : FunD K x qual params body scope [] kws f fd) (S : FnScope N ps scope)
    (hb : ∀ (s : Shared) (us : List Value), us.length = ps.length → BindsTo s fd ⟨us, []⟩ (ps.zip us)) (len : ∀ vs H Q E, sp vs H Q E → vs.length = ps.length)
    (hbody : ∀ (cdv : Value) (A : Around) (outer : List Env) (s : Shared) (H : Hp) (vs : List V) (Q : VK) (E : XK), A.guards = some [] → Room k (A.deeper (envOfC qual scope s.heap.objs.size f cdv)) → sp vs H Q E →
      ∃ t, PSs (cxOf CX0 P w K mg base N qual scope f cdv A outer s H E).nox body t ∧ t { nx := fun _ H' => Q .non H', rt := Q } (start N vs) H) : FnG P w K mg base CX0 (k + 1) f sp :=
  okG F S hb len fun cdv A outer s H vs Q E hg hr h => by
    obtain ⟨t, ht, q⟩ := hbody cdv A outer s H vs Q E hg hr h
    exact ⟨t, ht.nox, q⟩
section
variable {X : Cx} {CX : CXT} {k : Nat} {f C : Addr} {sp : Sp} {E : XK} {x m : Str} {p pos apos : Pos} {e o : Expr} {es : List Expr} {t : TA} {ta : TE} {pins : List (Addr × Obj)} {σ : L2.St} {H : Hp} {s : Shared} {Q : VK} {us : List Value} {vs : List V}
/-- the callee's run, seen by the caller -/
theorem runG (F : FnG X.prog X.w X.K X.mg X.base CX k f sp) (hr : Room k X.A) (hgd : X.A.guards = some []) (hx : Passes CX X E) (I : Inv X pins σ H s) (r : Vals vs us) (h : sp vs H Q E) :
    wpAny (model X.prog X.w) X.A (call (.ref f) us) (EP X pins σ Q) X.xe s :=
  wpAny_call (codeAny_mono (F X.A X.stack s H us vs Q E hgd hr I.env0 r h) fun rs s' hq => by
    match rs, hq with
    | .error e', hq => exact hx pins σ H s e' s' I hq
    | .ok (.ret u), hq => exact I.after hq
    | .ok .next, hq => exact hq.elim
    | .ok .brk, hq => exact hq.elim
    | .ok .cont, hq => exact hq.elim)
/-- f() -/
theorem pe_callG0 (F : FnG X.prog X.w X.K X.mg X.base CX k f sp) (hr : Room k X.A) (hgd : X.A.guards = some []) (hg : Gl X x) (hm : X.mg x = some (.ref f)) (hk : PySem.W.keepIn X.K (.ref f) = true) (hx : Passes CX X E)
    (hdb : (x == ("__debug__" : Str)) = false := by decide) : PE X (.Call (.Name x p) [] [] pos) (fun _ H Q => sp [] H Q E) :=
  ⟨fun pins s σ H Q I h => wpAny_Call_Name_kw (ld_glob I hg hm (PySem.W.callWith_K0 I.kIn hk (runG (us := []) F hr hgd hx I .nil h)) hdb)⟩
/-- o.m(e, ..) of an instance of the class at C or of any class that has the method at f -/
def tMethG (K : PySem.W.Frag) (m : Str) (f : Addr) (sp : Sp) (E : XK) (ta : TE) (t : TA) : TE := fun σ H Q => ta σ H fun x H1 => ∃ a C dx fs, x = .ref a ∧ H1 a = some (.ins C dx fs) ∧ Cls K C ∧ Meth K C m f ∧ fs.lookup m = none ∧
  t σ H1 fun vs H2 => sp (.ref a :: vs) H2 Q E
theorem pe_methG {pl : Sem Bool} (he : PE X o ta) (hk : PySem.W.keepIn X.K (.ref f) = true) (F : FnG X.prog X.w X.K X.mg X.base CX k f sp) (hr : Room k X.A) (hgd : X.A.guards = some []) (hx : Passes CX X E) (ha : PA X (e :: es) t)
    (hst : starEach (e :: es) X.env = (false, eval e X.env) :: starEach es X.env := by rfl) (hpl : (backTo pos (starEach es X.env)).any (·.1) = false := by rfl)
    (ht : eval (.Call (.Attribute o m apos) (e :: es) [] pos) X.env = (do
      let ov ← eval o X.env
      standAt apos.atName
      let (g, first) ← holding [ov] (getMethod ov m pl)
      callWith pos g first (backTo pos (starEach (e :: es) X.env)) (backToKw pos (keywordEach [] X.env))) := by rfl) :
    PE X (.Call (.Attribute o m apos) (e :: es) [] pos) (tMethG X.K m f sp E ta t) := by
  refine ⟨fun pins s σ H Q I h => PySem.W.methodCall_KW (pl := pl) (thn (he.run pins s σ H _ I h) fun u s1 z => ?_) ht⟩
  obtain ⟨x, H1, I1, rx, a, C, dx, fs, rfl, ea, c, hm, l, q⟩ := z
  cases (show u = Value.ref a from rx)
  refine getmeth_ok I1 ea c hm l (PySem.W.callWith_K (first := [.ref a]) (h₀ := X.base) I.ok.mod.kin hk (thn (ha.run pos pins s1 σ H1 _ I1 q) fun us s2 y => ?_) hst hpl)
  obtain ⟨vs, H2, I2, r, q2⟩ := y
  exact ⟨I2.kIn, runG (us := .ref a :: us) (vs := .ref a :: vs) F hr hgd hx I2 (.cons rfl r) q2⟩
/-- o.m() -/
theorem pe_methG0 {pl : Sem Bool} (he : PE X o ta) (hk : PySem.W.keepIn X.K (.ref f) = true) (F : FnG X.prog X.w X.K X.mg X.base CX k f sp) (hr : Room k X.A) (hgd : X.A.guards = some []) (hx : Passes CX X E)
    (ht : eval (.Call (.Attribute o m apos) [] [] pos) X.env = (do
      let ov ← eval o X.env
      standAt apos.atName
      let (g, first) ← holding [ov] (getMethod ov m pl)
      callWith pos g first (backTo pos (starEach [] X.env)) (backToKw pos (keywordEach [] X.env))) := by rfl) :
    PE X (.Call (.Attribute o m apos) [] [] pos) (tMethG X.K m f sp E ta tNil) := by
  refine ⟨fun pins s σ H Q I h => PySem.W.methodCall_KW (pl := pl) (thn (he.run pins s σ H _ I h) fun u s1 z => ?_) ht⟩
  obtain ⟨x, H1, I1, rx, a, C, dx, fs, rfl, ea, c, hm, l, q⟩ := z
  cases (show u = Value.ref a from rx)
  exact getmeth_ok I1 ea c hm l (PySem.W.callWith_K0 (first := [.ref a]) I1.kIn hk (runG (us := [.ref a]) (vs := [.ref a]) F hr hgd hx I1 (.cons rfl .nil) q))
theorem made_guards {A : Around} (h : A.guards = some []) (C : Addr) (us : List Value) : (A.under (.builtin "type.__call__" ⟨.ref C :: us, []⟩)).guards = some [] := by
  show pushGuards (Code.builtin "type.__call__" ⟨.ref C :: us, []⟩).guards A.guards = some []
  rw [h]
  first
    | rfl
    | decide +kernel
/-- C(e, ..) -/
theorem pe_makeG (M : Mk X.K C f) (F : FnG X.prog X.w X.K X.mg X.base CX k f sp) (hr : Room (k + 1) X.A) (hgd : X.A.guards = some []) (hg : Gl X x) (hm : X.mg x = some (.ref C)) (hx : Passes CX X E) (ha : PA X (e :: es) t)
    (hdb : (x == ("__debug__" : Str)) = false := by decide) (he : starEach (e :: es) X.env = (false, eval e X.env) :: starEach es X.env := by rfl)
    (hpl : (backTo pos (starEach es X.env)).any (·.1) = false := by rfl) : PE X (.Call (.Name x p) (e :: es) [] pos) (StX.tMakeR C sp E t) := by
  refine ⟨fun pins s σ H Q I h => wpAny_Call_Name_kw (ld_glob I hg hm (PySem.W.callWith_K (h₀ := X.base) I.ok.mod.kin M.kp (thn (ha.run pos pins s σ H _ I h) fun us s1 z => ?_) he hpl) hdb)⟩
  obtain ⟨vs, H1, I1, r, q⟩ := z
  refine ⟨I1.kIn, wpAny_call (make_map (f := f) I1.kIn M.makes M.init (beq_iff_eq.mp M.fn) ?_)⟩
  have q2 := q (s1.heap.objs.size + 1) s1.heap.objs.size (I1.hok.fresh (Nat.le_succ _)) (I1.hok.fresh (Nat.le_refl _)) (Nat.ne_of_lt (Nat.lt_succ_self _))
  have I2 := Inv.made (C := C) I1
  refine codeAny_mono (F _ X.stack _ _ (Value.ref (s1.heap.objs.size + 1) :: us) (V.ref (s1.heap.objs.size + 1) :: vs) _ E (made_guards hgd C us) (hr.make C us []) (I2.env0.make C us []) (.cons rfl r) q2) fun rs s' hq => ?_
  match rs, hq with
  | .error e', hq => exact hx pins σ _ _ e' s' I2 hq
  | .ok (.ret u), hq =>
    obtain ⟨v, H', I3, rv, ev, q3⟩ := I2.after hq
    subst ev
    exact ⟨rv, V.ref (s1.heap.objs.size + 1), H', I3, rfl, q3⟩
  | .ok .next, hq => exact hq.elim
  | .ok .brk, hq => exact hq.elim
  | .ok .cont, hq => exact hq.elim
end
/-! ### repr of data -/
section
variable {X : Cx}
/-- repr(x), x data: none, a bool, an int, a text, lists and tuples of such -/
def rRepr (K : PySem.W.Frag) : List V → Hp → VK → Prop := fun xs H Q => ∃ (x : V) (d : PyData), xs = [x] ∧ Dp K H x d ∧ d.showable = true ∧ d.shown.length ≤ sizeLine ∧ d.depth ≤ 60 ∧ Q (.str d.shown) H
mutual
theorem noD {K : PySem.W.Frag} {H : Hp} : ∀ (d : PyData) (v : V), Dp K H v d → d.hasDict = false
  | .none, _, _ => by simp only [PyData.hasDict]
  | .bool _, _, _ => by simp only [PyData.hasDict]
  | .int _, _, _ => by simp only [PyData.hasDict]
  | .str _, _, _ => by simp only [PyData.hasDict]
  | .list ds, _, h => by
    cases h with
    | lst _ ha =>
      simp only [PyData.hasDict]
      exact noDs ds _ ha
  | .tuple ds, _, h => by
    cases h with
    | tup _ ha =>
      simp only [PyData.hasDict]
      exact noDs ds _ ha
  | .dict _, _, h => by cases h
theorem noDs {K : PySem.W.Frag} {H : Hp} : ∀ (ds : List PyData) (vs : List V), DpAll K H vs ds → PyData.hasDictAll ds = false
  | [], _, _ => by simp only [PyData.hasDictAll]
  | d :: ds, _, h => by
    cases h with
    | cons h1 h2 =>
      simp only [PyData.hasDictAll, noD d _ h1, noDs ds _ h2, Bool.or_false]
end
theorem call_repr (hg : X.A.guards = some []) (hu : X.A.units + 64 < cLine) : CallR X (.builtin "repr") (rRepr X.K) := by
  intro pins s σ H xs us Q I r h
  obtain ⟨x, d, rfl, hd, hs, hz, hdp, q⟩ := h
  obtain ⟨u, rfl, rx⟩ := vals1 r
  obtain ⟨as, rd⟩ := Dp.reads I d x u hd rx
  have nd := noD d x hd
  cases rd with
  | none => exact PySem.P.repr_of_none ⟨.str _, H, I.tok _, ⟨_, rfl⟩, by simpa only [PyData.shown] using q⟩
  | bool b => exact PySem.P.repr_of_bool ⟨.str _, H, I.tok _, ⟨_, rfl⟩, by simpa only [PyData.shown] using q⟩
  | int i t => exact PySem.P.repr_of_int (by simpa [PyData.showable] using hs) ⟨.str _, H, I.tok _, ⟨_, rfl⟩, by simpa only [PyData.shown] using q⟩
  | str y t => exact PySem.P.repr_of_str ⟨.str _, H, I.tok _, ⟨_, rfl⟩, by simpa only [PyData.shown] using q⟩ (by simpa only [PyData.shown] using hz)
  | list h1 h2 h3 h4 =>
    exact repr_of_reads' (.list h1 h2 h3 h4) hs (fun z => by rw [nd] at z; cases z) hg (by omega) (fun _ _ z => z) (fun h' u tk hk => ⟨.str _, H, I.kept (t' := tk) hk, ⟨u, rfl⟩, q⟩) hz
  | tuple h1 h2 h3 h4 =>
    exact repr_of_reads' (.tuple h1 h2 h3 h4) hs (fun z => by rw [nd] at z; cases z) hg (by omega) (fun _ _ z => z) (fun h' u tk hk => ⟨.str _, H, I.kept (t' := tk) hk, ⟨u, rfl⟩, q⟩) hz
  | dict h1 h2 h3 h4 h5 => cases hd
end
/-! ### the law's end -/
section
variable {P : Program} {w : World} {K : PySem.W.Frag} {mg mb : Str → Option Value} {k : Nat} {fa a : Addr} {sp : Sp} {s₁ : Shared} {vs : List Value} {ns : List Int}
/-- the law's call over one abstract heap -/
theorem lawOn {H : Hp} (KX : K.In s₁.heap) (hns : s₁.heap.Ns mainGlobals mg) (hb : s₁.heap.Ns builtinsNs mb) (hbb : ∀ x : Str, x ≠ "__name__" → mb x = bootBuiltins x) (hlim : s₁.heap.NoLimit) (hg : s₁.gens = #[])
    (ha : s₁.heap.get? a = some { cls := .type "list", data := .seq vs.toArray }) (hr : Room k callerA)
    (F : ∀ base : Heap, K.In base → base.Ns mainGlobals mg → FnG P w K mg base CX0 k fa sp)
    (hO : Only H) (hsp : sp [.ref a] H (fun v _ => v = .bl true) fun _ _ _ => False) (hok : HOk P w H s₁.heap) (hA : ∀ b, H b ≠ none → b = a) (hK : H a ≠ none → K.lookup a = none) :
    codeAny (model P w) callerA (.call (.ref fa) ⟨[.ref a], []⟩) (fun r s' => r = .ok (.ret (.bool true)) ∧ OldK s₁.heap s'.heap ∧ s'.os = s₁.os ∧ AllBare s'.gens) s₁ := by
  have free : ∀ b o, s₁.heap.get? b = some o → (∀ w n, o.data ≠ Data.seq w n) → H b = none := fun b o e hd => Classical.byContradiction fun z => by
    have eb := hA b z
    rw [eb, ha] at e
    exact hd _ _ (congrArg Obj.data (Option.some.inj e)).symm
  have names : ∀ b m, s₁.heap.Ns b m → (hidT s₁.heap H).Ns b m := fun b m hn => by
    obtain ⟨o, es, ep, e, d, r⟩ := hn
    exact ⟨o, es, ep, hidT_get e (free b o e fun w n z => by rw [d] at z; cases z), d, r⟩
  have KB : K.In (hidT s₁.heap H) := fun b o e => hidT_get (KX b o e) (Classical.byContradiction fun z => by
    have eb := hA b z
    subst eb
    rw [hK z] at e
    cases e)
  have md : Mod K mg (hidT s₁.heap H) := ⟨KB, names _ _ hns, ⟨mb, names _ _ hb, hbb⟩, by obtain ⟨mc, h1, h2⟩ := hlim; exact ⟨mc, names _ _ h1, h2⟩⟩
  have nof : ∀ b, b ∉ frs ([] : List Env) := fun b z => by cases z
  have e0 : Env0 P w K mg (hidT s₁.heap H) callerA [] s₁ H := ⟨rfl, md, fun _ _ e => of_hidT e, Nat.le_of_eq (hidT_size _ _), True.intro, fun b z => absurd z (nof b), hok, .of_eq hg⟩
  refine codeAny_mono (F _ KB (names _ _ hns) callerA [] s₁ H [.ref a] [.ref a] _ _ rfl hr e0 (.cons rfl .nil) hsp) fun rs s' z => ?_
  match rs, z with
  | .error _, z => exact z.elim
  | .ok .next, z => exact z.elim
  | .ok .brk, z => exact z.elim
  | .ok .cont, z => exact z.elim
  | .ok (.ret u), z =>
    obtain ⟨v, H', os, bare, un, ok', rv, ev⟩ := z
    cases (show v = V.bl true from ev)
    cases (show u = Value.bool true from rv)
    refine ⟨rfl, OldK.of_keep fun b o e => ?_, os, bare⟩
    rcases hO b with n | ⟨ob, xs, n⟩
    · exact un.keep b o e n (nof b) (by simp)
    · have h1 := (hok b _ n).1
      have h2 := (ok' b _ (un.frzs b ob _ n)).1
      rw [e] at h1
      cases h1
      exact h2
theorem lawG (KX : K.In s₁.heap) (hns : s₁.heap.Ns mainGlobals mg) (hb : s₁.heap.Ns builtinsNs mb) (hbb : ∀ x : Str, x ≠ "__name__" → mb x = bootBuiltins x) (hlim : s₁.heap.NoLimit) (hg : s₁.gens = #[])
    (ha : s₁.heap.get? a = some { cls := .type "list", data := .seq vs.toArray }) (hi : IntsAre vs ns) (hl : ns.length ≤ sizeLine) (hr : Room k callerA)
    (F : ∀ base : Heap, K.In base → base.Ns mainGlobals mg → FnG P w K mg base CX0 k fa sp)
    (hsp : ∀ H : Hp, Only H → SqL K H a (ns.map V.int) → sp [.ref a] H (fun v _ => v = .bl true) fun _ _ _ => False) :
    codeAny (model P w) callerA (.call (.ref fa) ⟨[.ref a], []⟩) (fun r s' => r = .ok (.ret (.bool true)) ∧ OldK s₁.heap s'.heap ∧ s'.os = s₁.os ∧ AllBare s'.gens) s₁ := by
  have rv := vals_ints hi
  cases ek : K.lookup a with
  | some o =>
    have eo : o = _ := Option.some.inj ((KX a o ek).symm.trans ha)
    have O0 : Only (fun _ => none) := fun _ => .inl rfl
    have S0 : SqL K (fun _ => none) a (ns.map V.int) := .inr ⟨o, vs.toArray, _, ek, by rw [eo], by rw [eo], by rw [eo], by rw [List.size_toArray, ← rv.length, List.length_map]; exact hl, by simpa using rv⟩
    exact lawOn (H := fun _ => none) KX hns hb hbb hlim hg ha hr F O0 (hsp _ O0 S0) (fun b u z => by cases z) (fun b z => absurd rfl z) fun z => absurd rfl z
  | none =>
    let H1 : Hp := fun b => if b = a then some (.frz { cls := .type "list", data := .seq vs.toArray } (.lst (ns.map V.int))) else none
    have at_ : H1 a = some (.frz { cls := .type "list", data := .seq vs.toArray } (.lst (ns.map V.int))) := if_pos rfl
    have off : ∀ b, b ≠ a → H1 b = none := fun b z => if_neg z
    have O1 : Only H1 := fun b => by
      by_cases z : b = a
      · exact .inr ⟨_, _, by rw [z]; exact at_⟩
      · exact .inl (off b z)
    refine lawOn (H := H1) KX hns hb hbb hlim hg ha hr F O1 (hsp _ O1 (.inl (.inr ⟨_, at_⟩))) (fun b u z => ?_) (fun b z => Classical.byContradiction fun q => z (off b q)) fun _ => ek
    by_cases q : b = a
    · subst q
      rw [at_] at z
      cases z
      exact ⟨ha, by rw [List.length_map]; exact hl, vs, _, rv, ha⟩
    · rw [off b q] at z
      cases z
end
/-- the goal that the head leaves -/
theorem walkG {l : PySem.W.OpenLaw} {n k : Nat} {q : Program} {loose : List Str} {XP : (Str → Option Value) → Heap → Prop} {YP : World → Heap → Prop} {d : DefRec}
    (hn : l.most = some n) (hn2 : n ≤ sizeLine) (hdf : d.params.defaults = []) (hr : Room k callerA)
    (F : ∀ (w : World) (mg : Str → Option Value) (fa : Addr) (h : Heap), YP w h → h.Ns mainGlobals mg → mg d.name = some (.ref fa) → ∃ (K : PySem.W.Frag) (sp : Sp), K.In h ∧
      (∀ (H : Hp) (a : Addr) (ns : List Int), ns.length ≤ n → Only H → SqL K H a (ns.map V.int) → sp [.ref a] H (fun v _ => v = .bl true) fun _ _ _ => False) ∧
      ∀ base : Heap, K.In base → base.Ns mainGlobals mg → FnG l.prog w K mg base CX0 k fa sp) :
    PySem.W.WalkO q loose XP YP l.row.toRowW d [] (fun f vs => PySem.call f vs) :=
  Att.attach_call hn hdf fun w s₀ s₁ mg mb fa o pm cd doc a vs ns G Y ho hd hcd hmg hobj hints hlen hg => by
    obtain ⟨K, sp, KX, hsp, hF⟩ := F w mg fa _ Y G.T.g hmg
    exact lawG KX G.T.g G.T.b G.T.builtins G.T.nolimit hg hobj hints (Nat.le_trans hlen hn2) hr hF fun H hO hS => hsp H a ns hlen hO hS
end Ver

/-! The mathematics of the numbers modulo a prime: Euclid's way, trial division. -/
namespace Num
/-- trial division by odd divisors from 3 on, up to the root -/
def oddOk (v : Nat) (n : Nat) : Bool := (List.range n).all fun i => v % (3 + 2 * i) != 0
/-- is_prime's answer, for an int -/
def prB (r : Nat → Nat) (v : Int) : Bool :=
  decide (2 ≤ v) && decide (v ≤ 1000000000) && (if v % 2 = 0 then decide (v = 2) else oddOk v.toNat ((r v.toNat + 1 - 3 + 1) / 2))
/-- what the walk asks of a modulus -/
structure Md (p : Int) : Prop where
  lo : 2 ≤ p
  hi : p ≤ 1000000000
  pr : ∀ n : Int, 0 < n → n < p → Int.gcd n p = 1
theorem gcd_one {p b : Nat} (hb : p < b * b) (h : (List.range b).all (fun d => decide (d < 2) || p % d != 0) = true) (n : Nat) (h0 : 0 < n) (h1 : n < p) : Nat.gcd n p = 1 := by
  have small : ∀ d, 2 ≤ d → d < b → ¬ d ∣ p := fun d h2 h3 hd => by
    have q := List.all_eq_true.mp h d (List.mem_range.mpr h3)
    rw [Bool.or_eq_true] at q
    rcases q with q | q
    · have := of_decide_eq_true q
      omega
    · have e : p % d = 0 := Nat.mod_eq_zero_of_dvd hd
      rw [e] at q
      cases q
  have hg : Nat.gcd n p ∣ p := Nat.gcd_dvd_right n p
  have hn : Nat.gcd n p ∣ n := Nat.gcd_dvd_left n p
  have gpos : 0 < Nat.gcd n p := Nat.gcd_pos_of_pos_left _ h0
  have gle : Nat.gcd n p ≤ n := Nat.le_of_dvd h0 hn
  by_cases g1 : Nat.gcd n p = 1
  · exact g1
  · exfalso
    obtain ⟨m, hm⟩ := hg
    have m2 : 2 ≤ m := by
      cases m with
      | zero => omega
      | succ m =>
        cases m with
        | zero => omega
        | succ m => omega
    have hmd : m ∣ p := ⟨Nat.gcd n p, by rw [Nat.mul_comm]; exact hm⟩
    by_cases c : Nat.gcd n p < b
    · exact small _ (by omega) c (Nat.gcd_dvd_right n p)
    · by_cases c2 : m < b
      · exact small m m2 c2 hmd
      · have : b * b ≤ Nat.gcd n p * m := Nat.mul_le_mul (by omega) (by omega)
        omega
theorem md_of (p b : Nat) (h2 : 2 ≤ p) (h9 : p ≤ 1000000000) (hb : p < b * b) (h : (List.range b).all (fun d => decide (d < 2) || p % d != 0) = true) : Md (p : Int) :=
  ⟨by omega, by omega, fun n h0 h1 => by
    have e : n = ((n.toNat : Nat) : Int) := by omega
    rw [e]
    show Nat.gcd _ _ = 1
    exact gcd_one hb h n.toNat (by omega) (by omega)⟩
theorem md2 : Md 2 := md_of 2 2 (by decide) (by decide) (by decide) (by decide)
theorem md3 : Md 3 := md_of 3 2 (by decide) (by decide) (by decide) (by decide)
theorem md5 : Md 5 := md_of 5 3 (by decide) (by decide) (by decide) (by decide)
theorem md7 : Md 7 := md_of 7 3 (by decide) (by decide) (by decide) (by decide)
theorem md101 : Md 101 := md_of 101 11 (by decide) (by decide) (by decide) (by decide)
theorem md1000003 : Md 1000003 := md_of 1000003 1001 (by decide) (by decide) (by decide) (by decide +kernel)

/-! ### Euclid -/
/-- the state of the loop: past and now times the number are rest and left, modulo p -/
structure Eu (p n rest left past now : Int) : Prop where
  l0 : 0 ≤ left
  lp : left < p
  r0 : 0 < rest
  rp : rest ≤ p
  a : p ∣ past * n - rest
  b : p ∣ now * n - left
  g : Int.gcd rest left = 1
theorem Eu.start {p n : Int} (m : Md p) (h0 : 0 < n) (h1 : n < p) : Eu p n p (n % p) 0 1 := by
  have e : n % p = n := Int.emod_eq_of_lt (by omega) h1
  have hlo := m.lo
  refine ⟨by omega, by omega, by omega, Int.le_refl _, ⟨-1, by omega⟩, ⟨0, by omega⟩, ?_⟩
  rw [e, Int.gcd_comm]
  exact m.pr n h0 h1
theorem Eu.step {p n rest left past now : Int} (E : Eu p n rest left past now) (h : left ≠ 0) : Eu p n left (rest - rest / left * left) now (past - rest / left * now) := by
  have hl : 0 < left := by have := E.l0; omega
  have e : rest - rest / left * left = rest % left := by
    have := Int.emod_def rest left
    rw [Int.mul_comm] at this
    omega
  rw [e]
  have m0 : 0 ≤ rest % left := Int.emod_nonneg _ h
  have m1 : rest % left < left := Int.emod_lt_of_pos _ hl
  refine ⟨m0, by have := E.lp; omega, hl, by have := E.lp; omega, E.b, ?_, ?_⟩
  · obtain ⟨x, hx⟩ := E.a
    obtain ⟨y, hy⟩ := E.b
    refine ⟨x - rest / left * y, ?_⟩
    rw [← e]
    have h1 : (past - rest / left * now) * n - (rest - rest / left * left) = (past * n - rest) - rest / left * (now * n - left) := by
      rw [Int.sub_mul, Int.mul_sub, Int.mul_assoc]
      omega
    rw [h1, hx, hy, Int.mul_sub]
    congr 1
    rw [← Int.mul_assoc, ← Int.mul_assoc, Int.mul_comm (rest / left) p]
  · rw [Int.gcd_comm]
    have := E.g
    rw [Int.gcd_comm] at this
    rw [← this]
    show Nat.gcd _ _ = Nat.gcd _ _
    have a1 : (rest % left).natAbs = rest.natAbs % left.natAbs := by
      have hr := E.r0
      have q : ((rest.natAbs % left.natAbs : Nat) : Int) = rest % left := by
        rw [Int.natCast_emod]
        rw [Int.natAbs_of_nonneg (by omega), Int.natAbs_of_nonneg (by omega)]
      omega
    rw [a1, ← Nat.gcd_rec, Nat.gcd_comm]
theorem Eu.times {p n rest left past now : Int} (E : Eu p n rest left past now) (h : left ≠ 0) : 0 ≤ rest / left ∧ rest / left ≤ p := by
  have hl : 0 < left := by have := E.l0; omega
  have hr := E.r0
  have hp := E.rp
  refine ⟨Int.ediv_nonneg (by omega) (by omega), ?_⟩
  have : rest / left ≤ rest := Int.ediv_le_self _ (by omega)
  omega
/-- at the end: the inverse -/
theorem Eu.inv {p n rest past now : Int} (m : Md p) (E : Eu p n rest 0 past now) : 0 ≤ past % p ∧ past % p < p ∧ (past % p * n) % p = 1 := by
  have hlo := m.lo
  have r1 : rest = 1 := by
    have g := E.g
    have h0 := E.r0
    rw [Int.gcd_zero_right] at g
    omega
  have hm : (past * n) % p = 1 := by
    obtain ⟨x, hx⟩ := E.a
    have e : past * n = 1 + p * x := by omega
    rw [e, Int.add_mul_emod_self_left]
    exact Int.emod_eq_of_lt (by omega) (by omega)
  refine ⟨Int.emod_nonneg _ (by omega), Int.emod_lt_of_pos _ (by omega), ?_⟩
  rw [Int.mul_emod, Int.emod_emod, ← Int.mul_emod]
  exact hm
/-- what over tells, times what it divided by -/
theorem over_back {p a b i : Int} (ha : 0 ≤ a ∧ a < p) (hi : (i * b) % p = 1 % p) : (a * i % p * b) % p = a := by
  have e : (a * i % p * b) % p = (a * (i * b)) % p := by
    rw [Int.mul_emod, Int.emod_emod, ← Int.mul_emod, Int.mul_assoc]
  rw [e, Int.mul_emod, hi, ← Int.mul_emod, Int.mul_one]
  exact Int.emod_eq_of_lt ha.1 ha.2
end Num

namespace K03
open PySem PySem.Spec PyProof.Rows L2 Ver
def top (i : Nat) : Stmt := PySem.Challenge.pw_firstanswers_k03_sums_of_fractions.main.body.getD i (.Pass ⟨0, 0, 0, 0⟩)
abbrev s_is_integer : Stmt := top 3
abbrev n_is_integer : List Str := ["value"]
theorem sc_is_integer : FnScope n_is_integer ["value"] (defScope s_is_integer) := ⟨rfl, rfl, rfl, by decide +kernel, rfl, by decide +kernel, by decide +kernel⟩
def d_is_integer : He.DefD := ⟨("is_integer", none), "is_integer", "is_integer", defArgs s_is_integer, defBody s_is_integer, defScope s_is_integer, [], []⟩
abbrev s_is_between : Stmt := top 4
abbrev n_is_between : List Str := ["value", "low", "high"]
theorem sc_is_between : FnScope n_is_between ["value", "low", "high"] (defScope s_is_between) := ⟨rfl, rfl, rfl, by decide +kernel, rfl, by decide +kernel, by decide +kernel⟩
def d_is_between : He.DefD := ⟨("is_between", none), "is_between", "is_between", defArgs s_is_between, defBody s_is_between, defScope s_is_between, [], []⟩
abbrev s_Field___init__ : Stmt := inClass (top 13) 1
abbrev n_Field___init__ : List Str := ["self", "prime"]
theorem sc_Field___init__ : FnScope n_Field___init__ ["self", "prime"] (defScope s_Field___init__) := ⟨rfl, rfl, rfl, by decide +kernel, rfl, by decide +kernel, by decide +kernel⟩
def d_Field___init__ : He.DefD := ⟨("Field", some "__init__"), "__init__", "Field.__init__", defArgs s_Field___init__, defBody s_Field___init__, defScope s_Field___init__, [], []⟩
abbrev s_Field_is_number : Stmt := inClass (top 13) 6
abbrev n_Field_is_number : List Str := ["self", "value"]
theorem sc_Field_is_number : FnScope n_Field_is_number ["self", "value"] (defScope s_Field_is_number) := ⟨rfl, rfl, rfl, by decide +kernel, rfl, by decide +kernel, by decide +kernel⟩
def d_Field_is_number : He.DefD := ⟨("Field", some "is_number"), "is_number", "Field.is_number", defArgs s_Field_is_number, defBody s_Field_is_number, defScope s_Field_is_number, [], []⟩
abbrev s_Field_plus : Stmt := inClass (top 13) 7
abbrev n_Field_plus : List Str := ["self", "one", "other"]
theorem sc_Field_plus : FnScope n_Field_plus ["self", "one", "other"] (defScope s_Field_plus) := ⟨rfl, rfl, rfl, by decide +kernel, rfl, by decide +kernel, by decide +kernel⟩
def d_Field_plus : He.DefD := ⟨("Field", some "plus"), "plus", "Field.plus", defArgs s_Field_plus, defBody s_Field_plus, defScope s_Field_plus, [], []⟩
abbrev s_Field_minus : Stmt := inClass (top 13) 8
abbrev n_Field_minus : List Str := ["self", "one", "other"]
theorem sc_Field_minus : FnScope n_Field_minus ["self", "one", "other"] (defScope s_Field_minus) := ⟨rfl, rfl, rfl, by decide +kernel, rfl, by decide +kernel, by decide +kernel⟩
def d_Field_minus : He.DefD := ⟨("Field", some "minus"), "minus", "Field.minus", defArgs s_Field_minus, defBody s_Field_minus, defScope s_Field_minus, [], []⟩
abbrev s_Field_times : Stmt := inClass (top 13) 9
abbrev n_Field_times : List Str := ["self", "one", "other"]
theorem sc_Field_times : FnScope n_Field_times ["self", "one", "other"] (defScope s_Field_times) := ⟨rfl, rfl, rfl, by decide +kernel, rfl, by decide +kernel, by decide +kernel⟩
def d_Field_times : He.DefD := ⟨("Field", some "times"), "times", "Field.times", defArgs s_Field_times, defBody s_Field_times, defScope s_Field_times, [], []⟩
abbrev s_Field_over : Stmt := inClass (top 13) 10
abbrev n_Field_over : List Str := ["self", "one", "other"]
theorem sc_Field_over : FnScope n_Field_over ["self", "one", "other"] (defScope s_Field_over) := ⟨rfl, rfl, rfl, by decide +kernel, rfl, by decide +kernel, by decide +kernel⟩
def d_Field_over : He.DefD := ⟨("Field", some "over"), "over", "Field.over", defArgs s_Field_over, defBody s_Field_over, defScope s_Field_over, [], []⟩
abbrev s_Field_total : Stmt := inClass (top 13) 11
abbrev n_Field_total : List Str := ["self", "numbers", "tops", "bottom"]
theorem sc_Field_total : FnScope n_Field_total ["self", "numbers"] (defScope s_Field_total) := ⟨rfl, rfl, rfl, by decide +kernel, rfl, by decide +kernel, by decide +kernel⟩
def d_Field_total : He.DefD := ⟨("Field", some "total"), "total", "Field.total", defArgs s_Field_total, defBody s_Field_total, defScope s_Field_total, [], []⟩
abbrev s_Field_holds : Stmt := inClass (top 13) 14
abbrev n_Field_holds : List Str := ["self", "value"]
theorem sc_Field_holds : FnScope n_Field_holds ["self", "value"] (defScope s_Field_holds) := ⟨rfl, rfl, rfl, by decide +kernel, rfl, by decide +kernel, by decide +kernel⟩
def d_Field_holds : He.DefD := ⟨("Field", some "holds"), "holds", "Field.holds", defArgs s_Field_holds, defBody s_Field_holds, defScope s_Field_holds, [], []⟩
abbrev s_Field_ratio : Stmt := inClass (top 13) 15
abbrev n_Field_ratio : List Str := ["self", "top", "bottom"]
theorem sc_Field_ratio : FnScope n_Field_ratio ["self", "top", "bottom"] (defScope s_Field_ratio) := ⟨rfl, rfl, rfl, by decide +kernel, rfl, by decide +kernel, by decide +kernel⟩
def d_Field_ratio : He.DefD := ⟨("Field", some "ratio"), "ratio", "Field.ratio", defArgs s_Field_ratio, defBody s_Field_ratio, defScope s_Field_ratio, [], []⟩
abbrev s_Field_product_of : Stmt := inClass (top 13) 18
abbrev n_Field_product_of : List Str := ["self", "one", "other", "top", "bottom", "above", "below"]
theorem sc_Field_product_of : FnScope n_Field_product_of ["self", "one", "other"] (defScope s_Field_product_of) := ⟨rfl, rfl, rfl, by decide +kernel, rfl, by decide +kernel, by decide +kernel⟩
def d_Field_product_of : He.DefD := ⟨("Field", some "product_of"), "product_of", "Field.product_of", defArgs s_Field_product_of, defBody s_Field_product_of, defScope s_Field_product_of, [], []⟩
abbrev s_Field_sum_of : Stmt := inClass (top 13) 16
abbrev n_Field_sum_of : List Str := ["self", "one", "other", "top", "bottom", "above", "below"]
theorem sc_Field_sum_of : FnScope n_Field_sum_of ["self", "one", "other"] (defScope s_Field_sum_of) := ⟨rfl, rfl, rfl, by decide +kernel, rfl, by decide +kernel, by decide +kernel⟩
def d_Field_sum_of : He.DefD := ⟨("Field", some "sum_of"), "sum_of", "Field.sum_of", defArgs s_Field_sum_of, defBody s_Field_sum_of, defScope s_Field_sum_of, [], []⟩
abbrev s_Field_difference_of : Stmt := inClass (top 13) 17
abbrev n_Field_difference_of : List Str := ["self", "one", "other", "top", "bottom", "above", "below"]
theorem sc_Field_difference_of : FnScope n_Field_difference_of ["self", "one", "other"] (defScope s_Field_difference_of) := ⟨rfl, rfl, rfl, by decide +kernel, rfl, by decide +kernel, by decide +kernel⟩
def d_Field_difference_of : He.DefD := ⟨("Field", some "difference_of"), "difference_of", "Field.difference_of", defArgs s_Field_difference_of, defBody s_Field_difference_of, defScope s_Field_difference_of, [], []⟩
abbrev s_Field_quotient_of : Stmt := inClass (top 13) 19
abbrev n_Field_quotient_of : List Str := ["self", "one", "other", "top", "bottom", "above", "below"]
theorem sc_Field_quotient_of : FnScope n_Field_quotient_of ["self", "one", "other"] (defScope s_Field_quotient_of) := ⟨rfl, rfl, rfl, by decide +kernel, rfl, by decide +kernel, by decide +kernel⟩
def d_Field_quotient_of : He.DefD := ⟨("Field", some "quotient_of"), "quotient_of", "Field.quotient_of", defArgs s_Field_quotient_of, defBody s_Field_quotient_of, defScope s_Field_quotient_of, [], []⟩
abbrev s_Field_common : Stmt := inClass (top 13) 21
abbrev n_Field_common : List Str := ["self", "numbers", "bottom", "number", "each", "above", "below"]
theorem sc_Field_common : FnScope n_Field_common ["self", "numbers"] (defScope s_Field_common) := ⟨rfl, rfl, rfl, by decide +kernel, rfl, by decide +kernel, by decide +kernel⟩
def d_Field_common : He.DefD := ⟨("Field", some "common"), "common", "Field.common", defArgs s_Field_common, defBody s_Field_common, defScope s_Field_common, [], []⟩
abbrev s_Field__check : Stmt := inClass (top 13) 23
abbrev n_Field__check : List Str := ["self", "numbers", "number"]
theorem sc_Field__check : FnScope n_Field__check ["self", "numbers"] (defScope s_Field__check) := ⟨rfl, rfl, rfl, by decide +kernel, rfl, by decide +kernel, by decide +kernel⟩
def d_Field__check : He.DefD := ⟨("Field", some "_check"), "_check", "Field._check", defArgs s_Field__check, defBody s_Field__check, defScope s_Field__check, [], []⟩
abbrev s_Fractions___init__ : Stmt := inClass (top 14) 0
abbrev n_Fractions___init__ : List Str := ["self"]
theorem sc_Fractions___init__ : FnScope n_Fractions___init__ ["self"] (defScope s_Fractions___init__) := ⟨rfl, rfl, rfl, by decide +kernel, rfl, by decide +kernel, by decide +kernel⟩
def d_Fractions___init__ : He.DefD := ⟨("Fractions", some "__init__"), "__init__", "Fractions.__init__", defArgs s_Fractions___init__, defBody s_Fractions___init__, defScope s_Fractions___init__, [], []⟩
abbrev s_is_fraction : Stmt := top 15
abbrev n_is_fraction : List Str := ["value", "top", "bottom"]
theorem sc_is_fraction : FnScope n_is_fraction ["value"] (defScope s_is_fraction) := ⟨rfl, rfl, rfl, by decide +kernel, rfl, by decide +kernel, by decide +kernel⟩
def d_is_fraction : He.DefD := ⟨("is_fraction", none), "is_fraction", "is_fraction", defArgs s_is_fraction, defBody s_is_fraction, defScope s_is_fraction, [], []⟩
abbrev s_is_longer : Stmt := top 16
abbrev n_is_longer : List Str := ["number", "first_long", "top", "bottom"]
theorem sc_is_longer : FnScope n_is_longer ["number", "first_long"] (defScope s_is_longer) := ⟨rfl, rfl, rfl, by decide +kernel, rfl, by decide +kernel, by decide +kernel⟩
def d_is_longer : He.DefD := ⟨("is_longer", none), "is_longer", "is_longer", defArgs s_is_longer, defBody s_is_longer, defScope s_is_longer, [], []⟩
abbrev s_parts : Stmt := top 17
abbrev n_parts : List Str := ["number"]
theorem sc_parts : FnScope n_parts ["number"] (defScope s_parts) := ⟨rfl, rfl, rfl, by decide +kernel, rfl, by decide +kernel, by decide +kernel⟩
def d_parts : He.DefD := ⟨("parts", none), "parts", "parts", defArgs s_parts, defBody s_parts, defScope s_parts, [], []⟩
abbrev s_shortened : Stmt := top 18
abbrev n_shortened : List Str := ["top", "bottom", "divisor"]
theorem sc_shortened : FnScope n_shortened ["top", "bottom"] (defScope s_shortened) := ⟨rfl, rfl, rfl, by decide +kernel, rfl, by decide +kernel, by decide +kernel⟩
def d_shortened : He.DefD := ⟨("shortened", none), "shortened", "shortened", defArgs s_shortened, defBody s_shortened, defScope s_shortened, [], []⟩
abbrev s__law_pen : Stmt := top 24
abbrev n__law_pen : List Str := ["_law_script"]
theorem sc__law_pen : FnScope n__law_pen ["_law_script"] (defScope s__law_pen) := ⟨rfl, rfl, rfl, by decide +kernel, rfl, by decide +kernel, by decide +kernel⟩
def d__law_pen : He.DefD := ⟨("_law_pen", none), "_law_pen", "_law_pen", defArgs s__law_pen, defBody s__law_pen, defScope s__law_pen, [], []⟩
abbrev s__law_draw : Stmt := top 25
abbrev n__law_draw : List Str := ["_law_pen_here", "_law_many", "_law_digit", "_law_place", "_law_cell", "_law_mixed", "_law_drawn"]
theorem sc__law_draw : FnScope n__law_draw ["_law_pen_here", "_law_many"] (defScope s__law_draw) := ⟨rfl, rfl, rfl, by decide +kernel, rfl, by decide +kernel, by decide +kernel⟩
def d__law_draw : He.DefD := ⟨("_law_draw", none), "_law_draw", "_law_draw", defArgs s__law_draw, defBody s__law_draw, defScope s__law_draw, [], []⟩
abbrev s__law_pick : Stmt := top 26
abbrev n__law_pick : List Str := ["_law_pen_here", "_law_options"]
theorem sc__law_pick : FnScope n__law_pick ["_law_pen_here", "_law_options"] (defScope s__law_pick) := ⟨rfl, rfl, rfl, by decide +kernel, rfl, by decide +kernel, by decide +kernel⟩
def d__law_pick : He.DefD := ⟨("_law_pick", none), "_law_pick", "_law_pick", defArgs s__law_pick, defBody s__law_pick, defScope s__law_pick, [], []⟩
abbrev s__law_far : Stmt := top 29
abbrev n__law_far : List Str := ["_law_pen_here", "_law_found", "_law_k"]
theorem sc__law_far : FnScope n__law_far ["_law_pen_here"] (defScope s__law_far) := ⟨rfl, rfl, rfl, by decide +kernel, rfl, by decide +kernel, by decide +kernel⟩
def d__law_far : He.DefD := ⟨("_law_far", none), "_law_far", "_law_far", defArgs s__law_far, defBody s__law_far, defScope s__law_far, [], []⟩
abbrev s__law_tens : Stmt := top 30
abbrev n__law_tens : List Str := ["_law_many", "_law_found", "_law_k"]
theorem sc__law_tens : FnScope n__law_tens ["_law_many"] (defScope s__law_tens) := ⟨rfl, rfl, rfl, by decide +kernel, rfl, by decide +kernel, by decide +kernel⟩
def d__law_tens : He.DefD := ⟨("_law_tens", none), "_law_tens", "_law_tens", defArgs s__law_tens, defBody s__law_tens, defScope s__law_tens, [], []⟩
abbrev s__law_signed : Stmt := top 31
abbrev n__law_signed : List Str := ["_law_pen_here", "_law_number_here"]
theorem sc__law_signed : FnScope n__law_signed ["_law_pen_here", "_law_number_here"] (defScope s__law_signed) := ⟨rfl, rfl, rfl, by decide +kernel, rfl, by decide +kernel, by decide +kernel⟩
def d__law_signed : He.DefD := ⟨("_law_signed", none), "_law_signed", "_law_signed", defArgs s__law_signed, defBody s__law_signed, defScope s__law_signed, [], []⟩
abbrev s__law_gcd : Stmt := top 32
abbrev n__law_gcd : List Str := ["_law_front", "_law_back"]
theorem sc__law_gcd : FnScope n__law_gcd ["_law_front", "_law_back"] (defScope s__law_gcd) := ⟨rfl, rfl, rfl, by decide +kernel, rfl, by decide +kernel, by decide +kernel⟩
def d__law_gcd : He.DefD := ⟨("_law_gcd", none), "_law_gcd", "_law_gcd", defArgs s__law_gcd, defBody s__law_gcd, defScope s__law_gcd, [], []⟩
abbrev s__law_told : Stmt := top 33
abbrev n__law_told : List Str := ["_law_top", "_law_bottom", "_law_shared"]
theorem sc__law_told : FnScope n__law_told ["_law_top", "_law_bottom"] (defScope s__law_told) := ⟨rfl, rfl, rfl, by decide +kernel, rfl, by decide +kernel, by decide +kernel⟩
def d__law_told : He.DefD := ⟨("_law_told", none), "_law_told", "_law_told", defArgs s__law_told, defBody s__law_told, defScope s__law_told, [], []⟩
abbrev s__law_two : Stmt := top 34
abbrev n__law_two : List Str := ["_law_told_here"]
theorem sc__law_two : FnScope n__law_two ["_law_told_here"] (defScope s__law_two) := ⟨rfl, rfl, rfl, by decide +kernel, rfl, by decide +kernel, by decide +kernel⟩
def d__law_two : He.DefD := ⟨("_law_two", none), "_law_two", "_law_two", defArgs s__law_two, defBody s__law_two, defScope s__law_two, [], []⟩
abbrev s__law_any_number : Stmt := top 35
abbrev n__law_any_number : List Str := ["_law_pen_here", "_law_prime", "_law_is_small", "_law_top", "_law_bottom"]
theorem sc__law_any_number : FnScope n__law_any_number ["_law_pen_here", "_law_prime", "_law_is_small"] (defScope s__law_any_number) := ⟨rfl, rfl, rfl, by decide +kernel, rfl, by decide +kernel, by decide +kernel⟩
def d__law_any_number : He.DefD := ⟨("_law_any_number", none), "_law_any_number", "_law_any_number", defArgs s__law_any_number, defBody s__law_any_number, defScope s__law_any_number, [], []⟩
abbrev s__law_plus : Stmt := top 36
abbrev n__law_plus : List Str := ["_law_prime", "_law_one", "_law_other", "_law_top", "_law_bottom", "_law_more", "_law_below"]
theorem sc__law_plus : FnScope n__law_plus ["_law_prime", "_law_one", "_law_other"] (defScope s__law_plus) := ⟨rfl, rfl, rfl, by decide +kernel, rfl, by decide +kernel, by decide +kernel⟩
def d__law_plus : He.DefD := ⟨("_law_plus", none), "_law_plus", "_law_plus", defArgs s__law_plus, defBody s__law_plus, defScope s__law_plus, [], []⟩
abbrev s__law_times : Stmt := top 37
abbrev n__law_times : List Str := ["_law_prime", "_law_one", "_law_other", "_law_top", "_law_bottom", "_law_more", "_law_below"]
theorem sc__law_times : FnScope n__law_times ["_law_prime", "_law_one", "_law_other"] (defScope s__law_times) := ⟨rfl, rfl, rfl, by decide +kernel, rfl, by decide +kernel, by decide +kernel⟩
def d__law_times : He.DefD := ⟨("_law_times", none), "_law_times", "_law_times", defArgs s__law_times, defBody s__law_times, defScope s__law_times, [], []⟩
abbrev s__law_over : Stmt := top 38
abbrev n__law_over : List Str := ["_law_prime", "_law_one", "_law_other", "_law_top", "_law_bottom", "_law_more", "_law_below"]
theorem sc__law_over : FnScope n__law_over ["_law_prime", "_law_one", "_law_other"] (defScope s__law_over) := ⟨rfl, rfl, rfl, by decide +kernel, rfl, by decide +kernel, by decide +kernel⟩
def d__law_over : He.DefD := ⟨("_law_over", none), "_law_over", "_law_over", defArgs s__law_over, defBody s__law_over, defScope s__law_over, [], []⟩
abbrev s__law_negative : Stmt := top 39
abbrev n__law_negative : List Str := ["_law_prime", "_law_told_here"]
theorem sc__law_negative : FnScope n__law_negative ["_law_prime", "_law_told_here"] (defScope s__law_negative) := ⟨rfl, rfl, rfl, by decide +kernel, rfl, by decide +kernel, by decide +kernel⟩
def d__law_negative : He.DefD := ⟨("_law_negative", none), "_law_negative", "_law_negative", defArgs s__law_negative, defBody s__law_negative, defScope s__law_negative, [], []⟩
abbrev s__law_quotient : Stmt := top 40
abbrev n__law_quotient : List Str := ["_law_field", "_law_one", "_law_other", "e"]
theorem sc__law_quotient : FnScope n__law_quotient ["_law_field", "_law_one", "_law_other"] (defScope s__law_quotient) := ⟨rfl, rfl, rfl, by decide +kernel, rfl, by decide +kernel, by decide +kernel⟩
def d__law_quotient : He.DefD := ⟨("_law_quotient", none), "_law_quotient", "_law_quotient", defArgs s__law_quotient, defBody s__law_quotient, defScope s__law_quotient, [], []⟩
abbrev s_law : Stmt := top 41
abbrev n_law : List Str := ["_law_script", "_law_pen_here", "_law_field", "_law_turn", "_law_one", "_law_two_here", "_law_other", "_law_less", "_law_due", "_law_three"]
theorem sc_law : FnScope n_law ["_law_script"] (defScope s_law) := ⟨rfl, rfl, rfl, by decide +kernel, rfl, by decide +kernel, by decide +kernel⟩
def d_law : He.DefD := ⟨("law", none), "law", "law", defArgs s_law, defBody s_law, defScope s_law, [], []⟩
abbrev s_NoQuotient___init__ : Stmt := inClass (top 8) 0
abbrev n_NoQuotient___init__ : List Str := ["self"]
theorem sc_NoQuotient___init__ : FnScope n_NoQuotient___init__ ["self"] (defScope s_NoQuotient___init__) := ⟨rfl, rfl, rfl, by decide +kernel, rfl, by decide +kernel, by decide +kernel⟩
def d_NoQuotient___init__ : He.DefD := ⟨("NoQuotient", some "__init__"), "__init__", "NoQuotient.__init__", defArgs s_NoQuotient___init__, defBody s_NoQuotient___init__, defScope s_NoQuotient___init__, [], []⟩
def fn : List He.DefD := [d_is_integer, d_is_between, d_Field___init__, d_Field_is_number, d_Field_plus, d_Field_minus, d_Field_times, d_Field_over, d_Field_total, d_Field_holds, d_Field_ratio, d_Field_product_of, d_Field_sum_of, d_Field_difference_of, d_Field_quotient_of, d_Field_common, d_Field__check, d_Fractions___init__, d_is_fraction, d_is_longer, d_parts, d_shortened, d__law_pen, d__law_draw, d__law_pick, d__law_far, d__law_tens, d__law_signed, d__law_gcd, d__law_told, d__law_two, d__law_any_number, d__law_plus, d__law_times, d__law_over, d__law_negative, d__law_quotient, d_law, d_NoQuotient___init__]
section
variable {P : Program} {w : World} {K : PySem.W.Frag} {fa : List He.Fa} {mg : Str → Option Value} {base : Heap} {k : Nat} {sp : Sp}
theorem mk_is_integer (S : He.SaysD fa fn K) (len : ∀ vs H Q E, sp vs H Q E → vs.length = 1)
    (hb : ∀ (cdv : Value) (A : Around) (outer : List Env) (s : Shared) (H : Hp) (vs : List V) (Q : VK) (E : XK), A.guards = some [] → Room k (A.deeper (envOfC "is_integer" (defScope s_is_integer) s.heap.objs.size (He.ga K "is_integer") cdv)) → sp vs H Q E →
      ∃ t, PSs (cxOf CX0 P w K mg base n_is_integer "is_integer" (defScope s_is_integer) (He.ga K "is_integer") cdv A outer s H E).nox (defBody s_is_integer) t ∧ t { nx := fun _ H' => Q .non H', rt := Q } (start n_is_integer vs) H) : FnG P w K mg base CX0 (k + 1) (He.ga K "is_integer") sp := by
  obtain ⟨fd, F⟩ := S.def_ 0 (d := d_is_integer) rfl
  exact ok0 F sc_is_integer (F.bindsA fun _ _ _ _ _ _ us hl => match us, hl with | [_], _ => rfl) len hb
theorem kp_is_integer (S : He.SaysD fa fn K) : PySem.W.keepIn K (.ref (He.ga K "is_integer")) = true := by
  obtain ⟨fd, F⟩ := S.def_ 0 (d := d_is_integer) rfl
  exact F.kp
theorem mk_is_between (S : He.SaysD fa fn K) (len : ∀ vs H Q E, sp vs H Q E → vs.length = 3)
    (hb : ∀ (cdv : Value) (A : Around) (outer : List Env) (s : Shared) (H : Hp) (vs : List V) (Q : VK) (E : XK), A.guards = some [] → Room k (A.deeper (envOfC "is_between" (defScope s_is_between) s.heap.objs.size (He.ga K "is_between") cdv)) → sp vs H Q E →
      ∃ t, PSs (cxOf CX0 P w K mg base n_is_between "is_between" (defScope s_is_between) (He.ga K "is_between") cdv A outer s H E).nox (defBody s_is_between) t ∧ t { nx := fun _ H' => Q .non H', rt := Q } (start n_is_between vs) H) : FnG P w K mg base CX0 (k + 1) (He.ga K "is_between") sp := by
  obtain ⟨fd, F⟩ := S.def_ 1 (d := d_is_between) rfl
  exact ok0 F sc_is_between (F.bindsA fun _ _ _ _ _ _ us hl => match us, hl with | [_, _, _], _ => rfl) len hb
theorem kp_is_between (S : He.SaysD fa fn K) : PySem.W.keepIn K (.ref (He.ga K "is_between")) = true := by
  obtain ⟨fd, F⟩ := S.def_ 1 (d := d_is_between) rfl
  exact F.kp
theorem mk_Field___init__ (S : He.SaysD fa fn K) (len : ∀ vs H Q E, sp vs H Q E → vs.length = 2)
    (hb : ∀ (cdv : Value) (A : Around) (outer : List Env) (s : Shared) (H : Hp) (vs : List V) (Q : VK) (E : XK), A.guards = some [] → Room k (A.deeper (envOfC "Field.__init__" (defScope s_Field___init__) s.heap.objs.size (He.ma K (He.ga K "Field") "__init__") cdv)) → sp vs H Q E →
      ∃ t, PSs (cxOf CX0 P w K mg base n_Field___init__ "Field.__init__" (defScope s_Field___init__) (He.ma K (He.ga K "Field") "__init__") cdv A outer s H E).nox (defBody s_Field___init__) t ∧ t { nx := fun _ H' => Q .non H', rt := Q } (start n_Field___init__ vs) H) : FnG P w K mg base CX0 (k + 1) (He.ma K (He.ga K "Field") "__init__") sp := by
  obtain ⟨fd, F⟩ := S.def_ 2 (d := d_Field___init__) rfl
  exact ok0 F sc_Field___init__ (F.bindsA fun _ _ _ _ _ _ us hl => match us, hl with | [_, _], _ => rfl) len hb
theorem kp_Field___init__ (S : He.SaysD fa fn K) : PySem.W.keepIn K (.ref (He.ma K (He.ga K "Field") "__init__")) = true := by
  obtain ⟨fd, F⟩ := S.def_ 2 (d := d_Field___init__) rfl
  exact F.kp
theorem mk_Field_is_number (S : He.SaysD fa fn K) (len : ∀ vs H Q E, sp vs H Q E → vs.length = 2)
    (hb : ∀ (cdv : Value) (A : Around) (outer : List Env) (s : Shared) (H : Hp) (vs : List V) (Q : VK) (E : XK), A.guards = some [] → Room k (A.deeper (envOfC "Field.is_number" (defScope s_Field_is_number) s.heap.objs.size (He.ma K (He.ga K "Field") "is_number") cdv)) → sp vs H Q E →
      ∃ t, PSs (cxOf CX0 P w K mg base n_Field_is_number "Field.is_number" (defScope s_Field_is_number) (He.ma K (He.ga K "Field") "is_number") cdv A outer s H E).nox (defBody s_Field_is_number) t ∧ t { nx := fun _ H' => Q .non H', rt := Q } (start n_Field_is_number vs) H) : FnG P w K mg base CX0 (k + 1) (He.ma K (He.ga K "Field") "is_number") sp := by
  obtain ⟨fd, F⟩ := S.def_ 3 (d := d_Field_is_number) rfl
  exact ok0 F sc_Field_is_number (F.bindsA fun _ _ _ _ _ _ us hl => match us, hl with | [_, _], _ => rfl) len hb
theorem kp_Field_is_number (S : He.SaysD fa fn K) : PySem.W.keepIn K (.ref (He.ma K (He.ga K "Field") "is_number")) = true := by
  obtain ⟨fd, F⟩ := S.def_ 3 (d := d_Field_is_number) rfl
  exact F.kp
theorem mk_Field_plus (S : He.SaysD fa fn K) (len : ∀ vs H Q E, sp vs H Q E → vs.length = 3)
    (hb : ∀ (cdv : Value) (A : Around) (outer : List Env) (s : Shared) (H : Hp) (vs : List V) (Q : VK) (E : XK), A.guards = some [] → Room k (A.deeper (envOfC "Field.plus" (defScope s_Field_plus) s.heap.objs.size (He.ma K (He.ga K "Field") "plus") cdv)) → sp vs H Q E →
      ∃ t, PSs (cxOf CX0 P w K mg base n_Field_plus "Field.plus" (defScope s_Field_plus) (He.ma K (He.ga K "Field") "plus") cdv A outer s H E).nox (defBody s_Field_plus) t ∧ t { nx := fun _ H' => Q .non H', rt := Q } (start n_Field_plus vs) H) : FnG P w K mg base CX0 (k + 1) (He.ma K (He.ga K "Field") "plus") sp := by
  obtain ⟨fd, F⟩ := S.def_ 4 (d := d_Field_plus) rfl
  exact ok0 F sc_Field_plus (F.bindsA fun _ _ _ _ _ _ us hl => match us, hl with | [_, _, _], _ => rfl) len hb
theorem kp_Field_plus (S : He.SaysD fa fn K) : PySem.W.keepIn K (.ref (He.ma K (He.ga K "Field") "plus")) = true := by
  obtain ⟨fd, F⟩ := S.def_ 4 (d := d_Field_plus) rfl
  exact F.kp
theorem mk_Field_minus (S : He.SaysD fa fn K) (len : ∀ vs H Q E, sp vs H Q E → vs.length = 3)
    (hb : ∀ (cdv : Value) (A : Around) (outer : List Env) (s : Shared) (H : Hp) (vs : List V) (Q : VK) (E : XK), A.guards = some [] → Room k (A.deeper (envOfC "Field.minus" (defScope s_Field_minus) s.heap.objs.size (He.ma K (He.ga K "Field") "minus") cdv)) → sp vs H Q E →
      ∃ t, PSs (cxOf CX0 P w K mg base n_Field_minus "Field.minus" (defScope s_Field_minus) (He.ma K (He.ga K "Field") "minus") cdv A outer s H E).nox (defBody s_Field_minus) t ∧ t { nx := fun _ H' => Q .non H', rt := Q } (start n_Field_minus vs) H) : FnG P w K mg base CX0 (k + 1) (He.ma K (He.ga K "Field") "minus") sp := by
  obtain ⟨fd, F⟩ := S.def_ 5 (d := d_Field_minus) rfl
  exact ok0 F sc_Field_minus (F.bindsA fun _ _ _ _ _ _ us hl => match us, hl with | [_, _, _], _ => rfl) len hb
theorem kp_Field_minus (S : He.SaysD fa fn K) : PySem.W.keepIn K (.ref (He.ma K (He.ga K "Field") "minus")) = true := by
  obtain ⟨fd, F⟩ := S.def_ 5 (d := d_Field_minus) rfl
  exact F.kp
theorem mk_Field_times (S : He.SaysD fa fn K) (len : ∀ vs H Q E, sp vs H Q E → vs.length = 3)
    (hb : ∀ (cdv : Value) (A : Around) (outer : List Env) (s : Shared) (H : Hp) (vs : List V) (Q : VK) (E : XK), A.guards = some [] → Room k (A.deeper (envOfC "Field.times" (defScope s_Field_times) s.heap.objs.size (He.ma K (He.ga K "Field") "times") cdv)) → sp vs H Q E →
      ∃ t, PSs (cxOf CX0 P w K mg base n_Field_times "Field.times" (defScope s_Field_times) (He.ma K (He.ga K "Field") "times") cdv A outer s H E).nox (defBody s_Field_times) t ∧ t { nx := fun _ H' => Q .non H', rt := Q } (start n_Field_times vs) H) : FnG P w K mg base CX0 (k + 1) (He.ma K (He.ga K "Field") "times") sp := by
  obtain ⟨fd, F⟩ := S.def_ 6 (d := d_Field_times) rfl
  exact ok0 F sc_Field_times (F.bindsA fun _ _ _ _ _ _ us hl => match us, hl with | [_, _, _], _ => rfl) len hb
theorem kp_Field_times (S : He.SaysD fa fn K) : PySem.W.keepIn K (.ref (He.ma K (He.ga K "Field") "times")) = true := by
  obtain ⟨fd, F⟩ := S.def_ 6 (d := d_Field_times) rfl
  exact F.kp
theorem mk_Field_over (S : He.SaysD fa fn K) (len : ∀ vs H Q E, sp vs H Q E → vs.length = 3)
    (hb : ∀ (cdv : Value) (A : Around) (outer : List Env) (s : Shared) (H : Hp) (vs : List V) (Q : VK) (E : XK), A.guards = some [] → Room k (A.deeper (envOfC "Field.over" (defScope s_Field_over) s.heap.objs.size (He.ma K (He.ga K "Field") "over") cdv)) → sp vs H Q E →
      ∃ t, PSs (cxOf CX0 P w K mg base n_Field_over "Field.over" (defScope s_Field_over) (He.ma K (He.ga K "Field") "over") cdv A outer s H E).nox (defBody s_Field_over) t ∧ t { nx := fun _ H' => Q .non H', rt := Q } (start n_Field_over vs) H) : FnG P w K mg base CX0 (k + 1) (He.ma K (He.ga K "Field") "over") sp := by
  obtain ⟨fd, F⟩ := S.def_ 7 (d := d_Field_over) rfl
  exact ok0 F sc_Field_over (F.bindsA fun _ _ _ _ _ _ us hl => match us, hl with | [_, _, _], _ => rfl) len hb
theorem mkX_Field_over (S : He.SaysD fa fn K) (len : ∀ vs H Q E, sp vs H Q E → vs.length = 3)
    (hb : ∀ (cdv : Value) (A : Around) (outer : List Env) (s : Shared) (H : Hp) (vs : List V) (Q : VK) (E : XK), A.guards = some [] → Room k (A.deeper (envOfC "Field.over" (defScope s_Field_over) s.heap.objs.size (He.ma K (He.ga K "Field") "over") cdv)) → sp vs H Q E →
      ∃ t, PSs (cxOf (L2.CX P w) P w K mg base n_Field_over "Field.over" (defScope s_Field_over) (He.ma K (He.ga K "Field") "over") cdv A outer s H E) (defBody s_Field_over) t ∧ t { nx := fun _ H' => Q .non H', rt := Q } (start n_Field_over vs) H) : FnG P w K mg base (L2.CX P w) (k + 1) (He.ma K (He.ga K "Field") "over") sp := by
  obtain ⟨fd, F⟩ := S.def_ 7 (d := d_Field_over) rfl
  exact okG F sc_Field_over (F.bindsA fun _ _ _ _ _ _ us hl => match us, hl with | [_, _, _], _ => rfl) len hb
theorem kp_Field_over (S : He.SaysD fa fn K) : PySem.W.keepIn K (.ref (He.ma K (He.ga K "Field") "over")) = true := by
  obtain ⟨fd, F⟩ := S.def_ 7 (d := d_Field_over) rfl
  exact F.kp
theorem kp_Field_total (S : He.SaysD fa fn K) : PySem.W.keepIn K (.ref (He.ma K (He.ga K "Field") "total")) = true := by
  obtain ⟨fd, F⟩ := S.def_ 8 (d := d_Field_total) rfl
  exact F.kp
theorem mk_Field_holds (S : He.SaysD fa fn K) (len : ∀ vs H Q E, sp vs H Q E → vs.length = 2)
    (hb : ∀ (cdv : Value) (A : Around) (outer : List Env) (s : Shared) (H : Hp) (vs : List V) (Q : VK) (E : XK), A.guards = some [] → Room k (A.deeper (envOfC "Field.holds" (defScope s_Field_holds) s.heap.objs.size (He.ma K (He.ga K "Field") "holds") cdv)) → sp vs H Q E →
      ∃ t, PSs (cxOf CX0 P w K mg base n_Field_holds "Field.holds" (defScope s_Field_holds) (He.ma K (He.ga K "Field") "holds") cdv A outer s H E).nox (defBody s_Field_holds) t ∧ t { nx := fun _ H' => Q .non H', rt := Q } (start n_Field_holds vs) H) : FnG P w K mg base CX0 (k + 1) (He.ma K (He.ga K "Field") "holds") sp := by
  obtain ⟨fd, F⟩ := S.def_ 9 (d := d_Field_holds) rfl
  exact ok0 F sc_Field_holds (F.bindsA fun _ _ _ _ _ _ us hl => match us, hl with | [_, _], _ => rfl) len hb
theorem kp_Field_holds (S : He.SaysD fa fn K) : PySem.W.keepIn K (.ref (He.ma K (He.ga K "Field") "holds")) = true := by
  obtain ⟨fd, F⟩ := S.def_ 9 (d := d_Field_holds) rfl
  exact F.kp
theorem mk_Field_ratio (S : He.SaysD fa fn K) (len : ∀ vs H Q E, sp vs H Q E → vs.length = 3)
    (hb : ∀ (cdv : Value) (A : Around) (outer : List Env) (s : Shared) (H : Hp) (vs : List V) (Q : VK) (E : XK), A.guards = some [] → Room k (A.deeper (envOfC "Field.ratio" (defScope s_Field_ratio) s.heap.objs.size (He.ma K (He.ga K "Field") "ratio") cdv)) → sp vs H Q E →
      ∃ t, PSs (cxOf CX0 P w K mg base n_Field_ratio "Field.ratio" (defScope s_Field_ratio) (He.ma K (He.ga K "Field") "ratio") cdv A outer s H E).nox (defBody s_Field_ratio) t ∧ t { nx := fun _ H' => Q .non H', rt := Q } (start n_Field_ratio vs) H) : FnG P w K mg base CX0 (k + 1) (He.ma K (He.ga K "Field") "ratio") sp := by
  obtain ⟨fd, F⟩ := S.def_ 10 (d := d_Field_ratio) rfl
  exact ok0 F sc_Field_ratio (F.bindsA fun _ _ _ _ _ _ us hl => match us, hl with | [_, _, _], _ => rfl) len hb
theorem kp_Field_ratio (S : He.SaysD fa fn K) : PySem.W.keepIn K (.ref (He.ma K (He.ga K "Field") "ratio")) = true := by
  obtain ⟨fd, F⟩ := S.def_ 10 (d := d_Field_ratio) rfl
  exact F.kp
theorem mk_Field_product_of (S : He.SaysD fa fn K) (len : ∀ vs H Q E, sp vs H Q E → vs.length = 3)
    (hb : ∀ (cdv : Value) (A : Around) (outer : List Env) (s : Shared) (H : Hp) (vs : List V) (Q : VK) (E : XK), A.guards = some [] → Room k (A.deeper (envOfC "Field.product_of" (defScope s_Field_product_of) s.heap.objs.size (He.ma K (He.ga K "Field") "product_of") cdv)) → sp vs H Q E →
      ∃ t, PSs (cxOf CX0 P w K mg base n_Field_product_of "Field.product_of" (defScope s_Field_product_of) (He.ma K (He.ga K "Field") "product_of") cdv A outer s H E).nox (defBody s_Field_product_of) t ∧ t { nx := fun _ H' => Q .non H', rt := Q } (start n_Field_product_of vs) H) : FnG P w K mg base CX0 (k + 1) (He.ma K (He.ga K "Field") "product_of") sp := by
  obtain ⟨fd, F⟩ := S.def_ 11 (d := d_Field_product_of) rfl
  exact ok0 F sc_Field_product_of (F.bindsA fun _ _ _ _ _ _ us hl => match us, hl with | [_, _, _], _ => rfl) len hb
theorem kp_Field_product_of (S : He.SaysD fa fn K) : PySem.W.keepIn K (.ref (He.ma K (He.ga K "Field") "product_of")) = true := by
  obtain ⟨fd, F⟩ := S.def_ 11 (d := d_Field_product_of) rfl
  exact F.kp
theorem mk_Field_sum_of (S : He.SaysD fa fn K) (len : ∀ vs H Q E, sp vs H Q E → vs.length = 3)
    (hb : ∀ (cdv : Value) (A : Around) (outer : List Env) (s : Shared) (H : Hp) (vs : List V) (Q : VK) (E : XK), A.guards = some [] → Room k (A.deeper (envOfC "Field.sum_of" (defScope s_Field_sum_of) s.heap.objs.size (He.ma K (He.ga K "Field") "sum_of") cdv)) → sp vs H Q E →
      ∃ t, PSs (cxOf CX0 P w K mg base n_Field_sum_of "Field.sum_of" (defScope s_Field_sum_of) (He.ma K (He.ga K "Field") "sum_of") cdv A outer s H E).nox (defBody s_Field_sum_of) t ∧ t { nx := fun _ H' => Q .non H', rt := Q } (start n_Field_sum_of vs) H) : FnG P w K mg base CX0 (k + 1) (He.ma K (He.ga K "Field") "sum_of") sp := by
  obtain ⟨fd, F⟩ := S.def_ 12 (d := d_Field_sum_of) rfl
  exact ok0 F sc_Field_sum_of (F.bindsA fun _ _ _ _ _ _ us hl => match us, hl with | [_, _, _], _ => rfl) len hb
theorem kp_Field_sum_of (S : He.SaysD fa fn K) : PySem.W.keepIn K (.ref (He.ma K (He.ga K "Field") "sum_of")) = true := by
  obtain ⟨fd, F⟩ := S.def_ 12 (d := d_Field_sum_of) rfl
  exact F.kp
theorem mk_Field_difference_of (S : He.SaysD fa fn K) (len : ∀ vs H Q E, sp vs H Q E → vs.length = 3)
    (hb : ∀ (cdv : Value) (A : Around) (outer : List Env) (s : Shared) (H : Hp) (vs : List V) (Q : VK) (E : XK), A.guards = some [] → Room k (A.deeper (envOfC "Field.difference_of" (defScope s_Field_difference_of) s.heap.objs.size (He.ma K (He.ga K "Field") "difference_of") cdv)) → sp vs H Q E →
      ∃ t, PSs (cxOf CX0 P w K mg base n_Field_difference_of "Field.difference_of" (defScope s_Field_difference_of) (He.ma K (He.ga K "Field") "difference_of") cdv A outer s H E).nox (defBody s_Field_difference_of) t ∧ t { nx := fun _ H' => Q .non H', rt := Q } (start n_Field_difference_of vs) H) : FnG P w K mg base CX0 (k + 1) (He.ma K (He.ga K "Field") "difference_of") sp := by
  obtain ⟨fd, F⟩ := S.def_ 13 (d := d_Field_difference_of) rfl
  exact ok0 F sc_Field_difference_of (F.bindsA fun _ _ _ _ _ _ us hl => match us, hl with | [_, _, _], _ => rfl) len hb
theorem kp_Field_difference_of (S : He.SaysD fa fn K) : PySem.W.keepIn K (.ref (He.ma K (He.ga K "Field") "difference_of")) = true := by
  obtain ⟨fd, F⟩ := S.def_ 13 (d := d_Field_difference_of) rfl
  exact F.kp
theorem mk_Field_quotient_of (S : He.SaysD fa fn K) (len : ∀ vs H Q E, sp vs H Q E → vs.length = 3)
    (hb : ∀ (cdv : Value) (A : Around) (outer : List Env) (s : Shared) (H : Hp) (vs : List V) (Q : VK) (E : XK), A.guards = some [] → Room k (A.deeper (envOfC "Field.quotient_of" (defScope s_Field_quotient_of) s.heap.objs.size (He.ma K (He.ga K "Field") "quotient_of") cdv)) → sp vs H Q E →
      ∃ t, PSs (cxOf CX0 P w K mg base n_Field_quotient_of "Field.quotient_of" (defScope s_Field_quotient_of) (He.ma K (He.ga K "Field") "quotient_of") cdv A outer s H E).nox (defBody s_Field_quotient_of) t ∧ t { nx := fun _ H' => Q .non H', rt := Q } (start n_Field_quotient_of vs) H) : FnG P w K mg base CX0 (k + 1) (He.ma K (He.ga K "Field") "quotient_of") sp := by
  obtain ⟨fd, F⟩ := S.def_ 14 (d := d_Field_quotient_of) rfl
  exact ok0 F sc_Field_quotient_of (F.bindsA fun _ _ _ _ _ _ us hl => match us, hl with | [_, _, _], _ => rfl) len hb
theorem kp_Field_quotient_of (S : He.SaysD fa fn K) : PySem.W.keepIn K (.ref (He.ma K (He.ga K "Field") "quotient_of")) = true := by
  obtain ⟨fd, F⟩ := S.def_ 14 (d := d_Field_quotient_of) rfl
  exact F.kp
theorem mk_Field_common (S : He.SaysD fa fn K) (len : ∀ vs H Q E, sp vs H Q E → vs.length = 2)
    (hb : ∀ (cdv : Value) (A : Around) (outer : List Env) (s : Shared) (H : Hp) (vs : List V) (Q : VK) (E : XK), A.guards = some [] → Room k (A.deeper (envOfC "Field.common" (defScope s_Field_common) s.heap.objs.size (He.ma K (He.ga K "Field") "common") cdv)) → sp vs H Q E →
      ∃ t, PSs (cxOf CX0 P w K mg base n_Field_common "Field.common" (defScope s_Field_common) (He.ma K (He.ga K "Field") "common") cdv A outer s H E).nox (defBody s_Field_common) t ∧ t { nx := fun _ H' => Q .non H', rt := Q } (start n_Field_common vs) H) : FnG P w K mg base CX0 (k + 1) (He.ma K (He.ga K "Field") "common") sp := by
  obtain ⟨fd, F⟩ := S.def_ 15 (d := d_Field_common) rfl
  exact ok0 F sc_Field_common (F.bindsA fun _ _ _ _ _ _ us hl => match us, hl with | [_, _], _ => rfl) len hb
theorem kp_Field_common (S : He.SaysD fa fn K) : PySem.W.keepIn K (.ref (He.ma K (He.ga K "Field") "common")) = true := by
  obtain ⟨fd, F⟩ := S.def_ 15 (d := d_Field_common) rfl
  exact F.kp
theorem mk_Field__check (S : He.SaysD fa fn K) (len : ∀ vs H Q E, sp vs H Q E → vs.length = 2)
    (hb : ∀ (cdv : Value) (A : Around) (outer : List Env) (s : Shared) (H : Hp) (vs : List V) (Q : VK) (E : XK), A.guards = some [] → Room k (A.deeper (envOfC "Field._check" (defScope s_Field__check) s.heap.objs.size (He.ma K (He.ga K "Field") "_check") cdv)) → sp vs H Q E →
      ∃ t, PSs (cxOf CX0 P w K mg base n_Field__check "Field._check" (defScope s_Field__check) (He.ma K (He.ga K "Field") "_check") cdv A outer s H E).nox (defBody s_Field__check) t ∧ t { nx := fun _ H' => Q .non H', rt := Q } (start n_Field__check vs) H) : FnG P w K mg base CX0 (k + 1) (He.ma K (He.ga K "Field") "_check") sp := by
  obtain ⟨fd, F⟩ := S.def_ 16 (d := d_Field__check) rfl
  exact ok0 F sc_Field__check (F.bindsA fun _ _ _ _ _ _ us hl => match us, hl with | [_, _], _ => rfl) len hb
theorem kp_Field__check (S : He.SaysD fa fn K) : PySem.W.keepIn K (.ref (He.ma K (He.ga K "Field") "_check")) = true := by
  obtain ⟨fd, F⟩ := S.def_ 16 (d := d_Field__check) rfl
  exact F.kp
theorem mk_Fractions___init__ (S : He.SaysD fa fn K) (len : ∀ vs H Q E, sp vs H Q E → vs.length = 1)
    (hb : ∀ (cdv : Value) (A : Around) (outer : List Env) (s : Shared) (H : Hp) (vs : List V) (Q : VK) (E : XK), A.guards = some [] → Room k (A.deeper (envOfC "Fractions.__init__" (defScope s_Fractions___init__) s.heap.objs.size (He.ma K (He.ga K "Fractions") "__init__") cdv)) → sp vs H Q E →
      ∃ t, PSs (cxOf CX0 P w K mg base n_Fractions___init__ "Fractions.__init__" (defScope s_Fractions___init__) (He.ma K (He.ga K "Fractions") "__init__") cdv A outer s H E).nox (defBody s_Fractions___init__) t ∧ t { nx := fun _ H' => Q .non H', rt := Q } (start n_Fractions___init__ vs) H) : FnG P w K mg base CX0 (k + 1) (He.ma K (He.ga K "Fractions") "__init__") sp := by
  obtain ⟨fd, F⟩ := S.def_ 17 (d := d_Fractions___init__) rfl
  exact ok0 F sc_Fractions___init__ (F.bindsA fun _ _ _ _ _ _ us hl => match us, hl with | [_], _ => rfl) len hb
theorem kp_Fractions___init__ (S : He.SaysD fa fn K) : PySem.W.keepIn K (.ref (He.ma K (He.ga K "Fractions") "__init__")) = true := by
  obtain ⟨fd, F⟩ := S.def_ 17 (d := d_Fractions___init__) rfl
  exact F.kp
theorem mk_is_fraction (S : He.SaysD fa fn K) (len : ∀ vs H Q E, sp vs H Q E → vs.length = 1)
    (hb : ∀ (cdv : Value) (A : Around) (outer : List Env) (s : Shared) (H : Hp) (vs : List V) (Q : VK) (E : XK), A.guards = some [] → Room k (A.deeper (envOfC "is_fraction" (defScope s_is_fraction) s.heap.objs.size (He.ga K "is_fraction") cdv)) → sp vs H Q E →
      ∃ t, PSs (cxOf CX0 P w K mg base n_is_fraction "is_fraction" (defScope s_is_fraction) (He.ga K "is_fraction") cdv A outer s H E).nox (defBody s_is_fraction) t ∧ t { nx := fun _ H' => Q .non H', rt := Q } (start n_is_fraction vs) H) : FnG P w K mg base CX0 (k + 1) (He.ga K "is_fraction") sp := by
  obtain ⟨fd, F⟩ := S.def_ 18 (d := d_is_fraction) rfl
  exact ok0 F sc_is_fraction (F.bindsA fun _ _ _ _ _ _ us hl => match us, hl with | [_], _ => rfl) len hb
theorem kp_is_fraction (S : He.SaysD fa fn K) : PySem.W.keepIn K (.ref (He.ga K "is_fraction")) = true := by
  obtain ⟨fd, F⟩ := S.def_ 18 (d := d_is_fraction) rfl
  exact F.kp
theorem mk_is_longer (S : He.SaysD fa fn K) (len : ∀ vs H Q E, sp vs H Q E → vs.length = 2)
    (hb : ∀ (cdv : Value) (A : Around) (outer : List Env) (s : Shared) (H : Hp) (vs : List V) (Q : VK) (E : XK), A.guards = some [] → Room k (A.deeper (envOfC "is_longer" (defScope s_is_longer) s.heap.objs.size (He.ga K "is_longer") cdv)) → sp vs H Q E →
      ∃ t, PSs (cxOf CX0 P w K mg base n_is_longer "is_longer" (defScope s_is_longer) (He.ga K "is_longer") cdv A outer s H E).nox (defBody s_is_longer) t ∧ t { nx := fun _ H' => Q .non H', rt := Q } (start n_is_longer vs) H) : FnG P w K mg base CX0 (k + 1) (He.ga K "is_longer") sp := by
  obtain ⟨fd, F⟩ := S.def_ 19 (d := d_is_longer) rfl
  exact ok0 F sc_is_longer (F.bindsA fun _ _ _ _ _ _ us hl => match us, hl with | [_, _], _ => rfl) len hb
theorem kp_is_longer (S : He.SaysD fa fn K) : PySem.W.keepIn K (.ref (He.ga K "is_longer")) = true := by
  obtain ⟨fd, F⟩ := S.def_ 19 (d := d_is_longer) rfl
  exact F.kp
theorem mk_parts (S : He.SaysD fa fn K) (len : ∀ vs H Q E, sp vs H Q E → vs.length = 1)
    (hb : ∀ (cdv : Value) (A : Around) (outer : List Env) (s : Shared) (H : Hp) (vs : List V) (Q : VK) (E : XK), A.guards = some [] → Room k (A.deeper (envOfC "parts" (defScope s_parts) s.heap.objs.size (He.ga K "parts") cdv)) → sp vs H Q E →
      ∃ t, PSs (cxOf CX0 P w K mg base n_parts "parts" (defScope s_parts) (He.ga K "parts") cdv A outer s H E).nox (defBody s_parts) t ∧ t { nx := fun _ H' => Q .non H', rt := Q } (start n_parts vs) H) : FnG P w K mg base CX0 (k + 1) (He.ga K "parts") sp := by
  obtain ⟨fd, F⟩ := S.def_ 20 (d := d_parts) rfl
  exact ok0 F sc_parts (F.bindsA fun _ _ _ _ _ _ us hl => match us, hl with | [_], _ => rfl) len hb
theorem kp_parts (S : He.SaysD fa fn K) : PySem.W.keepIn K (.ref (He.ga K "parts")) = true := by
  obtain ⟨fd, F⟩ := S.def_ 20 (d := d_parts) rfl
  exact F.kp
theorem mk_shortened (S : He.SaysD fa fn K) (len : ∀ vs H Q E, sp vs H Q E → vs.length = 2)
    (hb : ∀ (cdv : Value) (A : Around) (outer : List Env) (s : Shared) (H : Hp) (vs : List V) (Q : VK) (E : XK), A.guards = some [] → Room k (A.deeper (envOfC "shortened" (defScope s_shortened) s.heap.objs.size (He.ga K "shortened") cdv)) → sp vs H Q E →
      ∃ t, PSs (cxOf CX0 P w K mg base n_shortened "shortened" (defScope s_shortened) (He.ga K "shortened") cdv A outer s H E).nox (defBody s_shortened) t ∧ t { nx := fun _ H' => Q .non H', rt := Q } (start n_shortened vs) H) : FnG P w K mg base CX0 (k + 1) (He.ga K "shortened") sp := by
  obtain ⟨fd, F⟩ := S.def_ 21 (d := d_shortened) rfl
  exact ok0 F sc_shortened (F.bindsA fun _ _ _ _ _ _ us hl => match us, hl with | [_, _], _ => rfl) len hb
theorem kp_shortened (S : He.SaysD fa fn K) : PySem.W.keepIn K (.ref (He.ga K "shortened")) = true := by
  obtain ⟨fd, F⟩ := S.def_ 21 (d := d_shortened) rfl
  exact F.kp
theorem mk__law_pen (S : He.SaysD fa fn K) (len : ∀ vs H Q E, sp vs H Q E → vs.length = 1)
    (hb : ∀ (cdv : Value) (A : Around) (outer : List Env) (s : Shared) (H : Hp) (vs : List V) (Q : VK) (E : XK), A.guards = some [] → Room k (A.deeper (envOfC "_law_pen" (defScope s__law_pen) s.heap.objs.size (He.ga K "_law_pen") cdv)) → sp vs H Q E →
      ∃ t, PSs (cxOf CX0 P w K mg base n__law_pen "_law_pen" (defScope s__law_pen) (He.ga K "_law_pen") cdv A outer s H E).nox (defBody s__law_pen) t ∧ t { nx := fun _ H' => Q .non H', rt := Q } (start n__law_pen vs) H) : FnG P w K mg base CX0 (k + 1) (He.ga K "_law_pen") sp := by
  obtain ⟨fd, F⟩ := S.def_ 22 (d := d__law_pen) rfl
  exact ok0 F sc__law_pen (F.bindsA fun _ _ _ _ _ _ us hl => match us, hl with | [_], _ => rfl) len hb
theorem kp__law_pen (S : He.SaysD fa fn K) : PySem.W.keepIn K (.ref (He.ga K "_law_pen")) = true := by
  obtain ⟨fd, F⟩ := S.def_ 22 (d := d__law_pen) rfl
  exact F.kp
theorem mk__law_draw (S : He.SaysD fa fn K) (len : ∀ vs H Q E, sp vs H Q E → vs.length = 2)
    (hb : ∀ (cdv : Value) (A : Around) (outer : List Env) (s : Shared) (H : Hp) (vs : List V) (Q : VK) (E : XK), A.guards = some [] → Room k (A.deeper (envOfC "_law_draw" (defScope s__law_draw) s.heap.objs.size (He.ga K "_law_draw") cdv)) → sp vs H Q E →
      ∃ t, PSs (cxOf CX0 P w K mg base n__law_draw "_law_draw" (defScope s__law_draw) (He.ga K "_law_draw") cdv A outer s H E).nox (defBody s__law_draw) t ∧ t { nx := fun _ H' => Q .non H', rt := Q } (start n__law_draw vs) H) : FnG P w K mg base CX0 (k + 1) (He.ga K "_law_draw") sp := by
  obtain ⟨fd, F⟩ := S.def_ 23 (d := d__law_draw) rfl
  exact ok0 F sc__law_draw (F.bindsA fun _ _ _ _ _ _ us hl => match us, hl with | [_, _], _ => rfl) len hb
theorem kp__law_draw (S : He.SaysD fa fn K) : PySem.W.keepIn K (.ref (He.ga K "_law_draw")) = true := by
  obtain ⟨fd, F⟩ := S.def_ 23 (d := d__law_draw) rfl
  exact F.kp
theorem mk__law_pick (S : He.SaysD fa fn K) (len : ∀ vs H Q E, sp vs H Q E → vs.length = 2)
    (hb : ∀ (cdv : Value) (A : Around) (outer : List Env) (s : Shared) (H : Hp) (vs : List V) (Q : VK) (E : XK), A.guards = some [] → Room k (A.deeper (envOfC "_law_pick" (defScope s__law_pick) s.heap.objs.size (He.ga K "_law_pick") cdv)) → sp vs H Q E →
      ∃ t, PSs (cxOf CX0 P w K mg base n__law_pick "_law_pick" (defScope s__law_pick) (He.ga K "_law_pick") cdv A outer s H E).nox (defBody s__law_pick) t ∧ t { nx := fun _ H' => Q .non H', rt := Q } (start n__law_pick vs) H) : FnG P w K mg base CX0 (k + 1) (He.ga K "_law_pick") sp := by
  obtain ⟨fd, F⟩ := S.def_ 24 (d := d__law_pick) rfl
  exact ok0 F sc__law_pick (F.bindsA fun _ _ _ _ _ _ us hl => match us, hl with | [_, _], _ => rfl) len hb
theorem kp__law_pick (S : He.SaysD fa fn K) : PySem.W.keepIn K (.ref (He.ga K "_law_pick")) = true := by
  obtain ⟨fd, F⟩ := S.def_ 24 (d := d__law_pick) rfl
  exact F.kp
theorem mk__law_far (S : He.SaysD fa fn K) (len : ∀ vs H Q E, sp vs H Q E → vs.length = 1)
    (hb : ∀ (cdv : Value) (A : Around) (outer : List Env) (s : Shared) (H : Hp) (vs : List V) (Q : VK) (E : XK), A.guards = some [] → Room k (A.deeper (envOfC "_law_far" (defScope s__law_far) s.heap.objs.size (He.ga K "_law_far") cdv)) → sp vs H Q E →
      ∃ t, PSs (cxOf CX0 P w K mg base n__law_far "_law_far" (defScope s__law_far) (He.ga K "_law_far") cdv A outer s H E).nox (defBody s__law_far) t ∧ t { nx := fun _ H' => Q .non H', rt := Q } (start n__law_far vs) H) : FnG P w K mg base CX0 (k + 1) (He.ga K "_law_far") sp := by
  obtain ⟨fd, F⟩ := S.def_ 25 (d := d__law_far) rfl
  exact ok0 F sc__law_far (F.bindsA fun _ _ _ _ _ _ us hl => match us, hl with | [_], _ => rfl) len hb
theorem kp__law_far (S : He.SaysD fa fn K) : PySem.W.keepIn K (.ref (He.ga K "_law_far")) = true := by
  obtain ⟨fd, F⟩ := S.def_ 25 (d := d__law_far) rfl
  exact F.kp
theorem mk__law_tens (S : He.SaysD fa fn K) (len : ∀ vs H Q E, sp vs H Q E → vs.length = 1)
    (hb : ∀ (cdv : Value) (A : Around) (outer : List Env) (s : Shared) (H : Hp) (vs : List V) (Q : VK) (E : XK), A.guards = some [] → Room k (A.deeper (envOfC "_law_tens" (defScope s__law_tens) s.heap.objs.size (He.ga K "_law_tens") cdv)) → sp vs H Q E →
      ∃ t, PSs (cxOf CX0 P w K mg base n__law_tens "_law_tens" (defScope s__law_tens) (He.ga K "_law_tens") cdv A outer s H E).nox (defBody s__law_tens) t ∧ t { nx := fun _ H' => Q .non H', rt := Q } (start n__law_tens vs) H) : FnG P w K mg base CX0 (k + 1) (He.ga K "_law_tens") sp := by
  obtain ⟨fd, F⟩ := S.def_ 26 (d := d__law_tens) rfl
  exact ok0 F sc__law_tens (F.bindsA fun _ _ _ _ _ _ us hl => match us, hl with | [_], _ => rfl) len hb
theorem kp__law_tens (S : He.SaysD fa fn K) : PySem.W.keepIn K (.ref (He.ga K "_law_tens")) = true := by
  obtain ⟨fd, F⟩ := S.def_ 26 (d := d__law_tens) rfl
  exact F.kp
theorem mk__law_signed (S : He.SaysD fa fn K) (len : ∀ vs H Q E, sp vs H Q E → vs.length = 2)
    (hb : ∀ (cdv : Value) (A : Around) (outer : List Env) (s : Shared) (H : Hp) (vs : List V) (Q : VK) (E : XK), A.guards = some [] → Room k (A.deeper (envOfC "_law_signed" (defScope s__law_signed) s.heap.objs.size (He.ga K "_law_signed") cdv)) → sp vs H Q E →
      ∃ t, PSs (cxOf CX0 P w K mg base n__law_signed "_law_signed" (defScope s__law_signed) (He.ga K "_law_signed") cdv A outer s H E).nox (defBody s__law_signed) t ∧ t { nx := fun _ H' => Q .non H', rt := Q } (start n__law_signed vs) H) : FnG P w K mg base CX0 (k + 1) (He.ga K "_law_signed") sp := by
  obtain ⟨fd, F⟩ := S.def_ 27 (d := d__law_signed) rfl
  exact ok0 F sc__law_signed (F.bindsA fun _ _ _ _ _ _ us hl => match us, hl with | [_, _], _ => rfl) len hb
theorem kp__law_signed (S : He.SaysD fa fn K) : PySem.W.keepIn K (.ref (He.ga K "_law_signed")) = true := by
  obtain ⟨fd, F⟩ := S.def_ 27 (d := d__law_signed) rfl
  exact F.kp
theorem mk__law_gcd (S : He.SaysD fa fn K) (len : ∀ vs H Q E, sp vs H Q E → vs.length = 2)
    (hb : ∀ (cdv : Value) (A : Around) (outer : List Env) (s : Shared) (H : Hp) (vs : List V) (Q : VK) (E : XK), A.guards = some [] → Room k (A.deeper (envOfC "_law_gcd" (defScope s__law_gcd) s.heap.objs.size (He.ga K "_law_gcd") cdv)) → sp vs H Q E →
      ∃ t, PSs (cxOf CX0 P w K mg base n__law_gcd "_law_gcd" (defScope s__law_gcd) (He.ga K "_law_gcd") cdv A outer s H E).nox (defBody s__law_gcd) t ∧ t { nx := fun _ H' => Q .non H', rt := Q } (start n__law_gcd vs) H) : FnG P w K mg base CX0 (k + 1) (He.ga K "_law_gcd") sp := by
  obtain ⟨fd, F⟩ := S.def_ 28 (d := d__law_gcd) rfl
  exact ok0 F sc__law_gcd (F.bindsA fun _ _ _ _ _ _ us hl => match us, hl with | [_, _], _ => rfl) len hb
theorem kp__law_gcd (S : He.SaysD fa fn K) : PySem.W.keepIn K (.ref (He.ga K "_law_gcd")) = true := by
  obtain ⟨fd, F⟩ := S.def_ 28 (d := d__law_gcd) rfl
  exact F.kp
theorem mk__law_told (S : He.SaysD fa fn K) (len : ∀ vs H Q E, sp vs H Q E → vs.length = 2)
    (hb : ∀ (cdv : Value) (A : Around) (outer : List Env) (s : Shared) (H : Hp) (vs : List V) (Q : VK) (E : XK), A.guards = some [] → Room k (A.deeper (envOfC "_law_told" (defScope s__law_told) s.heap.objs.size (He.ga K "_law_told") cdv)) → sp vs H Q E →
      ∃ t, PSs (cxOf CX0 P w K mg base n__law_told "_law_told" (defScope s__law_told) (He.ga K "_law_told") cdv A outer s H E).nox (defBody s__law_told) t ∧ t { nx := fun _ H' => Q .non H', rt := Q } (start n__law_told vs) H) : FnG P w K mg base CX0 (k + 1) (He.ga K "_law_told") sp := by
  obtain ⟨fd, F⟩ := S.def_ 29 (d := d__law_told) rfl
  exact ok0 F sc__law_told (F.bindsA fun _ _ _ _ _ _ us hl => match us, hl with | [_, _], _ => rfl) len hb
theorem kp__law_told (S : He.SaysD fa fn K) : PySem.W.keepIn K (.ref (He.ga K "_law_told")) = true := by
  obtain ⟨fd, F⟩ := S.def_ 29 (d := d__law_told) rfl
  exact F.kp
theorem mk__law_two (S : He.SaysD fa fn K) (len : ∀ vs H Q E, sp vs H Q E → vs.length = 1)
    (hb : ∀ (cdv : Value) (A : Around) (outer : List Env) (s : Shared) (H : Hp) (vs : List V) (Q : VK) (E : XK), A.guards = some [] → Room k (A.deeper (envOfC "_law_two" (defScope s__law_two) s.heap.objs.size (He.ga K "_law_two") cdv)) → sp vs H Q E →
      ∃ t, PSs (cxOf CX0 P w K mg base n__law_two "_law_two" (defScope s__law_two) (He.ga K "_law_two") cdv A outer s H E).nox (defBody s__law_two) t ∧ t { nx := fun _ H' => Q .non H', rt := Q } (start n__law_two vs) H) : FnG P w K mg base CX0 (k + 1) (He.ga K "_law_two") sp := by
  obtain ⟨fd, F⟩ := S.def_ 30 (d := d__law_two) rfl
  exact ok0 F sc__law_two (F.bindsA fun _ _ _ _ _ _ us hl => match us, hl with | [_], _ => rfl) len hb
theorem kp__law_two (S : He.SaysD fa fn K) : PySem.W.keepIn K (.ref (He.ga K "_law_two")) = true := by
  obtain ⟨fd, F⟩ := S.def_ 30 (d := d__law_two) rfl
  exact F.kp
theorem mk__law_any_number (S : He.SaysD fa fn K) (len : ∀ vs H Q E, sp vs H Q E → vs.length = 3)
    (hb : ∀ (cdv : Value) (A : Around) (outer : List Env) (s : Shared) (H : Hp) (vs : List V) (Q : VK) (E : XK), A.guards = some [] → Room k (A.deeper (envOfC "_law_any_number" (defScope s__law_any_number) s.heap.objs.size (He.ga K "_law_any_number") cdv)) → sp vs H Q E →
      ∃ t, PSs (cxOf CX0 P w K mg base n__law_any_number "_law_any_number" (defScope s__law_any_number) (He.ga K "_law_any_number") cdv A outer s H E).nox (defBody s__law_any_number) t ∧ t { nx := fun _ H' => Q .non H', rt := Q } (start n__law_any_number vs) H) : FnG P w K mg base CX0 (k + 1) (He.ga K "_law_any_number") sp := by
  obtain ⟨fd, F⟩ := S.def_ 31 (d := d__law_any_number) rfl
  exact ok0 F sc__law_any_number (F.bindsA fun _ _ _ _ _ _ us hl => match us, hl with | [_, _, _], _ => rfl) len hb
theorem kp__law_any_number (S : He.SaysD fa fn K) : PySem.W.keepIn K (.ref (He.ga K "_law_any_number")) = true := by
  obtain ⟨fd, F⟩ := S.def_ 31 (d := d__law_any_number) rfl
  exact F.kp
theorem mk__law_plus (S : He.SaysD fa fn K) (len : ∀ vs H Q E, sp vs H Q E → vs.length = 3)
    (hb : ∀ (cdv : Value) (A : Around) (outer : List Env) (s : Shared) (H : Hp) (vs : List V) (Q : VK) (E : XK), A.guards = some [] → Room k (A.deeper (envOfC "_law_plus" (defScope s__law_plus) s.heap.objs.size (He.ga K "_law_plus") cdv)) → sp vs H Q E →
      ∃ t, PSs (cxOf CX0 P w K mg base n__law_plus "_law_plus" (defScope s__law_plus) (He.ga K "_law_plus") cdv A outer s H E).nox (defBody s__law_plus) t ∧ t { nx := fun _ H' => Q .non H', rt := Q } (start n__law_plus vs) H) : FnG P w K mg base CX0 (k + 1) (He.ga K "_law_plus") sp := by
  obtain ⟨fd, F⟩ := S.def_ 32 (d := d__law_plus) rfl
  exact ok0 F sc__law_plus (F.bindsA fun _ _ _ _ _ _ us hl => match us, hl with | [_, _, _], _ => rfl) len hb
theorem kp__law_plus (S : He.SaysD fa fn K) : PySem.W.keepIn K (.ref (He.ga K "_law_plus")) = true := by
  obtain ⟨fd, F⟩ := S.def_ 32 (d := d__law_plus) rfl
  exact F.kp
theorem mk__law_times (S : He.SaysD fa fn K) (len : ∀ vs H Q E, sp vs H Q E → vs.length = 3)
    (hb : ∀ (cdv : Value) (A : Around) (outer : List Env) (s : Shared) (H : Hp) (vs : List V) (Q : VK) (E : XK), A.guards = some [] → Room k (A.deeper (envOfC "_law_times" (defScope s__law_times) s.heap.objs.size (He.ga K "_law_times") cdv)) → sp vs H Q E →
      ∃ t, PSs (cxOf CX0 P w K mg base n__law_times "_law_times" (defScope s__law_times) (He.ga K "_law_times") cdv A outer s H E).nox (defBody s__law_times) t ∧ t { nx := fun _ H' => Q .non H', rt := Q } (start n__law_times vs) H) : FnG P w K mg base CX0 (k + 1) (He.ga K "_law_times") sp := by
  obtain ⟨fd, F⟩ := S.def_ 33 (d := d__law_times) rfl
  exact ok0 F sc__law_times (F.bindsA fun _ _ _ _ _ _ us hl => match us, hl with | [_, _, _], _ => rfl) len hb
theorem kp__law_times (S : He.SaysD fa fn K) : PySem.W.keepIn K (.ref (He.ga K "_law_times")) = true := by
  obtain ⟨fd, F⟩ := S.def_ 33 (d := d__law_times) rfl
  exact F.kp
theorem mk__law_over (S : He.SaysD fa fn K) (len : ∀ vs H Q E, sp vs H Q E → vs.length = 3)
    (hb : ∀ (cdv : Value) (A : Around) (outer : List Env) (s : Shared) (H : Hp) (vs : List V) (Q : VK) (E : XK), A.guards = some [] → Room k (A.deeper (envOfC "_law_over" (defScope s__law_over) s.heap.objs.size (He.ga K "_law_over") cdv)) → sp vs H Q E →
      ∃ t, PSs (cxOf CX0 P w K mg base n__law_over "_law_over" (defScope s__law_over) (He.ga K "_law_over") cdv A outer s H E).nox (defBody s__law_over) t ∧ t { nx := fun _ H' => Q .non H', rt := Q } (start n__law_over vs) H) : FnG P w K mg base CX0 (k + 1) (He.ga K "_law_over") sp := by
  obtain ⟨fd, F⟩ := S.def_ 34 (d := d__law_over) rfl
  exact ok0 F sc__law_over (F.bindsA fun _ _ _ _ _ _ us hl => match us, hl with | [_, _, _], _ => rfl) len hb
theorem kp__law_over (S : He.SaysD fa fn K) : PySem.W.keepIn K (.ref (He.ga K "_law_over")) = true := by
  obtain ⟨fd, F⟩ := S.def_ 34 (d := d__law_over) rfl
  exact F.kp
theorem mk__law_negative (S : He.SaysD fa fn K) (len : ∀ vs H Q E, sp vs H Q E → vs.length = 2)
    (hb : ∀ (cdv : Value) (A : Around) (outer : List Env) (s : Shared) (H : Hp) (vs : List V) (Q : VK) (E : XK), A.guards = some [] → Room k (A.deeper (envOfC "_law_negative" (defScope s__law_negative) s.heap.objs.size (He.ga K "_law_negative") cdv)) → sp vs H Q E →
      ∃ t, PSs (cxOf CX0 P w K mg base n__law_negative "_law_negative" (defScope s__law_negative) (He.ga K "_law_negative") cdv A outer s H E).nox (defBody s__law_negative) t ∧ t { nx := fun _ H' => Q .non H', rt := Q } (start n__law_negative vs) H) : FnG P w K mg base CX0 (k + 1) (He.ga K "_law_negative") sp := by
  obtain ⟨fd, F⟩ := S.def_ 35 (d := d__law_negative) rfl
  exact ok0 F sc__law_negative (F.bindsA fun _ _ _ _ _ _ us hl => match us, hl with | [_, _], _ => rfl) len hb
theorem kp__law_negative (S : He.SaysD fa fn K) : PySem.W.keepIn K (.ref (He.ga K "_law_negative")) = true := by
  obtain ⟨fd, F⟩ := S.def_ 35 (d := d__law_negative) rfl
  exact F.kp
theorem mk__law_quotient (S : He.SaysD fa fn K) (len : ∀ vs H Q E, sp vs H Q E → vs.length = 3)
    (hb : ∀ (cdv : Value) (A : Around) (outer : List Env) (s : Shared) (H : Hp) (vs : List V) (Q : VK) (E : XK), A.guards = some [] → Room k (A.deeper (envOfC "_law_quotient" (defScope s__law_quotient) s.heap.objs.size (He.ga K "_law_quotient") cdv)) → sp vs H Q E →
      ∃ t, PSs (cxOf CX0 P w K mg base n__law_quotient "_law_quotient" (defScope s__law_quotient) (He.ga K "_law_quotient") cdv A outer s H E).nox (defBody s__law_quotient) t ∧ t { nx := fun _ H' => Q .non H', rt := Q } (start n__law_quotient vs) H) : FnG P w K mg base CX0 (k + 1) (He.ga K "_law_quotient") sp := by
  obtain ⟨fd, F⟩ := S.def_ 36 (d := d__law_quotient) rfl
  exact ok0 F sc__law_quotient (F.bindsA fun _ _ _ _ _ _ us hl => match us, hl with | [_, _, _], _ => rfl) len hb
theorem kp__law_quotient (S : He.SaysD fa fn K) : PySem.W.keepIn K (.ref (He.ga K "_law_quotient")) = true := by
  obtain ⟨fd, F⟩ := S.def_ 36 (d := d__law_quotient) rfl
  exact F.kp
theorem mk_law (S : He.SaysD fa fn K) (len : ∀ vs H Q E, sp vs H Q E → vs.length = 1)
    (hb : ∀ (cdv : Value) (A : Around) (outer : List Env) (s : Shared) (H : Hp) (vs : List V) (Q : VK) (E : XK), A.guards = some [] → Room k (A.deeper (envOfC "law" (defScope s_law) s.heap.objs.size (He.ga K "law") cdv)) → sp vs H Q E →
      ∃ t, PSs (cxOf CX0 P w K mg base n_law "law" (defScope s_law) (He.ga K "law") cdv A outer s H E).nox (defBody s_law) t ∧ t { nx := fun _ H' => Q .non H', rt := Q } (start n_law vs) H) : FnG P w K mg base CX0 (k + 1) (He.ga K "law") sp := by
  obtain ⟨fd, F⟩ := S.def_ 37 (d := d_law) rfl
  exact ok0 F sc_law (F.bindsA fun _ _ _ _ _ _ us hl => match us, hl with | [_], _ => rfl) len hb
theorem kp_law (S : He.SaysD fa fn K) : PySem.W.keepIn K (.ref (He.ga K "law")) = true := by
  obtain ⟨fd, F⟩ := S.def_ 37 (d := d_law) rfl
  exact F.kp
theorem mk_NoQuotient___init__ (S : He.SaysD fa fn K) (len : ∀ vs H Q E, sp vs H Q E → vs.length = 1)
    (hb : ∀ (cdv : Value) (A : Around) (outer : List Env) (s : Shared) (H : Hp) (vs : List V) (Q : VK) (E : XK), A.guards = some [] → Room k (A.deeper (envOfC "NoQuotient.__init__" (defScope s_NoQuotient___init__) s.heap.objs.size (He.ma K (He.ga K "NoQuotient") "__init__") cdv)) → sp vs H Q E →
      ∃ t, PSs (cxOf CX0 P w K mg base n_NoQuotient___init__ "NoQuotient.__init__" (defScope s_NoQuotient___init__) (He.ma K (He.ga K "NoQuotient") "__init__") cdv A outer s H E).nox (defBody s_NoQuotient___init__) t ∧ t { nx := fun _ H' => Q .non H', rt := Q } (start n_NoQuotient___init__ vs) H) : FnG P w K mg base CX0 (k + 1) (He.ma K (He.ga K "NoQuotient") "__init__") sp := by
  obtain ⟨fd, F⟩ := S.def_ 38 (d := d_NoQuotient___init__) rfl
  exact ok0 F sc_NoQuotient___init__ (F.bindsA fun _ _ _ _ _ _ us hl => match us, hl with | [_], _ => rfl) len hb
theorem kp_NoQuotient___init__ (S : He.SaysD fa fn K) : PySem.W.keepIn K (.ref (He.ma K (He.ga K "NoQuotient") "__init__")) = true := by
  obtain ⟨fd, F⟩ := S.def_ 38 (d := d_NoQuotient___init__) rfl
  exact F.kp
end
end K03

/-! The mathematics of the fractions: the reduced pair, common bottoms. -/
namespace Num
open Rat
theorem den_pos' (q : Rat) : (0 : Int) < (q.den : Int) := Int.natCast_pos.mpr q.den_pos
/-- the divisor with the sign of the bottom -/
def dvs (t b : Int) : Int := if b < 0 then -((Nat.gcd t.natAbs b.natAbs : Nat) : Int) else ((Nat.gcd t.natAbs b.natAbs : Nat) : Int)
theorem dvs_ex {t b : Int} (hb : b ≠ 0) : ∃ (t' b' : Int), t = dvs t b * t' ∧ b = dvs t b * b' ∧ dvs t b ≠ 0 ∧ 0 < b' ∧ (t /. b).num = t' ∧ ((t /. b).den : Int) = b' := by
  have gpos : 0 < Nat.gcd t.natAbs b.natAbs := Nat.gcd_pos_of_pos_right _ (Int.natAbs_pos.mpr hb)
  have gt : ((Nat.gcd t.natAbs b.natAbs : Nat) : Int) ∣ t := Int.natAbs_dvd_natAbs.mp (Nat.gcd_dvd_left _ _)
  have gb : ((Nat.gcd t.natAbs b.natAbs : Nat) : Int) ∣ b := Int.natAbs_dvd_natAbs.mp (Nat.gcd_dvd_right _ _)
  have hn := Rat.num_divInt t b
  have hd := Rat.den_divInt t b
  have eg : Int.gcd b t = Nat.gcd t.natAbs b.natAbs := Nat.gcd_comm _ _
  rw [eg] at hn hd
  rw [if_neg hb] at hd
  unfold dvs
  generalize Nat.gcd t.natAbs b.natAbs = g at *
  obtain ⟨x, ex⟩ := gt
  obtain ⟨y, ey⟩ := gb
  have g0 : (0 : Int) < (g : Int) := Int.natCast_pos.mpr gpos
  by_cases h : b < 0
  · rw [if_pos h]
    have sg : b.sign = -1 := Int.sign_eq_neg_one_of_neg h
    have y0 : y < 0 := by
      by_cases c : y < 0
      · exact c
      · have := Int.mul_nonneg (Int.le_of_lt g0) (Int.not_lt.mp c)
        omega
    refine ⟨-x, -y, by rw [Int.neg_mul_neg]; exact ex, by rw [Int.neg_mul_neg]; exact ey, by omega, by omega, ?_, ?_⟩
    · rw [hn, sg, ex, ← Int.mul_assoc, Int.mul_comm (-1), Int.mul_assoc, Int.mul_ediv_cancel_left _ (by omega)]
      omega
    · rw [hd, Int.natCast_ediv, ey]
      have : (((g : Int) * y).natAbs : Int) = (g : Int) * (-y) := by
        rw [Int.mul_neg]
        have : (g : Int) * y < 0 := by rw [← ey]; exact h
        omega
      rw [this, Int.mul_ediv_cancel_left _ (by omega)]
  · rw [if_neg h]
    have bp : 0 < b := by omega
    have sg : b.sign = 1 := Int.sign_eq_one_of_pos bp
    have y0 : 0 < y := by
      by_cases c : 0 < y
      · exact c
      · have := Int.mul_nonpos_of_nonneg_of_nonpos (Int.le_of_lt g0) (Int.not_lt.mp c)
        omega
    refine ⟨x, y, ex, ey, by omega, y0, ?_, ?_⟩
    · rw [hn, sg, Int.one_mul, ex, Int.mul_ediv_cancel_left _ (by omega)]
    · rw [hd, Int.natCast_ediv, ey]
      have : (((g : Int) * y).natAbs : Int) = (g : Int) * y := by
        have : 0 < (g : Int) * y := by rw [← ey]; exact bp
        omega
      rw [this, Int.mul_ediv_cancel_left _ (by omega)]
theorem dvs_out {t b : Int} (hb : b ≠ 0) : dvs t b ≠ 0 ∧ t.fdiv (dvs t b) = (t /. b).num ∧ b.fdiv (dvs t b) = ((t /. b).den : Int) ∧ (b = dvs t b ↔ (t /. b).den = 1) ∧ (t /. b).num.natAbs ≤ t.natAbs ∧ (t /. b).den ≤ b.natAbs := by
  obtain ⟨t', b', h1, h2, h3, h4, h5, h6⟩ := dvs_ex (t := t) hb
  generalize dvs t b = d at *
  have hd1 : 1 ≤ d.natAbs := by omega
  refine ⟨h3, ?_, ?_, ⟨fun h => ?_, fun h => ?_⟩, ?_, ?_⟩
  · rw [h5]
    conv => lhs; rw [h1]
    exact Int.mul_fdiv_cancel_left _ h3
  · rw [h6]
    conv => lhs; rw [h2]
    exact Int.mul_fdiv_cancel_left _ h3
  · have e : d * b' = d * 1 := by rw [← h2, Int.mul_one]; exact h
    have := Int.eq_of_mul_eq_mul_left h3 e
    omega
  · have e : b' = 1 := by omega
    rw [e, Int.mul_one] at h2
    exact h2
  · rw [h5]
    conv => rhs; rw [h1, Int.natAbs_mul]
    exact Nat.le_mul_of_pos_left _ hd1
  · have e : (t /. b).den = b'.natAbs := by omega
    rw [e]
    conv => rhs; rw [h2, Int.natAbs_mul]
    exact Nat.le_mul_of_pos_left _ hd1
theorem gcd_low (q : Rat) : Nat.gcd q.num.natAbs (q.den : Int).natAbs = 1 := q.reduced
theorem dvs_one (t : Int) : (t /. 1).num = t ∧ (t /. 1).den = 1 := by
  obtain ⟨h1, h2, h3, h4, h5, h6⟩ := dvs_out (t := t) (b := 1) (by decide)
  have e : dvs t 1 = 1 := by
    unfold dvs
    rw [if_neg (by decide)]
    show ((Nat.gcd t.natAbs 1 : Nat) : Int) = 1
    rw [Nat.gcd_one_right]
    rfl
  rw [e, Int.fdiv_one] at h2
  exact ⟨h2.symm, h4.mp e.symm⟩
/-! ### the operations -/
theorem add_is (a b : Rat) : (a.num * b.den + b.num * a.den) /. ((a.den : Int) * b.den) = a + b := by
  rw [Rat.add_def', ← Rat.divInt_ofNat, Int.natCast_mul]
theorem sub_is (a b : Rat) : (a.num * b.den - b.num * a.den) /. ((a.den : Int) * b.den) = a - b := by
  rw [Rat.sub_def', ← Rat.divInt_ofNat, Int.natCast_mul]
theorem mul_is (a b : Rat) : (a.num * b.num) /. ((a.den : Int) * b.den) = a * b := by
  rw [Rat.mul_def', ← Rat.divInt_ofNat, Int.natCast_mul]
/-! ### a common bottom -/
theorem divInt_add_same (a b c : Int) (h : c ≠ 0) : (a + b) /. c = a /. c + b /. c := by
  rw [Rat.divInt_add_divInt _ _ h h, ← Int.add_mul, Rat.divInt_mul_right h]
theorem over_L {q : Rat} {L : Int} (hL : L ≠ 0) (h : (q.den : Int) ∣ L) : (q.num * (L / q.den)) /. L = q := by
  obtain ⟨x, ex⟩ := h
  have d0 := den_pos' q
  have x0 : x ≠ 0 := by
    intro z
    rw [z, Int.mul_zero] at ex
    exact hL ex
  have e : L / (q.den : Int) = x := by
    rw [ex]
    exact Int.mul_ediv_cancel_left _ (by omega)
  rw [e, ex, Rat.divInt_mul_right x0, Rat.num_divInt_den]
theorem sum_L {L : Int} (hL : L ≠ 0) : ∀ qs : List Rat, (∀ q ∈ qs, (q.den : Int) ∣ L) → (qs.map fun q => q.num * (L / q.den)).sum /. L = qs.sum
  | [], _ => by
    show (0 : Int) /. L = (0 : Rat)
    exact Rat.zero_divInt L
  | q :: qs, h => by
    rw [List.map_cons, List.sum_cons, List.sum_cons, divInt_add_same _ _ _ hL, over_L hL (h q List.mem_cons_self), sum_L hL qs fun x hx => h x (List.mem_cons_of_mem _ hx)]
/-! ### sizes -/
def Bq (n : Nat) (q : Rat) : Prop := q.num.natAbs < 2 ^ n ∧ q.den < 2 ^ n
theorem Bq.mono {m n : Nat} {q : Rat} (h : Bq m q) (hl : m ≤ n) : Bq n q := ⟨Nat.lt_of_lt_of_le h.1 (Nat.pow_le_pow_right (by decide) hl), Nat.lt_of_lt_of_le h.2 (Nat.pow_le_pow_right (by decide) hl)⟩
theorem bq_div {t b : Int} {n : Nat} (hb : b ≠ 0) (h1 : t.natAbs < 2 ^ n) (h2 : b.natAbs < 2 ^ n) : Bq n (t /. b) := by
  obtain ⟨_, _, _, _, h5, h6⟩ := dvs_out (t := t) hb
  exact ⟨Nat.lt_of_le_of_lt h5 h1, Nat.lt_of_le_of_lt h6 h2⟩
theorem add_lt {i j : Int} {n : Nat} (h1 : i.natAbs < 2 ^ n) (h2 : j.natAbs < 2 ^ n) : (i + j).natAbs < 2 ^ (n + 1) := by
  rw [Nat.pow_succ]
  omega
theorem sub_lt {i j : Int} {n : Nat} (h1 : i.natAbs < 2 ^ n) (h2 : j.natAbs < 2 ^ n) : (i - j).natAbs < 2 ^ (n + 1) := by
  rw [Nat.pow_succ]
  omega
end Num

/-! An own exception class directly over a built-in one, whose __init__ hands on to it and stores nothing. -/
namespace Ver
open PySem PySem.Spec PyProof.Rows L2
/-- what the written part tells of such a class -/
structure ExN (K : PySem.W.Frag) (C fI : Addr) (bmB : List Value) (newId : String) : Prop where
  q : PySem.W.excInitIn K C bmB newId = true
  iC : PySem.W.findIn K (.ref C) "__init__" = some (some (.ref fI))
  tI : PySem.W.typeIn K (.ref fI) = some (.type "function")
  exC : PySem.W.subIn K (.ref C) (.type "BaseException") = some true
  tyC : PySem.W.typeIn K (.ref C) = some (.type "type")
  kC : PySem.W.keepIn K (.ref C) = true
section
variable {X : Cx} {pins : List (Addr × Obj)} {σ : L2.St} {H : Hp} {s : Shared} {a C fI : Addr} {bmB : List Value} {B newId initId : String}
theorem binit_ok {A : Around} {E : Value → Shared → Prop} {us : List Value} {Q : Value → Shared → Prop} (F : ExcBaseFacts B newId initId bmB) (q : PySem.W.excInitIn X.K C bmB newId = true) (I : Inv X pins σ H s) (e : H a = some (exo a C none))
    (hl : us.length ≤ sizeLine) (h : ∀ s', Inv X pins σ H s' → Q .none s') : wpAny (model X.prog X.w) A (call (.builtin initId) (.ref a :: us)) Q E s := by
  obtain ⟨nm, N, qn, bs, bm, hd, sn, sub, ab, col, dd, k0, k1, k2, k3, k5, hC, hT⟩ := PySem.W.excInit_of I.kIn q
  obtain ⟨t1, ho⟩ := exo_at I.hok e
  obtain ⟨hp, g, d, t, os⟩ := s
  refine wpAny_call (PySem.HandSPX.init_base F hT hC ho hl fun h' t2 k hx => h _ ?_)
  have J := I.write (t' := t) (x := a) (e := a) (o := exo a C none) (by rw [e]; exact True.intro) (.inl rfl) k ⟨_, hx⟩ (exo_ok hx)
  have same : upd H a (exo a C none) = H := funext fun b => by
    by_cases z : b = a
    · rw [z, upd_same, e]
    · exact upd_ne z
  rwa [same] at J
variable {x : Str} {e : Expr} {es : List Expr} {ta : TA} {p p1 p2 pos : Pos}
/-- its reading: self is an exception that is being made, without a dict as yet -/
def tBi (K : PySem.W.Frag) (bmB : List Value) (newId : String) (ta : TA) : TE := fun σ H Q => ta σ H fun vs H1 => ∃ (a C : Addr) (ws : List V), vs = .ref a :: ws ∧ ws.length ≤ 1000 ∧ PySem.W.excInitIn K C bmB newId = true ∧ H1 a = some (exo a C none) ∧ Q .non H1
/-- B.__init__(self, ..), B a built-in class of errors -/
theorem pe_binit {pl : Sem Bool} (F : ExcBaseFacts B newId initId bmB) (hg : Gl X x) (hm : X.mg x = none) (hv : bootBuiltins x = some (.type B)) (hty : typeOf (.type B) = pure (.type "type")) (hst : Manifest.isStub B = false) (hh : PySem.W.handedIn (.builtin initId) = true)
    (hsp : PySem.W.findCls X.K (.type B) (.type "type") "__init__" = some (.val (.builtin initId))) (ha : PA X (e :: es) ta)
    (hc : eval (.Call (.Attribute (.Name x p1) "__init__" p2) (e :: es) [] pos) X.env = (do
      let ov ← eval (.Name x p1) X.env
      standAt p2.atName
      let (f, first) ← holding [ov] (getMethod ov "__init__" pl)
      callWith pos f first (backTo pos (starEach (e :: es) X.env)) (backToKw pos (keywordEach [] X.env))) := by rfl)
    (he : starEach (e :: es) X.env = (false, eval e X.env) :: starEach es X.env := by rfl) (hpl : (backTo pos (starEach es X.env)).any (·.1) = false := by rfl) (hn : x ≠ "__name__" := by decide) (hd : (x == ("__debug__" : Str)) = false := by decide) :
    PE X (.Call (.Attribute (.Name x p1) "__init__" p2) (e :: es) [] pos) (tBi X.K bmB newId ta) := by
  refine ⟨fun pins s σ H Q I h => PySem.W.methodCall_KW (ld_blt I hg hm hv ?_ hn hd) hc⟩
  obtain ⟨m, fr⟩ := I.fr
  refine PySem.W.method_type fr I.ok.mod.kin hty hst hsp hh ?_
  show wpAny _ _ (callWith pos (Value.builtin initId) [] (backTo pos (starEach (e :: es) X.env)) []) _ _ _
  refine PyProof.Rows.callWith_method1 (thn (ha.run pos pins _ σ H _ (I.tok _) h) fun us s1 z => ?_) he hpl
  obtain ⟨vs, H1, I1, r1, a, C, ws, rfl, hl, q, ea, qq⟩ := z
  match us, r1 with
  | u0 :: ur, .cons ra rw' =>
    cases (show u0 = Value.ref a from ra)
    exact binit_ok F q I1 ea (by rw [← Paired.length rw', sizeLine_eq]; omega) fun s' J => ⟨.non, H1, J, rfl, qq⟩
/-- the exception is let go: what stood ahead stands, and it is known no more -/
theorem let_go {H1 H2 : Hp} {hp hp2 h2 : Heap} {g1 g2 : Array GenState} {d1 d2 : Drawn} {t1 t2 : Nat} {os1 os2 : OsState} (I1 : Inv X pins σ H1 ⟨hp, g1, d1, t1, os1⟩) (ha : hp.objs.size ≤ a) (k : ∀ b o, hp.get? b = some o → hp2.get? b = some o)
    (un : Un (frs X.stack) [] (upd H1 a (exo a C none)) H2 hp2 h2) (hok : HOk X.prog X.w H2 h2) (ho : os2 = os1) (hb : AllBare g2) (ea : H2 a = some (exo a C none)) :
    ∃ (t0 : Addr) (G : Heap), Inv X pins σ (del H2 a) ⟨G, g2, d2, t2, os2⟩ ∧ (∀ b o, G.get? b = some o → h2.get? b = some o) ∧ G.get? a = none ∧
      h2.get? a = some ({ cls := .ref C, dict := none, data := .fields #[.ref t0, .none, .none, .none, .bool false, .none] } : Obj) := by
  obtain ⟨t0, hoe⟩ := exo_at hok ea
  have na : H1 a = none := I1.hok.fresh ha
  obtain ⟨G, in_, out⟩ := restrict h2 fun b => decide (b ≠ a)
  have gk : ∀ b, b ≠ a → G.get? b = h2.get? b := fun b hb => in_ b (decide_eq_true hb)
  have ge : G.get? a = none := out a (by simp)
  have old : ∀ {b : Addr} {o : Obj}, hp.get? b = some o → b ≠ a := fun z => Nat.ne_of_lt (Nat.lt_of_lt_of_le (Heap.lt_size z) ha)
  have up : ∀ {b : Addr}, b ≠ a → H1 b = none → upd H1 a (exo a C none) b = none := fun hb n => by rw [upd_ne hb]; exact n
  have U : Un (frs X.stack) [] H1 (del H2 a) hp G := {
    keep := fun b o z n hf hx => (gk b (old z)).trans (un.keep b o (k b o z) (up (old z) n) hf hx)
    slot := fun b o z n hf hx => by
      obtain ⟨sl, y⟩ := un.slot b o (k b o z) (up (old z) n) hf hx
      exact ⟨sl, (gk b (old z)).trans y⟩
    free := fun b o z n hx => (del_ne (old z)).trans (un.free b o (k b o z) (up (old z) n) hx)
    there := fun b o z hx => by
      obtain ⟨o', y⟩ := un.there b o (k b o z) hx
      exact ⟨o', (gk b (old z)).trans y⟩
    tups := fun b xs z => (del_ne (ne_of_none z na)).trans (un.tups b xs ((upd_ne (ne_of_none z na)).trans z))
    frzs := fun b o v z => (del_ne (ne_of_none z na)).trans (un.frzs b o v ((upd_ne (ne_of_none z na)).trans z))
    tbls := fun b ps z => by
      obtain ⟨more, y⟩ := un.tbls b ps ((upd_ne (ne_of_none z na)).trans z)
      exact ⟨more, (del_ne (ne_of_none z na)).trans y⟩ }
  have ok3 : HOk X.prog X.w (del H2 a) G := fun b o z => by
    have hba : b ≠ a := fun e => by
      rw [e, del_same] at z
      cases z
    rw [del_ne hba] at z
    have noa : ∀ {c : Addr}, H2 c = some (.own b) → c ≠ a := fun hc => at_ne ea hc exo_own
    refine (hok b o z).stay (fun c v hc y => (gk c ?_).trans y) (fun c hc => (del_ne (noa hc)).trans hc) fun c xs hc => (del_ne (at_ne ea hc exo_tup)).trans hc
    rcases hc with hc | hc
    · rw [hc]
      exact hba
    · exact noa hc
  refine ⟨t0, G, I1.call' (ch := []) ho U ok3 hb (fun b z => absurd z (by simp)), fun b o z => ?_, ge, hoe⟩
  by_cases e : b = a
  · rw [e, ge] at z
    cases z
  · exact (gk b e).symm.trans z
/-- the promise of an __init__ that stores nothing -/
def spInitN (C : Addr) : Sp := fun vs H Q _ => ∃ a : Addr, vs = [.ref a] ∧ H a = some (exo a C none) ∧ Q .non H
theorem pmk_n {CX : CXT} {k : Nat} (F : ExcBaseFacts B newId initId bmB) (T : ExN X.K C fI bmB newId) (F1 : FnG X.prog X.w X.K X.mg X.base CX k fI (spInitN C)) (hr : Room (k + 1) X.A) (hgd : X.A.guards = some []) (hx : Passes CX X (fun _ _ _ => False)) (hg : Gl X x) (hm : X.mg x = some (.ref C))
    (hdb : (x == ("__debug__" : Str)) = false := by decide) : PMk X (.Call (.Name x p) [] [] pos) (fun _ H Q => Q (.ref C) none H) := by
  intro pins s σ H Q I h
  refine wpAny_Call_Name_kw (ld_glob I hg hm (PySem.W.callWith_K0 I.kIn T.kC ?_) hdb)
  show wpAny _ _ (call (.ref C) []) _ _ _
  obtain ⟨nm, N, qn, bs, bm, hd, sn, sub, ab, col, dd, k0, k1, k2, k3, k5, hC, hT⟩ := PySem.W.excInit_of I.kIn T.q
  obtain ⟨hp, g, dr, tk, os⟩ := s
  have big : hp.objs.size ≤ hp.objs.size + 1 := Nat.le_succ _
  have hn : H (hp.objs.size + 1) = none := I.hok.fresh big
  have kk : ∀ b o, hp.get? b = some o → ((hp.push (PySem.W.kdv_tup [])).push (PySem.HandSPX.excO C hp.objs.size)).get? b = some o := fun b o z => Heap.get?_push_of_some _ (Heap.get?_push_of_some _ z)
  have made : ((hp.push (PySem.W.kdv_tup [])).push (PySem.HandSPX.excO C hp.objs.size)).get? (hp.objs.size + 1) = some (PySem.HandSPX.excO C hp.objs.size) := by heap_get
  have I2 : Inv X pins σ (upd H (hp.objs.size + 1) (exo (hp.objs.size + 1) C none)) ⟨(hp.push (PySem.W.kdv_tup [])).push (PySem.HandSPX.excO C hp.objs.size), g, dr, tk, os⟩ :=
    I.laid (t' := tk) (a := hp.objs.size + 1) (o := exo (hp.objs.size + 1) C none) (h' := (hp.push (PySem.W.kdv_tup [])).push (PySem.HandSPX.excO C hp.objs.size)) kk big (exo_ok made)
  have q2 : spInitN C [V.ref (hp.objs.size + 1)] (upd H (hp.objs.size + 1) (exo (hp.objs.size + 1) C none)) (fun v H2 => v = .non ∧ H2 = upd H (hp.objs.size + 1) (exo (hp.objs.size + 1) C none)) (fun _ _ _ => False) := ⟨_, rfl, upd_same, rfl, rfl⟩
  refine wpAny_call (PySem.HandSPX.call_own F hT hC (PySem.W.looks_findIn I.kIn T.iC) (fun self => PySem.W.bind_fn I.kIn self T.tI) (Nat.zero_le _)
    (codeAny_mono (F1 _ X.stack _ _ [Value.ref (hp.objs.size + 1)] [V.ref (hp.objs.size + 1)] _ (fun _ _ _ => False) (made_guards hgd C []) (hr.make C [] []) (I2.env0.make C [] []) (.cons rfl .nil) q2) fun rs s' hq => ?_))
  match rs, hq with
  | .error er, hq => exact hx pins σ _ _ er s' I2 hq
  | .ok .next, hq => exact hq.elim
  | .ok .brk, hq => exact hq.elim
  | .ok .cont, hq => exact hq.elim
  | .ok (.ret u), hq =>
    obtain ⟨v, H2, os2, bare2, un2, ok2, rv, rfl, rfl⟩ := hq
    obtain ⟨h2, g2, d2, t2, os'⟩ := s'
    obtain ⟨t0, G, J, kG, ge, hoe⟩ := let_go (a := hp.objs.size + 1) (C := C) (d2 := d2) (t2 := t2) I big kk un2 ok2 os2 bare2 upd_same
    have eH : del (upd H (hp.objs.size + 1) (exo (hp.objs.size + 1) C none)) (hp.objs.size + 1) = H := funext fun b => by
      by_cases z : b = hp.objs.size + 1
      · rw [z, del_same, hn]
      · rw [del_ne z, upd_ne z]
    rw [eH] at J
    exact ⟨rv, hp.objs.size + 1, _, _, ⟨G, g2, d2, t2, os'⟩, H, .ref C, none, rfl, J, kG, ge, hoe, ⟨rfl, rfl⟩, rfl, rfl, hn, rfl, bare2, raises_own T.exC T.tyC, h⟩
end
end Ver

namespace K03
open PySem PySem.Spec PyProof.Rows L2 Ver Num
/-- the names of the text's own defs and classes; the built-in names that it reads -/
def gl : List Str := ["is_integer", "is_between", "is_fraction", "is_longer", "parts", "shortened", "_law_pen", "_law_draw", "_law_pick", "_law_far", "_law_tens", "_law_signed", "_law_gcd", "_law_told", "_law_two", "_law_any_number", "_law_plus", "_law_times", "_law_over", "_law_negative", "_law_quotient", "law", "Field", "Fractions", "NoQuotient"]
def fr : List Str := ["isinstance", "int", "bool", "tuple", "len", "abs", "list", "repr", "range", "sum", "max", "ArithmeticError"]
def FL : Int := 10000000000000000000000000000000000000000000000000000000000000000000000000000000000000000000000000000
/-- a class of fields: its methods are Field's own -/
structure FC (K : PySem.W.Frag) (C : Addr) : Prop where
  cl : Cls K C
  np : NoAttr K C "_prime"
  m : ∀ m ∈ (["is_number", "plus", "minus", "times", "over", "total", "holds", "ratio", "product_of", "sum_of", "difference_of", "quotient_of", "common", "_check"] : List Str), Meth K C m (He.ma K (He.ga K "Field") m)
def aeB : List Value := [.type "ArithmeticError", .type "Exception", .type "BaseException", .type "object"]
def fa : List He.Fa := gl.map He.Fa.glo ++ fr.map He.Fa.free
/-- what the top has left -/
structure Tx (K : PySem.W.Frag) (mg : Str → Option Value) : Prop where
  d : He.SaysD fa fn K
  g : ∀ x ∈ gl, mg x = some (.ref (He.ga K x))
  z : ∀ x ∈ fr, mg x = none
  fl : ∃ t, mg "FIRST_LONG" = some (.int FL t)
  gcd : mg "gcd" = some (.builtin "math.gcd")
  lcm : mg "lcm" = some (.builtin "math.lcm")
  exc : ExcC K (He.ga K "NoQuotient")
  isA : PySem.W.kitOne K (.ref (He.ga K "NoQuotient")) (.type "ArithmeticError") = some true
  fc : FC K (He.ga K "Fractions")
  nq : ExN K (He.ga K "NoQuotient") (He.ma K (He.ga K "NoQuotient") "__init__") aeB "ArithmeticError.__new__"
  te : PySem.W.exmOne K (.ref (He.ga K "NoQuotient")) (.ref (He.ga K "NoQuotient")) = some true
  rdF : PySem.W.readsIn K (He.ga K "Field") (.type "type") = true
  gaF : PySem.W.specialIn K (.ref (He.ga K "Field")) "__getattribute__" = some (some (.builtin "type.__getattribute__"))
  fiF : PySem.W.findCls K (.ref (He.ga K "Field")) (.type "type") "__init__" = some (.val (.ref (He.ma K (He.ga K "Field") "__init__")))
  mkM : Mk K (He.ga K "Fractions") (He.ma K (He.ga K "Fractions") "__init__")
  isF : PySem.W.kitOne K (.ref (He.ga K "Fractions")) (.ref (He.ga K "Field")) = some true
  clM : PySem.W.findIn K (.ref (He.ga K "Fractions")) "__class__" = some (some (.builtin "object.__class__"))
  clS : PySem.W.specialIn K (.builtin "object.__class__") "__get__" = some (some (.builtin "getset_descriptor.__get__"))
  clT : PySem.W.takesIn K (.builtin "object.__class__") = some true
  clO : PySem.W.mroIn K (He.ga K "Fractions") (.type "object") = some true
theorem ifT {c : Bool} {A B : Prop} (h : c = true) (q : A) : if c = true then A else B := by
  rw [if_pos h]
  exact q
theorem ifF {c : Bool} {A B : Prop} (h : c = false) (q : B) : if c = true then A else B := by
  rw [if_neg (by rw [h]; exact Bool.false_ne_true)]
  exact q
theorem iEq (a b : Int) : decide (V.int a = V.int b) = decide (a = b) := by
  by_cases h : a = b
  · rw [decide_eq_true h, decide_eq_true (by rw [h])]
  · rw [decide_eq_false h, decide_eq_false fun z => h (V.int.inj z)]
theorem same_up {H : Hp} {p : Addr} {o : HO} (h : H p = none) : Same H (upd H p o) := fun b x e => by
  rw [upd_ne (ne_of_none e h)]
  exact e
section
variable {P : Program} {w : World} {K : PySem.W.Frag} {mg : Str → Option Value} {base : Heap}
/-! ### is_integer, is_between -/
def spIsInteger (K : PySem.W.Frag) : Sp := fun vs H Q _ => ∃ (x : V) (t : Value) (b1 b2 : Bool), vs = [x] ∧ TyX K H x t ∧ PySem.W.kitOne K t (.type "int") = some b1 ∧ PySem.W.kitOne K t (.type "bool") = some b2 ∧ Q (.bl (b1 && !b2)) H
theorem ok_is_integer (T : Tx K mg) : FnG P w K mg base CX0 1 (He.ga K "is_integer") (spIsInteger K) := by
  refine mk_is_integer T.d (fun vs H Q E h => ?_) (fun cdv A outer s H vs Q E hg hr h => ?_)
  · obtain ⟨x, t, b1, b2, rfl, _⟩ := h
    rfl
  · obtain ⟨x, t, b1, b2, rfl, ty, k1, k2, q⟩ := h
    have zi := T.z "isinstance" (by decide +kernel)
    refine ⟨_, pss_one (ps_ret (pe_and (pe_callB call_isi (by rfl) zi (by decide +kernel) (pa_cons (pv 0) (pa_cons (pe_bltn (v := .ty "int") (by rfl) (T.z "int" (by decide +kernel)) (by decide +kernel) rfl) pa_nil)))
      (pe_one (pe_not (pe_callB call_isi (by rfl) zi (by decide +kernel) (pa_cons (pv 0) (pa_cons (pe_bltn (v := .ty "bool") (by rfl) (T.z "bool" (by decide +kernel)) (by decide +kernel) rfl) pa_nil))))))), ?_⟩
    refine ⟨_, rfl, _, _, _, _, _, rfl, .ty "int", ty, k1, _, rfl, ?_⟩
    cases b1 with
    | false => exact ifF rfl q
    | true => exact ifT rfl ⟨_, rfl, _, _, _, _, _, rfl, .ty "bool", ty, k2, _, rfl, q⟩
/-! ### parts, is_longer: of whole numbers -/
/-- a number: an int, or a pair of ints at an address -/
def Num2 (K : PySem.W.Frag) (H : Hp) (x : V) (t b : Int) : Prop := (x = .int t ∧ b = 1) ∨ ∃ a, x = .ref a ∧ H a = some (.tup [.int t, .int b])
def spParts (K : PySem.W.Frag) : Sp := fun vs H Q _ => ∃ (x : V) (t b : Int), vs = [x] ∧ Num2 K H x t b ∧ ∀ (p : Addr) (H' : Hp), Same H H' → H' p = some (.tup [.int t, .int b]) → Q (.ref p) H'
theorem ok_parts (T : Tx K mg) : FnG P w K mg base CX0 1 (He.ga K "parts") (spParts K) := by
  refine mk_parts T.d (fun vs H Q E h => ?_) (fun cdv A outer s H vs Q E hg hr h => ?_)
  · obtain ⟨x, t, b, rfl, _⟩ := h
    rfl
  · obtain ⟨x, t, b, rfl, n, q⟩ := h
    refine ⟨_, pss_one (ps_ret (pe_ifExp (pt_val (pe_callB call_isi (by rfl) (T.z "isinstance" (by decide +kernel)) (by decide +kernel) (pa_cons (pv 0) (pa_cons (pe_bltn (v := .ty "tuple") (by rfl) (T.z "tuple" (by decide +kernel)) (by decide +kernel) rfl) pa_nil))))
      (pv 0) (pe_tup (pa_cons (pv 0) (pa_cons pe_int pa_nil))))), ?_⟩
    rcases n with ⟨rfl, rfl⟩ | ⟨a, rfl, ha⟩
    · refine ⟨_, rfl, _, _, _, _, false, rfl, .ty "tuple", .base (.int t), kit_ty (by decide +kernel), _, rfl, ?_⟩
      exact ifF rfl ⟨_, rfl, (by show 2 ≤ sizeLine; decide), fun p np => q p _ (same_up np) upd_same⟩
    · refine ⟨_, rfl, _, _, _, _, true, rfl, .ty "tuple", .base (.tup ha), kit_ty (by decide +kernel), _, rfl, ?_⟩
      exact ifT rfl ⟨_, rfl, q a H (Same.refl H) ha⟩
def absI (i : Int) : Int := if i < 0 then -i else i
def spIsLonger (K : PySem.W.Frag) : Sp := fun vs H Q _ => ∃ (x : V) (t b l : Int), vs = [x, .int l] ∧ Num2 K H x t b ∧ ∀ H' : Hp, Same H H' → Q (.bl (decide (l ≤ absI t) || decide (l ≤ b))) H'
theorem ok_is_longer (T : Tx K mg) : FnG P w K mg base CX0 2 (He.ga K "is_longer") (spIsLonger K) := by
  refine mk_is_longer T.d (fun vs H Q E h => ?_) (fun cdv A outer s H vs Q E hg hr h => ?_)
  · obtain ⟨x, t, b, l, rfl, _⟩ := h
    rfl
  · obtain ⟨x, t, b, l, rfl, n, q⟩ := h
    refine ⟨_, pss_cons (ps_asg (pe_callG (ok_parts T) hr hg (by rfl) (T.g "parts" (by decide +kernel)) (kp_parts T.d) pass0 (pa_cons (pv 0) pa_nil))
        (pg_tup rfl (pgs_cons (pg_name (i := 2) sc_is_longer.nd rfl (.inl rfl)) (pgs_cons (pg_name (i := 3) sc_is_longer.nd rfl (.inl rfl)) pgs_nil))))
      (pss_one (ps_ret (pe_or (pe_cmpR op_ge (pe_callB call_abs (by rfl) (T.z "abs" (by decide +kernel)) (by decide +kernel) (pa_cons (pv 2) pa_nil)) (pv 1) (nomark _))
        (pe_one (pe_cmpR op_ge (pv 3) (pv 1) (nomark _)))))), ?_⟩
    refine ⟨_, rfl, x, t, b, rfl, n, fun p H1 s1 hp => ?_⟩
    refine ⟨p, _, rfl, .inl (.inl hp), rfl, _, _, rfl, _, _, rfl, rfl, ?_⟩
    refine ⟨_, rfl, _, rfl, _, rfl, _, _, rfl, rfl, _, rfl, ?_⟩
    have q1 := q H1 s1
    by_cases h : l ≤ absI t
    · rw [decide_eq_true h] at q1
      exact ifT (decide_eq_true h) q1
    · rw [decide_eq_false h] at q1
      exact ifF (decide_eq_false h) ⟨_, rfl, _, rfl, _, _, rfl, rfl, q1⟩
/-! ### fractions as values -/
/-- a fraction: an int, or a pair of ints -/
def NumQ (H : Hp) (x : V) (q : Rat) : Prop := (q.den = 1 ∧ x = .int q.num) ∨ (q.den ≠ 1 ∧ ∃ a, x = .ref a ∧ H a = some (.tup [.int q.num, .int (q.den : Int)]))
theorem NumQ.same {H H' : Hp} {x : V} {q : Rat} (h : NumQ H x q) (s : Same H H') : NumQ H' x q := by
  rcases h with h | ⟨d, a, e, h⟩
  · exact .inl h
  · exact .inr ⟨d, a, e, s _ _ h⟩
theorem NumQ.two {H : Hp} {x : V} {q : Rat} (h : NumQ H x q) : Num2 K H x q.num (q.den : Int) := by
  rcases h with ⟨d, e⟩ | ⟨d, a, e, h⟩
  · exact .inl ⟨e, by rw [d]; rfl⟩
  · exact .inr ⟨a, e, h⟩
theorem NumQ.int {H : Hp} {x : V} {q : Rat} {t : Int} (h1 : q.num = t) (h2 : q.den = 1) (e : x = .int t) : NumQ H x q := .inl ⟨h2, by rw [h1]; exact e⟩
/-- passed numbers -/
def Ok100 (q : Rat) : Prop := absI q.num < FL ∧ (q.den : Int) < FL
end
end K03

namespace K03
open PySem PySem.Spec PyProof.Rows L2 Ver Num
/-- // by any divisor but 0, also a great one -/
theorem op_fdivZ {X : Cx} : OpR X (binaryOp .FloorDiv) (rI (fun _ j => j ≠ 0 ∧ j.natAbs.log2 < 9000) fun i j => .int (i.fdiv j)) := opI fun _ _ _ _ _ _ _ hc q => floordiv_int hc.1 q (.inl (PyProof.noPylong_of_log2 hc.2))
theorem log_lt {n a : Nat} (h : n < 2 ^ a) (h0 : 0 < a) (h9 : a ≤ 9000) : n.log2 < 9000 := Nat.lt_of_lt_of_le (PySem.Flt.log2_lt_of h0 h) h9
theorem dvs_log {t b : Int} {a : Nat} (hb : b ≠ 0) (h : b.natAbs < 2 ^ a) (h0 : 0 < a) (h9 : a ≤ 9000) : (dvs t b).natAbs.log2 < 9000 := by
  have l : Nat.gcd t.natAbs b.natAbs ≤ b.natAbs := Nat.gcd_le_right _ (by omega)
  refine log_lt (a := a) ?_ h0 h9
  unfold dvs
  split <;> omega
theorem dvs_neg {t b : Int} (h : b < 0) : dvs t b = -((Nat.gcd t.natAbs b.natAbs : Nat) : Int) := if_pos h
theorem dvs_nn {t b : Int} (h : ¬ b < 0) : dvs t b = ((Nat.gcd t.natAbs b.natAbs : Nat) : Int) := if_neg h
/-! ### as data -/
def dq (q : Rat) : PyData := if q.den = 1 then .int q.num else .tuple [.int q.num, .int (q.den : Int)]
theorem dq_int {q : Rat} (h : q.den = 1) : dq q = .int q.num := if_pos h
theorem dq_tup {q : Rat} (h : q.den ≠ 1) : dq q = .tuple [.int q.num, .int (q.den : Int)] := if_neg h
theorem dp_q {K : PySem.W.Frag} {H : Hp} {x : V} {q : Rat} (h : NumQ H x q) : Dp K H x (dq q) := by
  rcases h with ⟨d, e⟩ | ⟨d, a, e, h⟩
  · rw [dq_int d, e]
    exact .int _
  · rw [dq_tup d, e]
    exact .tup (.inl (.inl h)) (.cons (.int _) (.cons (.int _) .nil))
theorem shaped_q (q : Rat) : SeqAt.shaped (dq q) = true := by
  by_cases h : q.den = 1
  · rw [dq_int h]
    simp [SeqAt.shaped, PyData.canLay0, PyData.depth]
  · rw [dq_tup h]
    simp [SeqAt.shaped, PyData.canLay0, PyData.canLayAll0, PyData.depth, PyData.depthAll]
theorem eqv_q0 (q : Rat) : PyData.eqv (dq q) (.int 0) = decide (q = 0) := by
  by_cases h : q.den = 1
  · rw [dq_int h]
    by_cases z : q = 0
    · rw [z]
      simp [PyData.eqv]
    · have : q.num ≠ 0 := fun e => z (Rat.num_eq_zero.mp e)
      simp [PyData.eqv, z, this]
  · rw [dq_tup h]
    have : q ≠ 0 := fun e => h (by rw [e]; rfl)
    simp [PyData.eqv, this]
/-! ### the field of fractions -/
def FieldF (K : PySem.W.Frag) (H : Hp) (f : Addr) : Prop := ∃ C dx, FC K C ∧ H f = some (.ins C dx [(("_prime" : Str), V.non)])
theorem FieldF.same {K : PySem.W.Frag} {H H' : Hp} {f : Addr} (F : FieldF K H f) (s : Same H H') : FieldF K H' f := by
  obtain ⟨C, dx, c, e⟩ := F
  exact ⟨C, dx, c, s _ _ e⟩
theorem pf_look (v : V) : ([(("_prime" : Str), v)] : List (Str × V)).lookup ("_prime" : Str) = some v := by simp [List.lookup]
theorem pf_no (v : V) {m : Str} (h : (m == ("_prime" : Str)) = false) : ([(("_prime" : Str), v)] : List (Str × V)).lookup m = none := by simp [List.lookup, h]
theorem rd_prime {K : PySem.W.Frag} {σ : L2.St} {H : Hp} {f : Addr} {i : Nat} {Q : VK} (h0 : σ[i]? = some (some (.ref f))) (F : FieldF K H f) (q : Q .non H) : tFld K (tVar i) "_prime" σ H Q := by
  obtain ⟨C, dx, c, e⟩ := F
  exact ⟨.ref f, h0, f, C, dx, _, .non, rfl, e, c.cl, c.np, pf_look _, q⟩
theorem go_meth {K : PySem.W.Frag} {σ : L2.St} {H : Hp} {f : Addr} {i : Nat} {Q : VK} {m : Str} {sp : Sp} {E : XK} {t : TA} (h0 : σ[i]? = some (some (.ref f))) (F : FieldF K H f)
    (hm : m ∈ (["is_number", "plus", "minus", "times", "over", "total", "holds", "ratio", "product_of", "sum_of", "difference_of", "quotient_of", "common", "_check"] : List Str)) (hn : (m == ("_prime" : Str)) = false)
    (q : t σ H fun vs H2 => sp (.ref f :: vs) H2 Q E) : tMethG K m (He.ma K (He.ga K "Field") m) sp E (tVar i) t σ H Q := by
  obtain ⟨C, dx, c, e⟩ := F
  exact ⟨.ref f, h0, f, C, dx, _, rfl, e, c.cl, c.m m hm, pf_no _ hn, q⟩
section
variable {P : Program} {w : World} {K : PySem.W.Frag} {mg : Str → Option Value} {base : Heap}
/-! ### is_fraction, holds, is_number, _check -/
def spIsFraction (K : PySem.W.Frag) : Sp := fun vs H Q _ => ∃ (a : Addr) (t b : Int), vs = [.ref a] ∧ H a = some (.tup [.int t, .int b]) ∧ 2 ≤ b ∧ Nat.gcd t.natAbs b.natAbs = 1 ∧ Q (.bl true) H
theorem ok_is_fraction (T : Tx K mg) : FnG P w K mg base CX0 2 (He.ga K "is_fraction") (spIsFraction K) := by
  refine mk_is_fraction T.d (fun vs H Q E h => ?_) (fun cdv A outer s H vs Q E hg hr h => ?_)
  · obtain ⟨a, t, b, rfl, _⟩ := h
    rfl
  · obtain ⟨a, t, b, rfl, ha, b2, g1, q⟩ := h
    have nd := sc_is_fraction.nd
    have gi := T.g "is_integer" (by decide +kernel)
    refine ⟨_, pss_cons (ps_if (PW.pt (pw_or (pt_not (pt_val (pe_callB call_isi (by rfl) (T.z "isinstance" (by decide +kernel)) (by decide +kernel) (pa_cons (pv 0) (pa_cons (pe_bltn (v := .ty "tuple") (by rfl) (T.z "tuple" (by decide +kernel)) (by decide +kernel) rfl) pa_nil)))))
        (pw_or1 (pt_cmpR op_ne (pe_callB call_len_seq (by rfl) (T.z "len" (by decide +kernel)) (by decide +kernel) (pa_cons (pv 0) pa_nil)) pe_int (nomark _))))) pss_never pss_nil)
      (pss_cons (ps_asg (pv 0) (pg_tup rfl (pgs_cons (pg_name (i := 1) nd rfl (.inl rfl)) (pgs_cons (pg_name (i := 2) nd rfl (.inl rfl)) pgs_nil))))
      (pss_one (ps_ret (pe_and (pe_callG (ok_is_integer T) hr hg (by rfl) gi (kp_is_integer T.d) pass0 (pa_cons (pv 1) pa_nil))
        (pe_and (pe_callG (ok_is_integer T) hr hg (by rfl) gi (kp_is_integer T.d) pass0 (pa_cons (pv 2) pa_nil))
        (pe_and (pe_cmpR op_ge (pv 2) pe_int (nomark _)) (pe_one (pe_cmpR op_eq (pe_callBfun cr_gcd (by rfl) T.gcd (pa_cons (pv 1) (pa_cons (pv 2) pa_nil))) pe_int (nomark _))))))))), ?_⟩
    have si : SqT K H a [V.int t, V.int b] := .inl (.inl ha)
    refine ⟨_, rfl, _, _, _, _, true, rfl, .ty "tuple", .base (.tup ha), kit_ty (by decide +kernel), _, rfl, ifF rfl ?_⟩
    refine ⟨_, rfl, a, _, rfl, .inr si, rfl, _, rfl, ifF (by show (!decide (V.int (2 : Int) = V.int 2)) = false; rw [decide_eq_true rfl]; rfl) ?_⟩
    refine ⟨_, rfl, a, _, rfl, si, rfl, _, _, rfl, _, _, rfl, rfl, ?_⟩
    refine ⟨_, rfl, _, _, true, false, rfl, .base (.int t), kit_ty (by decide +kernel), kit_ty (by decide +kernel), _, rfl, ifT rfl ?_⟩
    refine ⟨_, rfl, _, _, true, false, rfl, .base (.int b), kit_ty (by decide +kernel), kit_ty (by decide +kernel), _, rfl, ifT rfl ?_⟩
    refine ⟨_, rfl, _, _, rfl, rfl, _, rfl, ifT (decide_eq_true b2) ?_⟩
    refine ⟨_, rfl, _, rfl, t, b, rfl, rfl, ?_⟩
    rw [iEq, g1]
    exact q
def spHolds (K : PySem.W.Frag) : Sp := fun vs H Q _ => ∃ (f : Addr) (x : V) (q : Rat), vs = [.ref f, x] ∧ FieldF K H f ∧ NumQ H x q ∧ Q (.bl true) H
theorem ok_holds (T : Tx K mg) : FnG P w K mg base CX0 3 (He.ma K (He.ga K "Field") "holds") (spHolds K) := by
  refine mk_Field_holds T.d (fun vs H Q E h => ?_) (fun cdv A outer s H vs Q E hg hr h => ?_)
  · obtain ⟨f, x, r, rfl, _⟩ := h
    rfl
  · obtain ⟨f, x, r, rfl, F, n, q⟩ := h
    refine ⟨_, pss_cons (ps_if (pt_cmp (pc_notN (pe_fld (pv 0) rfl))) pss_never pss_nil)
      (pss_one (ps_ret (pe_or (pe_callG (ok_is_integer T) (hr.mono (by decide)) hg (by rfl) (T.g "is_integer" (by decide +kernel)) (kp_is_integer T.d) pass0 (pa_cons (pv 1) pa_nil))
        (pe_one (pe_callG (ok_is_fraction T) hr hg (by rfl) (T.g "is_fraction" (by decide +kernel)) (kp_is_fraction T.d) pass0 (pa_cons (pv 1) pa_nil)))))), ?_⟩
    refine rd_prime rfl F ⟨_, rfl, ifF rfl ?_⟩
    rcases n with ⟨d, rfl⟩ | ⟨d, a, rfl, ha⟩
    · exact ⟨_, rfl, _, _, true, false, rfl, .base (.int _), kit_ty (by decide +kernel), kit_ty (by decide +kernel), _, rfl, ifT rfl q⟩
    · have dp := r.den_pos
      exact ⟨_, rfl, _, _, false, false, rfl, .base (.tup ha), kit_ty (by decide +kernel), kit_ty (by decide +kernel), _, rfl, ifF rfl ⟨_, rfl, a, _, _, rfl, ha, by omega, gcd_low r, q⟩⟩
def spIsNumber (K : PySem.W.Frag) : Sp := fun vs H Q _ => ∃ (f : Addr) (x : V) (q : Rat), vs = [.ref f, x] ∧ FieldF K H f ∧ NumQ H x q ∧ Ok100 q ∧ ∀ H', Same H H' → Q (.bl true) H'
theorem ok_is_number (T : Tx K mg) : FnG P w K mg base CX0 4 (He.ma K (He.ga K "Field") "is_number") (spIsNumber K) := by
  refine mk_Field_is_number T.d (fun vs H Q E h => ?_) (fun cdv A outer s H vs Q E hg hr h => ?_)
  · obtain ⟨f, x, r, rfl, _⟩ := h
    rfl
  · obtain ⟨f, x, r, rfl, F, n, o, q⟩ := h
    obtain ⟨tl, gl⟩ := T.fl
    refine ⟨_, pss_one (ps_ret (pe_and (pe_methG (pv 0) (kp_Field_holds T.d) (ok_holds T) hr hg pass0 (pa_cons (pv 1) pa_nil))
      (pe_one (pe_not (pe_callG (ok_is_longer T) (hr.mono (by decide)) hg (by rfl) (T.g "is_longer" (by decide +kernel)) (kp_is_longer T.d) pass0 (pa_cons (pv 1) (pa_cons (pe_glob (v := .int FL) (by rfl) gl ⟨_, rfl⟩) pa_nil))))))), ?_⟩
    refine go_meth rfl F (by decide +kernel) (by decide +kernel) ⟨_, rfl, f, x, r, rfl, F, n, _, rfl, ?_⟩
    refine ifT rfl ⟨_, rfl, x, r.num, (r.den : Int), FL, rfl, n.two, fun H' s' => ⟨_, rfl, ?_⟩⟩
    have e1 : decide (FL ≤ absI r.num) = false := decide_eq_false (by have := o.1; omega)
    have e2 : decide (FL ≤ (r.den : Int)) = false := decide_eq_false (by have := o.2; omega)
    rw [e1, e2]
    exact q H' s'
theorem sameT {H H' : Hp} {a : Addr} {xs : List V} (e : Same H H') (h : SqT K H a xs) : SqT K H' a xs := by
  rcases h with (h | ⟨o, h⟩) | h
  · exact .inl (.inl (e _ _ h))
  · exact .inl (.inr ⟨o, e _ _ h⟩)
  · exact .inr h
def spCheck (K : PySem.W.Frag) : Sp := fun vs H Q _ => ∃ (f l : Addr) (xs : List V), vs = [.ref f, .ref l] ∧ FieldF K H f ∧ (SqL K H l xs ∨ SqT K H l xs) ∧ (∀ x ∈ xs, ∃ q, NumQ H x q ∧ Ok100 q) ∧ ∀ H', Same H H' → Q .non H'
theorem ok_check (T : Tx K mg) : FnG P w K mg base CX0 5 (He.ma K (He.ga K "Field") "_check") (spCheck K) := by
  refine mk_Field__check T.d (fun vs H Q E h => ?_) (fun cdv A outer s H vs Q E hg hr h => ?_)
  · obtain ⟨f, l, xs, rfl, _⟩ := h
    rfl
  · obtain ⟨f, l, xs, rfl, F, hl, hn, q⟩ := h
    rcases hl with hl | hl
    · refine ⟨_, pss_one (ps_for PassesOwn.never rfl (pi_list (pv 1)) (pg_name (i := 2) sc_Field__check.nd rfl (.inl rfl))
        (pss_one (ps_if (pt_not (pt_val (pe_methG (pv 0) (kp_Field_is_number T.d) (ok_is_number T) hr hg pass0 (pa_cons (pv 2) pa_nil)))) pss_never pss_nil))), ?_⟩
      refine ⟨_, rfl, l, rfl, ⟨_, hl⟩, for_list (K := K) (a := l) (xs := xs) (fun i σ H' => ∃ v : Option V, σ = [some (.ref f), some (.ref l), v] ∧ Same H H') ⟨none, rfl, Same.refl H⟩ (fun i σ H' _ ⟨_, _, sm⟩ => sm.seq hl) ?_ ?_⟩
      · rintro i x σ H' hi ⟨v, rfl, sm⟩
        obtain ⟨r, n, o⟩ := hn x (List.mem_of_getElem? hi)
        exact go_meth rfl (F.same sm) (by decide +kernel) (by decide +kernel) ⟨_, rfl, f, x, r, rfl, F.same sm, n.same sm, o, fun H2 s2 => ⟨_, rfl, ifF rfl ⟨_, rfl, sm.trans s2⟩⟩⟩
      · rintro σ H' ⟨v, rfl, sm⟩
        exact q H' sm
    · refine ⟨_, pss_one (ps_for PassesOwn.never rfl (pi_tup (pv 1)) (pg_name (i := 2) sc_Field__check.nd rfl (.inl rfl))
        (pss_one (ps_if (pt_not (pt_val (pe_methG (pv 0) (kp_Field_is_number T.d) (ok_is_number T) hr hg pass0 (pa_cons (pv 2) pa_nil)))) pss_never pss_nil))), ?_⟩
      refine ⟨_, rfl, l, rfl, ⟨_, hl⟩, for_tup (K := K) (a := l) (xs := xs) (fun i σ H' => ∃ v : Option V, σ = [some (.ref f), some (.ref l), v] ∧ Same H H') ⟨none, rfl, Same.refl H⟩ (fun i σ H' _ ⟨_, _, sm⟩ => sameT sm hl) ?_ ?_⟩
      · rintro i x σ H' hi ⟨v, rfl, sm⟩
        obtain ⟨r, n, o⟩ := hn x (List.mem_of_getElem? hi)
        exact go_meth rfl (F.same sm) (by decide +kernel) (by decide +kernel) ⟨_, rfl, f, x, r, rfl, F.same sm, n.same sm, o, fun H2 s2 => ⟨_, rfl, ifF rfl ⟨_, rfl, sm.trans s2⟩⟩⟩
      · rintro σ H' ⟨v, rfl, sm⟩
        exact q H' sm
/-! ### shortened, ratio -/
def spShort : Sp := fun vs H Q _ => ∃ (t b : Int), vs = [.int t, .int b] ∧ b ≠ 0 ∧ b.natAbs < 2 ^ 4000 ∧ ∀ (x : V) (H' : Hp), Same H H' → NumQ H' x (Rat.divInt t b) → Q x H'
theorem ok_shortened (T : Tx K mg) : FnG P w K mg base CX0 1 (He.ga K "shortened") spShort := by
  refine mk_shortened T.d (fun vs H Q E h => ?_) (fun cdv A outer s H vs Q E hg hr h => ?_)
  · obtain ⟨t, b, rfl, _⟩ := h
    rfl
  · obtain ⟨t, b, rfl, b0, bb, q⟩ := h
    have nd := sc_shortened.nd
    refine ⟨_, pss_cons (ps_if (pt_cmpR op_eq (pv 1) pe_int (nomark _)) (pss_one (ps_ret (pv 0))) pss_nil)
      (pss_cons (ps_set (i := 2) nd rfl (Or.inl rfl) (pe_callBfun cr_gcd (by rfl) T.gcd (pa_cons (pv 0) (pa_cons (pv 1) pa_nil))))
      (pss_cons (ps_if (pt_cmpR op_lt (pv 1) pe_int (nomark _)) (pss_one (ps_set (i := 2) nd rfl (Or.inl rfl) (pe_un un_neg (pv 2)))) pss_nil)
      (pss_cons (ps_if (pt_cmpR op_eq (pv 1) (pv 2) (nomark _)) (pss_one (ps_ret (pe_op op_fdivZ (pv 0) (pv 2)))) pss_nil)
      (pss_one (ps_ret (pe_tup (pa_cons (pe_op op_fdivZ (pv 0) (pv 2)) (pa_cons (pe_op op_fdivZ (pv 1) (pv 2)) pa_nil)))))))), ?_⟩
    refine ⟨_, rfl, rfl, _, rfl, ?_⟩
    rw [iEq]
    by_cases b1 : b = 1
    · subst b1
      obtain ⟨o1, o2⟩ := dvs_one t
      exact ifT (decide_eq_true rfl) ⟨_, rfl, q _ H (Same.refl H) (NumQ.int o1 o2 rfl)⟩
    · refine ifF (decide_eq_false b1) ?_
      refine ⟨_, rfl, _, rfl, t, b, rfl, ?_⟩
      obtain ⟨o1, o2, o3, o4, _, _⟩ := dvs_out (t := t) b0
      have o5 := dvs_log (t := t) b0 bb (by decide) (by decide)
      refine ⟨_, rfl, _, _, rfl, rfl, _, rfl, ?_⟩
      by_cases hn : b < 0
      all_goals
        first
        | (rw [dvs_neg hn] at o1 o2 o3 o4 o5
           refine ifT (decide_eq_true hn) ⟨_, rfl, _, rfl, ?_⟩)
        | (rw [dvs_nn hn] at o1 o2 o3 o4 o5
           refine ifF (decide_eq_false hn) ?_)
        refine ⟨_, rfl, _, rfl, rfl, _, rfl, ?_⟩
        rw [iEq]
      · by_cases e : b = -((Nat.gcd t.natAbs b.natAbs : Nat) : Int)
        · exact ifT (decide_eq_true e) ⟨_, rfl, _, rfl, _, _, rfl, rfl, ⟨o1, o5⟩, q _ H (Same.refl H) (NumQ.int o2.symm (o4.mp e) rfl)⟩
        · refine ifF (decide_eq_false e) ⟨_, rfl, _, rfl, _, _, rfl, rfl, ⟨o1, o5⟩, _, rfl, _, rfl, _, _, rfl, rfl, ⟨o1, o5⟩, by show 2 ≤ sizeLine; decide, fun p np => q _ _ (same_up np) (.inr ⟨fun z => e (o4.mpr z), p, rfl, ?_⟩)⟩
          rw [← o2, ← o3]
          exact upd_same
      · by_cases e : b = ((Nat.gcd t.natAbs b.natAbs : Nat) : Int)
        · exact ifT (decide_eq_true e) ⟨_, rfl, _, rfl, _, _, rfl, rfl, ⟨o1, o5⟩, q _ H (Same.refl H) (NumQ.int o2.symm (o4.mp e) rfl)⟩
        · refine ifF (decide_eq_false e) ⟨_, rfl, _, rfl, _, _, rfl, rfl, ⟨o1, o5⟩, _, rfl, _, rfl, _, _, rfl, rfl, ⟨o1, o5⟩, by show 2 ≤ sizeLine; decide, fun p np => q _ _ (same_up np) (.inr ⟨fun z => e (o4.mpr z), p, rfl, ?_⟩)⟩
          rw [← o2, ← o3]
          exact upd_same
def spRatio (K : PySem.W.Frag) : Sp := fun vs H Q _ => ∃ (f : Addr) (t b : Int), vs = [.ref f, .int t, .int b] ∧ FieldF K H f ∧ b ≠ 0 ∧ b.natAbs < 2 ^ 4000 ∧ ∀ (x : V) (H' : Hp), Same H H' → NumQ H' x (Rat.divInt t b) → Q x H'
theorem ok_ratio (T : Tx K mg) : FnG P w K mg base CX0 2 (He.ma K (He.ga K "Field") "ratio") (spRatio K) := by
  refine mk_Field_ratio T.d (fun vs H Q E h => ?_) (fun cdv A outer s H vs Q E hg hr h => ?_)
  · obtain ⟨f, t, b, rfl, _⟩ := h
    rfl
  · obtain ⟨f, t, b, rfl, F, b0, bb, q⟩ := h
    refine ⟨_, pss_cons (ps_if (pt_cmp (pc_isN (pe_fld (pv 0) rfl))) (pss_one (ps_ret (pe_callG (ok_shortened T) hr hg (by rfl) (T.g "shortened" (by decide +kernel)) (kp_shortened T.d) pass0 (pa_cons (pv 1) (pa_cons (pv 2) pa_nil))))) pss_nil) pss_never, ?_⟩
    exact rd_prime rfl F ⟨_, rfl, ifT rfl ⟨_, rfl, _, rfl, t, b, rfl, b0, bb, q⟩⟩
end
end K03

namespace K03
open PySem PySem.Spec PyProof.Rows L2 Ver Num
theorem ok_bq {q : Rat} (o : Ok100 q) : Bq 333 q := by
  have h1 := o.1
  have h2 := o.2
  unfold absI FL at h1
  unfold FL at h2
  have e : (2 : Nat) ^ 333 = 17498005798264095394980017816940970922825355447145699491406164851279623993595007385788105416184430592 := by decide
  unfold Bq
  rw [e]
  split at h1 <;> omega
theorem pass2 {x y : V} {H : Hp} {a b : Rat} (hx : NumQ H x a) (hy : NumQ H y b) (oa : Ok100 a) (ob : Ok100 b) : ∀ z ∈ [x, y], ∃ q, NumQ H z q ∧ Ok100 q := fun z hz => by
  rcases List.mem_cons.mp hz with e | hz
  · rw [e]; exact ⟨a, hx, oa⟩
  · rw [List.mem_singleton.mp hz]; exact ⟨b, hy, ob⟩
theorem den_bq {n : Nat} {q : Rat} (h : Bq n q) : ((q.den : Nat) : Int).natAbs < 2 ^ n := h.2
theorem dd_ne (a b : Rat) : (a.den : Int) * b.den ≠ 0 := Int.mul_ne_zero (by have := den_pos' a; omega) (by have := den_pos' b; omega)
theorem to4000 {n k : Nat} (h : k < 2 ^ n) (hn : n ≤ 4000) : k < 2 ^ 4000 := Nat.lt_of_lt_of_le h (Nat.pow_le_pow_right (by decide) hn)
section
variable {P : Program} {w : World} {K : PySem.W.Frag} {mg : Str → Option Value} {base : Heap}
def spOp (K : PySem.W.Frag) (g : Rat → Rat → Rat) : Sp := fun vs H Q _ => ∃ (f : Addr) (x y : V) (a b : Rat), vs = [.ref f, x, y] ∧ FieldF K H f ∧ NumQ H x a ∧ NumQ H y b ∧ Ok100 a ∧ Ok100 b ∧ ∀ (z : V) (H' : Hp), Same H H' → NumQ H' z (g a b) → Q z H'
theorem ok_sum_of (T : Tx K mg) : FnG P w K mg base CX0 3 (He.ma K (He.ga K "Field") "sum_of") (spOp K fun a b => a + b) := by
  refine mk_Field_sum_of T.d (fun vs H Q E h => ?_) (fun cdv A outer s H vs Q E hg hr h => ?_)
  · obtain ⟨f, x, y, a, b, rfl, _⟩ := h
    rfl
  · obtain ⟨f, x, y, a, b, rfl, F, nx, ny, oa, ob, q⟩ := h
    have ba := ok_bq oa
    have bb := ok_bq ob
    have gp := T.g "parts" (by decide +kernel)
    have nd := sc_Field_sum_of.nd
    refine ⟨_, pss_cons (ps_asg (pe_tup (pa_cons (pe_callG (ok_parts T) (hr.mono (by decide)) hg (by rfl) gp (kp_parts T.d) pass0 (pa_cons (pv 1) pa_nil)) (pa_cons (pe_callG (ok_parts T) (hr.mono (by decide)) hg (by rfl) gp (kp_parts T.d) pass0 (pa_cons (pv 2) pa_nil)) pa_nil)))
        (pg_tup rfl (pgs_cons (pg_tup rfl (pgs_cons (pg_name (i := 3) nd rfl (.inl rfl)) (pgs_cons (pg_name (i := 4) nd rfl (.inl rfl)) pgs_nil))) (pgs_cons (pg_tup rfl (pgs_cons (pg_name (i := 5) nd rfl (.inl rfl)) (pgs_cons (pg_name (i := 6) nd rfl (.inl rfl)) pgs_nil))) pgs_nil))))
      (pss_one (ps_ret (pe_methG (pv 0) (kp_Field_ratio T.d) (ok_ratio T) (hr.mono (by decide)) hg pass0 (pa_cons (pe_op op_add (pe_op op_mulW (pv 3) (pv 6)) (pe_op op_mulW (pv 5) (pv 4))) (pa_cons (pe_op op_mulW (pv 4) (pv 6)) pa_nil))))), ?_⟩
    refine ⟨_, rfl, x, _, _, rfl, nx.two, fun u H1 s1 hu => ⟨_, rfl, y, _, _, rfl, (ny.same s1).two, fun v H2 s2 hv => ⟨by show 2 ≤ sizeLine; decide, fun r nr => ?_⟩⟩⟩
    have s3 := same_up (o := .tup [V.ref u, V.ref v]) nr
    refine ⟨r, _, rfl, .inl (.inl upd_same), rfl, _, _, rfl, ⟨u, _, rfl, .inl (.inl (s3 _ _ (s2 _ _ hu))), rfl, _, _, rfl, _, _, rfl, rfl, ?_⟩⟩
    refine ⟨_, _, rfl, ⟨v, _, rfl, .inl (.inl (s3 _ _ hv)), rfl, _, _, rfl, _, _, rfl, rfl, rfl, ?_⟩⟩
    have s4 := (s1.trans s2).trans s3
    refine go_meth rfl (F.same s4) (by decide +kernel) (by decide +kernel) ⟨_, rfl, _, rfl, _, _, rfl, rfl, wide_mul ba.1 (den_bq bb) (by decide) (by decide) (by decide),
      _, rfl, _, rfl, _, _, rfl, rfl, wide_mul bb.1 (den_bq ba) (by decide) (by decide) (by decide), _, _, rfl, rfl, _, rfl, _, rfl, _, _, rfl, rfl, wide_mul (den_bq ba) (den_bq bb) (by decide) (by decide) (by decide), ?_⟩
    refine ⟨f, _, _, rfl, F.same s4, dd_ne a b, to4000 (wide_lt (den_bq ba) (den_bq bb)) (by decide), fun z H5 s5 nz => ?_⟩
    rw [add_is] at nz
    exact q z H5 (s4.trans s5) nz
theorem ok_plus (T : Tx K mg) : FnG P w K mg base CX0 6 (He.ma K (He.ga K "Field") "plus") (spOp K fun a b => a + b) := by
  refine mk_Field_plus T.d (fun vs H Q E h => ?_) (fun cdv A outer s H vs Q E hg hr h => ?_)
  · obtain ⟨f, x, y, a, b, rfl, _⟩ := h
    rfl
  · obtain ⟨f, x, y, a, b, rfl, F, nx, ny, oa, ob, q⟩ := h
    refine ⟨_, pss_cons (ps_expr (pe_methG (pv 0) (kp_Field__check T.d) (ok_check T) hr hg pass0 (pa_cons (pe_lst (pa_cons (pv 1) (pa_cons (pv 2) pa_nil))) pa_nil)))
      (pss_one (ps_ret (pe_methG (pv 0) (kp_Field_sum_of T.d) (ok_sum_of T) (hr.mono (by decide)) hg pass0 (pa_cons (pv 1) (pa_cons (pv 2) pa_nil))))), ?_⟩
    refine go_meth rfl F (by decide +kernel) (by decide +kernel) ⟨_, rfl, _, rfl, by show 2 ≤ sizeLine; decide, fun l nl => ?_⟩
    have s0 := same_up (o := .lst [x, y]) nl
    refine ⟨f, l, _, rfl, F.same s0, .inl (SqL.of upd_same), pass2 (nx.same s0) (ny.same s0) oa ob, fun H0 sx => ?_⟩
    have sH := s0.trans sx
    exact go_meth rfl (F.same sH) (by decide +kernel) (by decide +kernel) ⟨_, rfl, _, rfl, f, x, y, a, b, rfl, F.same sH, nx.same sH, ny.same sH, oa, ob, fun z H1 s1 nz => q z H1 (sH.trans s1) nz⟩
/-! ### over, and its error -/
theorem ok_difference_of (T : Tx K mg) : FnG P w K mg base CX0 3 (He.ma K (He.ga K "Field") "difference_of") (spOp K fun a b => a - b) := by
  refine mk_Field_difference_of T.d (fun vs H Q E h => ?_) (fun cdv A outer s H vs Q E hg hr h => ?_)
  · obtain ⟨f, x, y, a, b, rfl, _⟩ := h
    rfl
  · obtain ⟨f, x, y, a, b, rfl, F, nx, ny, oa, ob, q⟩ := h
    have ba := ok_bq oa
    have bb := ok_bq ob
    have gp := T.g "parts" (by decide +kernel)
    have nd := sc_Field_difference_of.nd
    refine ⟨_, pss_cons (ps_asg (pe_tup (pa_cons (pe_callG (ok_parts T) (hr.mono (by decide)) hg (by rfl) gp (kp_parts T.d) pass0 (pa_cons (pv 1) pa_nil)) (pa_cons (pe_callG (ok_parts T) (hr.mono (by decide)) hg (by rfl) gp (kp_parts T.d) pass0 (pa_cons (pv 2) pa_nil)) pa_nil)))
        (pg_tup rfl (pgs_cons (pg_tup rfl (pgs_cons (pg_name (i := 3) nd rfl (.inl rfl)) (pgs_cons (pg_name (i := 4) nd rfl (.inl rfl)) pgs_nil))) (pgs_cons (pg_tup rfl (pgs_cons (pg_name (i := 5) nd rfl (.inl rfl)) (pgs_cons (pg_name (i := 6) nd rfl (.inl rfl)) pgs_nil))) pgs_nil))))
      (pss_one (ps_ret (pe_methG (pv 0) (kp_Field_ratio T.d) (ok_ratio T) (hr.mono (by decide)) hg pass0 (pa_cons (pe_op op_sub (pe_op op_mulW (pv 3) (pv 6)) (pe_op op_mulW (pv 5) (pv 4))) (pa_cons (pe_op op_mulW (pv 4) (pv 6)) pa_nil))))), ?_⟩
    refine ⟨_, rfl, x, _, _, rfl, nx.two, fun u H1 s1 hu => ⟨_, rfl, y, _, _, rfl, (ny.same s1).two, fun v H2 s2 hv => ⟨by show 2 ≤ sizeLine; decide, fun r nr => ?_⟩⟩⟩
    have s3 := same_up (o := .tup [V.ref u, V.ref v]) nr
    refine ⟨r, _, rfl, .inl (.inl upd_same), rfl, _, _, rfl, ⟨u, _, rfl, .inl (.inl (s3 _ _ (s2 _ _ hu))), rfl, _, _, rfl, _, _, rfl, rfl, ?_⟩⟩
    refine ⟨_, _, rfl, ⟨v, _, rfl, .inl (.inl (s3 _ _ hv)), rfl, _, _, rfl, _, _, rfl, rfl, rfl, ?_⟩⟩
    have s4 := (s1.trans s2).trans s3
    refine go_meth rfl (F.same s4) (by decide +kernel) (by decide +kernel) ⟨_, rfl, _, rfl, _, _, rfl, rfl, wide_mul ba.1 (den_bq bb) (by decide) (by decide) (by decide),
      _, rfl, _, rfl, _, _, rfl, rfl, wide_mul bb.1 (den_bq ba) (by decide) (by decide) (by decide), _, _, rfl, rfl, _, rfl, _, rfl, _, _, rfl, rfl, wide_mul (den_bq ba) (den_bq bb) (by decide) (by decide) (by decide), ?_⟩
    refine ⟨f, _, _, rfl, F.same s4, dd_ne a b, to4000 (wide_lt (den_bq ba) (den_bq bb)) (by decide), fun z H5 s5 nz => ?_⟩
    rw [sub_is] at nz
    exact q z H5 (s4.trans s5) nz
theorem ok_minus (T : Tx K mg) : FnG P w K mg base CX0 6 (He.ma K (He.ga K "Field") "minus") (spOp K fun a b => a - b) := by
  refine mk_Field_minus T.d (fun vs H Q E h => ?_) (fun cdv A outer s H vs Q E hg hr h => ?_)
  · obtain ⟨f, x, y, a, b, rfl, _⟩ := h
    rfl
  · obtain ⟨f, x, y, a, b, rfl, F, nx, ny, oa, ob, q⟩ := h
    refine ⟨_, pss_cons (ps_expr (pe_methG (pv 0) (kp_Field__check T.d) (ok_check T) hr hg pass0 (pa_cons (pe_lst (pa_cons (pv 1) (pa_cons (pv 2) pa_nil))) pa_nil)))
      (pss_one (ps_ret (pe_methG (pv 0) (kp_Field_difference_of T.d) (ok_difference_of T) (hr.mono (by decide)) hg pass0 (pa_cons (pv 1) (pa_cons (pv 2) pa_nil))))), ?_⟩
    refine go_meth rfl F (by decide +kernel) (by decide +kernel) ⟨_, rfl, _, rfl, by show 2 ≤ sizeLine; decide, fun l nl => ?_⟩
    have s0 := same_up (o := .lst [x, y]) nl
    refine ⟨f, l, _, rfl, F.same s0, .inl (SqL.of upd_same), pass2 (nx.same s0) (ny.same s0) oa ob, fun H0 sx => ?_⟩
    have sH := s0.trans sx
    exact go_meth rfl (F.same sH) (by decide +kernel) (by decide +kernel) ⟨_, rfl, _, rfl, f, x, y, a, b, rfl, F.same sH, nx.same sH, ny.same sH, oa, ob, fun z H1 s1 nz => q z H1 (sH.trans s1) nz⟩
/-! ### over, and its error -/
theorem ok_product_of (T : Tx K mg) : FnG P w K mg base CX0 3 (He.ma K (He.ga K "Field") "product_of") (spOp K fun a b => a * b) := by
  refine mk_Field_product_of T.d (fun vs H Q E h => ?_) (fun cdv A outer s H vs Q E hg hr h => ?_)
  · obtain ⟨f, x, y, a, b, rfl, _⟩ := h
    rfl
  · obtain ⟨f, x, y, a, b, rfl, F, nx, ny, oa, ob, q⟩ := h
    have ba := ok_bq oa
    have bb := ok_bq ob
    have gp := T.g "parts" (by decide +kernel)
    have nd := sc_Field_product_of.nd
    refine ⟨_, pss_cons (ps_asg (pe_tup (pa_cons (pe_callG (ok_parts T) (hr.mono (by decide)) hg (by rfl) gp (kp_parts T.d) pass0 (pa_cons (pv 1) pa_nil)) (pa_cons (pe_callG (ok_parts T) (hr.mono (by decide)) hg (by rfl) gp (kp_parts T.d) pass0 (pa_cons (pv 2) pa_nil)) pa_nil)))
        (pg_tup rfl (pgs_cons (pg_tup rfl (pgs_cons (pg_name (i := 3) nd rfl (.inl rfl)) (pgs_cons (pg_name (i := 4) nd rfl (.inl rfl)) pgs_nil))) (pgs_cons (pg_tup rfl (pgs_cons (pg_name (i := 5) nd rfl (.inl rfl)) (pgs_cons (pg_name (i := 6) nd rfl (.inl rfl)) pgs_nil))) pgs_nil))))
      (pss_one (ps_ret (pe_methG (pv 0) (kp_Field_ratio T.d) (ok_ratio T) hr hg pass0 (pa_cons (pe_op op_mulW (pv 3) (pv 5)) (pa_cons (pe_op op_mulW (pv 4) (pv 6)) pa_nil))))), ?_⟩
    refine ⟨_, rfl, x, _, _, rfl, nx.two, fun u H1 s1 hu => ⟨_, rfl, y, _, _, rfl, (ny.same s1).two, fun v H2 s2 hv => ⟨by show 2 ≤ sizeLine; decide, fun r nr => ?_⟩⟩⟩
    have s3 := same_up (o := .tup [V.ref u, V.ref v]) nr
    refine ⟨r, _, rfl, .inl (.inl upd_same), rfl, _, _, rfl, ⟨u, _, rfl, .inl (.inl (s3 _ _ (s2 _ _ hu))), rfl, _, _, rfl, _, _, rfl, rfl, ?_⟩⟩
    refine ⟨_, _, rfl, ⟨v, _, rfl, .inl (.inl (s3 _ _ hv)), rfl, _, _, rfl, _, _, rfl, rfl, rfl, ?_⟩⟩
    have s4 := (s1.trans s2).trans s3
    refine go_meth rfl (F.same s4) (by decide +kernel) (by decide +kernel) ⟨_, rfl, _, rfl, _, _, rfl, rfl, wide_mul ba.1 bb.1 (by decide) (by decide) (by decide), _, rfl, _, rfl, _, _, rfl, rfl, wide_mul (den_bq ba) (den_bq bb) (by decide) (by decide) (by decide), ?_⟩
    refine ⟨f, _, _, rfl, F.same s4, dd_ne a b, to4000 (wide_lt (den_bq ba) (den_bq bb)) (by decide), fun z H5 s5 nz => ?_⟩
    rw [mul_is] at nz
    exact q z H5 (s4.trans s5) nz
theorem ok_times (T : Tx K mg) : FnG P w K mg base CX0 6 (He.ma K (He.ga K "Field") "times") (spOp K fun a b => a * b) := by
  refine mk_Field_times T.d (fun vs H Q E h => ?_) (fun cdv A outer s H vs Q E hg hr h => ?_)
  · obtain ⟨f, x, y, a, b, rfl, _⟩ := h
    rfl
  · obtain ⟨f, x, y, a, b, rfl, F, nx, ny, oa, ob, q⟩ := h
    refine ⟨_, pss_cons (ps_expr (pe_methG (pv 0) (kp_Field__check T.d) (ok_check T) hr hg pass0 (pa_cons (pe_lst (pa_cons (pv 1) (pa_cons (pv 2) pa_nil))) pa_nil)))
      (pss_one (ps_ret (pe_methG (pv 0) (kp_Field_product_of T.d) (ok_product_of T) (hr.mono (by decide)) hg pass0 (pa_cons (pv 1) (pa_cons (pv 2) pa_nil))))), ?_⟩
    refine go_meth rfl F (by decide +kernel) (by decide +kernel) ⟨_, rfl, _, rfl, by show 2 ≤ sizeLine; decide, fun l nl => ?_⟩
    have s0 := same_up (o := .lst [x, y]) nl
    refine ⟨f, l, _, rfl, F.same s0, .inl (SqL.of upd_same), pass2 (nx.same s0) (ny.same s0) oa ob, fun H0 sx => ?_⟩
    have sH := s0.trans sx
    exact go_meth rfl (F.same sH) (by decide +kernel) (by decide +kernel) ⟨_, rfl, _, rfl, f, x, y, a, b, rfl, F.same sH, nx.same sH, ny.same sH, oa, ob, fun z H1 s1 nz => q z H1 (sH.trans s1) nz⟩
/-! ### over, and its error -/
theorem ok_nq (T : Tx K mg) : FnG P w K mg base CX0 1 (He.ma K (He.ga K "NoQuotient") "__init__") (spInitN (He.ga K "NoQuotient")) := by
  refine mk_NoQuotient___init__ T.d (fun vs H Q E h => ?_) (fun cdv A outer s H vs Q E hg hr h => ?_)
  · obtain ⟨a, rfl, _⟩ := h
    rfl
  · obtain ⟨a, rfl, ha, q⟩ := h
    refine ⟨_, pss_one (ps_expr (pe_binit PySem.F.excBase_ArithmeticError (by rfl) (T.z "ArithmeticError" (by decide +kernel)) (by decide +kernel) (by kernel_rfl) (by decide +kernel) (by decide +kernel) (by first | rfl | kernel_rfl) (pa_cons (pv 0) pa_nil))), ?_⟩
    exact ⟨_, rfl, a, He.ga K "NoQuotient", [], rfl, by decide, T.nq.q, ha, q⟩
def spOver (K : PySem.W.Frag) : Sp := fun vs H Q E => ∃ (f : Addr) (x y : V) (a b : Rat), vs = [.ref f, x, y] ∧ FieldF K H f ∧ NumQ H x a ∧ NumQ H y b ∧ Ok100 a ∧ Ok100 b ∧
  (b = 0 → ∀ H', Same H H' → E (.ref (He.ga K "NoQuotient")) none H') ∧ (b ≠ 0 → ∀ (z : V) (H' : Hp), Same H H' → NumQ H' z (Rat.divInt (a.num * b.den) (a.den * b.num)) → Q z H')
def spQuo (K : PySem.W.Frag) : Sp := fun vs H Q _ => ∃ (f : Addr) (x y : V) (a b : Rat), vs = [.ref f, x, y] ∧ FieldF K H f ∧ NumQ H x a ∧ NumQ H y b ∧ Ok100 a ∧ Ok100 b ∧
  b ≠ 0 ∧ ∀ (z : V) (H' : Hp), Same H H' → NumQ H' z (Rat.divInt (a.num * b.den) (a.den * b.num)) → Q z H'
theorem ok_quotient_of (T : Tx K mg) : FnG P w K mg base CX0 3 (He.ma K (He.ga K "Field") "quotient_of") (spQuo K) := by
  refine mk_Field_quotient_of T.d (fun vs H Q E h => ?_) (fun cdv A outer s H vs Q E hg hr h => ?_)
  · obtain ⟨f, x, y, a, b, rfl, _⟩ := h
    rfl
  · obtain ⟨f, x, y, a, b, rfl, F, nx, ny, oa, ob, e, q⟩ := h
    have ba := ok_bq oa
    have bb := ok_bq ob
    have gp := T.g "parts" (by decide +kernel)
    have nd := sc_Field_quotient_of.nd
    refine ⟨_, pss_cons (ps_asg (pe_tup (pa_cons (pe_callG (ok_parts T) (hr.mono (by decide)) hg (by rfl) gp (kp_parts T.d) pass0 (pa_cons (pv 1) pa_nil)) (pa_cons (pe_callG (ok_parts T) (hr.mono (by decide)) hg (by rfl) gp (kp_parts T.d) pass0 (pa_cons (pv 2) pa_nil)) pa_nil)))
        (pg_tup rfl (pgs_cons (pg_tup rfl (pgs_cons (pg_name (i := 3) nd rfl (.inl rfl)) (pgs_cons (pg_name (i := 4) nd rfl (.inl rfl)) pgs_nil))) (pgs_cons (pg_tup rfl (pgs_cons (pg_name (i := 5) nd rfl (.inl rfl)) (pgs_cons (pg_name (i := 6) nd rfl (.inl rfl)) pgs_nil))) pgs_nil))))
      (pss_one (ps_ret (pe_methG (pv 0) (kp_Field_ratio T.d) (ok_ratio T) (hr.mono (by decide)) hg pass0 (pa_cons (pe_op op_mulW (pv 3) (pv 6)) (pa_cons (pe_op op_mulW (pv 4) (pv 5)) pa_nil))))), ?_⟩
    refine ⟨_, rfl, x, _, _, rfl, nx.two, fun u H1 s1 hu => ⟨_, rfl, y, _, _, rfl, (ny.same s1).two, fun v H2 s2 hv => ⟨by show 2 ≤ sizeLine; decide, fun r nr => ?_⟩⟩⟩
    have s3 := same_up (o := .tup [V.ref u, V.ref v]) nr
    refine ⟨r, _, rfl, .inl (.inl upd_same), rfl, _, _, rfl, ⟨u, _, rfl, .inl (.inl (s3 _ _ (s2 _ _ hu))), rfl, _, _, rfl, _, _, rfl, rfl, ?_⟩⟩
    refine ⟨_, _, rfl, ⟨v, _, rfl, .inl (.inl (s3 _ _ hv)), rfl, _, _, rfl, _, _, rfl, rfl, rfl, ?_⟩⟩
    have s4 := (s1.trans s2).trans s3
    have bn : b.num ≠ 0 := fun z => e (Rat.num_eq_zero.mp z)
    refine go_meth rfl (F.same s4) (by decide +kernel) (by decide +kernel) ⟨_, rfl, _, rfl, _, _, rfl, rfl, wide_mul ba.1 (den_bq bb) (by decide) (by decide) (by decide), _, rfl, _, rfl, _, _, rfl, rfl, wide_mul (den_bq ba) bb.1 (by decide) (by decide) (by decide), ?_⟩
    refine ⟨f, _, _, rfl, F.same s4, Int.mul_ne_zero (by have := den_pos' a; omega) bn, to4000 (wide_lt (den_bq ba) bb.1) (by decide), fun z H5 s5 nz => ?_⟩
    exact q z H5 (s4.trans s5) nz
/-! ### making the field -/
theorem ok_over (T : Tx K mg) : FnG P w K mg base (L2.CX P w) 6 (He.ma K (He.ga K "Field") "over") (spOver K) := by
  refine mkX_Field_over T.d (fun vs H Q E h => ?_) (fun cdv A outer s H vs Q E hg hr h => ?_)
  · obtain ⟨f, x, y, a, b, rfl, _⟩ := h
    rfl
  · obtain ⟨f, x, y, a, b, rfl, F, nx, ny, oa, ob, qe, q⟩ := h
    have ba := ok_bq oa
    have bb := ok_bq ob
    have gp := T.g "parts" (by decide +kernel)
    have nd := sc_Field_over.nd
    refine ⟨_, pss_cons (ps_expr (pe_methG (pv 0) (kp_Field__check T.d) (ok_check T) hr hg pass0 (pa_cons (pe_lst (pa_cons (pv 1) (pa_cons (pv 2) pa_nil))) pa_nil)))
      (pss_cons (ps_if (pt_cmpR (op_eqD hr.units) (pv 2) pe_int (nomark _)) (pss_one (ps_raise rfl (takes_of rfl rfl rfl rfl) (pmk_n PySem.F.excBase_ArithmeticError T.nq (ok_nq T) (hr.mono (by decide)) hg pass0 (by rfl) (T.g "NoQuotient" (by decide +kernel))))) pss_nil)
      (pss_one (ps_ret (pe_methG (pv 0) (kp_Field_quotient_of T.d) (ok_quotient_of T) (hr.mono (by decide)) hg pass0 (pa_cons (pv 1) (pa_cons (pv 2) pa_nil)))))), ?_⟩
    refine go_meth rfl F (by decide +kernel) (by decide +kernel) ⟨_, rfl, _, rfl, by show 2 ≤ sizeLine; decide, fun l nl => ?_⟩
    have s0 := same_up (o := .lst [x, y]) nl
    refine ⟨f, l, _, rfl, F.same s0, .inl (SqL.of upd_same), pass2 (nx.same s0) (ny.same s0) oa ob, fun H0 sx => ?_⟩
    have sH := s0.trans sx
    refine ⟨_, rfl, dq b, .int 0, dp_q (ny.same sH), .int 0, shaped_q b, (by simp [SeqAt.shaped, PyData.canLay0, PyData.depth]), _, rfl, ?_⟩
    rw [eqv_q0]
    by_cases e : b = 0
    · exact ifT (decide_eq_true e) (qe e H0 sH)
    · refine ifF (decide_eq_false e) ?_
      exact go_meth rfl (F.same sH) (by decide +kernel) (by decide +kernel) ⟨_, rfl, _, rfl, f, x, y, a, b, rfl, F.same sH, nx.same sH, ny.same sH, oa, ob, e, fun z H5 s5 nz => q e z H5 (sH.trans s5) nz⟩
def spFInit (K : PySem.W.Frag) : Sp := fun vs H Q _ => ∃ (f C dx : Addr), vs = [.ref f, .non] ∧ FC K C ∧ H f = some (.ins C dx []) ∧ Q .non (upd H f (.ins C dx [(("_prime" : Str), V.non)]))
theorem ok_finit (T : Tx K mg) : FnG P w K mg base CX0 1 (He.ma K (He.ga K "Field") "__init__") (spFInit K) := by
  refine mk_Field___init__ T.d (fun vs H Q E h => ?_) (fun cdv A outer s H vs Q E hg hr h => ?_)
  · obtain ⟨f, C, dx, rfl, _⟩ := h
    rfl
  · obtain ⟨f, C, dx, rfl, c, hf, q⟩ := h
    exact ⟨_, pss_one (ps_fld (pv 0) (pv 1) rfl), ⟨_, rfl, _, rfl, f, C, dx, [], rfl, hf, c.cl, c.np, (by show 0 < 1000; decide), q⟩⟩
end
end K03

/-! Defs with a star parameter; the sum of a tuple. -/
namespace Ver
open PySem PySem.Spec PyProof.Rows L2
theorem preSum_take {ns : List Int} : ∀ n, n ≤ ns.length → preSum (fun i => ns.getD i 0) n = (ns.take n).sum
  | 0, _ => by rw [List.take_zero]; rfl
  | n + 1, h => by
    have e : ns[n]? = some (ns.getD n 0) := by
      rw [List.getD_eq_getElem?_getD, List.getElem?_eq_getElem (by omega)]
      rfl
    show preSum _ n + ns.getD n 0 = _
    rw [preSum_take n (by omega), sum_take e]
section
variable {prog : Program} {w : World} {A : Around} {E : Value → Shared → Prop} {s : Shared} {l : Addr} {its : List Value} {ns : List Int} {Q : Value → Shared → Prop}
theorem sum_tup (hh : A.handled = none) (hl : IsTup s.heap l its.toArray) (rv : Vals (ns.map V.int) its)
    (h : ∀ h' tk t', (∀ b o, s.heap.get? b = some o → h'.get? b = some o) → Q (.int ns.sum t') { s with heap := h', toks := tk }) : wpAny (model prog w) A (call (.builtin "sum") [.ref l]) Q E s := by
  have hne : l ≠ s.heap.objs.size := Nat.ne_of_lt (by obtain ⟨o, e, _⟩ := hl; exact Heap.lt_size e)
  have hlen := rv.length
  rw [List.length_map] at hlen
  have sz : (s.heap.push { cls := .type "tuple_iterator", data := .fields #[.ref l, .int 0 0] }).objs.size = s.heap.objs.size + 1 := Heap.size_push ..
  refine call_sum_walkG (wpAny_pyIter_tuple (show s.heap.IsTuple l its.toArray from hl) ?_)
  refine ⟨_, _, _, _, _, _, fun i => ns.getD i 0, rfl, Walks.tuple (A := A.in1) hh _ l hne its.toArray, ⟨⟨_, Heap.get?_push_size _ rfl, rfl, rfl⟩, ?_⟩, fun b hb => ?_, fun i v hv => ?_, fun h' tk t' hk => ?_⟩
  · obtain ⟨o, e, c⟩ := hl
    exact ⟨o, Heap.get?_push_of_some _ e, c⟩
  · show b < (s.heap.push _).objs.size
    rw [Heap.size_push]
    rcases List.mem_cons.mp hb with e | hb
    · rw [e]
      exact Nat.lt_succ_self _
    · rw [List.mem_singleton.mp hb]
      exact Nat.lt_succ_of_lt (by obtain ⟨o, e, _⟩ := hl; exact Heap.lt_size e)
  · have hi : its[i]? = some v := by simpa using hv
    have lt : i < ns.length := by
      have := (List.getElem?_eq_some_iff.mp hi).1
      omega
    obtain ⟨u, hu, t, ru⟩ := rv.get (i := i) (x := V.int ns[i]) (by rw [List.getElem?_map, List.getElem?_eq_getElem lt]; rfl)
    rw [hi] at hu
    refine ⟨t, ?_⟩
    have e2 : ns.getD i 0 = ns[i] := by
      rw [List.getD_eq_getElem?_getD, List.getElem?_eq_getElem lt]
      rfl
    rw [Option.some.inj hu, ru]
    show Value.int ns[i] t = Value.int (ns.getD i 0) t
    rw [e2]
  · have e : preSum (fun i => ns.getD i 0) its.toArray.size = ns.sum := by
      rw [List.size_toArray, ← hlen, preSum_take _ (Nat.le_refl _), List.take_length]
    rw [e]
    refine h h' tk t' fun b o ho => hk b o (fun z => ?_) (Heap.get?_push_of_some _ ho)
    rw [List.mem_singleton.mp z] at ho
    exact absurd (Heap.lt_size ho) (Nat.lt_irrefl _)
end
/-- sum(t), t a tuple of ints -/
theorem cr_sumT {X : Cx} (hc : X.calm = true) : CallR X (.builtin "sum") (fun vs H Q => ∃ (a : Addr) (ns : List Int), vs = [V.ref a] ∧ SqT X.K H a (ns.map V.int) ∧ Q (.int ns.sum) H) := by
  intro pins s σ H vs us Q I r h
  obtain ⟨a, ns, rfl, hs, q⟩ := h
  obtain ⟨its, rv, hl, _⟩ := I.tuple hs
  obtain ⟨u, rfl, ru⟩ := vals1 r
  cases (show u = Value.ref a from ru)
  exact sum_tup (I.ok.hd hc) hl rv fun h' tk t' hk => ⟨.int _, H, I.kept hk, ⟨_, rfl⟩, q⟩
/-- def f(a, .., *rest) -/
theorem okStar {P : Program} {w : World} {K : PySem.W.Frag} {mg : Str → Option Value} {base : Heap} {k : Nat} {f : Addr} {fd : FuncData} {sp : Sp} {x qual pr : Str} {params : Arguments} {body : List Stmt} {scope : Scope} {N ps : List Str} {kws : List (Str × V)}
    (F : FunD K x qual params body scope [] kws f fd) (S : FnScope N (ps ++ [pr]) scope)
    (hb : ∀ (kV doc pm : Value) (an : Option Addr) (cdv ct : Value) (us rest : List Value), us.length = ps.length → bindArgs (PySem.W.fnOf x qual params body scope .none kV doc pm an cdv ct) ⟨us ++ rest, []⟩ = (newTuple rest >>= fun t => pure (ps.zip us ++ [(pr, t)])))
    (hbody : ∀ (cdv : Value) (A : Around) (outer : List Env) (s : Shared) (H : Hp) (vs : List V) (Q : VK) (E : XK), A.guards = some [] → Room k (A.deeper (envOfC qual scope s.heap.objs.size f cdv)) → sp vs H Q E →
      ∃ t, PSs (cxOf CX0 P w K mg base N qual scope f cdv A outer s H E).nox body t ∧ t { nx := fun _ H' => Q .non H', rt := Q } (start N vs) H) :
    FnG P w K mg base CX0 (k + 1) f (fun vs H Q E => ∃ ws rest, vs = ws ++ rest ∧ ws.length = ps.length ∧ rest.length ≤ sizeLine ∧ ∀ p, H p = none → sp (ws ++ [V.ref p]) (upd H p (.tup rest)) Q E) := by
  obtain ⟨⟨oc, od, dV, kV, doc, pm, an, cdv, ct, osl, rfl, lk, hcd, hD, _⟩, _⟩ := F
  have eD : dV = .none := by
    rcases hD with ⟨_, e⟩ | ⟨e, _⟩
    · exact e
    · exact absurd rfl e
  subst eD
  intro A outer s H us vs Q E hg hr e0 r hsp
  obtain ⟨ws, rest, rfl, hl, hz, hq⟩ := hsp
  obtain ⟨u1, u2, rfl, r1, r2⟩ := StX.vals_split r
  have n0 : H s.heap.objs.size = none := e0.hok.fresh (Nat.le_refl _)
  have l1 : u1.length = ps.length := r1.length.symm.trans hl
  refine StX.run_bnd lk hcd S hr e0 (G := fun xs H2 => ∃ p, H p = none ∧ xs = ws ++ [V.ref p] ∧ H2 = upd H p (.tup rest)) (fun A' Ex Q' h => ?_) fun s2 H2 xs g hr' => ?_
  · rw [hb _ _ _ _ _ _ u1 u2 l1]
    have new : ObjOk P w (upd H s.heap.objs.size (.tup rest)) (s.heap.push ({ cls := .type "tuple", data := .seq u2.toArray } : Obj)) s.heap.objs.size (.tup rest) := ⟨hz, u2, r2, ⟨_, Heap.get?_push_size _ rfl, rfl, _, rfl⟩⟩
    have z := h _ _ (ws ++ [V.ref s.heap.objs.size]) (u1 ++ [Value.ref s.heap.objs.size]) (StX.env0_laid e0 new) (StX.un_laid (fs := frs outer) (s := s) n0) rfl (fun e s' q => q) (r1.append (.cons rfl .nil))
      (by rw [List.length_append, List.length_append, hl] <;> rfl) ⟨_, n0, rfl, rfl⟩
    rw [List.zip_append l1.symm] at z
    exact wpAny_bind (wpAny_newTuple (wpAny_pure z) (by rw [← r2.length]; exact hz))
  · obtain ⟨p, hp, rfl, rfl⟩ := g
    obtain ⟨t, ht, q⟩ := hbody cdv A outer s2 _ _ Q E hg hr' (hq p hp)
    exact ⟨t, ht.nox, q⟩
end Ver

namespace Ver
open PySem PySem.Spec PyProof.Rows L2
/-- C.m(e, ..), m a plain def of the class C itself or above it -/
theorem pe_clsG {X : Cx} {CX : CXT} {k : Nat} {f C : Addr} {sp : Sp} {E : XK} {x m : Str} {p pos apos : Pos} {e : Expr} {es : List Expr} {t : TA} {pl : Sem Bool} (hg : Gl X x) (hm : X.mg x = some (.ref C)) (rd : PySem.W.readsIn X.K C (.type "type") = true)
    (ga : PySem.W.specialIn X.K (.ref C) "__getattribute__" = some (some (.builtin "type.__getattribute__"))) (fi : PySem.W.findCls X.K (.ref C) (.type "type") m = some (.val (.ref f))) (hk : PySem.W.keepIn X.K (.ref f) = true)
    (F : FnG X.prog X.w X.K X.mg X.base CX k f sp) (hr : Room k X.A) (hgd : X.A.guards = some []) (hx : Passes CX X E) (ha : PA X (e :: es) t)
    (hst : starEach (e :: es) X.env = (false, eval e X.env) :: starEach es X.env := by rfl) (hpl : (backTo pos (starEach es X.env)).any (·.1) = false := by rfl)
    (ht : eval (.Call (.Attribute (.Name x p) m apos) (e :: es) [] pos) X.env = (do
      let ov ← eval (.Name x p) X.env
      standAt apos.atName
      let (g, first) ← holding [ov] (getMethod ov m pl)
      callWith pos g first (backTo pos (starEach (e :: es) X.env)) (backToKw pos (keywordEach [] X.env))) := by rfl) (hdb : (x == ("__debug__" : Str)) = false := by decide) :
    PE X (.Call (.Attribute (.Name x p) m apos) (e :: es) [] pos) (fun σ H Q => t σ H fun vs H1 => sp vs H1 Q E) := by
  refine ⟨fun pins s σ H Q I h => PySem.W.methodCall_KW (pl := pl) (ld_glob I hg hm ?_ hdb) ht⟩
  refine PySem.W.method_cls I.kIn ga (PySem.W.cls_value I.kIn rd fi rfl ?_)
  have J := I.tok (s.toks + 1)
  refine PySem.W.callWith_K (first := []) (h₀ := X.base) I.ok.mod.kin hk (thn (ha.run pos pins _ σ H _ J h) fun us s1 z => ?_) hst hpl
  obtain ⟨vs, H1, I1, r, q⟩ := z
  exact ⟨I1.kIn, runG F hr hgd hx I1 r q⟩
/-- lcm of two ints, great ones too -/
theorem cr_lcm {X : Cx} : CallR X (.builtin "math.lcm") (fun vs H Q => ∃ a b : Int, vs = [.int a, .int b] ∧ a.natAbs < 2 ^ 8000 ∧ b.natAbs < 2 ^ 8000 ∧ Q (.int ((Nat.lcm a.natAbs b.natAbs : Nat) : Int)) H) := by
  intro pins s σ H vs us Q I r h
  obtain ⟨a, b, rfl, ha, hb, q⟩ := h
  obtain ⟨t, u, rfl⟩ := Vals.int2 r
  have la := PySem.Flt.log2_lt_of (by decide) ha
  have lb := PySem.Flt.log2_lt_of (by decide) hb
  have h1 : (max 1 a.natAbs).log2 ≤ 8000 := by
    rcases Nat.le_total 1 a.natAbs with z | z
    · rw [Nat.max_eq_right z]; omega
    · rw [Nat.max_eq_left z]; decide
  have h2 : (max a.natAbs b.natAbs).log2 ≤ 8000 := by
    rcases Nat.le_total a.natAbs b.natAbs with z | z
    · rw [Nat.max_eq_right z]; omega
    · rw [Nat.max_eq_left z]; omega
  have e1 : Nat.lcm 1 a.natAbs = a.natAbs := Nat.lcm_one_left _
  have hs : ((((Nat.lcm 1 a.natAbs).lcm b.natAbs : Nat) : Int)).natAbs.log2 < bitsLine := by
    rw [e1]
    have l1 : Nat.lcm a.natAbs b.natAbs ≤ a.natAbs * b.natAbs := by
      rw [Nat.lcm]
      exact Nat.div_le_self _ _
    have l2 : a.natAbs * b.natAbs < 2 ^ (8000 + 8000) := by
      rw [Nat.pow_add]
      exact Nat.mul_lt_mul'' ha hb
    have l3 : (((Nat.lcm a.natAbs b.natAbs : Nat) : Int)).natAbs < 2 ^ (8000 + 8000) := Nat.lt_of_le_of_lt l1 l2
    have l4 := PySem.Flt.log2_lt_of (by decide) l3
    have e : bitsLine = 134217728 := by decide
    omega
  have g := PySem.W.mg_run_lcm a t b u (by omega) (by omega) hs
  rw [e1] at g
  exact PySem.call_function_meets PySem.W.MGF.kind_lcm PySem.W.MGF.plain_lcm PySem.W.MGF.entry_lcm (PySem.W.MGF.args_lcm _ _) g.meets ⟨.int _, H, I.tok _, ⟨_, rfl⟩, q⟩
end Ver
namespace K03
open PySem PySem.Spec PyProof.Rows L2 Ver Num
theorem same_past {H1 H : Hp} {D : Addr} {o : HO} (s : Same H1 H) (n : H1 D = none) : Same H1 (upd H D o) := fun b u e => by
  rw [upd_ne (ne_of_none e n)]
  exact s b u e
section
variable {P : Program} {w : World} {K : PySem.W.Frag} {mg : Str → Option Value} {base : Heap}
/-! ### Fractions() -/
def spFracInit (K : PySem.W.Frag) : Sp := fun vs H Q _ => ∃ (f dx : Addr), vs = [.ref f] ∧ H f = some (.ins (He.ga K "Fractions") dx []) ∧ Q .non (upd H f (.ins (He.ga K "Fractions") dx [(("_prime" : Str), V.non)]))
theorem ok_fracinit (T : Tx K mg) : FnG P w K mg base CX0 2 (He.ma K (He.ga K "Fractions") "__init__") (spFracInit K) := by
  refine mk_Fractions___init__ T.d (fun vs H Q E h => ?_) (fun cdv A outer s H vs Q E hg hr h => ?_)
  · obtain ⟨f, dx, rfl, _⟩ := h
    rfl
  · obtain ⟨f, dx, rfl, hf, q⟩ := h
    refine ⟨_, pss_one (ps_expr (pe_clsG (by rfl) (T.g "Field" (by decide +kernel)) T.rdF T.gaF T.fiF (kp_Field___init__ T.d) (ok_finit T) hr hg pass0 (pa_cons (pv 0) (pa_cons pe_non pa_nil)))), ?_⟩
    exact ⟨_, rfl, f, _, dx, rfl, T.fc, hf, q⟩
/-! ### common, total -/
def NumsQ (H : Hp) (xs : List V) (qs : List Rat) : Prop := xs.length = qs.length ∧ ∀ (i : Nat) (x : V) (q : Rat), xs[i]? = some x → qs[i]? = some q → NumQ H x q
theorem NumsQ.same {H H' : Hp} {xs : List V} {qs : List Rat} (h : NumsQ H xs qs) (s : Same H H') : NumsQ H' xs qs := ⟨h.1, fun i x q a b => (h.2 i x q a b).same s⟩
theorem NumsQ.get {H : Hp} {xs : List V} {qs : List Rat} (h : NumsQ H xs qs) {i : Nat} {x : V} (e : xs[i]? = some x) : ∃ q, qs[i]? = some q ∧ NumQ H x q := by
  have li := (List.getElem?_eq_some_iff.mp e).1
  rw [h.1] at li
  exact ⟨_, List.getElem?_eq_getElem li, h.2 i x _ e (List.getElem?_eq_getElem li)⟩
def spCommon (K : PySem.W.Frag) : Sp := fun vs H Q _ => ∃ (f l : Addr) (xs : List V) (qs : List Rat), vs = [.ref f, .ref l] ∧ FieldF K H f ∧ H l = some (.tup xs) ∧ NumsQ H xs qs ∧ qs.length ≤ 10 ∧ (∀ q ∈ qs, Ok100 q) ∧
  ∀ (t l' : Addr) (L : Int) (ns : List Int) (H' : Hp), Same H H' → H' t = some (.tup [.ref l', .int L]) → (SqL K H' l' (ns.map V.int) ∨ SqT K H' l' (ns.map V.int)) → L ≠ 0 → L.natAbs < 2 ^ 4000 → Rat.divInt ns.sum L = qs.sum → Q (.ref t) H'
theorem all_one {H : Hp} : ∀ {xs : List V} {qs : List Rat}, NumsQ H xs qs → (∀ q ∈ qs, q.den = 1) → xs = (qs.map fun q => q.num * (1 / (q.den : Int))).map V.int := fun {xs qs} h hd => by
  apply List.ext_getElem?
  intro i
  rw [List.getElem?_map, List.getElem?_map]
  cases e : xs[i]? with
  | none =>
    have : qs[i]? = none := by
      rw [List.getElem?_eq_none_iff] at e ⊢
      rw [← h.1]
      exact e
    rw [this]
    rfl
  | some x =>
    obtain ⟨q, e2, n⟩ := h.get e
    have d := hd q (List.mem_of_getElem? e2)
    rw [e2]
    rcases n with ⟨_, ex⟩ | ⟨z, _⟩
    · show some x = some (V.int (q.num * (1 / (q.den : Int))))
      rw [ex, d]
      simp
    · exact absurd d z
theorem ok_common (T : Tx K mg) : FnG P w K mg base CX0 2 (He.ma K (He.ga K "Field") "common") (spCommon K) := by
  refine mk_Field_common T.d (fun vs H Q E h => ?_) (fun cdv A outer s H vs Q E hg hr h => ?_)
  · obtain ⟨f, l, xs, qs, rfl, _⟩ := h
    rfl
  · obtain ⟨f, l, xs, qs, rfl, F, hl, hn, hz, ho, q⟩ := h
    have nd := sc_Field_common.nd
    refine ⟨_, pss_cons (ps_if (pt_cmp (pc_notN (pe_fld (pv 0) rfl))) pss_never pss_nil)
      (pss_cons (ps_set (i := 2) nd rfl (Or.inr rfl) pe_int)
      (pss_cons (ps_for PassesOwn.never rfl (pi_tup (pv 1)) (pg_name (i := 3) nd rfl (.inl rfl))
        (pss_one (ps_if (pt_val (pe_callB call_isi (by rfl) (T.z "isinstance" (by decide +kernel)) (by decide +kernel) (pa_cons (pv 3) (pa_cons (pe_bltn (v := .ty "tuple") (by rfl) (T.z "tuple" (by decide +kernel)) (by decide +kernel) rfl) pa_nil))))
          (pss_one (ps_set (i := 2) nd rfl (Or.inr rfl) (pe_callBfun cr_lcm (by rfl) T.lcm (pa_cons (pv 2) (pa_cons (pe_ix ix_tup (pv 3) pe_int (fun _ _ => rfl)) pa_nil))))) pss_nil)))
      (pss_cons (ps_if (pt_cmpR op_eq (pv 2) pe_int (nomark _)) (pss_one (ps_ret (pe_tup (pa_cons (pv 1) (pa_cons pe_int pa_nil))))) pss_nil)
      (pss_one (ps_ret (pe_tup (pa_cons
        (pe_lc (own := [("above", 5), ("below", 6)]) (g := gTup K 2 (gCons (gName 5) (gCons (gName 6) gNil))) (tt := tYes) rfl nd
          (pi_list (pe_lc (own := [("each", 4)]) (g := gName 4) (tt := tYes) rfl nd (pi_tup (pv 1)) (blkOk_by (N := n_Field_common) (sc := defScope s_Field_common) (by decide +kernel)) (fun _ _ _ _ _ => pg_name (i := 4) nd rfl (Or.inl rfl)) (fun _ _ _ _ _ => pts_nil)
            (fun _ _ _ _ _ => pe_callG (ok_parts T) hr hg (by rfl) (T.g "parts" (by decide +kernel)) (kp_parts T.d) pass0 (pa_cons (pv 4) pa_nil))))
          (blkOk_by (N := n_Field_common) (sc := defScope s_Field_common) (by decide +kernel)) (fun _ _ _ _ _ => pg_tup rfl (pgs_cons (pg_name (i := 5) nd rfl (Or.inl rfl)) (pgs_cons (pg_name (i := 6) nd rfl (Or.inl rfl)) pgs_nil))) (fun _ _ _ _ _ => pts_nil)
          (fun _ _ _ _ _ => pe_op op_mulW (pv 5) (pe_op op_fdivW (pv 2) (pv 6)))) (pa_cons (pv 2) pa_nil)))))))), ?_⟩
    refine rd_prime rfl F ⟨_, rfl, ifF rfl ?_⟩
    have hT : SqT K H l xs := .inl (.inl hl)
    refine ⟨_, rfl, l, rfl, ⟨_, hT⟩, for_tup (K := K) (a := l) (xs := xs) (fun i σ H' => ∃ (L : Int) (v : Option V), σ = [some (.ref f), some (.ref l), some (.int L), v, none, none, none] ∧ 0 < L ∧ L.natAbs < 2 ^ (333 * i + 1) ∧ (∀ q ∈ qs.take i, (q.den : Int) ∣ L) ∧ H' = H)
      ⟨1, none, rfl, by decide, by decide, (fun q hq => by rw [List.take_zero] at hq; cases hq), rfl⟩ (fun i σ H' _ ⟨_, _, _, _, _, _, e⟩ => e ▸ hT) ?_ ?_⟩
    · rintro i x σ H' hi ⟨L, v, rfl, L0, Lb, Ld, rfl⟩
      obtain ⟨r, hr2, n⟩ := hn.get hi
      have tk : qs.take (i + 1) = qs.take i ++ [r] := by rw [List.take_add_one, hr2]; rfl
      have i10 : i < 10 := by
        have := (List.getElem?_eq_some_iff.mp hr2).1
        omega
      rcases n with ⟨d1, rfl⟩ | ⟨d1, a, rfl, ha⟩
      · refine ⟨_, rfl, _, _, _, _, false, rfl, .ty "tuple", .base (.int _), kit_ty (by decide +kernel), _, rfl, ifF rfl ?_⟩
        refine ⟨L, _, rfl, L0, Nat.lt_of_lt_of_le Lb (Nat.pow_le_pow_right (by decide) (by omega)), fun q hq => ?_, rfl⟩
        rw [tk] at hq
        rcases List.mem_append.mp hq with hq | hq
        · exact Ld q hq
        · rw [List.mem_singleton.mp hq, d1]
          exact Int.one_dvd L
      · have br := ok_bq (ho r (List.mem_of_getElem? hr2))
        refine ⟨_, rfl, _, _, _, _, true, rfl, .ty "tuple", .base (.tup ha), kit_ty (by decide +kernel), _, rfl, ifT rfl ?_⟩
        have Lb2 : L.natAbs < 2 ^ 8000 := Nat.lt_of_lt_of_le Lb (Nat.pow_le_pow_right (by decide) (by omega))
        refine ⟨_, rfl, _, rfl, a, _, _, _, rfl, rfl, .inl (.inl ha), (by rfl : atI [V.int r.num, V.int (r.den : Int)] 1 = some (V.int (r.den : Int))), L, (r.den : Int), rfl, Lb2, Nat.lt_of_lt_of_le (den_bq br) (Nat.pow_le_pow_right (by decide) (by decide)), ?_⟩
        have dpos := r.den_pos
        have Lpos : 0 < L.natAbs := by omega
        have e1 : ((r.den : Nat) : Int).natAbs = r.den := rfl
        have lp : 0 < Nat.lcm L.natAbs r.den := Nat.lcm_pos Lpos dpos
        have lle : Nat.lcm L.natAbs r.den ≤ L.natAbs * r.den := by
          rw [Nat.lcm]
          exact Nat.div_le_self _ _
        refine ⟨_, _, rfl, ?_, ?_, fun q hq => ?_, rfl⟩
        · rw [e1]
          exact Int.natCast_pos.mpr lp
        · rw [e1]
          show Nat.lcm L.natAbs r.den < _
          refine Nat.lt_of_le_of_lt lle ?_
          rw [show 333 * (i + 1) + 1 = (333 * i + 1) + 333 by omega, Nat.pow_add]
          exact Nat.mul_lt_mul'' Lb br.2
        · rw [tk] at hq
          rw [e1]
          rcases List.mem_append.mp hq with hq | hq
          · refine Int.dvd_trans (Ld q hq) ?_
            rw [← Int.natAbs_dvd_natAbs]
            exact Nat.dvd_lcm_left _ _
          · rw [List.mem_singleton.mp hq]
            exact Int.natCast_dvd_natCast.mpr (Nat.dvd_lcm_right _ _)
    · rintro σ H' ⟨L, v, rfl, L0, Lb, Ld, rfl⟩
      have lx : xs.length ≤ 10 := by rw [hn.1]; exact hz
      have tk : qs.take xs.length = qs := by rw [hn.1, List.take_length]
      rw [tk] at Ld
      have Lb2 : L.natAbs < 2 ^ 4000 := Nat.lt_of_lt_of_le Lb (Nat.pow_le_pow_right (by decide) (by omega))
      refine ⟨_, rfl, rfl, _, rfl, ?_⟩
      rw [iEq]
      by_cases e : L = 1
      · subst e
        refine ifT (decide_eq_true rfl) ⟨_, rfl, by show 2 ≤ sizeLine; decide, fun t nt => ?_⟩
        have s1 := same_up (o := .tup [V.ref l, V.int 1]) nt
        have d1 : ∀ q ∈ qs, q.den = 1 := fun q hq => by
          have := Int.le_of_dvd (by decide) (Ld q hq)
          have := q.den_pos
          omega
        have ex := all_one hn d1
        refine q t l 1 (qs.map fun q => q.num * (1 / (q.den : Int))) _ s1 upd_same (.inr (.inl (.inl (by rw [← ex]; exact s1 _ _ hl)))) (by decide) (by decide) (sum_L (by decide) qs Ld)
      · refine ifF (decide_eq_false e) ?_
        refine ⟨_, rfl, l, rfl, ⟨_, hT⟩, fun D1 n1 => lc_tup (K := K) (a := l) (xs := xs) (g := gName 4) (tt := tYes) (te := fun σ H Q => tCons (tVar 4) tNil σ H fun vs H1 => spParts K vs H1 Q E0) (vs := [4]) (fun i H2 => ∃ ps : List Addr, ps.length = i ∧ H2 D1 = some (.lst (ps.map V.ref)) ∧ (∀ (j : Nat) (p : Addr) (r : Rat), ps[j]? = some p → qs[j]? = some r → H2 p = some (.tup [.int r.num, .int (r.den : Int)])) ∧ Same H' H2)
          ⟨[], rfl, upd_same, fun j p r h => by simp at h, same_up n1⟩ (fun i H2 _ ⟨_, _, _, _, s2⟩ => sameT s2 hT) ?_ ?_⟩
        · rintro i x H2 hi ⟨ps, pl, pd, pt, s2⟩
          obtain ⟨r, hr2, n⟩ := hn.get hi
          refine ⟨rfl, ?_⟩
          refine ⟨_, rfl, x, _, _, rfl, (n.same s2).two, fun p H4 s4 hp => ⟨ps.map V.ref, s4 _ _ pd, ?_, ps ++ [p], ?_, ?_, ?_, ?_⟩⟩
          · rw [List.length_map, pl]
            have := (List.getElem?_eq_some_iff.mp hi).1
            exact Nat.lt_of_lt_of_le (show i < 10 by omega) (by decide)
          · rw [List.length_append, pl]; rfl
          · rw [List.map_append]
            exact upd_same
          · intro j p' r' h1 h2
            have key : H4 p' = some (.tup [.int r'.num, .int (r'.den : Int)]) := by
              by_cases c : j < ps.length
              · rw [List.getElem?_append_left c] at h1
                exact s4 _ _ (pt j p' r' h1 h2)
              · have hlt := (List.getElem?_eq_some_iff.mp h1).1
                rw [List.length_append] at hlt
                have jl : j = i := by
                  have : [p].length = 1 := rfl
                  omega
                rw [List.getElem?_append_right (by omega), jl, pl, Nat.sub_self] at h1
                rw [jl, hr2] at h2
                cases h2
                cases h1
                exact hp
            rw [upd_ne (ne_of key (s4 _ _ pd) (by intro z; cases z))]
            exact key
          · exact same_past (s2.trans s4) n1
        · rintro H2 ⟨ps, pl, pd, pt, s2⟩
          refine ⟨D1, rfl, ⟨_, SqL.of pd⟩, fun D2 n2 => lc_list (K := K) (a := D1) (xs := ps.map V.ref) (fun i H3 => H3 D2 = some (.lst ((qs.take i).map fun r => V.int (r.num * (L / (r.den : Int))))) ∧ Same H2 H3)
            ⟨by rw [List.take_zero]; exact upd_same, same_up n2⟩ (fun i H3 _ ⟨_, s3⟩ => SqL.of (s3 _ _ pd)) ?_ ?_⟩
          · rintro i x H3 hi ⟨h3, s3⟩
            rw [List.getElem?_map] at hi
            cases ep : ps[i]? with
            | none => rw [ep] at hi; cases hi
            | some p =>
              rw [ep] at hi
              cases hi
              have il := (List.getElem?_eq_some_iff.mp ep).1
              have iq : i < qs.length := by rw [← hn.1, ← pl]; exact il
              have eq2 : qs[i]? = some qs[i] := List.getElem?_eq_getElem iq
              have hp := s3 _ _ (pt i p qs[i] ep eq2)
              have br := ok_bq (ho qs[i] (List.getElem_mem iq))
              have dpos := den_pos' qs[i]
              refine ⟨p, _, rfl, .inl (.inl hp), rfl, _, _, rfl, _, _, rfl, rfl, rfl, ?_⟩
              have lq : (L / (qs[i].den : Int)).natAbs < 2 ^ 4000 := by
                have h0 : 0 ≤ L / (qs[i].den : Int) := Int.ediv_nonneg (by omega) (by omega)
                have h1 : L / (qs[i].den : Int) ≤ L := Int.ediv_le_self _ (by omega)
                exact wide_le h0 h1 Lb2
              refine ⟨_, rfl, _, rfl, _, rfl, _, _, rfl, rfl, wide_div dpos (den_bq br) (by decide) (by decide), _, _, rfl, rfl, wide_mul br.1 lq (by decide) (by decide) (by decide), ?_⟩
              refine ⟨_, h3, ?_, ?_, same_past s3 n2⟩
              · rw [List.length_map, List.length_take]
                exact Nat.lt_of_le_of_lt (Nat.min_le_left _ _) (Nat.lt_of_lt_of_le (show i < 10 by omega) (by decide))
              · have tk2 : qs.take (i + 1) = qs.take i ++ [qs[i]] := by rw [List.take_add_one, eq2]; rfl
                rw [tk2, List.map_append]
                exact upd_same
          · rintro H3 ⟨h3, s3⟩
            have full : qs.take (ps.map V.ref).length = qs := by rw [List.length_map, pl, tk]
            rw [full] at h3
            refine ⟨_, rfl, by show 2 ≤ sizeLine; decide, fun t nt => ?_⟩
            have s4 := same_up (o := .tup [V.ref D2, V.int L]) nt
            refine q t D2 L (qs.map fun r => r.num * (L / (r.den : Int))) _ (((s2.trans s3)).trans s4) upd_same (.inl (SqL.of (s4 _ _ (by rw [List.map_map]; exact h3)))) (by omega) Lb2 (sum_L (by omega) qs Ld)
end
end K03

namespace K03
open PySem PySem.Spec PyProof.Rows L2 Ver Num
section
variable {P : Program} {w : World} {K : PySem.W.Frag} {mg : Str → Option Value} {base : Heap}
def spTotalB (K : PySem.W.Frag) : Sp := fun vs H Q _ => ∃ (f l : Addr) (xs : List V) (qs : List Rat), vs = [.ref f, .ref l] ∧ FieldF K H f ∧ H l = some (.tup xs) ∧ NumsQ H xs qs ∧ qs.length ≤ 10 ∧ (∀ q ∈ qs, Ok100 q) ∧ ∀ (z : V) (H' : Hp), Same H H' → NumQ H' z qs.sum → Q z H'
def spTotal (K : PySem.W.Frag) : Sp := fun vs H Q _ => ∃ (f : Addr) (xs : List V) (qs : List Rat), vs = V.ref f :: xs ∧ FieldF K H f ∧ NumsQ H xs qs ∧ qs.length ≤ 10 ∧ (∀ q ∈ qs, Ok100 q) ∧ ∀ (z : V) (H' : Hp), Same H H' → NumQ H' z qs.sum → Q z H'
theorem all_ok {H : Hp} {xs : List V} {qs : List Rat} (h : NumsQ H xs qs) (ho : ∀ q ∈ qs, Ok100 q) : ∀ x ∈ xs, ∃ q, NumQ H x q ∧ Ok100 q := fun x hx => by
  obtain ⟨i, hi, e⟩ := List.mem_iff_getElem.mp hx
  obtain ⟨q, e2, n⟩ := h.get (i := i) (x := x) (by rw [List.getElem?_eq_getElem hi, e])
  exact ⟨q, n, ho q (List.mem_of_getElem? e2)⟩
theorem ok_total (T : Tx K mg) : FnG P w K mg base CX0 6 (He.ma K (He.ga K "Field") "total") (spTotal K) := by
  obtain ⟨fd, FD⟩ := T.d.def_ 8 (d := d_Field_total) rfl
  have star := okStar (P := P) (w := w) (mg := mg) (base := base) (k := 5) (sp := spTotalB K) (ps := ["self"]) (pr := "numbers") FD sc_Field_total
    (fun kV doc pm an cdv ct us rest hl => by
      match us, hl with
      | [a], _ => cases rest <;> rfl) (fun cdv A outer s H vs Q E hg hr h => by
      obtain ⟨f, l, xs, qs, rfl, F, hl, hn, hz, ho, q⟩ := h
      have nd := sc_Field_total.nd
      refine ⟨_, pss_cons (ps_expr (pe_methG (pv 0) (kp_Field__check T.d) (ok_check T) hr hg pass0 (pa_cons (pv 1) pa_nil)))
        (pss_cons (ps_asg (pe_methG (pv 0) (kp_Field_common T.d) (ok_common T) (hr.mono (by decide)) hg pass0 (pa_cons (pv 1) pa_nil)) (pg_tup rfl (pgs_cons (pg_name (i := 2) nd rfl (.inl rfl)) (pgs_cons (pg_name (i := 3) nd rfl (.inl rfl)) pgs_nil))))
        (pss_one (ps_ret (pe_methG (pv 0) (kp_Field_ratio T.d) (ok_ratio T) (hr.mono (by decide)) hg pass0 (pa_cons (pe_callB ((cr_sum rfl).or (cr_sumT rfl)) (by rfl) (T.z "sum" (by decide +kernel)) (by decide +kernel) (pa_cons (pv 2) pa_nil)) (pa_cons (pv 3) pa_nil)))))), ?_⟩
      refine go_meth rfl F (by decide +kernel) (by decide +kernel) ⟨_, rfl, f, l, xs, rfl, F, .inr (.inl (.inl hl)), all_ok hn ho, fun H1 s1 => ?_⟩
      refine go_meth rfl (F.same s1) (by decide +kernel) (by decide +kernel) ⟨_, rfl, f, l, xs, qs, rfl, F.same s1, s1 _ _ hl, hn.same s1, hz, ho, fun t l' L ns H2 s2 ht hl2 L0 Lb e => ?_⟩
      have s12 := s1.trans s2
      refine ⟨t, _, rfl, .inl (.inl ht), rfl, _, _, rfl, _, _, rfl, rfl, ?_⟩
      have hsum : ∀ Qk : VK, Qk (.int ns.sum) H2 → (rSum K [V.ref l'] H2 Qk ∨ ∃ (a : Addr) (ns' : List Int), [V.ref l'] = [V.ref a] ∧ SqT K H2 a (ns'.map V.int) ∧ Qk (.int ns'.sum) H2) := fun Qk hq => by
        rcases hl2 with h | h
        · exact .inl ⟨l', ns, rfl, h, hq⟩
        · exact .inr ⟨l', ns, rfl, h, hq⟩
      refine go_meth rfl (F.same s12) (by decide +kernel) (by decide +kernel) ⟨_, rfl, hsum _ ⟨_, rfl, f, ns.sum, L, rfl, F.same s12, L0, Lb, fun z H3 s3 nz => ?_⟩⟩
      rw [e] at nz
      exact q z H3 (s12.trans s3) nz)
  intro A outer s H us vs Q E hg hr e0 r h
  obtain ⟨f, xs, qs, rfl, F, hn, hz, ho, q⟩ := h
  refine star A outer s H us _ Q E hg hr e0 r ⟨[.ref f], xs, rfl, rfl, ?_, fun t nt => ?_⟩
  · rw [hn.1]
    exact Nat.le_trans hz (by decide)
  · have s0 := same_up (o := .tup xs) nt
    exact ⟨f, t, xs, qs, rfl, F.same s0, upd_same, hn.same s0, hz, ho, fun z H' s' nz => q z H' (s0.trans s') nz⟩
end
end K03

namespace K03
open PySem PySem.Spec PyProof.Rows L2 Ver Num
/-! ### the pen: a dict of the script's cells, a place, a rest -/
def penL (c : Addr) (b l : Int) : List (Key × V) := [(.inr "cells", .ref c), (.inr "begun", .int b), (.inr "left", .int l)]
structure PenAt (H : Hp) (d : Addr) (k : Int) : Prop where
  ex : ∃ (c : Addr) (cells : List Int) (b l : Int), H d = some (.dK (penL c b l)) ∧ H c = some (.lst (cells.map V.int)) ∧ cells.length ≤ 63 ∧ 0 ≤ b ∧ b ≤ k ∧ 0 ≤ l
/-- all but what stands at d is kept -/
def But (d : Addr) (H H' : Hp) : Prop := ∀ b o, H b = some o → b ≠ d → H' b = some o
theorem But.refl {d : Addr} {H : Hp} : But d H H := fun _ _ e _ => e
theorem But.trans {d : Addr} {H H1 H2 : Hp} (a : But d H H1) (b : But d H1 H2) : But d H H2 := fun c o e n => b c o (a c o e n) n
theorem But.same {d : Addr} {H H1 : Hp} (s : Same H H1) : But d H H1 := fun c o e _ => s c o e
theorem but_up {d : Addr} {H : Hp} {o : HO} : But d H (upd H d o) := fun b u e n => by rw [upd_ne n]; exact e
theorem PenAt.same {H H' : Hp} {d : Addr} {k : Int} (p : PenAt H d k) (s : Same H H') : PenAt H' d k := by
  obtain ⟨c, cells, b, l, h1, h2, r⟩ := p.ex
  exact ⟨c, cells, b, l, s _ _ h1, s _ _ h2, r⟩
theorem PenAt.mono {H : Hp} {d : Addr} {j k : Int} (p : PenAt H d j) (h : j ≤ k) : PenAt H d k := by
  obtain ⟨c, cells, b, l, h1, h2, h3, h4, h5, h6⟩ := p.ex
  exact ⟨c, cells, b, l, h1, h2, h3, h4, by omega, h6⟩
theorem ks1 : ¬ (("cells" : Str) = "begun") := by decide +kernel
theorem ks2 : ¬ (("cells" : Str) = "left") := by decide +kernel
theorem ks3 : ¬ (("begun" : Str) = "left") := by decide +kernel
theorem nk {a b : Str} (h : ¬ a = b) : ¬ ((Sum.inr a : Key) = (Sum.inr b : Key)) := fun z => h (Sum.inr.inj z)
theorem pen_cells (c : Addr) (b l : Int) : valV (penL c b l) (.inr "cells") = some (.ref c) := valV_pos rfl
theorem pen_begun (c : Addr) (b l : Int) : valV (penL c b l) (.inr "begun") = some (.int b) := (valV_neg (nk ks1)).trans (valV_pos rfl)
theorem pen_left (c : Addr) (b l : Int) : valV (penL c b l) (.inr "left") = some (.int l) := (valV_neg (nk ks2)).trans ((valV_neg (nk ks3)).trans (valV_pos rfl))
theorem put_begun (c : Addr) (b l b' : Int) : putK (penL c b l) (.inr "begun") (.int b') = penL c b' l := by
  have n1 := nk ks1
  have n2 := nk (Ne.symm ks3)
  simp [putK, penL, n1, n2]
theorem put_left (c : Addr) (b l l' : Int) : putK (penL c b l) (.inr "left") (.int l') = penL c b l' := by
  have n1 := nk ks2
  have n2 := nk ks3
  simp [putK, penL, n1, n2]
theorem get_cells {H : Hp} {d c : Addr} {b l : Int} (h : H d = some (.dK (penL c b l))) : DGet H d (.str "cells") (some (.ref c)) := by
  have z := DGet.k (k := Sum.inr "cells") h
  rwa [pen_cells] at z
theorem get_begun {H : Hp} {d c : Addr} {b l : Int} (h : H d = some (.dK (penL c b l))) : DGet H d (.str "begun") (some (.int b)) := by
  have z := DGet.k (k := Sum.inr "begun") h
  rwa [pen_begun] at z
theorem get_left {H : Hp} {d c : Addr} {b l : Int} (h : H d = some (.dK (penL c b l))) : DGet H d (.str "left") (some (.int l)) := by
  have z := DGet.k (k := Sum.inr "left") h
  rwa [pen_left] at z
theorem dput_begun {H : Hp} {d c : Addr} {b l b' : Int} (h : H d = some (.dK (penL c b l))) : DPut H d (.str "begun") (.int b') (upd H d (.dK (penL c b' l))) := by
  have z := DPut.k (k := Sum.inr "begun") (v := .int b') h (by show 3 < sizeLine; decide)
  rwa [put_begun] at z
theorem dput_left {H : Hp} {d c : Addr} {b l l' : Int} (h : H d = some (.dK (penL c b l))) : DPut H d (.str "left") (.int l') (upd H d (.dK (penL c b l'))) := by
  have z := DPut.k (k := Sum.inr "left") (v := .int l') h (by show 3 < sizeLine; decide)
  rwa [put_left] at z
theorem merge_pen (c : Addr) (b l : Int) : mergeK [] (penL c b l) = penL c b l := by
  have n1 := nk ks1
  have n2 := nk ks2
  have n3 := nk ks3
  simp [mergeK, putK, penL, n1, n2, n3]
/-! ### lists of ints as data -/
theorem dp_ints {K : PySem.W.Frag} {H : Hp} : ∀ ns : List Int, DpAll K H (ns.map V.int) (ns.map PyData.int)
  | [] => .nil
  | n :: ns => .cons (.int n) (dp_ints ns)
theorem ints_depth : ∀ ns : List Int, PyData.depthAll (ns.map PyData.int) ≤ 1
  | [] => by simp [PyData.depthAll]
  | n :: ns => by
    have := ints_depth ns
    simp only [List.map_cons, PyData.depthAll, PyData.depth]
    omega
theorem ints_can : ∀ ns : List Int, PyData.canLayAll0 (ns.map PyData.int) = true
  | [] => by simp [PyData.canLayAll0]
  | n :: ns => by simp only [List.map_cons, PyData.canLayAll0, PyData.canLay0, ints_can ns, Bool.and_true]
theorem ints_shaped (ns : List Int) : SeqAt.shaped (.list (ns.map PyData.int)) = true := by
  unfold SeqAt.shaped
  have h1 := ints_depth ns
  have h2 := ints_can ns
  have e1 : (PyData.list (ns.map PyData.int)).canLay0 = true := by simp only [PyData.canLay0, h2]
  have e2 : (PyData.list (ns.map PyData.int)).depth ≤ 64 := by
    simp only [PyData.depth]
    omega
  rw [e1, decide_eq_true e2]
  rfl
theorem ints_empty : ∀ ns : List Int, PyData.eqv (.list (ns.map PyData.int)) (.list []) = decide (ns = [])
  | [] => by simp [PyData.eqv, PyData.eqvAll]
  | n :: ns => by simp [PyData.eqv, PyData.eqvAll]
end K03

namespace K03
open PySem PySem.Spec PyProof.Rows L2 Ver Num
section
variable {P : Program} {w : World} {K : PySem.W.Frag} {mg : Str → Option Value} {base : Heap}
/-! ### _law_pen -/
theorem cut_ints (ns : List Int) (lo hi : Option Int) : cutV (ns.map V.int) lo hi = ((ns.drop (HT.sIx ns.length 0 lo)).take (HT.sIx ns.length ns.length hi - HT.sIx ns.length 0 lo)).map V.int := by
  unfold cutV
  rw [List.length_map, List.map_take, List.map_drop]
def spPen (K : PySem.W.Frag) : Sp := fun vs H Q _ => ∃ (a : Addr) (ns : List Int), vs = [.ref a] ∧ SqL K H a (ns.map V.int) ∧ ns.length ≤ 63 ∧ ∀ (d : Addr) (H' : Hp), Same H H' → H d = none → PenAt H' d 0 → Q (.ref d) H'
theorem ok_pen (T : Tx K mg) : FnG P w K mg base CX0 1 (He.ga K "_law_pen") (spPen K) := by
  refine mk__law_pen T.d (fun vs H Q E h => ?_) (fun cdv A outer s H vs Q E hg hr h => ?_)
  · obtain ⟨a, ns, rfl, _⟩ := h
    rfl
  · obtain ⟨a, ns, rfl, hs, hl, q⟩ := h
    refine ⟨_, pss_one (ps_ret (pe_disp (pps_cons pe_str (pe_callTy call_list_of (by rfl) (T.z "list" (by decide +kernel)) (by decide +kernel) (pa_cons (pe_slice sl_list (pv 0) po_none (po_some pe_int)) pa_nil))
      (pps_cons pe_str pe_int (pps_cons pe_str pe_int pps_nil))) (by rfl) (by rfl) (fun z => by cases z) (by decide))), ?_⟩
    intro d nd
    have s0 := same_up (o := .dK []) nd
    refine ⟨_, rfl, 63, rfl, a, _, rfl, s0.seq hs, fun m nm => ?_⟩
    have s1 := same_up (o := .lst (cutV (ns.map V.int) none (some 63))) nm
    refine ⟨m, _, rfl, .inl (.inl (.inl upd_same)), fun c nc => ?_⟩
    have s2 := same_up (o := .lst (cutV (ns.map V.int) none (some 63))) nc
    have sa := (s0.trans s1).trans s2
    have dd : H d = none := nd
    have dm : d ≠ m := ne_of_none upd_same nm
    have dc : d ≠ c := fun z => by
      rw [← z, upd_ne dm, upd_same] at nc
      cases nc
    refine ⟨?_, penL c 0 0, rfl, by show 3 ≤ 15; decide, ?_⟩
    · rw [upd_ne dc, upd_ne dm, upd_same]
    · rw [merge_pen]
      refine q d _ (fun b o e => ?_) nd ⟨c, (ns.drop (HT.sIx ns.length 0 none)).take (HT.sIx ns.length ns.length (some 63) - HT.sIx ns.length 0 none), 0, 0, upd_same, ?_, ?_, by omega, by omega, by omega⟩
      · rw [upd_ne (ne_of_none e nd)]
        exact sa _ _ e
      · rw [upd_ne (Ne.symm dc), upd_same, cut_ints]
      · rw [List.length_take, List.length_drop]
        omega
/-! ### _law_draw -/
theorem em1 {X m : Int} (h : 0 < m) (h2 : m ≤ 2 ^ 64) : -(2 ^ 64) < X % m ∧ X % m < 2 ^ 64 := by
  have a := Int.emod_nonneg X (show m ≠ 0 by omega)
  have b := Int.emod_lt_of_pos X h
  omega
def spDraw : Sp := fun vs H Q _ => ∃ (d : Addr) (k n : Int), vs = [.ref d, .int n] ∧ PenAt H d k ∧ k < 1000000000000 ∧ 0 < n ∧ n < 1073741824 ∧
  ∀ (i : Int) (H' : Hp), But d H H' → PenAt H' d (k + 1) → 0 ≤ i → i < n → Q (.int i) H'
theorem ok_draw (T : Tx K mg) : FnG P w K mg base CX0 1 (He.ga K "_law_draw") spDraw := by
  refine mk__law_draw T.d (fun vs H Q E h => ?_) (fun cdv A outer s H vs Q E hg hr h => ?_)
  · obtain ⟨d, k, n, rfl, _⟩ := h
    rfl
  · obtain ⟨d, k, n, rfl, pen, k9, n0, n9, q⟩ := h
    have hu := hu_of hr
    have nd := sc__law_draw.nd
    have zi := T.z "int" (by decide +kernel)
    have zl := T.z "len" (by decide +kernel)
    have za := T.z "abs" (by decide +kernel)
    have bi : bootBuiltins "int" = some (.type "int") := by decide +kernel
    have bl : bootBuiltins "len" = some (.builtin "len") := by decide +kernel
    have ba : bootBuiltins "abs" = some (.builtin "abs") := by decide +kernel
    obtain ⟨c, cells, b, l, hd, hc, cl, b0, bk, l0⟩ := pen.ex
    have dc : d ≠ c := ne_of hd hc (by intro z; cases z)
    refine ⟨_, pss_cons (ps_if (pt_cmpR op_gt (pe_dget hu (pv 0) pe_str (fun _ _ => rfl)) pe_int (nomark _))
        (pss_cons (ps_set (i := 2) nd rfl (Or.inl rfl) (pe_op op_mod (pe_callTy call_int1 (by rfl) zi bi (pa_cons (pe_dget hu (pv 0) pe_str (fun _ _ => rfl)) pa_nil)) (pv 1)))
        (pss_cons (ps_dput hu (pv 0) pe_str (pe_op op_fdiv (pe_dget hu (pv 0) pe_str (fun _ _ => rfl)) (pv 1)) rfl)
        (pss_one (ps_ret (pv 2))))) pss_nil)
      (pss_cons (ps_set (i := 3) nd rfl (Or.inl rfl) (pe_dget hu (pv 0) pe_str (fun _ _ => rfl)))
      (pss_cons (ps_dput hu (pv 0) pe_str (pe_op op_add (pv 3) pe_int) rfl)
      (pss_cons (ps_set (i := 4) nd rfl (Or.inl rfl) (pe_op op_add (pe_op op_mul pe_int (pv 3)) pe_int))
      (pss_cons (ps_if (pt_cmpR (op_neD hr.units) (pe_dget hu (pv 0) pe_str (fun _ _ => rfl)) (pe_lst pa_nil) (nomark _))
        (pss_one (ps_set (i := 4) nd rfl (Or.inl rfl) (pe_ix ix_list (pe_dget hu (pv 0) pe_str (fun _ _ => rfl))
          (pe_op op_mod (pe_callTy call_int1 (by rfl) zi bi (pa_cons (pv 3) pa_nil)) (pe_callB call_len_seq (by rfl) zl bl (pa_cons (pe_dget hu (pv 0) pe_str (fun _ _ => rfl)) pa_nil))) (fun _ _ => rfl)))) pss_nil)
      (pss_cons (ps_if (PW.pt (pw_and (pt_cmpR op_lt (pv 3) (pe_callB call_len_seq (by rfl) zl bl (pa_cons (pe_dget hu (pv 0) pe_str (fun _ _ => rfl)) pa_nil)) (nomark _))
          (pw_and1 (pt_cmpR op_ge (pe_callB call_abs (by rfl) za ba (pa_cons (pv 4) pa_nil)) (pe_op op_pow pe_int pe_int) (nomark _)))))
        (pss_cons (ps_dput hu (pv 0) pe_str (pe_op op_fdiv (pe_op op_sub (pe_callB call_abs (by rfl) za ba (pa_cons (pv 4) pa_nil)) (pe_op op_pow pe_int pe_int)) (pv 1)) rfl)
        (pss_one (ps_ret (pe_op op_mod (pe_callTy call_int1 (by rfl) zi bi (pa_cons (pe_op op_sub (pe_callB call_abs (by rfl) za ba (pa_cons (pv 4) pa_nil)) (pe_op op_pow pe_int pe_int)) pa_nil)) (pv 1))))) pss_nil)
      (pss_cons (ps_set (i := 5) nd rfl (Or.inl rfl) (pe_op op_mul (pe_op op_mod (pe_callTy call_int1 (by rfl) zi bi (pa_cons (pv 4) pa_nil)) pe_int) pe_int))
      (pss_cons (ps_set (i := 6) nd rfl (Or.inl rfl) (pe_op op_mod (pe_callTy call_int1 (by rfl) zi bi (pa_cons (pe_op op_add (pe_op op_add (pv 5) (pe_op op_mul (pv 3) (pe_op op_add (pe_op op_mul pe_int (pv 3)) pe_int))) pe_int) pa_nil)) pe_int))
      (pss_cons (ps_set (i := 6) nd rfl (Or.inl rfl) (pe_op op_mod (pe_callTy call_int1 (by rfl) zi bi (pa_cons (pe_op op_add (pe_op op_add (pe_op op_add (pe_op op_mul (pv 6) (pv 6)) (pe_op op_mul pe_int (pv 6))) (pe_op op_mul pe_int (pv 3))) pe_int) pa_nil)) pe_int))
      (pss_one (ps_ret (pe_op op_mod (pe_callTy call_int1 (by rfl) zi bi (pa_cons (pe_op op_fdiv (pe_op op_mod (pe_callTy call_int1 (by rfl) zi bi (pa_cons (pe_op op_mul (pv 6) (pe_op op_add (pv 6) pe_int)) pa_nil)) pe_int) pe_int) pa_nil)) (pv 1)))))))))))), ?_⟩
    refine ⟨_, rfl, d, _, rfl, get_left hd, _, _, rfl, rfl, _, rfl, ?_⟩
    refine ite2 (fun hz => ?_) (fun hz => ?_)
    · -- the rest of a great cell
      refine ⟨_, rfl, d, _, rfl, get_left hd, .inl ⟨_, rfl, _, rfl, _, _, rfl, rfl, (by show 0 < n; omega), ?_⟩⟩
      refine ⟨_, rfl, d, _, rfl, get_left hd, _, rfl, _, _, rfl, rfl, ⟨by show 0 < n; omega, by show n < 1073741824; omega⟩, _, rfl, d, _, rfl, dput_left hd, ?_⟩
      refine ⟨_, rfl, q _ _ but_up ⟨c, cells, b, l / n, upd_same, by rw [upd_ne (Ne.symm dc)]; exact hc, cl, b0, by omega, Int.ediv_nonneg l0 (by omega)⟩ (Int.emod_nonneg _ (by omega)) (Int.emod_lt_of_pos _ n0)⟩
    · -- a new cell
      have hd1 : (upd H d (.dK (penL c (b + 1) l))) d = some (.dK (penL c (b + 1) l)) := upd_same
      have hc1 : (upd H d (.dK (penL c (b + 1) l))) c = some (.lst (cells.map V.int)) := by rw [upd_ne (Ne.symm dc)]; exact hc
      refine ⟨_, rfl, d, _, rfl, get_begun hd, ?_⟩
      refine ⟨_, rfl, _, _, rfl, rfl, _, rfl, d, _, rfl, dput_begun hd, ?_⟩
      refine ⟨_, rfl, _, _, rfl, rfl, .inl ⟨by decide, by decide⟩, _, _, rfl, rfl, ?_⟩
      refine ⟨_, rfl, d, _, rfl, get_cells hd1, Nat.zero_le _, fun z nz => ?_⟩
      have sz := same_up (o := .lst []) nz
      have hd2 := sz _ _ hd1
      have hc2 := sz _ _ hc1
      have bt : But d H (upd (upd H d (.dK (penL c (b + 1) l))) z (.lst [])) := but_up.trans (But.same sz)
      refine ⟨.list (cells.map PyData.int), .list [], .lst (SqL.of hc2) (dp_ints cells), .lst (SqL.of upd_same) .nil, ints_shaped cells, ints_shaped [], _, rfl, ?_⟩
      rw [ints_empty]
      generalize upd (upd H d (.dK (penL c (b + 1) l))) z (.lst []) = H2 at hd2 hc2 bt
      have pen2 : ∀ l' : Int, 0 ≤ l' → PenAt (upd H2 d (.dK (penL c (b + 1) l'))) d (k + 1) := fun l' z0 => ⟨c, cells, b + 1, l', upd_same, by rw [upd_ne (Ne.symm dc)]; exact hc2, cl, by omega, by omega, z0⟩
      have pen0 : PenAt H2 d (k + 1) := ⟨c, cells, b + 1, l, hd2, hc2, cl, by omega, by omega, l0⟩
      by_cases he : cells = []
      all_goals
        first
        | (refine ifF (by rw [decide_eq_true he]; rfl) ?_)
        | (have hlen : 0 < (cells.map V.int).length := by
            rw [List.length_map]
            exact List.length_pos_iff.mpr he
           have hm0 := Int.emod_nonneg b (show (((cells.map V.int).length : Nat) : Int) ≠ 0 by omega)
           have hm1 := Int.emod_lt_of_pos b (show (0 : Int) < (((cells.map V.int).length : Nat) : Int) by omega)
           obtain ⟨j, hj⟩ : ∃ j : Nat, b % (((cells.map V.int).length : Nat) : Int) = (j : Int) := ⟨(b % (((cells.map V.int).length : Nat) : Int)).toNat, by omega⟩
           have jl : j < cells.length := by
            rw [hj, List.length_map] at hm1
            omega
           have hat : atI (cells.map V.int) (b % (((cells.map V.int).length : Nat) : Int)) = some (V.int cells[j]) := by
            rw [hj]
            exact atI_nat (by rw [List.getElem?_map, List.getElem?_eq_getElem jl]; rfl)
           refine ifT (by rw [decide_eq_false he]; rfl) ?_
           refine ⟨_, rfl, d, _, rfl, get_cells hd2, _, rfl, .inl ⟨_, rfl, _, rfl, d, _, rfl, get_cells hd2, c, _, rfl, .inl (SqL.of hc2), _, _, rfl, rfl, (by show (0 : Int) < (((cells.map V.int).length : Nat) : Int); omega), c, _, _, _, rfl, rfl, SqL.of hc2, hat, ?_⟩⟩)
        refine ⟨_, rfl, _, rfl, d, _, rfl, get_cells hd2, c, _, rfl, .inl (SqL.of hc2), _, _, rfl, rfl, _, rfl, ?_⟩
        refine ite2 (fun h1 => ?_) (fun h1 => iteF ?_)
        all_goals
          first
          | (refine ⟨_, rfl, _, rfl, _, _, rfl, rfl, ⟨by decide, by decide, by decide⟩, _, _, rfl, rfl, _, rfl, ?_⟩
             refine ite2 (fun h2 => ?_) (fun h2 => ?_))
          | skip
        all_goals
          first
          | (have h3 := of_decide_eq_true h2
             refine ⟨_, rfl, _, rfl, _, _, rfl, rfl, ⟨by decide, by decide, by decide⟩, _, _, rfl, rfl, _, rfl, _, _, rfl, rfl, ⟨by show 0 < n; omega, by show n < 1073741824; omega⟩, _, rfl, d, _, rfl, dput_left hd2, ?_⟩
             refine ⟨_, rfl, _, rfl, _, _, rfl, rfl, ⟨by decide, by decide, by decide⟩, _, _, rfl, rfl, .inl ⟨_, rfl, _, rfl, _, _, rfl, rfl, (by show 0 < n; omega), ?_⟩⟩
             exact q _ _ (bt.trans but_up) (pen2 _ (Int.ediv_nonneg (Int.sub_nonneg.mpr h3) (by omega))) (Int.emod_nonneg _ (by omega)) (Int.emod_lt_of_pos _ n0))
          | (refine ⟨_, rfl, .inl ⟨_, rfl, _, _, rfl, rfl, (by show (0 : Int) < 4294967197; decide), _, _, rfl, rfl, .inr ⟨by decide, by decide⟩, ?_⟩⟩
             refine ⟨_, rfl, _, rfl, _, rfl, _, _, rfl, rfl, .inl ⟨by decide, by decide⟩, _, _, rfl, rfl, _, _, rfl, rfl, .inl ⟨by show -(2 ^ 64) < b; omega, by show b < 2 ^ 64; omega⟩, _, _, rfl, rfl, _, _, rfl, rfl, .inl ⟨_, rfl, _, _, rfl, rfl, (by show (0 : Int) < 4294967189; decide), ?_⟩⟩
             refine ⟨_, rfl, _, rfl, _, _, rfl, rfl, .inl (em1 (by decide) (by decide)), _, rfl, _, _, rfl, rfl, .inl ⟨by decide, by decide⟩, _, _, rfl, rfl, _, rfl, _, _, rfl, rfl, .inl ⟨by decide, by decide⟩, _, _, rfl, rfl, _, _, rfl, rfl, .inl ⟨_, rfl, _, _, rfl, rfl, (by show (0 : Int) < 4294967161; decide), ?_⟩⟩
             refine ⟨_, rfl, _, rfl, _, _, rfl, rfl, _, _, rfl, rfl, .inl (em1 (by decide) (by decide)), .inl ⟨_, rfl, _, _, rfl, rfl, (by show (0 : Int) < 4294967143; decide), _, _, rfl, rfl, ⟨by decide, by decide⟩, .inl ⟨_, rfl, _, rfl, _, _, rfl, rfl, (by show 0 < n; omega), ?_⟩⟩⟩
             exact q _ _ bt pen0 (Int.emod_nonneg _ (by omega)) (Int.emod_lt_of_pos _ n0))
end
end K03

namespace K03
open PySem PySem.Spec PyProof.Rows L2 Ver Num
section
variable {P : Program} {w : World} {K : PySem.W.Frag} {mg : Str → Option Value} {base : Heap}
theorem pen_ne {H : Hp} {d a : Addr} {k : Int} {xs : List V} (p : PenAt H d k) (h : H a = some (.lst xs)) : a ≠ d := by
  obtain ⟨c, cells, b, l, h1, _⟩ := p.ex
  exact ne_of h h1 (by intro z; cases z)
/-! ### _law_pick, _law_prime, _law_number -/
def spPick : Sp := fun vs H Q _ => ∃ (d a : Addr) (k : Int) (xs : List V), vs = [.ref d, .ref a] ∧ PenAt H d k ∧ k < 1000000000000 ∧ H a = some (.lst xs) ∧ 0 < xs.length ∧ xs.length < 1000 ∧
  ∀ (x : V) (H' : Hp), x ∈ xs → But d H H' → PenAt H' d (k + 1) → Q x H'
theorem ok_pick (T : Tx K mg) : FnG P w K mg base CX0 2 (He.ga K "_law_pick") spPick := by
  refine mk__law_pick T.d (fun vs H Q E h => ?_) (fun cdv A outer s H vs Q E hg hr h => ?_)
  · obtain ⟨d, a, k, xs, rfl, _⟩ := h
    rfl
  · obtain ⟨d, a, k, xs, rfl, pen, k9, ha, l0, l9, q⟩ := h
    refine ⟨_, pss_one (ps_ret (pe_ix ix_list (pv 1) (pe_callG (ok_draw T) hr hg (by rfl) (T.g "_law_draw" (by decide +kernel)) (kp__law_draw T.d) pass0
      (pa_cons (pv 0) (pa_cons (pe_callB call_len_seq (by rfl) (T.z "len" (by decide +kernel)) (by decide +kernel) (pa_cons (pv 1) pa_nil)) pa_nil))) (fun _ _ => rfl))), ?_⟩
    refine ⟨_, rfl, _, rfl, _, rfl, a, xs, rfl, .inl (SqL.of ha), d, k, _, rfl, pen, k9, by omega, by omega, fun i H1 bt pen1 i0 i1 => ?_⟩
    have ha1 := bt a _ ha (pen_ne pen ha)
    obtain ⟨j, rfl⟩ : ∃ j : Nat, i = (j : Int) := ⟨i.toNat, by omega⟩
    have jl : j < xs.length := by omega
    refine ⟨a, xs, _, xs[j], rfl, rfl, SqL.of ha1, atI_nat (List.getElem?_eq_getElem jl), q _ H1 (List.getElem_mem jl) bt pen1⟩
end
end K03

namespace Num
theorem fmod_lt {a b : Int} (h : b ≠ 0) : (a.fmod b).natAbs < b.natAbs := by
  rw [Int.fmod_eq_emod]
  have h0 := Int.emod_nonneg a h
  by_cases c : 0 ≤ b
  · have h1 := Int.emod_lt_of_pos a (show 0 < b by omega)
    rw [if_pos (.inl c)]
    omega
  · have h1 := Int.emod_lt_of_neg a (show b < 0 by omega)
    by_cases d : b ∣ a
    · rw [if_pos (.inr d), Int.emod_eq_zero_of_dvd d]
      omega
    · have h2 : a % b ≠ 0 := fun z => d (Int.dvd_of_emod_eq_zero z)
      rw [if_neg (by rintro (z | z); exact c z; exact d z)]
      omega
theorem gcd_fmod (a b : Int) : Int.gcd b (a.fmod b) = Int.gcd a b := by
  rw [Int.fmod_def, Int.gcd_sub_mul_left_right, Int.gcd_comm]
end Num
namespace Ver
open PySem PySem.Spec PyProof.Rows L2
/-- a part that is not run -/
theorem pe_dead {X : Cx} {e : Expr} : PE X e (fun _ _ _ => False) := ⟨fun _ _ _ _ _ _ h => h.elim⟩
end Ver
namespace K03
open PySem PySem.Spec PyProof.Rows L2 Ver Num
section
variable {P : Program} {w : World} {K : PySem.W.Frag} {mg : Str → Option Value} {base : Heap}
/-! ### _law_two, _law_tens, _law_signed, _law_gcd, _law_told -/
theorem ok_two (T : Tx K mg) : FnG P w K mg base CX0 1 (He.ga K "_law_two") (spParts K) := by
  refine mk__law_two T.d (fun vs H Q E h => ?_) (fun cdv A outer s H vs Q E hg hr h => ?_)
  · obtain ⟨x, t, b, rfl, _⟩ := h
    rfl
  · obtain ⟨x, t, b, rfl, n, q⟩ := h
    refine ⟨_, pss_one (ps_ret (pe_ifExp (pt_val (pe_callB call_isi (by rfl) (T.z "isinstance" (by decide +kernel)) (by decide +kernel) (pa_cons (pv 0) (pa_cons (pe_bltn (v := .ty "tuple") (by rfl) (T.z "tuple" (by decide +kernel)) (by decide +kernel) rfl) pa_nil))))
      (pv 0) (pe_tup (pa_cons (pv 0) (pa_cons pe_int pa_nil))))), ?_⟩
    rcases n with ⟨rfl, rfl⟩ | ⟨a, rfl, ha⟩
    · refine ⟨_, rfl, _, _, _, _, false, rfl, .ty "tuple", .base (.int t), kit_ty (by decide +kernel), _, rfl, ?_⟩
      exact ifF rfl ⟨_, rfl, (by show 2 ≤ sizeLine; decide), fun p np => q p _ (same_up np) upd_same⟩
    · refine ⟨_, rfl, _, _, _, _, true, rfl, .ty "tuple", .base (.tup ha), kit_ty (by decide +kernel), _, rfl, ?_⟩
      exact ifT rfl ⟨_, rfl, q a H (Same.refl H) ha⟩
def spTens : Sp := fun vs H Q _ => vs = [.int 100] ∧ Q (.int FL) H
theorem ok_tens (T : Tx K mg) : FnG P w K mg base CX0 1 (He.ga K "_law_tens") spTens := by
  refine mk__law_tens T.d (fun vs H Q E h => ?_) (fun cdv A outer s H vs Q E hg hr h => ?_)
  · obtain ⟨rfl, _⟩ := h
    rfl
  · obtain ⟨rfl, q⟩ := h
    have nd := sc__law_tens.nd
    refine ⟨_, pss_cons (ps_set (i := 1) nd rfl (Or.inl rfl) pe_int)
      (pss_cons (ps_for PassesOwn.never rfl (pi_range1 (by rfl) (T.z "range" (by decide +kernel)) (pa_cons (pv 0) pa_nil)) (pg_name (i := 2) nd rfl (.inl rfl))
        (pss_one (ps_set (i := 1) nd rfl (Or.inl rfl) (pe_op op_mul pe_int (pv 1)))))
      (pss_one (ps_ret (pv 1)))), ?_⟩
    refine ⟨_, rfl, _, rfl, by decide, by decide, ?_⟩
    refine for_range (lo := 0) (fun i σ H' => ∃ v : Option V, σ = [some (.int 100), some (.int (10 ^ i)), v] ∧ H' = H) ⟨none, rfl, rfl⟩ ?_ ?_
    · rintro i σ H' hi ⟨v, rfl, rfl⟩
      have e : (10 : Int) * 10 ^ i = 10 ^ (i + 1) := by rw [Int.pow_succ, Int.mul_comm]
      exact ⟨_, rfl, _, _, rfl, rfl, .inl ⟨by decide, by decide⟩, some (.int (0 + (i : Int))), by rw [← e]; rfl, rfl⟩
    · rintro σ H' ⟨v, rfl, rfl⟩
      have e : (10 : Int) ^ (100 : Int).toNat = FL := by decide
      refine ⟨_, rfl, ?_⟩
      rw [e]
      exact q
def spSigned : Sp := fun vs H Q _ => ∃ (d : Addr) (k n : Int), vs = [.ref d, .int n] ∧ PenAt H d k ∧ k < 1000000 ∧ ∀ (m : Int) (H' : Hp), absI m = absI n → But d H H' → PenAt H' d (k + 1) → Q (.int m) H'
theorem ok_signed (T : Tx K mg) : FnG P w K mg base CX0 2 (He.ga K "_law_signed") spSigned := by
  refine mk__law_signed T.d (fun vs H Q E h => ?_) (fun cdv A outer s H vs Q E hg hr h => ?_)
  · obtain ⟨d, k, n, rfl, _⟩ := h
    rfl
  · obtain ⟨d, k, n, rfl, pen, k9, q⟩ := h
    refine ⟨_, pss_one (ps_ret (pe_ifExp (pt_cmpR op_eq (pe_callG (ok_draw T) hr hg (by rfl) (T.g "_law_draw" (by decide +kernel)) (kp__law_draw T.d) pass0 (pa_cons (pv 0) (pa_cons pe_int pa_nil))) pe_int (nomark _))
      (pv 1) (pe_op op_sub pe_int (pv 1)))), ?_⟩
    refine ⟨_, rfl, d, k, 2, rfl, pen, by omega, by decide, by decide, fun i H1 bt pen1 i0 i1 => ⟨rfl, _, rfl, ?_⟩⟩
    rw [iEq]
    by_cases e : i = 0
    · exact ifT (decide_eq_true e) ⟨_, rfl, q _ H1 rfl bt pen1⟩
    · refine ifF (decide_eq_false e) ⟨_, rfl, _, _, rfl, rfl, q _ H1 ?_ bt pen1⟩
      unfold absI
      split <;> split <;> omega
def spGcd : Sp := fun vs H Q _ => ∃ (a b : Int), vs = [.int a, .int b] ∧ Q (.int ((Nat.gcd a.natAbs b.natAbs : Nat) : Int)) H
theorem ok_gcd (T : Tx K mg) : FnG P w K mg base CX0 1 (He.ga K "_law_gcd") spGcd := by
  refine mk__law_gcd T.d (fun vs H Q E h => ?_) (fun cdv A outer s H vs Q E hg hr h => ?_)
  · obtain ⟨a, b, rfl, _⟩ := h
    rfl
  · obtain ⟨a, b, rfl, q⟩ := h
    refine ⟨_, pss_cons (ps_while PassesOwn.never (pt_cmpR op_ne (pv 1) pe_int (nomark _))
        (pss_one (ps_par (i := 0) (j := 1) rfl sc__law_gcd.nd rfl rfl (by decide) rfl rfl (pa_cons (pv 1) (pa_cons (pe_op op_modN (pe_callTy call_int1 (by rfl) (T.z "int" (by decide +kernel)) (by decide +kernel) (pa_cons (pv 0) pa_nil)) (pv 1)) pa_nil)) (by rfl))))
      (pss_one (ps_ret (pe_callB call_abs (by rfl) (T.z "abs" (by decide +kernel)) (by decide +kernel) (pa_cons (pv 0) pa_nil)))), ?_⟩
    refine ⟨fun k σ H' => ∃ x y : Int, k = y.natAbs ∧ H' = H ∧ σ = [some (.int x), some (.int y)] ∧ Int.gcd x y = Int.gcd a b, ⟨_, a, b, rfl, rfl, rfl, rfl⟩, ?_⟩
    rintro k σ H' ⟨x, y, rfl, rfl, rfl, g⟩
    refine ⟨_, rfl, rfl, _, rfl, ?_⟩
    rw [iEq]
    by_cases y0 : y = 0
    · subst y0
      refine ifF (by decide) ⟨_, rfl, _, rfl, ?_⟩
      have e : (if x < 0 then -x else x) = ((Nat.gcd a.natAbs b.natAbs : Nat) : Int) := by
        have g2 : x.natAbs = Nat.gcd a.natAbs b.natAbs := by
          rw [Int.gcd_zero_right] at g
          exact g
        rw [← g2]
        split <;> omega
      rw [e]
      exact q
    · refine ifT (by rw [decide_eq_false y0]; rfl) ?_
      refine ⟨fun σ' H'' => ∃ x' y' : Int, y'.natAbs < y.natAbs ∧ H'' = H' ∧ σ' = [some (.int x'), some (.int y')] ∧ Int.gcd x' y' = Int.gcd a b, ?_, ?_⟩
      · rintro σ' H' ⟨x', y', hlt, e1, e2, e3⟩
        exact ⟨_, hlt, x', y', rfl, e1, e2, e3⟩
      · refine ⟨_, rfl, _, rfl, .inl ⟨_, rfl, _, rfl, _, _, rfl, rfl, y0, _, _, rfl, ?_⟩⟩
        exact ⟨_, _, fmod_lt y0, rfl, rfl, by rw [gcd_fmod]; exact g⟩
theorem dvs_neg0 {t b : Int} (h : b < 0) : dvs t b = 0 - ((Nat.gcd t.natAbs b.natAbs : Nat) : Int) := by
  rw [dvs_neg h]
  omega
theorem ok_told (T : Tx K mg) : FnG P w K mg base CX0 2 (He.ga K "_law_told") spShort := by
  refine mk__law_told T.d (fun vs H Q E h => ?_) (fun cdv A outer s H vs Q E hg hr h => ?_)
  · obtain ⟨t, b, rfl, _⟩ := h
    rfl
  · obtain ⟨t, b, rfl, b0, bb, q⟩ := h
    have nd := sc__law_told.nd
    have gg := T.g "_law_gcd" (by decide +kernel)
    refine ⟨_, pss_cons (ps_set (i := 2) nd rfl (Or.inl rfl) (pe_ifExp (pt_cmpR op_gt (pv 1) pe_int (nomark _)) (pe_callG (ok_gcd T) hr hg (by rfl) gg (kp__law_gcd T.d) pass0 (pa_cons (pv 0) (pa_cons (pv 1) pa_nil)))
        (pe_op op_sub pe_int (pe_callG (ok_gcd T) hr hg (by rfl) gg (kp__law_gcd T.d) pass0 (pa_cons (pv 0) (pa_cons (pv 1) pa_nil))))))
      (pss_one (ps_ret (pe_ifExp (pt_cmpR op_eq (pv 1) (pv 2) (nomark _)) (pe_op op_fdivZ (pv 0) (pv 2)) (pe_tup (pa_cons (pe_op op_fdivZ (pv 0) (pv 2)) (pa_cons (pe_op op_fdivZ (pv 1) (pv 2)) pa_nil)))))), ?_⟩
    obtain ⟨o1, o2, o3, o4, _, _⟩ := dvs_out (t := t) b0
    have o5 := dvs_log (t := t) b0 bb (by decide) (by decide)
    refine ⟨_, rfl, _, _, rfl, rfl, _, rfl, ?_⟩
    by_cases hn : b < 0
    · rw [dvs_neg0 hn] at o1 o2 o3 o4 o5
      refine ifF (decide_eq_false (by omega)) ⟨_, rfl, _, rfl, t, b, rfl, _, _, rfl, rfl, ?_⟩
      refine ⟨_, rfl, _, rfl, rfl, _, rfl, ?_⟩
      rw [iEq]
      by_cases e : b = 0 - ((Nat.gcd t.natAbs b.natAbs : Nat) : Int)
      · exact ifT (decide_eq_true e) ⟨_, rfl, _, rfl, _, _, rfl, rfl, ⟨o1, o5⟩, q _ H (Same.refl H) (NumQ.int o2.symm (o4.mp e) rfl)⟩
      · refine ifF (decide_eq_false e) ⟨_, rfl, _, rfl, _, _, rfl, rfl, ⟨o1, o5⟩, _, rfl, _, rfl, _, _, rfl, rfl, ⟨o1, o5⟩, by show 2 ≤ sizeLine; decide, fun p np => q _ _ (same_up np) (.inr ⟨fun z => e (o4.mpr z), p, rfl, ?_⟩)⟩
        rw [← o2, ← o3]
        exact upd_same
    · rw [dvs_nn hn] at o1 o2 o3 o4 o5
      refine ifT (decide_eq_true (by omega)) ⟨_, rfl, _, rfl, t, b, rfl, ?_⟩
      refine ⟨_, rfl, _, rfl, rfl, _, rfl, ?_⟩
      rw [iEq]
      by_cases e : b = ((Nat.gcd t.natAbs b.natAbs : Nat) : Int)
      · exact ifT (decide_eq_true e) ⟨_, rfl, _, rfl, _, _, rfl, rfl, ⟨o1, o5⟩, q _ H (Same.refl H) (NumQ.int o2.symm (o4.mp e) rfl)⟩
      · refine ifF (decide_eq_false e) ⟨_, rfl, _, rfl, _, _, rfl, rfl, ⟨o1, o5⟩, _, rfl, _, rfl, _, _, rfl, rfl, ⟨o1, o5⟩, by show 2 ≤ sizeLine; decide, fun p np => q _ _ (same_up np) (.inr ⟨fun z => e (o4.mpr z), p, rfl, ?_⟩)⟩
        rw [← o2, ← o3]
        exact upd_same
/-! ### sums, products, quotients -/
def spLaw2 (g : Rat → Rat → Rat) : Sp := fun vs H Q _ => ∃ (x y : V) (a b : Rat), vs = [.int 0, x, y] ∧ NumQ H x a ∧ NumQ H y b ∧ Bq 1000 a ∧ Bq 1000 b ∧ ∀ (z : V) (H' : Hp), Same H H' → NumQ H' z (g a b) → Q z H'
theorem ok_lplus (T : Tx K mg) : FnG P w K mg base CX0 3 (He.ga K "_law_plus") (spLaw2 fun a b => a + b) := by
  refine mk__law_plus T.d (fun vs H Q E h => ?_) (fun cdv A outer s H vs Q E hg hr h => ?_)
  · obtain ⟨x, y, a, b, rfl, _⟩ := h
    rfl
  · obtain ⟨x, y, a, b, rfl, nx, ny, ba, bb, q⟩ := h
    have gp := T.g "_law_two" (by decide +kernel)
    have nd := sc__law_plus.nd
    refine ⟨_, pss_cons (ps_asg (pe_tup (pa_cons (pe_callG (ok_two T) (hr.mono (by decide)) hg (by rfl) gp (kp__law_two T.d) pass0 (pa_cons (pv 1) pa_nil)) (pa_cons (pe_callG (ok_two T) (hr.mono (by decide)) hg (by rfl) gp (kp__law_two T.d) pass0 (pa_cons (pv 2) pa_nil)) pa_nil)))
        (pg_tup rfl (pgs_cons (pg_tup rfl (pgs_cons (pg_name (i := 3) nd rfl (.inl rfl)) (pgs_cons (pg_name (i := 4) nd rfl (.inl rfl)) pgs_nil))) (pgs_cons (pg_tup rfl (pgs_cons (pg_name (i := 5) nd rfl (.inl rfl)) (pgs_cons (pg_name (i := 6) nd rfl (.inl rfl)) pgs_nil))) pgs_nil))))
      (pss_one (ps_ret (pe_ifExp (pt_cmpR op_gt (pv 0) pe_int (nomark _)) pe_dead (pe_callG (ok_told T) hr hg (by rfl) (T.g "_law_told" (by decide +kernel)) (kp__law_told T.d) pass0
        (pa_cons (pe_op op_add (pe_op op_mulW (pv 3) (pv 6)) (pe_op op_mulW (pv 5) (pv 4))) (pa_cons (pe_op op_mulW (pv 4) (pv 6)) pa_nil)))))), ?_⟩
    refine ⟨_, rfl, x, _, _, rfl, nx.two, fun u H1 s1 hu => ⟨_, rfl, y, _, _, rfl, (ny.same s1).two, fun v H2 s2 hv => ⟨by show 2 ≤ sizeLine; decide, fun r nr => ?_⟩⟩⟩
    have s3 := same_up (o := .tup [V.ref u, V.ref v]) nr
    refine ⟨r, _, rfl, .inl (.inl upd_same), rfl, _, _, rfl, ⟨u, _, rfl, .inl (.inl (s3 _ _ (s2 _ _ hu))), rfl, _, _, rfl, _, _, rfl, rfl, ?_⟩⟩
    refine ⟨_, _, rfl, ⟨v, _, rfl, .inl (.inl (s3 _ _ hv)), rfl, _, _, rfl, _, _, rfl, rfl, rfl, ?_⟩⟩
    have s4 := (s1.trans s2).trans s3
    refine ⟨_, rfl, _, _, rfl, rfl, _, rfl, ifF (by decide) ?_⟩
    refine ⟨_, rfl, _, rfl, _, _, rfl, rfl, wide_mul ba.1 (den_bq bb) (by decide) (by decide) (by decide),
      _, rfl, _, rfl, _, _, rfl, rfl, wide_mul bb.1 (den_bq ba) (by decide) (by decide) (by decide), _, _, rfl, rfl, _, rfl, _, rfl, _, _, rfl, rfl, wide_mul (den_bq ba) (den_bq bb) (by decide) (by decide) (by decide), ?_⟩
    refine ⟨_, _, rfl, dd_ne a b, to4000 (wide_lt (den_bq ba) (den_bq bb)) (by decide), fun z H5 s5 nz => ?_⟩
    rw [add_is] at nz
    exact q z H5 (s4.trans s5) nz
theorem ok_ltimes (T : Tx K mg) : FnG P w K mg base CX0 3 (He.ga K "_law_times") (spLaw2 fun a b => a * b) := by
  refine mk__law_times T.d (fun vs H Q E h => ?_) (fun cdv A outer s H vs Q E hg hr h => ?_)
  · obtain ⟨x, y, a, b, rfl, _⟩ := h
    rfl
  · obtain ⟨x, y, a, b, rfl, nx, ny, ba, bb, q⟩ := h
    have gp := T.g "_law_two" (by decide +kernel)
    have nd := sc__law_times.nd
    refine ⟨_, pss_cons (ps_asg (pe_tup (pa_cons (pe_callG (ok_two T) (hr.mono (by decide)) hg (by rfl) gp (kp__law_two T.d) pass0 (pa_cons (pv 1) pa_nil)) (pa_cons (pe_callG (ok_two T) (hr.mono (by decide)) hg (by rfl) gp (kp__law_two T.d) pass0 (pa_cons (pv 2) pa_nil)) pa_nil)))
        (pg_tup rfl (pgs_cons (pg_tup rfl (pgs_cons (pg_name (i := 3) nd rfl (.inl rfl)) (pgs_cons (pg_name (i := 4) nd rfl (.inl rfl)) pgs_nil))) (pgs_cons (pg_tup rfl (pgs_cons (pg_name (i := 5) nd rfl (.inl rfl)) (pgs_cons (pg_name (i := 6) nd rfl (.inl rfl)) pgs_nil))) pgs_nil))))
      (pss_one (ps_ret (pe_ifExp (pt_cmpR op_gt (pv 0) pe_int (nomark _)) pe_dead (pe_callG (ok_told T) hr hg (by rfl) (T.g "_law_told" (by decide +kernel)) (kp__law_told T.d) pass0
        (pa_cons (pe_op op_mulW (pv 3) (pv 5)) (pa_cons (pe_op op_mulW (pv 4) (pv 6)) pa_nil)))))), ?_⟩
    refine ⟨_, rfl, x, _, _, rfl, nx.two, fun u H1 s1 hu => ⟨_, rfl, y, _, _, rfl, (ny.same s1).two, fun v H2 s2 hv => ⟨by show 2 ≤ sizeLine; decide, fun r nr => ?_⟩⟩⟩
    have s3 := same_up (o := .tup [V.ref u, V.ref v]) nr
    refine ⟨r, _, rfl, .inl (.inl upd_same), rfl, _, _, rfl, ⟨u, _, rfl, .inl (.inl (s3 _ _ (s2 _ _ hu))), rfl, _, _, rfl, _, _, rfl, rfl, ?_⟩⟩
    refine ⟨_, _, rfl, ⟨v, _, rfl, .inl (.inl (s3 _ _ hv)), rfl, _, _, rfl, _, _, rfl, rfl, rfl, ?_⟩⟩
    have s4 := (s1.trans s2).trans s3
    refine ⟨_, rfl, _, _, rfl, rfl, _, rfl, ifF (by decide) ?_⟩
    refine ⟨_, rfl, _, rfl, _, _, rfl, rfl, wide_mul ba.1 bb.1 (by decide) (by decide) (by decide), _, rfl, _, rfl, _, _, rfl, rfl, wide_mul (den_bq ba) (den_bq bb) (by decide) (by decide) (by decide), ?_⟩
    refine ⟨_, _, rfl, dd_ne a b, to4000 (wide_lt (den_bq ba) (den_bq bb)) (by decide), fun z H5 s5 nz => ?_⟩
    rw [mul_is] at nz
    exact q z H5 (s4.trans s5) nz
def spLawOver : Sp := fun vs H Q _ => ∃ (x y : V) (a b : Rat), vs = [.int 0, x, y] ∧ NumQ H x a ∧ NumQ H y b ∧ Bq 1000 a ∧ Bq 1000 b ∧ b ≠ 0 ∧ ∀ (z : V) (H' : Hp), Same H H' → NumQ H' z (Rat.divInt (a.num * b.den) (a.den * b.num)) → Q z H'
theorem ok_lover (T : Tx K mg) : FnG P w K mg base CX0 3 (He.ga K "_law_over") spLawOver := by
  refine mk__law_over T.d (fun vs H Q E h => ?_) (fun cdv A outer s H vs Q E hg hr h => ?_)
  · obtain ⟨x, y, a, b, rfl, _⟩ := h
    rfl
  · obtain ⟨x, y, a, b, rfl, nx, ny, ba, bb, bz, q⟩ := h
    have gp := T.g "_law_two" (by decide +kernel)
    have nd := sc__law_over.nd
    refine ⟨_, pss_cons (ps_asg (pe_tup (pa_cons (pe_callG (ok_two T) (hr.mono (by decide)) hg (by rfl) gp (kp__law_two T.d) pass0 (pa_cons (pv 1) pa_nil)) (pa_cons (pe_callG (ok_two T) (hr.mono (by decide)) hg (by rfl) gp (kp__law_two T.d) pass0 (pa_cons (pv 2) pa_nil)) pa_nil)))
        (pg_tup rfl (pgs_cons (pg_tup rfl (pgs_cons (pg_name (i := 3) nd rfl (.inl rfl)) (pgs_cons (pg_name (i := 4) nd rfl (.inl rfl)) pgs_nil))) (pgs_cons (pg_tup rfl (pgs_cons (pg_name (i := 5) nd rfl (.inl rfl)) (pgs_cons (pg_name (i := 6) nd rfl (.inl rfl)) pgs_nil))) pgs_nil))))
      (pss_one (ps_ret (pe_ifExp (pt_cmpR op_gt (pv 0) pe_int (nomark _)) pe_dead (pe_callG (ok_told T) hr hg (by rfl) (T.g "_law_told" (by decide +kernel)) (kp__law_told T.d) pass0
        (pa_cons (pe_op op_mulW (pv 3) (pv 6)) (pa_cons (pe_op op_mulW (pv 4) (pv 5)) pa_nil)))))), ?_⟩
    refine ⟨_, rfl, x, _, _, rfl, nx.two, fun u H1 s1 hu => ⟨_, rfl, y, _, _, rfl, (ny.same s1).two, fun v H2 s2 hv => ⟨by show 2 ≤ sizeLine; decide, fun r nr => ?_⟩⟩⟩
    have s3 := same_up (o := .tup [V.ref u, V.ref v]) nr
    refine ⟨r, _, rfl, .inl (.inl upd_same), rfl, _, _, rfl, ⟨u, _, rfl, .inl (.inl (s3 _ _ (s2 _ _ hu))), rfl, _, _, rfl, _, _, rfl, rfl, ?_⟩⟩
    refine ⟨_, _, rfl, ⟨v, _, rfl, .inl (.inl (s3 _ _ hv)), rfl, _, _, rfl, _, _, rfl, rfl, rfl, ?_⟩⟩
    have s4 := (s1.trans s2).trans s3
    have bn : b.num ≠ 0 := fun z => bz (Rat.num_eq_zero.mp z)
    refine ⟨_, rfl, _, _, rfl, rfl, _, rfl, ifF (by decide) ?_⟩
    refine ⟨_, rfl, _, rfl, _, _, rfl, rfl, wide_mul ba.1 (den_bq bb) (by decide) (by decide) (by decide), _, rfl, _, rfl, _, _, rfl, rfl, wide_mul (den_bq ba) bb.1 (by decide) (by decide) (by decide), ?_⟩
    refine ⟨_, _, rfl, Int.mul_ne_zero (by have := den_pos' a; omega) bn, to4000 (wide_lt (den_bq ba) bb.1) (by decide), fun z H5 s5 nz => ?_⟩
    exact q z H5 (s4.trans s5) nz
def spNeg : Sp := fun vs H Q _ => ∃ (x : V) (a : Rat), vs = [.int 0, x] ∧ NumQ H x a ∧ Bq 1000 a ∧ ∀ (z : V) (H' : Hp), Same H H' → NumQ H' z (-a) → Q z H'
theorem ok_neg (T : Tx K mg) : FnG P w K mg base CX0 4 (He.ga K "_law_negative") spNeg := by
  refine mk__law_negative T.d (fun vs H Q E h => ?_) (fun cdv A outer s H vs Q E hg hr h => ?_)
  · obtain ⟨x, a, rfl, _⟩ := h
    rfl
  · obtain ⟨x, a, rfl, nx, ba, q⟩ := h
    refine ⟨_, pss_one (ps_ret (pe_callG (ok_ltimes T) hr hg (by rfl) (T.g "_law_times" (by decide +kernel)) (kp__law_times T.d) pass0 (pa_cons (pv 0) (pa_cons (pv 1) (pa_cons
      (pe_ifExp (pt_cmpR op_gt (pv 0) pe_int (nomark _)) pe_dead (pe_un un_neg pe_int)) pa_nil))))), ?_⟩
    refine ⟨_, rfl, _, rfl, _, rfl, _, _, rfl, rfl, _, rfl, ifF (by decide) ⟨_, rfl, ?_⟩⟩
    refine ⟨x, .int (-1), a, -1, rfl, nx, .inl ⟨rfl, rfl⟩, ba, ⟨by decide, by decide⟩, fun z H1 s1 nz => ?_⟩
    have e : a * (-1) = -a := by rw [Rat.mul_neg, Rat.mul_one]
    have nz2 : NumQ H1 z (a * (-1)) := nz
    rw [e] at nz2
    exact q z H1 s1 nz2
end
end K03

namespace K03
open PySem PySem.Spec PyProof.Rows L2 Ver Num
theorem NumQ.but {H H' : Hp} {x : V} {q : Rat} {d : Addr} {k : Int} (h : NumQ H x q) (pen : PenAt H d k) (b : But d H H') : NumQ H' x q := by
  obtain ⟨cc, cells, b1, l, h1, _⟩ := pen.ex
  rcases h with h | ⟨e, a, ex, h⟩
  · exact .inl h
  · exact .inr ⟨e, a, ex, b _ _ h (ne_of h h1 (by intro z; cases z))⟩
theorem FieldF.but {K : PySem.W.Frag} {H H' : Hp} {f d : Addr} {k : Int} (F : FieldF K H f) (pen : PenAt H d k) (b : But d H H') : FieldF K H' f := by
  obtain ⟨C, dx, c, e⟩ := F
  obtain ⟨cc, cells, b1, l, h1, _⟩ := pen.ex
  exact ⟨C, dx, c, b _ _ e (ne_of e h1 (by intro z; cases z))⟩
theorem abs_nat {n : Int} : absI n = (n.natAbs : Int) := by
  unfold absI
  split <;> omega
theorem fl_bits : FL < 2 ^ 333 := by
  unfold FL
  decide
theorem fl_nat {n : Nat} (h : (n : Int) < FL) : n < 2 ^ 333 := by
  have h2 := Int.lt_trans h fl_bits
  have e : ((2 : Int) ^ 333) = ((2 ^ 333 : Nat) : Int) := by rw [Int.natCast_pow]; rfl
  rw [e] at h2
  exact Int.ofNat_lt.mp h2
theorem ok100_div {t b : Int} (h : absI t < FL) (b0 : 0 < b) (b9 : b < FL) : Ok100 (Rat.divInt t b) := by
  obtain ⟨_, _, _, _, h5, h6⟩ := dvs_out (t := t) (show b ≠ 0 by omega)
  rw [abs_nat] at h
  refine ⟨?_, ?_⟩
  · rw [abs_nat]
    omega
  · omega
section
variable {P : Program} {w : World} {K : PySem.W.Frag} {mg : Str → Option Value} {base : Heap}
/-! ### _law_far, _law_any_number -/
def spFar : Sp := fun vs H Q _ => ∃ (d : Addr) (k : Int), vs = [.ref d] ∧ PenAt H d k ∧ k < 500000 ∧ ∀ (n : Int) (H' : Hp), 0 ≤ n → n < FL → But d H H' → PenAt H' d (k + 20) → Q (.int n) H'
theorem ten9 : (10 : Int) ^ (9 : Int).toNat = 1000000000 := by decide
theorem ok_far (T : Tx K mg) : FnG P w K mg base CX0 3 (He.ga K "_law_far") spFar := by
  refine mk__law_far T.d (fun vs H Q E h => ?_) (fun cdv A outer s H vs Q E hg hr h => ?_)
  · obtain ⟨d, k, rfl, _⟩ := h
    rfl
  · obtain ⟨d, k, rfl, pen, k9, q⟩ := h
    have nd := sc__law_far.nd
    have gp := T.g "_law_pick" (by decide +kernel)
    have gd := T.g "_law_draw" (by decide +kernel)
    refine ⟨_, pss_cons (ps_set (i := 1) nd rfl (Or.inl rfl) pe_int)
      (pss_cons (ps_for PassesOwn.never rfl (pi_range1 (by rfl) (T.z "range" (by decide +kernel)) (pa_cons (pe_callG (ok_pick T) hr hg (by rfl) gp (kp__law_pick T.d) pass0 (pa_cons (pv 0) (pa_cons (pe_lst (pa_cons pe_int (pa_cons pe_int (pa_cons pe_int (pa_cons pe_int pa_nil))))) pa_nil))) pa_nil)) (pg_name (i := 2) nd rfl (.inl rfl))
        (pss_one (ps_set (i := 1) nd rfl (Or.inl rfl) (pe_op op_add (pe_op op_mul (pv 1) (pe_op op_pow pe_int pe_int)) (pe_callG (ok_draw T) (hr.mono (by decide)) hg (by rfl) gd (kp__law_draw T.d) pass0 (pa_cons (pv 0) (pa_cons (pe_op op_pow pe_int pe_int) pa_nil)))))))
      (pss_one (ps_ret (pe_callG (ok_pick T) hr hg (by rfl) gp (kp__law_pick T.d) pass0 (pa_cons (pv 0) (pa_cons (pe_lst (pa_cons (pv 1) (pa_cons (pv 1) (pa_cons (pv 1) (pa_cons
        (pe_op op_sub (pe_op op_sub (pe_callG (ok_tens T) (hr.mono (by decide)) hg (by rfl) (T.g "_law_tens" (by decide +kernel)) (kp__law_tens T.d) pass0 (pa_cons pe_int pa_nil)) pe_int) (pe_callG (ok_draw T) (hr.mono (by decide)) hg (by rfl) gd (kp__law_draw T.d) pass0 (pa_cons (pv 0) (pa_cons pe_int pa_nil)))) pa_nil))))) pa_nil)))))), ?_⟩
    refine ⟨_, rfl, by show 4 ≤ sizeLine; decide, fun l nl => ?_⟩
    have s0 := same_up (o := .lst [V.int 1, V.int 1, V.int 3, V.int 10]) nl
    refine ⟨d, l, k, _, rfl, pen.same s0, by omega, upd_same, by show 0 < 4; decide, by show 4 < 1000; decide, fun x H1 hx bt1 pen1 => ?_⟩
    obtain ⟨m, rfl, m0, m10⟩ : ∃ m : Int, x = .int m ∧ 0 ≤ m ∧ m ≤ 10 := by
      simp only [List.mem_cons, List.not_mem_nil, or_false] at hx
      rcases hx with rfl | rfl | rfl | rfl
      · exact ⟨1, rfl, by decide, by decide⟩
      · exact ⟨1, rfl, by decide, by decide⟩
      · exact ⟨3, rfl, by decide, by decide⟩
      · exact ⟨10, rfl, by decide, by decide⟩
    have bt := (But.same s0).trans bt1
    refine ⟨m, rfl, by omega, by omega, ?_⟩
    refine for_range (lo := 0) (fun i σ H' => ∃ (n : Int) (v : Option V), σ = [some (.ref d), some (.int n), v] ∧ 0 ≤ n ∧ n < 10 ^ (9 * i) ∧ But d H H' ∧ PenAt H' d (k + 1 + i)) ⟨0, none, rfl, by decide, by decide, bt, pen1.mono (by omega)⟩ ?_ ?_
    · rintro i σ H2 hi ⟨n, v, rfl, n0, n9, bt2, pen2⟩
      refine ⟨_, rfl, _, _, rfl, rfl, ⟨by decide, by decide, by decide⟩, _, _, rfl, rfl, .inr ⟨by rw [ten9]; decide, by rw [ten9]; decide⟩, ?_⟩
      refine ⟨_, rfl, _, _, rfl, rfl, ⟨by decide, by decide, by decide⟩, d, _, _, rfl, pen2, by omega, by rw [ten9]; decide, by rw [ten9]; decide, fun x H3 bt3 pen3 x0 x1 => ?_⟩
      rw [ten9] at x1
      refine ⟨_, _, rfl, rfl, _, _, rfl, ?_, ?_, bt2.trans bt3, pen3.mono (by omega)⟩
      · rw [ten9]
        omega
      · rw [ten9, show 9 * (i + 1) = 9 * i + 9 by omega, Int.pow_add]
        have e9 : (10 : Int) ^ 9 = 1000000000 := by decide
        rw [e9]
        omega
    · rintro σ H2 ⟨n, v, rfl, n0, n9, bt2, pen2⟩
      have nFL : n < FL := by
        refine Int.lt_trans n9 ?_
        have e : (10 : Int) ^ (9 * m.toNat) ≤ 10 ^ 90 := by
          have c : ∀ j : Nat, (10 : Int) ^ j = ((10 ^ j : Nat) : Int) := fun j => by rw [Int.natCast_pow]; rfl
          rw [c, c]
          exact Int.ofNat_le.mpr (Nat.pow_le_pow_right (by decide) (by omega))
        have e2 : (10 : Int) ^ 90 < FL := by unfold FL; decide
        omega
      refine ⟨_, rfl, _, rfl, _, rfl, _, rfl, rfl, _, _, rfl, rfl, _, rfl, d, _, 3, rfl, pen2, by omega, by decide, by decide, fun x H3 bt3 pen3 x0 x1 => ⟨_, _, rfl, rfl, by show 4 ≤ sizeLine; decide, fun l2 nl2 => ?_⟩⟩
      have s3 := same_up (o := .lst [V.int n, V.int n, V.int n, V.int (FL - 1 - x)]) nl2
      refine ⟨d, l2, _, _, rfl, pen3.same s3, by omega, upd_same, by show 0 < 4; decide, by show 4 < 1000; decide, fun y H4 hy bt4 pen4 => ?_⟩
      have b4 := (bt2.trans bt3).trans ((But.same s3).trans bt4)
      have p4 : PenAt H4 d (k + 20) := pen4.mono (by omega)
      have fl3 : 3 < FL := by unfold FL; decide
      simp only [List.mem_cons, List.not_mem_nil, or_false] at hy
      rcases hy with rfl | rfl | rfl | rfl
      · exact q _ H4 n0 nFL b4 p4
      · exact q _ H4 n0 nFL b4 p4
      · exact q _ H4 n0 nFL b4 p4
      · exact q _ H4 (by omega) (by omega) b4 p4
def spAny : Sp := fun vs H Q _ => ∃ (d : Addr) (k : Int) (sm : Bool), vs = [.ref d, .int 0, .bl sm] ∧ PenAt H d k ∧ k < 100000 ∧ ∀ (x : V) (r : Rat) (H' : Hp), NumQ H' x r → Ok100 r → But d H H' → PenAt H' d (k + 60) → Q x H'
theorem ok_any (T : Tx K mg) : FnG P w K mg base CX0 4 (He.ga K "_law_any_number") spAny := by
  refine mk__law_any_number T.d (fun vs H Q E h => ?_) (fun cdv A outer s H vs Q E hg hr h => ?_)
  · obtain ⟨d, k, sm, rfl, _⟩ := h
    rfl
  · obtain ⟨d, k, sm, rfl, pen, k9, q⟩ := h
    have nd := sc__law_any_number.nd
    have gp := T.g "_law_pick" (by decide +kernel)
    have gd := T.g "_law_draw" (by decide +kernel)
    have gs := T.g "_law_signed" (by decide +kernel)
    have gf := T.g "_law_far" (by decide +kernel)
    have hu := hr
    refine ⟨_, pss_cons (ps_if (pt_cmpR op_gt (pv 1) pe_int (nomark _)) pss_never pss_nil)
      (pss_cons (ps_set (i := 3) nd rfl (Or.inl rfl) (pe_callG (ok_signed T) (hr.mono (by decide)) hg (by rfl) gs (kp__law_signed T.d) pass0 (pa_cons (pv 0) (pa_cons (pe_callG (ok_pick T) (hr.mono (by decide)) hg (by rfl) gp (kp__law_pick T.d) pass0 (pa_cons (pv 0) (pa_cons (pe_lst (pa_cons pe_int (pa_cons pe_int
          (pa_cons (pe_callG (ok_draw T) (hr.mono (by decide)) hg (by rfl) gd (kp__law_draw T.d) pass0 (pa_cons (pv 0) (pa_cons pe_int pa_nil)))
          (pa_cons (pe_callG (ok_draw T) (hr.mono (by decide)) hg (by rfl) gd (kp__law_draw T.d) pass0 (pa_cons (pv 0) (pa_cons (pe_op op_pow pe_int pe_int) pa_nil))) pa_nil))))) pa_nil))) pa_nil))))
      (pss_cons (ps_set (i := 4) nd rfl (Or.inl rfl) (pe_callG (ok_pick T) (hr.mono (by decide)) hg (by rfl) gp (kp__law_pick T.d) pass0 (pa_cons (pv 0) (pa_cons (pe_lst (pa_cons pe_int (pa_cons pe_int
          (pa_cons (pe_op op_add pe_int (pe_callG (ok_draw T) (hr.mono (by decide)) hg (by rfl) gd (kp__law_draw T.d) pass0 (pa_cons (pv 0) (pa_cons pe_int pa_nil))))
          (pa_cons (pe_op op_add pe_int (pe_callG (ok_draw T) (hr.mono (by decide)) hg (by rfl) gd (kp__law_draw T.d) pass0 (pa_cons (pv 0) (pa_cons (pe_op op_pow pe_int pe_int) pa_nil)))) pa_nil))))) pa_nil))))
      (pss_cons (ps_if (PW.pt (pw_and (pt_not (pt_val (pv 2))) (pw_and1 (pt_cmpR op_eq (pe_callG (ok_draw T) (hr.mono (by decide)) hg (by rfl) gd (kp__law_draw T.d) pass0 (pa_cons (pv 0) (pa_cons pe_int pa_nil))) pe_int (nomark _)))))
        (pss_one (ps_par (i := 3) (j := 4) rfl nd rfl rfl (by decide) rfl rfl
          (pa_cons (pe_callG (ok_signed T) (hr.mono (by decide)) hg (by rfl) gs (kp__law_signed T.d) pass0 (pa_cons (pv 0) (pa_cons (pe_callG (ok_far T) hr hg (by rfl) gf (kp__law_far T.d) pass0 (pa_cons (pv 0) pa_nil)) pa_nil)))
          (pa_cons (pe_callG (ok_pick T) (hr.mono (by decide)) hg (by rfl) gp (kp__law_pick T.d) pass0 (pa_cons (pv 0) (pa_cons (pe_lst (pa_cons pe_int (pa_cons pe_int
            (pa_cons (pe_callB (call_max2 rfl) (by rfl) (T.z "max" (by decide +kernel)) (by decide +kernel) (pa_cons pe_int (pa_cons (pe_callG (ok_far T) hr hg (by rfl) gf (kp__law_far T.d) pass0 (pa_cons (pv 0) pa_nil)) pa_nil))) pa_nil)))) pa_nil))) pa_nil)) (by rfl))) pss_nil)
      (pss_one (ps_ret (pe_callG (ok_told T) (hr.mono (by decide)) hg (by rfl) (T.g "_law_told" (by decide +kernel)) (kp__law_told T.d) pass0 (pa_cons (pv 3) (pa_cons (pv 4) pa_nil)))))))), ?_⟩
    have f9 : (1000000001 : Int) < FL := by unfold FL; decide
    refine ⟨_, rfl, _, _, rfl, rfl, _, rfl, ifF (by decide) ?_⟩
    -- the top
    refine ⟨_, rfl, _, rfl, _, rfl, d, k, 12, rfl, pen, by omega, by decide, by decide, fun x1 H1 bt1 pen1 x10 x11 => ?_⟩
    refine ⟨_, rfl, _, _, rfl, rfl, ⟨by decide, by decide, by decide⟩, d, _, _, rfl, pen1, by omega, by rw [ten9]; decide, by rw [ten9]; decide, fun x2 H2 bt2 pen2 x20 x21 => ⟨by show 4 ≤ sizeLine; decide, fun l nl => ?_⟩⟩
    rw [ten9] at x21
    have s2 := same_up (o := .lst [V.int 0, V.int 1, V.int x1, V.int x2]) nl
    refine ⟨d, l, _, _, rfl, pen2.same s2, by omega, upd_same, by show 0 < 4; decide, by show 4 < 1000; decide, fun y H3 hy bt3 pen3 => ?_⟩
    obtain ⟨t0, rfl, t00, t09⟩ : ∃ t0 : Int, y = .int t0 ∧ 0 ≤ t0 ∧ t0 < 1000000000 := by
      simp only [List.mem_cons, List.not_mem_nil, or_false] at hy
      rcases hy with rfl | rfl | rfl | rfl
      · exact ⟨0, rfl, by decide, by decide⟩
      · exact ⟨1, rfl, by decide, by decide⟩
      · exact ⟨x1, rfl, x10, by omega⟩
      · exact ⟨x2, rfl, x20, x21⟩
    have c3 := (bt1.trans bt2).trans ((But.same s2).trans bt3)
    refine ⟨d, _, t0, rfl, pen3, by omega, fun t H4 ht bt4 pen4 => ?_⟩
    have c4 := c3.trans bt4
    have tFL : absI t < FL := by
      rw [ht]
      unfold absI
      split <;> omega
    -- the bottom
    refine ⟨_, rfl, _, rfl, d, _, 12, rfl, pen4, by omega, by decide, by decide, fun z1 H5 bt5 pen5 z10 z11 => ?_⟩
    refine ⟨_, _, rfl, rfl, _, rfl, _, _, rfl, rfl, ⟨by decide, by decide, by decide⟩, d, _, _, rfl, pen5, by omega, by rw [ten9]; decide, by rw [ten9]; decide, fun z2 H6 bt6 pen6 z20 z21 => ?_⟩
    rw [ten9] at z21
    refine ⟨_, _, rfl, rfl, by show 4 ≤ sizeLine; decide, fun l2 nl2 => ?_⟩
    have s6 := same_up (o := .lst [V.int 1, V.int 1, V.int (1 + z1), V.int (1 + z2)]) nl2
    refine ⟨d, l2, _, _, rfl, pen6.same s6, by omega, upd_same, by show 0 < 4; decide, by show 4 < 1000; decide, fun y2 H7 hy2 bt7 pen7 => ?_⟩
    obtain ⟨b, rfl, b0, b9⟩ : ∃ b : Int, y2 = .int b ∧ 0 < b ∧ b ≤ 1000000000 := by
      simp only [List.mem_cons, List.not_mem_nil, or_false] at hy2
      rcases hy2 with rfl | rfl | rfl | rfl
      · exact ⟨1, rfl, by decide, by decide⟩
      · exact ⟨1, rfl, by decide, by decide⟩
      · exact ⟨_, rfl, by omega, by omega⟩
      · exact ⟨_, rfl, by omega, by omega⟩
    have c7 := (c4.trans (bt5.trans bt6)).trans ((But.same s6).trans bt7)
    have big : ∀ n : Int, 0 < n → n < FL → n.natAbs < 2 ^ 4000 := fun n h0 h1 => to4000 (fl_nat (n := n.natAbs) (by omega)) (by decide)
    refine ⟨_, rfl, _, rfl, ?_⟩
    cases sm with
    | true => 
      refine ifF rfl (ifF rfl ?_)
      refine ⟨_, rfl, _, rfl, t, b, rfl, by omega, big b b0 (by omega), fun x H8 s8 n8 => q x _ H8 n8 (ok100_div tFL b0 (by omega)) (c7.trans (But.same s8)) ((pen7.same s8).mono (by omega))⟩
    | false =>
      refine ifT rfl ?_
      refine ⟨_, rfl, d, _, 3, rfl, pen7, by omega, by decide, by decide, fun x3 H8 bt8 pen8 x30 x31 => ⟨rfl, _, rfl, ?_⟩⟩
      rw [iEq]
      have c8 := c7.trans bt8
      by_cases e : x3 = 0
      · refine ifT (decide_eq_true e) ?_
        refine ⟨_, rfl, _, rfl, d, _, rfl, pen8, by omega, fun n H9 n0 nF bt9 pen9 => ?_⟩
        refine ⟨d, _, n, rfl, pen9, by omega, fun t2 H10 ht2 bt10 pen10 => ?_⟩
        refine ⟨_, rfl, _, rfl, d, _, rfl, pen10, by omega, fun n2 H11 n20 n2F bt11 pen11 => ⟨_, _, rfl, by show 3 ≤ sizeLine; decide, fun l3 nl3 => ?_⟩⟩
        have s11 := same_up (o := .lst [V.int 1, V.int 2, V.int (if n2 > 1 then n2 else 1)]) nl3
        refine ⟨d, l3, _, _, rfl, pen11.same s11, by omega, upd_same, by show 0 < 3; decide, by show 3 < 1000; decide, fun y3 H12 hy3 bt12 pen12 => ⟨_, _, rfl, ?_⟩⟩
        obtain ⟨b2, rfl, b20, b2F⟩ : ∃ b : Int, y3 = .int b ∧ 0 < b ∧ b < FL := by
          simp only [List.mem_cons, List.not_mem_nil, or_false] at hy3
          rcases hy3 with rfl | rfl | rfl
          · exact ⟨1, rfl, by decide, by omega⟩
          · exact ⟨2, rfl, by decide, by omega⟩
          · exact ⟨_, rfl, by split <;> omega, by split <;> omega⟩
        have c12 := ((c8.trans bt9).trans (bt10.trans bt11)).trans ((But.same s11).trans bt12)
        have t2F : absI t2 < FL := by
          rw [ht2]
          unfold absI
          split <;> omega
        refine ⟨_, rfl, _, rfl, t2, b2, rfl, by omega, big b2 b20 b2F, fun x H13 s13 n13 => q x _ H13 n13 (ok100_div t2F b20 b2F) (c12.trans (But.same s13)) ((pen12.same s13).mono (by omega))⟩
      · refine ifF (decide_eq_false e) ?_
        refine ⟨_, rfl, _, rfl, t, b, rfl, by omega, big b b0 (by omega), fun x H9 s9 n9 => q x _ H9 n9 (ok100_div tFL b0 (by omega)) (c8.trans (But.same s9)) ((pen8.same s9).mono (by omega))⟩
end
end K03

namespace Ver
open PySem PySem.Spec PyProof.Rows L2
section
variable {X : Cx} {CX : CXT} {k : Nat} {f : Addr} {sp : Sp} {E : L2.St → XK} {m : Str} {pos apos : Pos} {e o : Expr} {es : List Expr} {t : TA} {ta : TE}
/-- o.m(e, ..), what it lets out is caught here -/
def tMethGS (K : PySem.W.Frag) (m : Str) (f : Addr) (sp : Sp) (E : L2.St → XK) (ta : TE) (t : TA) : TE := fun σ H Q => ta σ H fun x H1 => ∃ a C dx fs, x = .ref a ∧ H1 a = some (.ins C dx fs) ∧ Cls K C ∧ Meth K C m f ∧ fs.lookup m = none ∧
  t σ H1 fun vs H2 => sp (.ref a :: vs) H2 Q (E σ)
theorem pe_methGS {pl : Sem Bool} (K' : PySem.W.Frag) (hK : X.K = K') (he : PE X o ta) (hk : PySem.W.keepIn X.K (.ref f) = true) (F : FnG X.prog X.w X.K X.mg X.base CX k f sp) (hr : Room k X.A) (hgd : X.A.guards = some []) (hx : ∀ σ, PassesAt CX X σ (E σ)) (ha : PA X (e :: es) t)
    (hst : starEach (e :: es) X.env = (false, eval e X.env) :: starEach es X.env := by rfl) (hpl : (backTo pos (starEach es X.env)).any (·.1) = false := by rfl)
    (ht : eval (.Call (.Attribute o m apos) (e :: es) [] pos) X.env = (do
      let ov ← eval o X.env
      standAt apos.atName
      let (g, first) ← holding [ov] (getMethod ov m pl)
      callWith pos g first (backTo pos (starEach (e :: es) X.env)) (backToKw pos (keywordEach [] X.env))) := by rfl) :
    PE X (.Call (.Attribute o m apos) (e :: es) [] pos) (tMethGS K' m f sp E ta t) := by
  subst hK
  refine ⟨fun pins s σ H Q I h => PySem.W.methodCall_KW (pl := pl) (thn (he.run pins s σ H _ I h) fun u s1 z => ?_) ht⟩
  obtain ⟨x, H1, I1, rx, a, C, dx, fs, rfl, ea, c, hm, l, q⟩ := z
  cases (show u = Value.ref a from rx)
  refine getmeth_ok I1 ea c hm l (PySem.W.callWith_K (first := [.ref a]) (h₀ := X.base) I.ok.mod.kin hk (thn (ha.run pos pins s1 σ H1 _ I1 q) fun us s2 y => ?_) hst hpl)
  obtain ⟨vs, H2, I2, r, q2⟩ := y
  refine ⟨I2.kIn, ?_⟩
  exact wpAny_call (codeAny_mono (F X.A X.stack s2 H2 (.ref a :: us) (.ref a :: vs) Q (E σ) hgd hr I2.env0 (.cons rfl r) q2) fun rs s' hq => by
    match rs, hq with
    | .error e', hq => exact hx σ pins H2 s2 e' s' I2 hq
    | .ok (.ret u), hq => exact I2.after hq
    | .ok .next, hq => exact hq.elim
    | .ok .brk, hq => exact hq.elim
    | .ok .cont, hq => exact hq.elim)
end
/-! ### lists, shown -/
theorem textFrom_up : ∀ (ts : List Str) (k : Nat) (acc : Str), (textFrom k acc ts).length ≤ acc.length + piled ts
  | [], _, acc => by show acc.length ≤ acc.length + 0; omega
  | t :: r, k, acc => by
    have ih := textFrom_up r (k + 1) (acc ++ (if k > 0 then ", " else "" : String) ++ t)
    have e : (acc ++ (if k > 0 then ", " else "" : String) ++ t).length ≤ acc.length + 2 + t.length := by
      rw [strLen_append, strLen_append]
      by_cases h : k > 0
      · rw [if_pos h]
        exact Nat.le_refl _
      · rw [if_neg h]
        show acc.length + 0 + t.length ≤ _
        omega
    show (textFrom (k + 1) _ r).length ≤ _
    rw [piled_cons]
    omega
end Ver

namespace K03
open PySem PySem.Spec PyProof.Rows L2 Ver Num
theorem go_methS {K : PySem.W.Frag} {σ : L2.St} {H : Hp} {f : Addr} {i : Nat} {Q : VK} {m : Str} {sp : Sp} {E : L2.St → XK} {t : TA} (h0 : σ[i]? = some (some (.ref f))) (F : FieldF K H f)
    (hm : m ∈ (["is_number", "plus", "minus", "times", "over", "total", "holds", "ratio", "product_of", "sum_of", "difference_of", "quotient_of", "common", "_check"] : List Str)) (hn : (m == ("_prime" : Str)) = false)
    (q : t σ H fun vs H2 => sp (.ref f :: vs) H2 Q (E σ)) : tMethGS K m (He.ma K (He.ga K "Field") m) sp E (tVar i) t σ H Q := by
  obtain ⟨C, dx, c, e⟩ := F
  exact ⟨.ref f, h0, f, C, dx, _, rfl, e, c.cl, c.m m hm, pf_no _ hn, q⟩
section
variable {P : Program} {w : World} {K : PySem.W.Frag} {mg : Str → Option Value} {base : Heap}
/-! ### _law_quotient -/
def spQuot (K : PySem.W.Frag) : Sp := fun vs H Q _ => ∃ (f : Addr) (x y : V) (a b : Rat), vs = [.ref f, x, y] ∧ FieldF K H f ∧ NumQ H x a ∧ NumQ H y b ∧ Ok100 a ∧ Ok100 b ∧
  (b = 0 → ∀ H', Same H H' → Q (.str "none") H') ∧ (b ≠ 0 → ∀ (z : V) (H' : Hp), Same H H' → NumQ H' z (Rat.divInt (a.num * b.den) (a.den * b.num)) → Q z H')
/-- what the clause does with the exception at a -/
def tCaught (K : PySem.W.Frag) (a : Addr) : TS := tRet (tIf (tB (tCB (rIsE K (He.ga K "NoQuotient") a) (tCons (tVar 3) (tCons (tC (.ty "ArithmeticError")) tNil)))) (tC (.str "none")) (tC (.str "odd")))
theorem ok_quot (T : Tx K mg) : FnG P w K mg base CX0 7 (He.ga K "_law_quotient") (spQuot K) := by
  refine mk__law_quotient T.d (fun vs H Q E h => ?_) (fun cdv A outer s H vs Q E hg hr h => ?_)
  · obtain ⟨f, x, y, a, b, rfl, _⟩ := h
    rfl
  · obtain ⟨f, x, y, a, b, rfl, F, nx, ny, oa, ob, qe, q⟩ := h
    have nd := sc__law_quotient.nd
    refine ⟨_, pss_one (ps_try_as (i := 3) (ts := fun a cls d D σ H => cls = .ref (He.ga K "NoQuotient") ∧ d = none ∧ tCaught K a D σ H) rfl rfl nd rfl rfl ⟨rfl, by decide +kernel, .inl (T.g "NoQuotient" (by decide +kernel))⟩ takes0
        (fun W pn xe tk _ => pss_one (ps_ret (pe_methGS K rfl (E := WE W) (pv 0) (kp_Field_over T.d) (ok_over T) hr hg (passAt tk) (pa_cons (pv 1) (pa_cons (pv 2) pa_nil)))))
        (fun a oe cls d pn hz hf => ⟨fun pins s σ H D I h => by
          obtain ⟨rfl, rfl, h⟩ := h
          exact (pss_one (ps_ret (pe_ifExp (pt_val (pe_callB (call_isE T.exc hz hf) (by rfl) (T.z "isinstance" (by decide +kernel)) (by decide +kernel)
            (pa_cons (pv 3) (pa_cons (pe_bltn (v := .ty "ArithmeticError") (by rfl) (T.z "ArithmeticError" (by decide +kernel)) (by decide +kernel) rfl) pa_nil)))) pe_str pe_str))).run pins s σ H D I h⟩)), ?_⟩
    refine go_methS rfl F (by decide +kernel) (by decide +kernel) ⟨_, rfl, _, rfl, f, x, y, a, b, rfl, F, nx, ny, oa, ob, fun z H' s' => ⟨true, T.te, fun _ c hc => ⟨rfl, rfl, ?_⟩, fun z => nomatch z⟩, fun z v H' s' n => q z v H' s' n⟩
    exact ⟨_, rfl, _, _, true, rfl, fun u r => r, T.isA, _, rfl, ifT rfl (qe z H' s')⟩
/-! ### fractions, shown -/
theorem NumsQ.nil {H : Hp} : NumsQ H [] [] := ⟨rfl, fun i x q h => by simp at h⟩
theorem NumsQ.cons {H : Hp} {x : V} {q : Rat} {xs : List V} {qs : List Rat} (h : NumQ H x q) (t : NumsQ H xs qs) : NumsQ H (x :: xs) (q :: qs) := by
  refine ⟨by rw [List.length_cons, List.length_cons, t.1], fun i y r e1 e2 => ?_⟩
  cases i with
  | zero =>
    cases e1
    cases e2
    exact h
  | succ i => exact t.2 i y r e1 e2
theorem NumsQ.inv {H : Hp} {x : V} {q : Rat} {xs : List V} {qs : List Rat} (h : NumsQ H (x :: xs) (q :: qs)) : NumQ H x q ∧ NumsQ H xs qs :=
  ⟨h.2 0 x q rfl rfl, by have := h.1; rw [List.length_cons, List.length_cons] at this; omega, fun i y r e1 e2 => h.2 (i + 1) y r e1 e2⟩
theorem dp_all {H : Hp} : ∀ {xs : List V} {qs : List Rat}, NumsQ H xs qs → DpAll K H xs (qs.map dq)
  | [], [], _ => .nil
  | x :: xs, q :: qs, h => .cons (dp_q h.inv.1) (dp_all h.inv.2)
  | [], _ :: _, h => by
    have := h.1
    cases this
  | _ :: _, [], h => by
    have := h.1
    cases this
theorem int_shown {n : Int} (h : n.natAbs < 2 ^ 1500) : n.natAbs.log2 < 1920 ∧ (PyData.int n).shown.length ≤ 1501 := by
  have l := PySem.Flt.log2_lt_of (by decide) h
  refine ⟨by omega, ?_⟩
  have e := int_text_length_le (k := 1500) (by decide) l
  simp only [PyData.shown]
  have e2 : (Str.ofString (toString n)).length ≤ 1501 := by
    rw [PySem.ofString_length]
    exact e
  exact e2
theorem dq_shown {q : Rat} (h : Bq 1500 q) : (dq q).showable = true ∧ (dq q).shown.length ≤ 3020 ∧ (dq q).depth ≤ 2 := by
  obtain ⟨a1, a2⟩ := int_shown h.1
  obtain ⟨b1, b2⟩ := int_shown (den_bq h)
  by_cases d : q.den = 1
  · rw [dq_int d]
    exact ⟨by simp only [PyData.showable]; exact decide_eq_true a1, by omega, by simp [PyData.depth]⟩
  · rw [dq_tup d]
    refine ⟨?_, ?_, by simp [PyData.depth, PyData.depthAll]⟩
    · simp only [PyData.showable, PyData.showableAll, decide_eq_true a1, decide_eq_true b1]
      rfl
    · have e : (PyData.tuple [.int q.num, .int (q.den : Int)]).shown = tupleText [(PyData.int q.num).shown, (PyData.int (q.den : Int)).shown] := by simp only [PyData.shown, PyData.shownAll]
      rw [e]
      unfold tupleText
      rw [strLen_append, strLen_append]
      have j := join_length_add [(PyData.int q.num).shown, (PyData.int (q.den : Int)).shown] (by simp)
      rw [piled_cons, piled_cons, piled_nil] at j
      have e1 : ("(" : Str).length = 1 := rfl
      have e2 : ((if [(PyData.int q.num).shown, (PyData.int (q.den : Int)).shown].length == 1 then ",)" else ")" : String) : Str).length = 1 := rfl
      omega
theorem all_shown : ∀ qs : List Rat, (∀ q ∈ qs, Bq 1500 q) → PyData.showableAll (qs.map dq) = true ∧ piled (PyData.shownAll (qs.map dq)) ≤ 3022 * qs.length ∧ PyData.depthAll (qs.map dq) ≤ 2
  | [], _ => by simp [PyData.showableAll, PyData.shownAll, piled, PyData.depthAll]
  | q :: qs, h => by
    obtain ⟨h1, h2, h3⟩ := all_shown qs fun x hx => h x (List.mem_cons_of_mem _ hx)
    obtain ⟨a1, a2, a3⟩ := dq_shown (h q List.mem_cons_self)
    refine ⟨?_, ?_, ?_⟩
    · simp only [List.map_cons, PyData.showableAll, a1, h1]
      rfl
    · simp only [List.map_cons, PyData.shownAll, List.length_cons]
      rw [piled_cons]
      omega
    · simp only [List.map_cons, PyData.depthAll]
      omega
/-- repr of a list of fractions that stands at a: what the call wants -/
theorem r_reprQ {H : Hp} {a : Addr} {xs : List V} {qs : List Rat} (h : H a = some (.lst xs)) (hn : NumsQ H xs qs) (hb : ∀ q ∈ qs, Bq 1500 q) (hl : qs.length ≤ 1000) :
    Dp K H (.ref a) (.list (qs.map dq)) ∧ (PyData.list (qs.map dq)).showable = true ∧ (PyData.list (qs.map dq)).shown.length ≤ sizeLine ∧ (PyData.list (qs.map dq)).depth ≤ 60 := by
  obtain ⟨h1, h2, h3⟩ := all_shown qs hb
  refine ⟨.lst (SqL.of h) (dp_all hn), by simp only [PyData.showable, h1], ?_, by simp only [PyData.depth]; omega⟩
  have e1 := textFrom_up (PyData.shownAll (qs.map dq)) 0 "["
  have e3 : (listText (PyData.shownAll (qs.map dq))).length = (textFrom 0 "[" (PyData.shownAll (qs.map dq))).length + 1 := by
    show (textFrom 0 "[" _ ++ "]").length = _
    rw [strLen_append]
    rfl
  have e4 : ("[" : Str).length = 1 := rfl
  simp only [PyData.shown]
  rw [e3, sizeLine_eq]
  omega
theorem r_repr1 {H : Hp} {x : V} {q : Rat} (hn : NumQ H x q) (hb : Bq 1500 q) : Dp K H x (dq q) ∧ (dq q).showable = true ∧ (dq q).shown.length ≤ sizeLine ∧ (dq q).depth ≤ 60 := by
  obtain ⟨a1, a2, a3⟩ := dq_shown hb
  exact ⟨dp_q hn, a1, by rw [sizeLine_eq]; omega, by omega⟩
end
end K03

namespace Ver
open PySem PySem.Spec PyProof.Rows L2
section
variable {X : Cx} {CX : CXT} {k : Nat} {f C : Addr} {sp : Sp} {E : XK} {x : Str} {p pos : Pos}
/-- C() -/
theorem pe_makeG0 (M : Mk X.K C f) (F : FnG X.prog X.w X.K X.mg X.base CX k f sp) (hr : Room (k + 1) X.A) (hgd : X.A.guards = some []) (hg : Gl X x) (hm : X.mg x = some (.ref C)) (hx : Passes CX X E)
    (hdb : (x == ("__debug__" : Str)) = false := by decide) : PE X (.Call (.Name x p) [] [] pos) (StX.tMakeR C sp E tNil) := by
  refine ⟨fun pins s σ H Q I q => wpAny_Call_Name_kw (ld_glob I hg hm (PySem.W.callWith_K0 I.kIn M.kp ?_) hdb)⟩
  show wpAny _ _ (call (.ref C) []) _ _ _
  refine wpAny_call (make_map (f := f) I.kIn M.makes M.init (beq_iff_eq.mp M.fn) ?_)
  have q2 := q (s.heap.objs.size + 1) s.heap.objs.size (I.hok.fresh (Nat.le_succ _)) (I.hok.fresh (Nat.le_refl _)) (Nat.ne_of_lt (Nat.lt_succ_self _))
  have I2 := Inv.made (C := C) I
  refine codeAny_mono (F _ X.stack _ _ (Value.ref (s.heap.objs.size + 1) :: []) (V.ref (s.heap.objs.size + 1) :: []) _ E (made_guards hgd C []) (hr.make C [] []) (I2.env0.make C [] []) (.cons rfl .nil) q2) fun rs s' hq => ?_
  match rs, hq with
  | .error e', hq => exact hx pins σ _ _ e' s' I2 hq
  | .ok (.ret u), hq =>
    obtain ⟨v, H', I3, rv, ev, q3⟩ := I2.after hq
    subst ev
    exact ⟨rv, V.ref (s.heap.objs.size + 1), H', I3, rfl, q3⟩
  | .ok .next, hq => exact hq.elim
  | .ok .brk, hq => exact hq.elim
  | .ok .cont, hq => exact hq.elim
end
end Ver
namespace K03
open PySem PySem.Spec PyProof.Rows L2 Ver Num
theorem made_same {H : Hp} {x dx : Addr} {o1 o2 o3 : HO} (hx : H x = none) (hd : H dx = none) : Same H (upd (upd (upd H dx o1) x o2) x o3) := fun b o e => by
  rw [upd_ne (ne_of_none e hx), upd_ne (ne_of_none e hx), upd_ne (ne_of_none e hd)]
  exact e
theorem bq_add {n : Nat} {a b : Rat} (ha : Bq n a) (hb : Bq n b) : Bq (n + n + 1) (a + b) := by
  rw [← add_is]
  refine bq_div (dd_ne a b) (Num.add_lt (wide_lt ha.1 (den_bq hb)) (wide_lt hb.1 (den_bq ha))) ?_
  exact Nat.lt_of_lt_of_le (wide_lt (den_bq ha) (den_bq hb)) (Nat.pow_le_pow_right (by decide) (by omega))
theorem bq_sub {n : Nat} {a b : Rat} (ha : Bq n a) (hb : Bq n b) : Bq (n + n + 1) (a - b) := by
  rw [← sub_is]
  refine bq_div (dd_ne a b) (Num.sub_lt (wide_lt ha.1 (den_bq hb)) (wide_lt hb.1 (den_bq ha))) ?_
  exact Nat.lt_of_lt_of_le (wide_lt (den_bq ha) (den_bq hb)) (Nat.pow_le_pow_right (by decide) (by omega))
theorem bq_mul {n : Nat} {a b : Rat} (ha : Bq n a) (hb : Bq n b) : Bq (n + n) (a * b) := by
  rw [← mul_is]
  exact bq_div (dd_ne a b) (wide_lt ha.1 hb.1) (wide_lt (den_bq ha) (den_bq hb))
theorem bq_over {n : Nat} {a b : Rat} (ha : Bq n a) (hb : Bq n b) (h : b ≠ 0) : Bq (n + n) (Rat.divInt (a.num * b.den) (a.den * b.num)) :=
  bq_div (Int.mul_ne_zero (by have := den_pos' a; omega) fun z => h (Rat.num_eq_zero.mp z)) (wide_lt ha.1 (den_bq hb)) (wide_lt (den_bq ha) hb.1)
theorem ok_neg100 {a : Rat} (h : Ok100 a) : Ok100 (-a) := by
  obtain ⟨h1, h2⟩ := h
  refine ⟨?_, by rw [Rat.neg_den]; exact h2⟩
  rw [Rat.neg_num]
  unfold absI at *
  split <;> split at h1 <;> omega
theorem ok_zero : Ok100 0 := ⟨by show absI 0 < FL; unfold absI FL; decide, by show ((1 : Nat) : Int) < FL; unfold FL; decide⟩
theorem ok_one : Ok100 1 := ⟨by show absI 1 < FL; unfold absI FL; decide, by show ((1 : Nat) : Int) < FL; unfold FL; decide⟩
theorem num_zero {H : Hp} : NumQ H (.int 0) 0 := .inl ⟨rfl, rfl⟩
theorem num_one {H : Hp} : NumQ H (.int 1) 1 := .inl ⟨rfl, rfl⟩
theorem sum3 (a b c : Rat) : [a, b, c].sum = a + b + c := by
  rw [List.sum_cons, List.sum_cons, List.sum_cons, List.sum_nil, Rat.add_zero, Rat.add_assoc]
theorem sum3' (a b c : Rat) : [c, a, b].sum = a + b + c := by
  rw [sum3, Rat.add_assoc, Rat.add_comm]
theorem sum1 (a : Rat) : [a].sum = a := by rw [List.sum_cons, List.sum_nil, Rat.add_zero]
theorem sum0 : ([] : List Rat).sum = 0 := rfl
section
variable {P : Program} {w : World} {K : PySem.W.Frag} {mg : Str → Option Value} {base : Heap}
def spLaw (K : PySem.W.Frag) : Sp := fun vs H Q _ => ∃ (a : Addr) (ns : List Int), vs = [.ref a] ∧ SqL K H a (ns.map V.int) ∧ ns.length ≤ 63 ∧ ∀ H', Q (.bl true) H'
theorem ok_law (T : Tx K mg) : FnG P w K mg base CX0 8 (He.ga K "law") (spLaw K) := by
  refine mk_law T.d (fun vs H Q E h => ?_) (fun cdv A outer s H vs Q E hg hr h => ?_)
  · obtain ⟨a, ns, rfl, _⟩ := h
    rfl
  · obtain ⟨a, ns, rfl, hs, hl, q⟩ := h
    have nd := sc_law.nd
    have zr := T.z "repr" (by decide +kernel)
    have br : bootBuiltins "repr" = some (.builtin "repr") := by decide +kernel
    have zg := T.z "range" (by decide +kernel)
    have gA := T.g "_law_any_number" (by decide +kernel)
    have gP := T.g "_law_plus" (by decide +kernel)
    have gT := T.g "_law_times" (by decide +kernel)
    have gO := T.g "_law_over" (by decide +kernel)
    have gN := T.g "_law_negative" (by decide +kernel)
    refine ⟨_, pss_cons (ps_set (i := 1) nd rfl (Or.inl rfl) (pe_callG (ok_pen T) (hr.mono (by decide)) hg (by rfl) (T.g "_law_pen" (by decide +kernel)) (kp__law_pen T.d) pass0 (pa_cons (pv 0) pa_nil)))
      (pss_cons (ps_set (i := 2) nd rfl (Or.inl rfl) (pe_makeG0 T.mkM (ok_fracinit T) (hr.mono (by decide)) hg (by rfl) (T.g "Fractions" (by decide +kernel)) pass0))
      (pss_cons (ps_if (pt_not (pt_val (pe_callB call_isi (by rfl) (T.z "isinstance" (by decide +kernel)) (by decide +kernel) (pa_cons (pv 2) (pa_cons (pe_glob (v := .ref (He.ga K "Field")) (by rfl) (T.g "Field" (by decide +kernel)) rfl) pa_nil))))) pss_never pss_nil)
      (pss_cons (ps_for PassesOwn.never rfl (pi_range1 (by rfl) zg (pa_cons pe_int pa_nil)) (pg_name (i := 3) nd rfl (.inl rfl))
        (pss_cons (ps_par (i := 4) (j := 5) rfl nd rfl rfl (by decide) rfl rfl
          (pa_cons (pe_callG (ok_any T) (hr.mono (by decide)) hg (by rfl) gA (kp__law_any_number T.d) pass0 (pa_cons (pv 1) (pa_cons pe_int (pa_cons pe_bl pa_nil))))
          (pa_cons (pe_callG (ok_any T) (hr.mono (by decide)) hg (by rfl) gA (kp__law_any_number T.d) pass0 (pa_cons (pv 1) (pa_cons pe_int (pa_cons pe_bl pa_nil)))) pa_nil)) (by rfl))
        (pss_cons (ps_set (i := 6) nd rfl (Or.inl rfl) (pe_callG (ok_pick T) (hr.mono (by decide)) hg (by rfl) (T.g "_law_pick" (by decide +kernel)) (kp__law_pick T.d) pass0 (pa_cons (pv 1) (pa_cons (pe_lst
          (pa_cons (pv 5) (pa_cons (pv 5) (pa_cons (pv 5) (pa_cons (pv 4) (pa_cons (pe_callG (ok_neg T) (hr.mono (by decide)) hg (by rfl) gN (kp__law_negative T.d) pass0 (pa_cons pe_int (pa_cons (pv 4) pa_nil))) (pa_cons pe_int (pa_cons pe_int pa_nil)))))))) pa_nil))))
        (pss_cons (ps_set (i := 7) nd rfl (Or.inl rfl) (pe_callG (ok_lplus T) (hr.mono (by decide)) hg (by rfl) gP (kp__law_plus T.d) pass0 (pa_cons pe_int (pa_cons (pv 4) (pa_cons
          (pe_callG (ok_neg T) (hr.mono (by decide)) hg (by rfl) gN (kp__law_negative T.d) pass0 (pa_cons pe_int (pa_cons (pv 6) pa_nil))) pa_nil)))))
        (pss_cons (ps_set (i := 8) nd rfl (Or.inl rfl) (pe_lst (pa_cons (pe_callG (ok_lplus T) (hr.mono (by decide)) hg (by rfl) gP (kp__law_plus T.d) pass0 (pa_cons pe_int (pa_cons (pv 4) (pa_cons (pv 6) pa_nil))))
          (pa_cons (pv 7) (pa_cons (pe_callG (ok_ltimes T) (hr.mono (by decide)) hg (by rfl) gT (kp__law_times T.d) pass0 (pa_cons pe_int (pa_cons (pv 4) (pa_cons (pv 6) pa_nil)))) pa_nil)))))
        (pss_cons (ps_if (pt_cmpR op_ne (pe_callB (call_repr hg hr.units) (by rfl) zr br (pa_cons (pe_lst
            (pa_cons (pe_methG (pv 2) (kp_Field_plus T.d) (ok_plus T) (hr.mono (by decide)) hg pass0 (pa_cons (pv 4) (pa_cons (pv 6) pa_nil)))
            (pa_cons (pe_methG (pv 2) (kp_Field_minus T.d) (ok_minus T) (hr.mono (by decide)) hg pass0 (pa_cons (pv 4) (pa_cons (pv 6) pa_nil)))
            (pa_cons (pe_methG (pv 2) (kp_Field_times T.d) (ok_times T) (hr.mono (by decide)) hg pass0 (pa_cons (pv 4) (pa_cons (pv 6) pa_nil))) pa_nil)))) pa_nil))
          (pe_callB (call_repr hg hr.units) (by rfl) zr br (pa_cons (pv 8) pa_nil)) (nomark _)) pss_never pss_nil)
        (pss_cons (ps_set (i := 8) nd rfl (Or.inl rfl) (pe_ifExp (pt_cmpR (op_eqD hr.units) (pv 6) pe_int (nomark _)) pe_str
          (pe_callG (ok_lover T) (hr.mono (by decide)) hg (by rfl) gO (kp__law_over T.d) pass0 (pa_cons pe_int (pa_cons (pv 4) (pa_cons (pv 6) pa_nil))))))
        (pss_cons (ps_if (pt_cmpR op_ne (pe_callB (call_repr hg hr.units) (by rfl) zr br (pa_cons (pe_callG (ok_quot T) hr hg (by rfl) (T.g "_law_quotient" (by decide +kernel)) (kp__law_quotient T.d) pass0 (pa_cons (pv 2) (pa_cons (pv 4) (pa_cons (pv 6) pa_nil)))) pa_nil))
          (pe_callB (call_repr hg hr.units) (by rfl) zr br (pa_cons (pv 8) pa_nil)) (nomark _)) pss_never pss_nil)
        (pss_cons (ps_set (i := 9) nd rfl (Or.inl rfl) (pe_callG (ok_any T) (hr.mono (by decide)) hg (by rfl) gA (kp__law_any_number T.d) pass0 (pa_cons (pv 1) (pa_cons pe_int (pa_cons pe_bl pa_nil)))))
        (pss_cons (ps_set (i := 8) nd rfl (Or.inl rfl) (pe_callG (ok_lplus T) (hr.mono (by decide)) hg (by rfl) gP (kp__law_plus T.d) pass0 (pa_cons pe_int (pa_cons
          (pe_callG (ok_lplus T) (hr.mono (by decide)) hg (by rfl) gP (kp__law_plus T.d) pass0 (pa_cons pe_int (pa_cons (pv 4) (pa_cons (pv 6) pa_nil)))) (pa_cons (pv 9) pa_nil)))))
        (pss_cons (ps_if (pt_cmpR op_ne (pe_callB (call_repr hg hr.units) (by rfl) zr br (pa_cons (pe_lst
            (pa_cons (pe_methG (pv 2) (kp_Field_total T.d) (ok_total T) (hr.mono (by decide)) hg pass0 (pa_cons (pv 4) (pa_cons (pv 6) (pa_cons (pv 9) pa_nil))))
            (pa_cons (pe_methG (pv 2) (kp_Field_total T.d) (ok_total T) (hr.mono (by decide)) hg pass0 (pa_cons (pv 9) (pa_cons (pv 4) (pa_cons (pv 6) pa_nil)))) pa_nil))) pa_nil))
          (pe_callB (call_repr hg hr.units) (by rfl) zr br (pa_cons (pe_lst (pa_cons (pv 8) (pa_cons (pv 8) pa_nil))) pa_nil)) (nomark _)) pss_never pss_nil)
        (pss_one (ps_if (pt_cmpR op_ne (pe_callB (call_repr hg hr.units) (by rfl) zr br (pa_cons (pe_lst
            (pa_cons (pe_methG0 (pv 2) (kp_Field_total T.d) (ok_total T) (hr.mono (by decide)) hg pass0)
            (pa_cons (pe_methG (pv 2) (kp_Field_total T.d) (ok_total T) (hr.mono (by decide)) hg pass0 (pa_cons (pv 4) pa_nil)) pa_nil))) pa_nil))
          (pe_callB (call_repr hg hr.units) (by rfl) zr br (pa_cons (pe_lst (pa_cons pe_int (pa_cons (pv 4) pa_nil))) pa_nil)) (nomark _)) pss_never pss_nil)))))))))))))
      (pss_one (ps_ret pe_bl))))), ?_⟩
    refine ⟨_, rfl, a, ns, rfl, hs, hl, fun d H1 s1 hd pen1 => ?_⟩
    refine fun f dx nf nx ne => ⟨f, dx, rfl, upd_same, rfl, ?_⟩
    have s2 := made_same (o1 := .own f) (o2 := .ins (He.ga K "Fractions") dx []) (o3 := .ins (He.ga K "Fractions") dx [(("_prime" : Str), V.non)]) nf nx
    have F2 : FieldF K (upd (upd (upd H1 dx (.own f)) f (.ins (He.ga K "Fractions") dx [])) f (.ins (He.ga K "Fractions") dx [(("_prime" : Str), V.non)])) f := ⟨_, dx, T.fc, upd_same⟩
    refine ⟨_, rfl, _, _, _, _, true, rfl, .own _, .base (.ins upd_same T.fc.cl T.clM T.clS T.clT T.clO), T.isF, _, rfl, ifF rfl ?_⟩
    refine ⟨_, rfl, by decide, by decide, ?_⟩
    refine for_range (lo := 0) (fun i σ H' => ∃ v3 v4 v5 v6 v7 v8 v9 : Option V, FieldF K H' f ∧ PenAt H' d (200 * (i : Int)) ∧ σ = [some (.ref a), some (.ref d), some (.ref f), v3, v4, v5, v6, v7, v8, v9]) ⟨_, _, _, _, _, _, _, F2, (pen1.same s2).mono (by omega), rfl⟩ ?_ ?_
    · rintro i σ H0 hi ⟨v3, v4, v5, v6, v7, v8, v9, F0, pen0, rfl⟩
      have hi16 : i < 16 := hi
      refine ⟨_, rfl, d, _, false, rfl, pen0, by omega, fun x1 r1 H1 n1 o1 bt1 pen1 => ?_⟩
      refine ⟨_, rfl, d, _, false, rfl, pen1, by omega, fun x2 r2 H2 n2 o2 bt2 pen2 => ⟨_, _, rfl, ?_⟩⟩
      replace n1 := n1.but pen1 bt2
      have F2 := (F0.but pen0 bt1).but pen1 bt2
      have b1 := ok_bq o1
      refine ⟨_, rfl, _, rfl, _, rfl, _, rfl, _, rfl, _, rfl, x1, r1, rfl, n1, b1.mono (by decide), fun z3 H3 s3 n3 => ⟨by show 7 ≤ sizeLine; decide, fun l nl => ?_⟩⟩
      have s3' := s3.trans (same_up (o := .lst [x2, x2, x2, x1, z3, V.int 0, V.int 1]) nl)
      have pen3 := pen2.same s3'
      have n1' := n1.same s3'
      have n2' := n2.same s3'
      have n3' := n3.same (same_up (o := .lst [x2, x2, x2, x1, z3, V.int 0, V.int 1]) nl)
      have F3 := F2.same s3'
      refine ⟨d, l, _, _, rfl, pen3, by omega, upd_same, by show 0 < 7; decide, by show 7 < 1000; decide, fun y H4 hy bt4 pen4 => ?_⟩
      obtain ⟨r, ny, oy⟩ : ∃ r : Rat, NumQ H4 y r ∧ Ok100 r := by
        simp only [List.mem_cons, List.not_mem_nil, or_false] at hy
        rcases hy with rfl | rfl | rfl | rfl | rfl | rfl | rfl
        · exact ⟨r2, n2'.but pen3 bt4, o2⟩
        · exact ⟨r2, n2'.but pen3 bt4, o2⟩
        · exact ⟨r2, n2'.but pen3 bt4, o2⟩
        · exact ⟨r1, n1'.but pen3 bt4, o1⟩
        · exact ⟨-r1, n3'.but pen3 bt4, ok_neg100 o1⟩
        · exact ⟨0, num_zero, ok_zero⟩
        · exact ⟨1, num_one, ok_one⟩
      have by_ := ok_bq oy
      have m1 := n1'.but pen3 bt4
      have F4 := F3.but pen3 bt4
      -- less
      refine ⟨_, rfl, _, rfl, y, r, rfl, ny, by_.mono (by decide), fun z5 H5 s5 n5 => ?_⟩
      refine ⟨x1, z5, r1, -r, rfl, m1.same s5, n5, b1.mono (by decide), (ok_bq (ok_neg100 oy)).mono (by decide), fun z6 H6 s6 n6 => ?_⟩
      have t6 := s5.trans s6
      -- due
      refine ⟨_, rfl, _, rfl, x1, y, r1, r, rfl, m1.same t6, ny.same t6, b1.mono (by decide), by_.mono (by decide), fun z7 H7 s7 n7 => ?_⟩
      have t7 := t6.trans s7
      refine ⟨_, rfl, _, rfl, _, rfl, x1, y, r1, r, rfl, m1.same t7, ny.same t7, b1.mono (by decide), by_.mono (by decide), fun z8 H8 s8 n8 => ⟨by show 3 ≤ sizeLine; decide, fun l2 nl2 => ?_⟩⟩
      have u8 := same_up (o := .lst [z7, z6, z8]) nl2
      have t8 := (t7.trans s8).trans u8
      have hl2 : (upd H8 l2 (.lst [z7, z6, z8])) l2 = some (.lst [z7, z6, z8]) := upd_same
      have N8 : NumsQ (upd H8 l2 (.lst [z7, z6, z8])) [z7, z6, z8] [r1 + r, r1 - r, r1 * r] := .cons (n7.same (s8.trans u8)) (.cons (by rw [Rat.sub_eq_add_neg]; exact n6.same ((s7.trans s8).trans u8)) (.cons (n8.same u8) .nil))
      -- the first compare
      refine go_meth rfl (F4.same t8) (by decide +kernel) (by decide +kernel) ⟨_, rfl, _, rfl, f, x1, y, r1, r, rfl, F4.same t8, m1.same t8, ny.same t8, o1, oy, fun z9 H9 s9 n9 => ?_⟩
      have t9 := t8.trans s9
      refine go_meth rfl (F4.same t9) (by decide +kernel) (by decide +kernel) ⟨_, rfl, _, rfl, f, x1, y, r1, r, rfl, F4.same t9, m1.same t9, ny.same t9, o1, oy, fun z10 H10 s10 n10 => ?_⟩
      have t10 := t9.trans s10
      refine go_meth rfl (F4.same t10) (by decide +kernel) (by decide +kernel) ⟨_, rfl, _, rfl, f, x1, y, r1, r, rfl, F4.same t10, m1.same t10, ny.same t10, o1, oy, fun z11 H11 s11 n11 => ⟨by show 3 ≤ sizeLine; decide, fun l3 nl3 => ?_⟩⟩
      have u11 := same_up (o := .lst [z9, z10, z11]) nl3
      have t11 := (t10.trans s11).trans u11
      have N11 : NumsQ (upd H11 l3 (.lst [z9, z10, z11])) [z9, z10, z11] [r1 + r, r1 - r, r1 * r] := .cons (n9.same ((s10.trans s11).trans u11)) (.cons (n10.same (s11.trans u11)) (.cons (n11.same u11) .nil))
      have B3 : ∀ z ∈ [r1 + r, r1 - r, r1 * r], Bq 1500 z := fun z hz => by
        simp only [List.mem_cons, List.not_mem_nil, or_false] at hz
        rcases hz with rfl | rfl | rfl
        · exact (bq_add b1 by_).mono (by decide)
        · exact (bq_sub b1 by_).mono (by decide)
        · exact (bq_mul b1 by_).mono (by decide)
      have h8 := ((s9.trans s10).trans s11).trans u11
      obtain ⟨p1, p2, p3, p4⟩ := r_reprQ (K := K) (upd_same (H := H11) (a := l3)) N11 B3 (by show 3 ≤ 1000; decide)
      obtain ⟨q1, q2, q3, q4⟩ := r_reprQ (K := K) (h8 _ _ hl2) (N8.same h8) B3 (by show 3 ≤ 1000; decide)
      refine ⟨_, _, rfl, p1, p2, p3, p4, _, rfl, _, _, rfl, q1, q2, q3, q4, rfl, _, rfl, ifF (by rw [decide_eq_true rfl]; rfl) ?_⟩
      -- the quotient
      refine ⟨_, rfl, dq r, .int 0, dp_q (ny.same t11), .int 0, shaped_q r, (by simp [SeqAt.shaped, PyData.canLay0, PyData.depth]), _, rfl, ?_⟩
      rw [eqv_q0]
      by_cases e : r = 0
      · refine ifT (decide_eq_true e) ?_
        refine ⟨_, rfl, _, rfl, _, rfl, f, x1, y, r1, r, rfl, F4.same t11, m1.same t11, ny.same t11, o1, oy, fun _ H12 s12 => ?_, fun z => absurd e z⟩
        refine ⟨_, .str "none", rfl, .str _, by simp [PyData.showable], by decide +kernel, by simp [PyData.depth], _, rfl, _, .str "none", rfl, .str _, by simp [PyData.showable], by decide +kernel, by simp [PyData.depth], rfl, _, rfl, ifF (by rw [decide_eq_true rfl]; rfl) ?_⟩
        have t12 := t11.trans s12
        have pen12 := (pen4.same t12)
        refine ⟨_, rfl, d, _, true, rfl, pen12, by omega, fun x3 r3 H13 n3 o3 bt13 pen13 => ?_⟩
        have m13 := (m1.same t12).but pen12 bt13
        have y13 := (ny.same t12).but pen12 bt13
        have F13 := (F4.same t12).but pen12 bt13
        refine ⟨_, rfl, _, rfl, x1, y, r1, r, rfl, m13, y13, b1.mono (by decide), by_.mono (by decide), fun z14 H14 s14 n14 => ?_⟩
        refine ⟨_, rfl, z14, x3, r1 + r, r3, rfl, n14, n3.same s14, (bq_add b1 by_).mono (by decide), (ok_bq o3).mono (by decide), fun z15 H15 s15 n15 => ?_⟩
        have t15 := s14.trans s15
        have ok3 : ∀ z ∈ [r1, r, r3], Ok100 z := fun z hz => by
          simp only [List.mem_cons, List.not_mem_nil, or_false] at hz
          rcases hz with rfl | rfl | rfl
          · exact o1
          · exact oy
          · exact o3
        have ok3' : ∀ z ∈ [r3, r1, r], Ok100 z := fun z hz => by
          simp only [List.mem_cons, List.not_mem_nil, or_false] at hz
          rcases hz with rfl | rfl | rfl
          · exact o3
          · exact o1
          · exact oy
        refine go_meth rfl (F13.same t15) (by decide +kernel) (by decide +kernel) ⟨_, rfl, _, rfl, _, rfl, f, [x1, y, x3], [r1, r, r3], rfl, F13.same t15, .cons (m13.same t15) (.cons (y13.same t15) (.cons (n3.same t15) .nil)), (by show 3 ≤ 10; decide), ok3, fun z16 H16 s16 n16 => ?_⟩
        rw [sum3] at n16
        have t16 := t15.trans s16
        refine go_meth rfl (F13.same t16) (by decide +kernel) (by decide +kernel) ⟨_, rfl, _, rfl, _, rfl, f, [x3, x1, y], [r3, r1, r], rfl, F13.same t16, .cons (n3.same t16) (.cons (m13.same t16) (.cons (y13.same t16) .nil)), (by show 3 ≤ 10; decide), ok3', fun z17 H17 s17 n17 => ⟨by show 2 ≤ sizeLine; decide, fun l4 nl4 => ?_⟩⟩
        rw [sum3'] at n17
        have u17 := same_up (o := .lst [z16, z17]) nl4
        have N17 : NumsQ (upd H17 l4 (.lst [z16, z17])) [z16, z17] [r1 + r + r3, r1 + r + r3] := .cons (n16.same (s17.trans u17)) (.cons (n17.same u17) .nil)
        have Bs : Bq 1500 (r1 + r + r3) := (bq_add (n := 700) ((bq_add b1 by_).mono (by decide)) ((ok_bq o3).mono (by decide))).mono (by decide)
        have B2 : ∀ z ∈ [r1 + r + r3, r1 + r + r3], Bq 1500 z := fun z hz => by
          simp only [List.mem_cons, List.not_mem_nil, or_false] at hz
          rcases hz with rfl | rfl <;> exact Bs
        obtain ⟨p1, p2, p3, p4⟩ := r_reprQ (K := K) (upd_same (H := H17) (a := l4)) N17 B2 (by show 2 ≤ 1000; decide)
        refine ⟨_, _, rfl, p1, p2, p3, p4, _, rfl, _, rfl, by show 2 ≤ sizeLine; decide, fun l5 nl5 => ?_⟩
        have u18 := same_up (o := .lst [z15, z15]) nl5
        have w18 := ((s16.trans s17).trans u17).trans u18
        have N18 : NumsQ (upd (upd H17 l4 (.lst [z16, z17])) l5 (.lst [z15, z15])) [z15, z15] [r1 + r + r3, r1 + r + r3] := .cons (n15.same w18) (.cons (n15.same w18) .nil)
        obtain ⟨q1, q2, q3, q4⟩ := r_reprQ (K := K) upd_same N18 B2 (by show 2 ≤ 1000; decide)
        refine ⟨_, _, rfl, q1, q2, q3, q4, rfl, _, rfl, ifF (by rw [decide_eq_true rfl]; rfl) ?_⟩
        have t18 := t15.trans w18
        refine go_meth rfl (F13.same t18) (by decide +kernel) (by decide +kernel) ⟨f, [], [], rfl, F13.same t18, .nil, by decide, (fun n hn => by cases hn), fun z19 H19 s19 n19 => ?_⟩
        rw [sum0] at n19
        have t19 := t18.trans s19
        refine go_meth rfl (F13.same t19) (by decide +kernel) (by decide +kernel) ⟨_, rfl, f, [x1], [r1], rfl, F13.same t19, .cons (m13.same t19) .nil, (by show 1 ≤ 10; decide), (fun n hn => by rw [List.mem_singleton.mp hn]; exact o1), fun z20 H20 s20 n20 => ⟨by show 2 ≤ sizeLine; decide, fun l6 nl6 => ?_⟩⟩
        rw [sum1] at n20
        have u20 := same_up (o := .lst [z19, z20]) nl6
        have N20 : NumsQ (upd H20 l6 (.lst [z19, z20])) [z19, z20] [0, r1] := .cons (n19.same (s20.trans u20)) (.cons (n20.same u20) .nil)
        have B0 : ∀ z ∈ [(0 : Rat), r1], Bq 1500 z := fun z hz => by
          simp only [List.mem_cons, List.not_mem_nil, or_false] at hz
          rcases hz with rfl | rfl
          · exact (ok_bq ok_zero).mono (by decide)
          · exact b1.mono (by decide)
        obtain ⟨p1, p2, p3, p4⟩ := r_reprQ (K := K) (upd_same (H := H20) (a := l6)) N20 B0 (by show 2 ≤ 1000; decide)
        refine ⟨_, _, rfl, p1, p2, p3, p4, _, rfl, by show 2 ≤ sizeLine; decide, fun l7 nl7 => ?_⟩
        have u21 := same_up (o := .lst [V.int 0, x1]) nl7
        have w21 := ((t19.trans s20).trans u20).trans u21
        have N21 : NumsQ (upd (upd H20 l6 (.lst [z19, z20])) l7 (.lst [V.int 0, x1])) [V.int 0, x1] [0, r1] := .cons num_zero (.cons (m13.same w21) .nil)
        obtain ⟨q1, q2, q3, q4⟩ := r_reprQ (K := K) upd_same N21 B0 (by show 2 ≤ 1000; decide)
        refine ⟨_, _, rfl, q1, q2, q3, q4, rfl, _, rfl, ifF (by rw [decide_eq_true rfl]; rfl) ?_⟩
        exact ⟨_, _, _, _, _, _, _, F13.same w21, (pen13.same w21).mono (by omega), rfl⟩
      · refine ifF (decide_eq_false e) ?_
        refine ⟨_, rfl, _, rfl, x1, y, r1, r, rfl, m1.same t11, ny.same t11, b1.mono (by decide), by_.mono (by decide), e, fun za Ha sa na => ?_⟩
        have ta := t11.trans sa
        refine ⟨_, rfl, _, rfl, _, rfl, f, x1, y, r1, r, rfl, F4.same ta, m1.same ta, ny.same ta, o1, oy, fun z => absurd z e, fun _ zb H12 s12 nb => ?_⟩
        have Bo : Bq 1500 (Rat.divInt (r1.num * r.den) (r1.den * r.num)) := (bq_over b1 by_ e).mono (by decide)
        obtain ⟨p1, p2, p3, p4⟩ := r_repr1 (K := K) nb Bo
        obtain ⟨q1, q2, q3, q4⟩ := r_repr1 (K := K) (na.same s12) Bo
        refine ⟨_, _, rfl, p1, p2, p3, p4, _, rfl, _, _, rfl, q1, q2, q3, q4, rfl, _, rfl, ifF (by rw [decide_eq_true rfl]; rfl) ?_⟩
        have t12 := ta.trans s12
        have pen12 := (pen4.same t12)
        refine ⟨_, rfl, d, _, true, rfl, pen12, by omega, fun x3 r3 H13 n3 o3 bt13 pen13 => ?_⟩
        have m13 := (m1.same t12).but pen12 bt13
        have y13 := (ny.same t12).but pen12 bt13
        have F13 := (F4.same t12).but pen12 bt13
        refine ⟨_, rfl, _, rfl, x1, y, r1, r, rfl, m13, y13, b1.mono (by decide), by_.mono (by decide), fun z14 H14 s14 n14 => ?_⟩
        refine ⟨_, rfl, z14, x3, r1 + r, r3, rfl, n14, n3.same s14, (bq_add b1 by_).mono (by decide), (ok_bq o3).mono (by decide), fun z15 H15 s15 n15 => ?_⟩
        have t15 := s14.trans s15
        have ok3 : ∀ z ∈ [r1, r, r3], Ok100 z := fun z hz => by
          simp only [List.mem_cons, List.not_mem_nil, or_false] at hz
          rcases hz with rfl | rfl | rfl
          · exact o1
          · exact oy
          · exact o3
        have ok3' : ∀ z ∈ [r3, r1, r], Ok100 z := fun z hz => by
          simp only [List.mem_cons, List.not_mem_nil, or_false] at hz
          rcases hz with rfl | rfl | rfl
          · exact o3
          · exact o1
          · exact oy
        refine go_meth rfl (F13.same t15) (by decide +kernel) (by decide +kernel) ⟨_, rfl, _, rfl, _, rfl, f, [x1, y, x3], [r1, r, r3], rfl, F13.same t15, .cons (m13.same t15) (.cons (y13.same t15) (.cons (n3.same t15) .nil)), (by show 3 ≤ 10; decide), ok3, fun z16 H16 s16 n16 => ?_⟩
        rw [sum3] at n16
        have t16 := t15.trans s16
        refine go_meth rfl (F13.same t16) (by decide +kernel) (by decide +kernel) ⟨_, rfl, _, rfl, _, rfl, f, [x3, x1, y], [r3, r1, r], rfl, F13.same t16, .cons (n3.same t16) (.cons (m13.same t16) (.cons (y13.same t16) .nil)), (by show 3 ≤ 10; decide), ok3', fun z17 H17 s17 n17 => ⟨by show 2 ≤ sizeLine; decide, fun l4 nl4 => ?_⟩⟩
        rw [sum3'] at n17
        have u17 := same_up (o := .lst [z16, z17]) nl4
        have N17 : NumsQ (upd H17 l4 (.lst [z16, z17])) [z16, z17] [r1 + r + r3, r1 + r + r3] := .cons (n16.same (s17.trans u17)) (.cons (n17.same u17) .nil)
        have Bs : Bq 1500 (r1 + r + r3) := (bq_add (n := 700) ((bq_add b1 by_).mono (by decide)) ((ok_bq o3).mono (by decide))).mono (by decide)
        have B2 : ∀ z ∈ [r1 + r + r3, r1 + r + r3], Bq 1500 z := fun z hz => by
          simp only [List.mem_cons, List.not_mem_nil, or_false] at hz
          rcases hz with rfl | rfl <;> exact Bs
        obtain ⟨p1, p2, p3, p4⟩ := r_reprQ (K := K) (upd_same (H := H17) (a := l4)) N17 B2 (by show 2 ≤ 1000; decide)
        refine ⟨_, _, rfl, p1, p2, p3, p4, _, rfl, _, rfl, by show 2 ≤ sizeLine; decide, fun l5 nl5 => ?_⟩
        have u18 := same_up (o := .lst [z15, z15]) nl5
        have w18 := ((s16.trans s17).trans u17).trans u18
        have N18 : NumsQ (upd (upd H17 l4 (.lst [z16, z17])) l5 (.lst [z15, z15])) [z15, z15] [r1 + r + r3, r1 + r + r3] := .cons (n15.same w18) (.cons (n15.same w18) .nil)
        obtain ⟨q1, q2, q3, q4⟩ := r_reprQ (K := K) upd_same N18 B2 (by show 2 ≤ 1000; decide)
        refine ⟨_, _, rfl, q1, q2, q3, q4, rfl, _, rfl, ifF (by rw [decide_eq_true rfl]; rfl) ?_⟩
        have t18 := t15.trans w18
        refine go_meth rfl (F13.same t18) (by decide +kernel) (by decide +kernel) ⟨f, [], [], rfl, F13.same t18, .nil, by decide, (fun n hn => by cases hn), fun z19 H19 s19 n19 => ?_⟩
        rw [sum0] at n19
        have t19 := t18.trans s19
        refine go_meth rfl (F13.same t19) (by decide +kernel) (by decide +kernel) ⟨_, rfl, f, [x1], [r1], rfl, F13.same t19, .cons (m13.same t19) .nil, (by show 1 ≤ 10; decide), (fun n hn => by rw [List.mem_singleton.mp hn]; exact o1), fun z20 H20 s20 n20 => ⟨by show 2 ≤ sizeLine; decide, fun l6 nl6 => ?_⟩⟩
        rw [sum1] at n20
        have u20 := same_up (o := .lst [z19, z20]) nl6
        have N20 : NumsQ (upd H20 l6 (.lst [z19, z20])) [z19, z20] [0, r1] := .cons (n19.same (s20.trans u20)) (.cons (n20.same u20) .nil)
        have B0 : ∀ z ∈ [(0 : Rat), r1], Bq 1500 z := fun z hz => by
          simp only [List.mem_cons, List.not_mem_nil, or_false] at hz
          rcases hz with rfl | rfl
          · exact (ok_bq ok_zero).mono (by decide)
          · exact b1.mono (by decide)
        obtain ⟨p1, p2, p3, p4⟩ := r_reprQ (K := K) (upd_same (H := H20) (a := l6)) N20 B0 (by show 2 ≤ 1000; decide)
        refine ⟨_, _, rfl, p1, p2, p3, p4, _, rfl, by show 2 ≤ sizeLine; decide, fun l7 nl7 => ?_⟩
        have u21 := same_up (o := .lst [V.int 0, x1]) nl7
        have w21 := ((t19.trans s20).trans u20).trans u21
        have N21 : NumsQ (upd (upd H20 l6 (.lst [z19, z20])) l7 (.lst [V.int 0, x1])) [V.int 0, x1] [0, r1] := .cons num_zero (.cons (m13.same w21) .nil)
        obtain ⟨q1, q2, q3, q4⟩ := r_reprQ (K := K) upd_same N21 B0 (by show 2 ≤ 1000; decide)
        refine ⟨_, _, rfl, q1, q2, q3, q4, rfl, _, rfl, ifF (by rw [decide_eq_true rfl]; rfl) ?_⟩
        exact ⟨_, _, _, _, _, _, _, F13.same w21, (pen13.same w21).mono (by omega), rfl⟩
    · rintro σ H' ⟨v3, v4, v5, v6, v7, v8, v9, F0, pen0, rfl⟩
      exact q H'
end
end K03

namespace K03
open PySem PySem.Spec PyProof.Rows L2 Ver Num
/-! ### the head: what it tells -/
abbrev R : PySem.W.OpenRow := PySem.W.OpenLaw.row PySem.Challenge.rw_firstanswers_k03_sums_of_fractions
def ads (g : Addr → Option Obj) : List Addr := (PySem.cStatics :: He.asD g 5).eraseDups
def KF (g : Addr → Option Obj) : PySem.W.Frag := He.frG g (ads g)
def fms : List Str := ["is_number", "plus", "minus", "times", "over", "total", "holds", "ratio", "product_of", "sum_of", "difference_of", "quotient_of", "common", "_check"]
def fcls (K : PySem.W.Frag) (C a : Addr) (m : Str) : Bool := match PySem.W.findCls K (.ref C) (.type "type") m with
  | some (.val (.ref b)) => decide (b = a)
  | _ => false
theorem fcls_ok {K : PySem.W.Frag} {C a : Addr} {m : Str} (h : fcls K C a m = true) : PySem.W.findCls K (.ref C) (.type "type") m = some (.val (.ref a)) := by
  unfold fcls at h
  split at h
  · rename_i b e
    rw [e, of_decide_eq_true h]
  · cases h
def x1 (K : PySem.W.Frag) : List Bool := [(He.Fa.int "FIRST_LONG" FL).ok K, He.eqO (PySem.W.nsIn K mainGlobals "gcd") (some (some (.builtin "math.gcd"))), He.eqO (PySem.W.nsIn K mainGlobals "lcm") (some (some (.builtin "math.lcm"))),
  (He.Fa.cls "Fractions").ok K, (He.Fa.noat "Fractions" "_prime").ok K,
  fms.all fun m => He.eqO (PySem.W.findIn K (.ref (He.ga K "Fractions")) m) (some (some (.ref (He.ma K (He.ga K "Field") m)))) && (PySem.W.isFn K (.ref (He.ma K (He.ga K "Field") m)) && PySem.W.keepIn K (.ref (He.ma K (He.ga K "Field") m)))]
def x2 (K : PySem.W.Frag) : List Bool := [PySem.W.excInitIn K (He.ga K "NoQuotient") aeB "ArithmeticError.__new__", (He.Fa.meth "NoQuotient" "__init__").ok K, decide (PySem.W.typeIn K (.ref (He.ma K (He.ga K "NoQuotient") "__init__")) = some (.type "function")),
  decide (PySem.W.subIn K (.ref (He.ga K "NoQuotient")) (.type "BaseException") = some true), decide (PySem.W.typeIn K (.ref (He.ga K "NoQuotient")) = some (.type "type")), PySem.W.keepIn K (.ref (He.ga K "NoQuotient")), (He.Fa.exm "NoQuotient" "NoQuotient" true).ok K,
  He.eqO (PySem.W.findIn K (.ref (He.ga K "NoQuotient")) "__getattribute__") (some (some (.builtin "BaseException.__getattribute__"))), He.eqO (PySem.W.findIn K (.ref (He.ga K "NoQuotient")) "__getattr__") (some none), PySem.W.hasDictIn K (He.ga K "NoQuotient"),
  He.eqO (PySem.W.findIn K (.ref (He.ga K "NoQuotient")) "__class__") (some (some (.builtin "object.__class__"))), decide (PySem.W.mroIn K (He.ga K "NoQuotient") (.type "object") = some true), decide (PySem.W.kitOne K (.ref (He.ga K "NoQuotient")) (.type "ArithmeticError") = some true)]
def x3 (K : PySem.W.Frag) : List Bool := [PySem.W.readsIn K (He.ga K "Field") (.type "type"), He.eqO (PySem.W.specialIn K (.ref (He.ga K "Field")) "__getattribute__") (some (some (.builtin "type.__getattribute__"))),
  fcls K (He.ga K "Field") (He.ma K (He.ga K "Field") "__init__") "__init__", (He.Fa.mkr "Fractions").ok K, decide (PySem.W.kitOne K (.ref (He.ga K "Fractions")) (.ref (He.ga K "Field")) = some true),
  He.eqO (PySem.W.findIn K (.ref (He.ga K "Fractions")) "__class__") (some (some (.builtin "object.__class__"))), He.eqO (PySem.W.specialIn K (.builtin "object.__class__") "__get__") (some (some (.builtin "getset_descriptor.__get__"))),
  decide (PySem.W.takesIn K (.builtin "object.__class__") = some true), decide (PySem.W.mroIn K (He.ga K "Fractions") (.type "object") = some true)]
def ex (K : PySem.W.Frag) : Bool := (x1 K).all id && ((x2 K).all id && (x3 K).all id)
def hook : PySem.W.Hook where
  α := He.AlD × Bool
  obs := fun s => (He.obsD fa fn (KF s.heap.get?), ex (KF s.heap.get?))
  val := fun _ => (He.valD fn, true)
  says := fun _ h => ∃ K : PySem.W.Frag, K.In h ∧ He.SaysD fa fn K ∧ ex K = true
  of := fun _ _ e => ⟨_, He.frG_in, congrArg (fun z : He.AlD × Bool => z.1) e, congrArg (fun z : He.AlD × Bool => z.2) e⟩
  keeps := fun _ _ _ ⟨K, hK, c⟩ k => ⟨K, PySem.W.Frag.In.keeps hK k, c⟩
def ob (s : PySem.W.SharedT) : He.AlD × Bool := (He.obsD fa fn (KF (HandSHeadRun.getT s)), ex (KF (HandSHeadRun.getT s)))
theorem ob_eq (s : PySem.W.SharedT) : ob s = hook.obs s.abs := by
  have e : HandSHeadRun.getT s = s.abs.heap.get? := funext (HandSHeadRun.getT_eq s)
  unfold ob
  rw [e]
  rfl
def lo : List Str := (["_wall", "is_integer", "is_between", "InvalidNumber", "InvalidText", "NoQuotient", "TooLong", "DECIMAL_DIGITS", "FIRST_LONG", "Field", "Fractions", "is_fraction", "is_longer", "parts", "shortened", "inverse", "integer_of", "signed_integer_of", "number_of"] : List Str) ++
  (["_law_pen", "_law_draw", "_law_pick", "_law_inverse", "_law_number", "_law_far", "_law_tens", "_law_signed", "_law_gcd", "_law_told", "_law_two", "_law_any_number", "_law_plus", "_law_times", "_law_over", "_law_negative", "_law_quotient"] : List Str)
abbrev qv : Program := PySem.W.view R.prog [0, 41]
end K03

namespace K03
open PySem PySem.Spec PyProof.Rows L2 Ver Num
theorem run (w : World) : HandSHeadRun.RunEqI R qv hook ob 8000 lo w := by
  unfold HandSHeadRun.RunEqI
  kernel_rfl
end K03

namespace K03
open PySem PySem.Spec PyProof.Rows L2 Ver Num
theorem all_cons_ok {b : Bool} {l : List Bool} (h : (b :: l).all id = true) : b = true ∧ l.all id = true := He.ba h
theorem tx_of {K : PySem.W.Frag} {h : Heap} {mg : Str → Option Value} (X : K.In h) (G : h.Ns mainGlobals mg) (c : He.SaysD fa fn K) (e : ex K = true) : Tx K mg := by
  obtain ⟨e1, e⟩ := He.ba e
  obtain ⟨e2, e3⟩ := He.ba e
  obtain ⟨a1, e1⟩ := all_cons_ok e1
  obtain ⟨a2, e1⟩ := all_cons_ok e1
  obtain ⟨a3, e1⟩ := all_cons_ok e1
  obtain ⟨a4, e1⟩ := all_cons_ok e1
  obtain ⟨a5, e1⟩ := all_cons_ok e1
  obtain ⟨a6, e1⟩ := all_cons_ok e1
  obtain ⟨b1, e2⟩ := all_cons_ok e2
  obtain ⟨b2, e2⟩ := all_cons_ok e2
  obtain ⟨b3, e2⟩ := all_cons_ok e2
  obtain ⟨b4, e2⟩ := all_cons_ok e2
  obtain ⟨b5, e2⟩ := all_cons_ok e2
  obtain ⟨b6, e2⟩ := all_cons_ok e2
  obtain ⟨b7, e2⟩ := all_cons_ok e2
  obtain ⟨b8, e2⟩ := all_cons_ok e2
  obtain ⟨b9, e2⟩ := all_cons_ok e2
  obtain ⟨b10, e2⟩ := all_cons_ok e2
  obtain ⟨b11, e2⟩ := all_cons_ok e2
  obtain ⟨b12, e2⟩ := all_cons_ok e2
  obtain ⟨b13, e2⟩ := all_cons_ok e2
  obtain ⟨c1, e3⟩ := all_cons_ok e3
  obtain ⟨c2, e3⟩ := all_cons_ok e3
  obtain ⟨c3, e3⟩ := all_cons_ok e3
  obtain ⟨c4, e3⟩ := all_cons_ok e3
  obtain ⟨c5, e3⟩ := all_cons_ok e3
  obtain ⟨c6, e3⟩ := all_cons_ok e3
  obtain ⟨c7, e3⟩ := all_cons_ok e3
  obtain ⟨c8, e3⟩ := all_cons_ok e3
  obtain ⟨c9, e3⟩ := all_cons_ok e3
  exact
    { d := c
      g := fun x hx => He.glo_ok X G (He.SaysD.facts c (List.mem_append_left _ (List.mem_map_of_mem hx)))
      z := fun x hx => He.free_ok X G (He.SaysD.facts c (List.mem_append_right _ (List.mem_map_of_mem hx)))
      fl := He.int_ok X G a1
      gcd := PySem.W.mg_of X G (He.eqO_ok a2)
      lcm := PySem.W.mg_of X G (He.eqO_ok a3)
      exc := ⟨He.eqO_ok b8, He.eqO_ok b9, of_decide_eq_true b4, b10, He.eqO_ok b11, He.eqO_ok c7, of_decide_eq_true c8, of_decide_eq_true b12⟩
      isA := of_decide_eq_true b13
      fc := ⟨He.cls_ok a4, He.noat_ok a5, fun m hm => by
        obtain ⟨h1, h2⟩ := He.ba (List.all_eq_true.mp a6 m hm)
        obtain ⟨h2, h3⟩ := He.ba h2
        exact ⟨He.eqO_ok h1, h2, h3⟩⟩
      nq := ⟨b1, He.eqO_ok (He.ba b2).1, of_decide_eq_true b3, of_decide_eq_true b4, of_decide_eq_true b5, b6⟩
      te := He.exm_ok b7
      rdF := c1
      gaF := He.eqO_ok c2
      fiF := fcls_ok c3
      mkM := He.mkr_ok c4
      isF := of_decide_eq_true c5
      clM := He.eqO_ok c6
      clS := He.eqO_ok c7
      clT := of_decide_eq_true c8
      clO := of_decide_eq_true c9 }
end K03
open PySem PySem.W PySem.Calls PyProof.Rows
theorem PySem.Challenge.cw_firstanswers_k03_sums_of_fractions_holds : PySem.Challenge.rw_firstanswers_k03_sums_of_fractions.Holds := by
  w_on; o_law
  refine HandSHeadRun.head_imp (r := K03.R) (q := K03.qv) (H := K03.hook) (ob := K03.ob) (M := 8000) (loose := K03.lo) (d := HandSHeadRun.topDef K03.R.prog 41) (kwd := []) K03.ob_eq K03.run
    (by kernel_rfl) (by kernel_rfl) (by kernel_rfl) (by rfl) (by first | assumption | decide +kernel) (by decide +kernel) ⟨rfl, rfl, rfl, rfl, rfl, by decide +kernel⟩ ?hw ?hc
  case hw => w_witness2
  case hc =>
    refine Ver.walkG (l := PySem.Challenge.rw_firstanswers_k03_sums_of_fractions) (n := 63) (k := 8) rfl (by decide) (by kernel_rfl) ⟨rfl, by decide, by decide⟩ ?F
    intro w mg fa h Y G hmg0
    obtain ⟨K, KX, c, e⟩ := Y
    have hmg : mg ("law" : PySem.Str) = some (.ref fa) := by
      have q : (HandSHeadRun.topDef K03.R.prog 41).name = ("law" : PySem.Str) := by kernel_rfl
      rw [← q]
      exact hmg0
    have T := K03.tx_of KX G c e
    have ef := hmg.symm.trans (T.g "law" (by decide +kernel))
    cases ef
    exact ⟨K, K03.spLaw K, KX, fun H a ns hl _ hS => ⟨a, ns, rfl, hS, hl, fun _ => rfl⟩, fun base h1 h2 => K03.ok_law T⟩
