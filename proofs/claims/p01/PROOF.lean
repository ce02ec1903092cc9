import PyProof.Rows.All
import Wide.All
import OpenK.AllK
import Wide.FinOn
import PySem.Challenge.RW_firstanswers_k01_fields
import HandS.Base
import HandS.Call
import HandS.List
import HandS.Ends
import HandS.Dict
import HandS.More
import HandS.Defaults
import HandS.Words
import HandS.Star
import PyProof.ReprRoads
import HandS.HeadHook1
import HandS.HeadHook2
import HandS.Wide
import HandS.Gcd
import HandS.Exc
import HandS.ExcInit
import HandS.WordsExc
import KE.KExcInit
import HandS.TryOnly
import HandS.ExcOwn
import HandS.IsInst
import PyProof.InstEq
import PyProof.StrOps2
import HandS.Deep
import HandS.SlotsOwn
import HandS.ExcIs
import HandS.ExcField
import KE.KExcIs
import HandS.Property
import PyProof.EqKinds
import HandS.ClsMeth
import HandS.FStr
import HandS.StrMore
import HandS.Text
import HandS.Iter
import HandS.WordsList
import Flt.RightSqrt
import PyProof.FitsStr
import PyProof.StrLawsRepr
import HandS.Head0
import HandS.Head1
import HandS.Head2
import HandS.Head3
import HandS.HeadHook4
set_option Elab.async false
set_option linter.all false
set_option maxRecDepth 100000
set_option maxHeartbeats 0
/-! Defs that show data (repr): their promise wants that no show is under way around them. -/
namespace Ver
open PySem PySem.Spec PyProof.Rows L2
/-- a promise for callers around whom nothing is being shown -/
def FnG (P : Program) (w : World) (K : PySem.W.Frag) (mg : Str → Option Value) (base : Heap) (CX : CXT) (k : Nat) (f : Addr) (sp : Sp) : Prop :=
  ∀ (A : Around) (outer : List Env) (s : Shared) (H : Hp) (us : List Value) (vs : List V) (Q : VK) (E : XK), A.guards = some [] → Room k A →
    Env0 P w K mg base A outer s H → Vals vs us → sp vs H Q E → codeAny (model P w) A (.call (.ref f) ⟨us, []⟩) (CR CX outer P w H s Q E) s
section
variable {P : Program} {w : World} {K : PySem.W.Frag} {mg : Str → Option Value} {base : Heap} {CX : CXT} {k : Nat} {f : Addr} {fd : FuncData} {sp : Sp}
variable {x qual : Str} {params : Arguments} {body : List Stmt} {scope : Scope} {N ps : List Str} {kws : List (Str × V)}
theorem FnG.ofR (F : FnR P w K mg base CX k f sp) : FnG P w K mg base CX k f sp := fun A outer s H us vs Q E _ hr e0 r h => F A outer s H us vs Q E hr e0 r h
theorem FnG.mono {j : Nat} (F : FnG P w K mg base CX j f sp) (h : j ≤ k) : FnG P w K mg base CX k f sp := fun A outer s H us vs Q E g hr e0 r q => F A outer s H us vs Q E g (hr.mono h) e0 r q
/-- the rule for such a def, its body as a term -/
theorem okG (F : FunD K x qual params body scope [] kws f fd) (S : FnScope N ps scope)
    (hb : ∀ (s : Shared) (us : List Value), us.length = ps.length → BindsTo s fd ⟨us, []⟩ (ps.zip us)) (len : ∀ vs H Q E, sp vs H Q E → vs.length = ps.length)
    (hbody : ∀ (cdv : Value) (A : Around) (outer : List Env) (s : Shared) (H : Hp) (vs : List V) (Q : VK) (E : XK), A.guards = some [] → Room k (A.deeper (envOfC qual scope s.heap.objs.size f cdv)) → sp vs H Q E →
      ∃ t, PSs (cxOf CX P w K mg base N qual scope f cdv A outer s H E) body t ∧ t { nx := fun _ H' => Q .non H', rt := Q } (start N vs) H) : FnG P w K mg base CX (k + 1) f sp := by
  obtain ⟨⟨oc, od, dV, kV, doc, pm, an, cdv, ct, osl, rfl, lk, hcd, _⟩, _⟩ := F
  intro A outer s H us vs Q E hg hr e0 r hsp
  have hl := len _ _ _ _ hsp
  refine StX.run_bnd (G := fun xs H2 => xs = vs ∧ H2 = H) lk hcd S hr e0 (fun A' Ex Q' q => ?_) fun s2 H2 xs g hr' => ?_
  · exact hb s us (by rw [← r.length]; exact hl) _ A' Ex Q' (q s H vs us e0 Un.refl rfl (fun _ _ z => z) r hl ⟨rfl, rfl⟩)
  · obtain ⟨rfl, rfl⟩ := g
    exact hbody cdv A outer s2 H2 xs Q E hg hr' hsp
end
section
variable {X : Cx} {CX : CXT} {k : Nat} {f : Addr} {sp : Sp} {E : XK} {x : Str} {p pos : Pos} {e : Expr} {es : List Expr} {t : TA}
/-- f(e, ..) -/
theorem pe_callG (F : FnG X.prog X.w X.K X.mg X.base CX k f sp) (hr : Room k X.A) (hgd : X.A.guards = some []) (hg : Gl X x) (hm : X.mg x = some (.ref f)) (hk : PySem.W.keepIn X.K (.ref f) = true) (hx : Passes CX X E)
    (ha : PA X (e :: es) t) (hdb : (x == ("__debug__" : Str)) = false := by decide) (he : starEach (e :: es) X.env = (false, eval e X.env) :: starEach es X.env := by rfl)
    (hpl : (backTo pos (starEach es X.env)).any (·.1) = false := by rfl) : PE X (.Call (.Name x p) (e :: es) [] pos) (fun σ H Q => t σ H fun vs H1 => sp vs H1 Q E) := by
  refine ⟨fun pins s σ H Q I h => wpAny_Call_Name_kw (ld_glob I hg hm (PySem.W.callWith_K (h₀ := X.base) I.ok.mod.kin hk (thn (ha.run pos pins s σ H _ I h) fun us s1 z => ?_) he hpl) hdb)⟩
  obtain ⟨vs, H1, I1, r, q⟩ := z
  refine ⟨I1.kIn, wpAny_call (codeAny_mono (F X.A X.stack s1 H1 us vs Q E hgd hr I1.env0 r q) fun rs s' hq => ?_)⟩
  match rs, hq with
  | .error e', hq => exact hx pins σ H1 s1 e' s' I1 hq
  | .ok (.ret u), hq => exact I1.after hq
  | .ok .next, hq => exact hq.elim
  | .ok .brk, hq => exact hq.elim
  | .ok .cont, hq => exact hq.elim
end
/-- the same rule for a def that lets no exception out -/
theorem ok0 {P : Program} {w : World} {K : PySem.W.Frag} {mg : Str → Option Value} {base : Heap} {k : Nat} {f : Addr} {fd : FuncData} {sp : Sp} {x qual : Str} {params : Arguments} {body : List Stmt} {scope : Scope} {N ps : List Str} {kws : List (Str × V)}
    (F : FunD K x qual params body scope [] kws f fd) (S : FnScope N ps scope)
    (hb : ∀ (s : Shared) (us : List Value), us.length = ps.length → BindsTo s fd ⟨us, []⟩ (ps.zip us)) (len : ∀ vs H Q E, sp vs H Q E → vs.length = ps.length)
    (hbody : ∀ (cdv : Value) (A : Around) (outer : List Env) (s : Shared) (H : Hp) (vs : List V) (Q : VK) (E : XK), A.guards = some [] → Room k (A.deeper (envOfC qual scope s.heap.objs.size f cdv)) → sp vs H Q E →
      ∃ t, PSs (cxOf CX0 P w K mg base N qual scope f cdv A outer s H E).nox body t ∧ t { nx := fun _ H' => Q .non H', rt := Q } (start N vs) H) : FnG P w K mg base CX0 (k + 1) f sp :=
  okG F S hb len fun cdv A outer s H vs Q E hg hr h => by
    obtain ⟨t, ht, q⟩ := hbody cdv A outer s H vs Q E hg hr h
    exact ⟨t, ht.nox, q⟩
section
variable {X : Cx} {CX : CXT} {k : Nat} {f C : Addr} {sp : Sp} {E : XK} {x m : Str} {p pos apos : Pos} {e o : Expr} {es : List Expr} {t : TA} {ta : TE} {pins : List (Addr × Obj)} {σ : L2.St} {H : Hp} {s : Shared} {Q : VK} {us : List Value} {vs : List V}
/-- the callee's run, seen by the caller -/
theorem runG (F : FnG X.prog X.w X.K X.mg X.base CX k f sp) (hr : Room k X.A) (hgd : X.A.guards = some []) (hx : Passes CX X E) (I : Inv X pins σ H s) (r : Vals vs us) (h : sp vs H Q E) :
    wpAny (model X.prog X.w) X.A (call (.ref f) us) (EP X pins σ Q) X.xe s :=
  wpAny_call (codeAny_mono (F X.A X.stack s H us vs Q E hgd hr I.env0 r h) fun rs s' hq => by
    match rs, hq with
    | .error e', hq => exact hx pins σ H s e' s' I hq
    | .ok (.ret u), hq => exact I.after hq
    | .ok .next, hq => exact hq.elim
    | .ok .brk, hq => exact hq.elim
    | .ok .cont, hq => exact hq.elim)
/-- f() -/
theorem pe_callG0 (F : FnG X.prog X.w X.K X.mg X.base CX k f sp) (hr : Room k X.A) (hgd : X.A.guards = some []) (hg : Gl X x) (hm : X.mg x = some (.ref f)) (hk : PySem.W.keepIn X.K (.ref f) = true) (hx : Passes CX X E)
    (hdb : (x == ("__debug__" : Str)) = false := by decide) : PE X (.Call (.Name x p) [] [] pos) (fun _ H Q => sp [] H Q E) :=
  ⟨fun pins s σ H Q I h => wpAny_Call_Name_kw (ld_glob I hg hm (PySem.W.callWith_K0 I.kIn hk (runG (us := []) F hr hgd hx I .nil h)) hdb)⟩
/-- o.m(e, ..) of an instance of the class at C or of any class that has the method at f -/
def tMethG (K : PySem.W.Frag) (m : Str) (f : Addr) (sp : Sp) (E : XK) (ta : TE) (t : TA) : TE := fun σ H Q => ta σ H fun x H1 => ∃ a C dx fs, x = .ref a ∧ H1 a = some (.ins C dx fs) ∧ Cls K C ∧ Meth K C m f ∧ fs.lookup m = none ∧
  t σ H1 fun vs H2 => sp (.ref a :: vs) H2 Q E
theorem pe_methG {pl : Sem Bool} (he : PE X o ta) (hk : PySem.W.keepIn X.K (.ref f) = true) (F : FnG X.prog X.w X.K X.mg X.base CX k f sp) (hr : Room k X.A) (hgd : X.A.guards = some []) (hx : Passes CX X E) (ha : PA X (e :: es) t)
    (hst : starEach (e :: es) X.env = (false, eval e X.env) :: starEach es X.env := by rfl) (hpl : (backTo pos (starEach es X.env)).any (·.1) = false := by rfl)
    (ht : eval (.Call (.Attribute o m apos) (e :: es) [] pos) X.env = (do
      let ov ← eval o X.env
      standAt apos.atName
      let (g, first) ← holding [ov] (getMethod ov m pl)
      callWith pos g first (backTo pos (starEach (e :: es) X.env)) (backToKw pos (keywordEach [] X.env))) := by rfl) :
    PE X (.Call (.Attribute o m apos) (e :: es) [] pos) (tMethG X.K m f sp E ta t) := by
  refine ⟨fun pins s σ H Q I h => PySem.W.methodCall_KW (pl := pl) (thn (he.run pins s σ H _ I h) fun u s1 z => ?_) ht⟩
  obtain ⟨x, H1, I1, rx, a, C, dx, fs, rfl, ea, c, hm, l, q⟩ := z
  cases (show u = Value.ref a from rx)
  refine getmeth_ok I1 ea c hm l (PySem.W.callWith_K (first := [.ref a]) (h₀ := X.base) I.ok.mod.kin hk (thn (ha.run pos pins s1 σ H1 _ I1 q) fun us s2 y => ?_) hst hpl)
  obtain ⟨vs, H2, I2, r, q2⟩ := y
  exact ⟨I2.kIn, runG (us := .ref a :: us) (vs := .ref a :: vs) F hr hgd hx I2 (.cons rfl r) q2⟩
/-- o.m() -/
theorem pe_methG0 {pl : Sem Bool} (he : PE X o ta) (hk : PySem.W.keepIn X.K (.ref f) = true) (F : FnG X.prog X.w X.K X.mg X.base CX k f sp) (hr : Room k X.A) (hgd : X.A.guards = some []) (hx : Passes CX X E)
    (ht : eval (.Call (.Attribute o m apos) [] [] pos) X.env = (do
      let ov ← eval o X.env
      standAt apos.atName
      let (g, first) ← holding [ov] (getMethod ov m pl)
      callWith pos g first (backTo pos (starEach [] X.env)) (backToKw pos (keywordEach [] X.env))) := by rfl) :
    PE X (.Call (.Attribute o m apos) [] [] pos) (tMethG X.K m f sp E ta tNil) := by
  refine ⟨fun pins s σ H Q I h => PySem.W.methodCall_KW (pl := pl) (thn (he.run pins s σ H _ I h) fun u s1 z => ?_) ht⟩
  obtain ⟨x, H1, I1, rx, a, C, dx, fs, rfl, ea, c, hm, l, q⟩ := z
  cases (show u = Value.ref a from rx)
  exact getmeth_ok I1 ea c hm l (PySem.W.callWith_K0 (first := [.ref a]) I1.kIn hk (runG (us := [.ref a]) (vs := [.ref a]) F hr hgd hx I1 (.cons rfl .nil) q))
theorem made_guards {A : Around} (h : A.guards = some []) (C : Addr) (us : List Value) : (A.under (.builtin "type.__call__" ⟨.ref C :: us, []⟩)).guards = some [] := by
  show pushGuards (Code.builtin "type.__call__" ⟨.ref C :: us, []⟩).guards A.guards = some []
  rw [h]
  first
    | rfl
    | decide +kernel
/-- C(e, ..) -/
theorem pe_makeG (M : Mk X.K C f) (F : FnG X.prog X.w X.K X.mg X.base CX k f sp) (hr : Room (k + 1) X.A) (hgd : X.A.guards = some []) (hg : Gl X x) (hm : X.mg x = some (.ref C)) (hx : Passes CX X E) (ha : PA X (e :: es) t)
    (hdb : (x == ("__debug__" : Str)) = false := by decide) (he : starEach (e :: es) X.env = (false, eval e X.env) :: starEach es X.env := by rfl)
    (hpl : (backTo pos (starEach es X.env)).any (·.1) = false := by rfl) : PE X (.Call (.Name x p) (e :: es) [] pos) (StX.tMakeR C sp E t) := by
  refine ⟨fun pins s σ H Q I h => wpAny_Call_Name_kw (ld_glob I hg hm (PySem.W.callWith_K (h₀ := X.base) I.ok.mod.kin M.kp (thn (ha.run pos pins s σ H _ I h) fun us s1 z => ?_) he hpl) hdb)⟩
  obtain ⟨vs, H1, I1, r, q⟩ := z
  refine ⟨I1.kIn, wpAny_call (make_map (f := f) I1.kIn M.makes M.init (beq_iff_eq.mp M.fn) ?_)⟩
  have q2 := q (s1.heap.objs.size + 1) s1.heap.objs.size (I1.hok.fresh (Nat.le_succ _)) (I1.hok.fresh (Nat.le_refl _)) (Nat.ne_of_lt (Nat.lt_succ_self _))
  have I2 := Inv.made (C := C) I1
  refine codeAny_mono (F _ X.stack _ _ (Value.ref (s1.heap.objs.size + 1) :: us) (V.ref (s1.heap.objs.size + 1) :: vs) _ E (made_guards hgd C us) (hr.make C us []) (I2.env0.make C us []) (.cons rfl r) q2) fun rs s' hq => ?_
  match rs, hq with
  | .error e', hq => exact hx pins σ _ _ e' s' I2 hq
  | .ok (.ret u), hq =>
    obtain ⟨v, H', I3, rv, ev, q3⟩ := I2.after hq
    subst ev
    exact ⟨rv, V.ref (s1.heap.objs.size + 1), H', I3, rfl, q3⟩
  | .ok .next, hq => exact hq.elim
  | .ok .brk, hq => exact hq.elim
  | .ok .cont, hq => exact hq.elim
end
/-! ### repr of data -/
section
variable {X : Cx}
/-- repr(x), x data: none, a bool, an int, a text, lists and tuples of such -/
def rRepr (K : PySem.W.Frag) : List V → Hp → VK → Prop := fun xs H Q => ∃ (x : V) (d : PyData), xs = [x] ∧ Dp K H x d ∧ d.showable = true ∧ d.shown.length ≤ sizeLine ∧ d.depth ≤ 60 ∧ Q (.str d.shown) H
mutual
theorem noD {K : PySem.W.Frag} {H : Hp} : ∀ (d : PyData) (v : V), Dp K H v d → d.hasDict = false
  | .none, _, _ => by simp only [PyData.hasDict]
  | .bool _, _, _ => by simp only [PyData.hasDict]
  | .int _, _, _ => by simp only [PyData.hasDict]
  | .str _, _, _ => by simp only [PyData.hasDict]
  | .list ds, _, h => by
    cases h with
    | lst _ ha =>
      simp only [PyData.hasDict]
      exact noDs ds _ ha
  | .tuple ds, _, h => by
    cases h with
    | tup _ ha =>
      simp only [PyData.hasDict]
      exact noDs ds _ ha
  | .dict _, _, h => by cases h
theorem noDs {K : PySem.W.Frag} {H : Hp} : ∀ (ds : List PyData) (vs : List V), DpAll K H vs ds → PyData.hasDictAll ds = false
  | [], _, _ => by simp only [PyData.hasDictAll]
  | d :: ds, _, h => by
    cases h with
    | cons h1 h2 =>
      simp only [PyData.hasDictAll, noD d _ h1, noDs ds _ h2, Bool.or_false]
end
theorem call_repr (hg : X.A.guards = some []) (hu : X.A.units + 64 < cLine) : CallR X (.builtin "repr") (rRepr X.K) := by
  intro pins s σ H xs us Q I r h
  obtain ⟨x, d, rfl, hd, hs, hz, hdp, q⟩ := h
  obtain ⟨u, rfl, rx⟩ := vals1 r
  obtain ⟨as, rd⟩ := Dp.reads I d x u hd rx
  have nd := noD d x hd
  cases rd with
  | none => exact PySem.P.repr_of_none ⟨.str _, H, I.tok _, ⟨_, rfl⟩, by simpa only [PyData.shown] using q⟩
  | bool b => exact PySem.P.repr_of_bool ⟨.str _, H, I.tok _, ⟨_, rfl⟩, by simpa only [PyData.shown] using q⟩
  | int i t => exact PySem.P.repr_of_int (by simpa [PyData.showable] using hs) ⟨.str _, H, I.tok _, ⟨_, rfl⟩, by simpa only [PyData.shown] using q⟩
  | str y t => exact PySem.P.repr_of_str ⟨.str _, H, I.tok _, ⟨_, rfl⟩, by simpa only [PyData.shown] using q⟩ (by simpa only [PyData.shown] using hz)
  | list h1 h2 h3 h4 =>
    exact repr_of_reads' (.list h1 h2 h3 h4) hs (fun z => by rw [nd] at z; cases z) hg (by omega) (fun _ _ z => z) (fun h' u tk hk => ⟨.str _, H, I.kept (t' := tk) hk, ⟨u, rfl⟩, q⟩) hz
  | tuple h1 h2 h3 h4 =>
    exact repr_of_reads' (.tuple h1 h2 h3 h4) hs (fun z => by rw [nd] at z; cases z) hg (by omega) (fun _ _ z => z) (fun h' u tk hk => ⟨.str _, H, I.kept (t' := tk) hk, ⟨u, rfl⟩, q⟩) hz
  | dict h1 h2 h3 h4 h5 => cases hd
end
/-! ### the law's end -/
section
variable {P : Program} {w : World} {K : PySem.W.Frag} {mg mb : Str → Option Value} {k : Nat} {fa a : Addr} {sp : Sp} {s₁ : Shared} {vs : List Value} {ns : List Int}
/-- the law's call over one abstract heap -/
theorem lawOn {H : Hp} (KX : K.In s₁.heap) (hns : s₁.heap.Ns mainGlobals mg) (hb : s₁.heap.Ns builtinsNs mb) (hbb : ∀ x : Str, x ≠ "__name__" → mb x = bootBuiltins x) (hlim : s₁.heap.NoLimit) (hg : s₁.gens = #[])
    (ha : s₁.heap.get? a = some { cls := .type "list", data := .seq vs.toArray }) (hr : Room k callerA)
    (F : ∀ base : Heap, K.In base → base.Ns mainGlobals mg → FnG P w K mg base CX0 k fa sp)
    (hO : Only H) (hsp : sp [.ref a] H (fun v _ => v = .bl true) fun _ _ _ => False) (hok : HOk P w H s₁.heap) (hA : ∀ b, H b ≠ none → b = a) (hK : H a ≠ none → K.lookup a = none) :
    codeAny (model P w) callerA (.call (.ref fa) ⟨[.ref a], []⟩) (fun r s' => r = .ok (.ret (.bool true)) ∧ OldK s₁.heap s'.heap ∧ s'.os = s₁.os ∧ AllBare s'.gens) s₁ := by
  have free : ∀ b o, s₁.heap.get? b = some o → (∀ w n, o.data ≠ Data.seq w n) → H b = none := fun b o e hd => Classical.byContradiction fun z => by
    have eb := hA b z
    rw [eb, ha] at e
    exact hd _ _ (congrArg Obj.data (Option.some.inj e)).symm
  have names : ∀ b m, s₁.heap.Ns b m → (hidT s₁.heap H).Ns b m := fun b m hn => by
    obtain ⟨o, es, ep, e, d, r⟩ := hn
    exact ⟨o, es, ep, hidT_get e (free b o e fun w n z => by rw [d] at z; cases z), d, r⟩
  have KB : K.In (hidT s₁.heap H) := fun b o e => hidT_get (KX b o e) (Classical.byContradiction fun z => by
    have eb := hA b z
    subst eb
    rw [hK z] at e
    cases e)
  have md : Mod K mg (hidT s₁.heap H) := ⟨KB, names _ _ hns, ⟨mb, names _ _ hb, hbb⟩, by obtain ⟨mc, h1, h2⟩ := hlim; exact ⟨mc, names _ _ h1, h2⟩⟩
  have nof : ∀ b, b ∉ frs ([] : List Env) := fun b z => by cases z
  have e0 : Env0 P w K mg (hidT s₁.heap H) callerA [] s₁ H := ⟨rfl, md, fun _ _ e => of_hidT e, Nat.le_of_eq (hidT_size _ _), True.intro, fun b z => absurd z (nof b), hok, .of_eq hg⟩
  refine codeAny_mono (F _ KB (names _ _ hns) callerA [] s₁ H [.ref a] [.ref a] _ _ rfl hr e0 (.cons rfl .nil) hsp) fun rs s' z => ?_
  match rs, z with
  | .error _, z => exact z.elim
  | .ok .next, z => exact z.elim
  | .ok .brk, z => exact z.elim
  | .ok .cont, z => exact z.elim
  | .ok (.ret u), z =>
    obtain ⟨v, H', os, bare, un, ok', rv, ev⟩ := z
    cases (show v = V.bl true from ev)
    cases (show u = Value.bool true from rv)
    refine ⟨rfl, OldK.of_keep fun b o e => ?_, os, bare⟩
    rcases hO b with n | ⟨ob, xs, n⟩
    · exact un.keep b o e n (nof b) (by simp)
    · have h1 := (hok b _ n).1
      have h2 := (ok' b _ (un.frzs b ob _ n)).1
      rw [e] at h1
      cases h1
      exact h2
theorem lawG (KX : K.In s₁.heap) (hns : s₁.heap.Ns mainGlobals mg) (hb : s₁.heap.Ns builtinsNs mb) (hbb : ∀ x : Str, x ≠ "__name__" → mb x = bootBuiltins x) (hlim : s₁.heap.NoLimit) (hg : s₁.gens = #[])
    (ha : s₁.heap.get? a = some { cls := .type "list", data := .seq vs.toArray }) (hi : IntsAre vs ns) (hl : ns.length ≤ sizeLine) (hr : Room k callerA)
    (F : ∀ base : Heap, K.In base → base.Ns mainGlobals mg → FnG P w K mg base CX0 k fa sp)
    (hsp : ∀ H : Hp, Only H → SqL K H a (ns.map V.int) → sp [.ref a] H (fun v _ => v = .bl true) fun _ _ _ => False) :
    codeAny (model P w) callerA (.call (.ref fa) ⟨[.ref a], []⟩) (fun r s' => r = .ok (.ret (.bool true)) ∧ OldK s₁.heap s'.heap ∧ s'.os = s₁.os ∧ AllBare s'.gens) s₁ := by
  have rv := vals_ints hi
  cases ek : K.lookup a with
  | some o =>
    have eo : o = _ := Option.some.inj ((KX a o ek).symm.trans ha)
    have O0 : Only (fun _ => none) := fun _ => .inl rfl
    have S0 : SqL K (fun _ => none) a (ns.map V.int) := .inr ⟨o, vs.toArray, _, ek, by rw [eo], by rw [eo], by rw [eo], by rw [List.size_toArray, ← rv.length, List.length_map]; exact hl, by simpa using rv⟩
    exact lawOn (H := fun _ => none) KX hns hb hbb hlim hg ha hr F O0 (hsp _ O0 S0) (fun b u z => by cases z) (fun b z => absurd rfl z) fun z => absurd rfl z
  | none =>
    let H1 : Hp := fun b => if b = a then some (.frz { cls := .type "list", data := .seq vs.toArray } (.lst (ns.map V.int))) else none
    have at_ : H1 a = some (.frz { cls := .type "list", data := .seq vs.toArray } (.lst (ns.map V.int))) := if_pos rfl
    have off : ∀ b, b ≠ a → H1 b = none := fun b z => if_neg z
    have O1 : Only H1 := fun b => by
      by_cases z : b = a
      · exact .inr ⟨_, _, by rw [z]; exact at_⟩
      · exact .inl (off b z)
    refine lawOn (H := H1) KX hns hb hbb hlim hg ha hr F O1 (hsp _ O1 (.inl (.inr ⟨_, at_⟩))) (fun b u z => ?_) (fun b z => Classical.byContradiction fun q => z (off b q)) fun _ => ek
    by_cases q : b = a
    · subst q
      rw [at_] at z
      cases z
      exact ⟨ha, by rw [List.length_map]; exact hl, vs, _, rv, ha⟩
    · rw [off b q] at z
      cases z
end
/-- the goal that the head leaves -/
theorem walkG {l : PySem.W.OpenLaw} {n k : Nat} {q : Program} {loose : List Str} {XP : (Str → Option Value) → Heap → Prop} {YP : World → Heap → Prop} {d : DefRec}
    (hn : l.most = some n) (hn2 : n ≤ sizeLine) (hdf : d.params.defaults = []) (hr : Room k callerA)
    (F : ∀ (w : World) (mg : Str → Option Value) (fa : Addr) (h : Heap), YP w h → h.Ns mainGlobals mg → mg d.name = some (.ref fa) → ∃ (K : PySem.W.Frag) (sp : Sp), K.In h ∧
      (∀ (H : Hp) (a : Addr) (ns : List Int), ns.length ≤ n → Only H → SqL K H a (ns.map V.int) → sp [.ref a] H (fun v _ => v = .bl true) fun _ _ _ => False) ∧
      ∀ base : Heap, K.In base → base.Ns mainGlobals mg → FnG l.prog w K mg base CX0 k fa sp) :
    PySem.W.WalkO q loose XP YP l.row.toRowW d [] (fun f vs => PySem.call f vs) :=
  Att.attach_call hn hdf fun w s₀ s₁ mg mb fa o pm cd doc a vs ns G Y ho hd hcd hmg hobj hints hlen hg => by
    obtain ⟨K, sp, KX, hsp, hF⟩ := F w mg fa _ Y G.T.g hmg
    exact lawG KX G.T.g G.T.b G.T.builtins G.T.nolimit hg hobj hints (Nat.le_trans hlen hn2) hr hF fun H hO hS => hsp H a ns hlen hO hS
end Ver

/-! The mathematics of the numbers modulo a prime: Euclid's way, trial division. -/
namespace Num
/-- trial division by odd divisors from 3 on, up to the root -/
def oddOk (v : Nat) (n : Nat) : Bool := (List.range n).all fun i => v % (3 + 2 * i) != 0
/-- is_prime's answer, for an int -/
def prB (r : Nat → Nat) (v : Int) : Bool :=
  decide (2 ≤ v) && decide (v ≤ 1000000000) && (if v % 2 = 0 then decide (v = 2) else oddOk v.toNat ((r v.toNat + 1 - 3 + 1) / 2))
/-- what the walk asks of a modulus -/
structure Md (p : Int) : Prop where
  lo : 2 ≤ p
  hi : p ≤ 1000000000
  pr : ∀ n : Int, 0 < n → n < p → Int.gcd n p = 1
theorem gcd_one {p b : Nat} (hb : p < b * b) (h : (List.range b).all (fun d => decide (d < 2) || p % d != 0) = true) (n : Nat) (h0 : 0 < n) (h1 : n < p) : Nat.gcd n p = 1 := by
  have small : ∀ d, 2 ≤ d → d < b → ¬ d ∣ p := fun d h2 h3 hd => by
    have q := List.all_eq_true.mp h d (List.mem_range.mpr h3)
    rw [Bool.or_eq_true] at q
    rcases q with q | q
    · have := of_decide_eq_true q
      omega
    · have e : p % d = 0 := Nat.mod_eq_zero_of_dvd hd
      rw [e] at q
      cases q
  have hg : Nat.gcd n p ∣ p := Nat.gcd_dvd_right n p
  have hn : Nat.gcd n p ∣ n := Nat.gcd_dvd_left n p
  have gpos : 0 < Nat.gcd n p := Nat.gcd_pos_of_pos_left _ h0
  have gle : Nat.gcd n p ≤ n := Nat.le_of_dvd h0 hn
  by_cases g1 : Nat.gcd n p = 1
  · exact g1
  · exfalso
    obtain ⟨m, hm⟩ := hg
    have m2 : 2 ≤ m := by
      cases m with
      | zero => omega
      | succ m =>
        cases m with
        | zero => omega
        | succ m => omega
    have hmd : m ∣ p := ⟨Nat.gcd n p, by rw [Nat.mul_comm]; exact hm⟩
    by_cases c : Nat.gcd n p < b
    · exact small _ (by omega) c (Nat.gcd_dvd_right n p)
    · by_cases c2 : m < b
      · exact small m m2 c2 hmd
      · have : b * b ≤ Nat.gcd n p * m := Nat.mul_le_mul (by omega) (by omega)
        omega
theorem md_of (p b : Nat) (h2 : 2 ≤ p) (h9 : p ≤ 1000000000) (hb : p < b * b) (h : (List.range b).all (fun d => decide (d < 2) || p % d != 0) = true) : Md (p : Int) :=
  ⟨by omega, by omega, fun n h0 h1 => by
    have e : n = ((n.toNat : Nat) : Int) := by omega
    rw [e]
    show Nat.gcd _ _ = 1
    exact gcd_one hb h n.toNat (by omega) (by omega)⟩
theorem md2 : Md 2 := md_of 2 2 (by decide) (by decide) (by decide) (by decide)
theorem md3 : Md 3 := md_of 3 2 (by decide) (by decide) (by decide) (by decide)
theorem md5 : Md 5 := md_of 5 3 (by decide) (by decide) (by decide) (by decide)
theorem md7 : Md 7 := md_of 7 3 (by decide) (by decide) (by decide) (by decide)
theorem md101 : Md 101 := md_of 101 11 (by decide) (by decide) (by decide) (by decide)
theorem md1000003 : Md 1000003 := md_of 1000003 1001 (by decide) (by decide) (by decide) (by decide +kernel)

/-! ### Euclid -/
/-- the state of the loop: past and now times the number are rest and left, modulo p -/
structure Eu (p n rest left past now : Int) : Prop where
  l0 : 0 ≤ left
  lp : left < p
  r0 : 0 < rest
  rp : rest ≤ p
  a : p ∣ past * n - rest
  b : p ∣ now * n - left
  g : Int.gcd rest left = 1
theorem Eu.start {p n : Int} (m : Md p) (h0 : 0 < n) (h1 : n < p) : Eu p n p (n % p) 0 1 := by
  have e : n % p = n := Int.emod_eq_of_lt (by omega) h1
  have hlo := m.lo
  refine ⟨by omega, by omega, by omega, Int.le_refl _, ⟨-1, by omega⟩, ⟨0, by omega⟩, ?_⟩
  rw [e, Int.gcd_comm]
  exact m.pr n h0 h1
theorem Eu.step {p n rest left past now : Int} (E : Eu p n rest left past now) (h : left ≠ 0) : Eu p n left (rest - rest / left * left) now (past - rest / left * now) := by
  have hl : 0 < left := by have := E.l0; omega
  have e : rest - rest / left * left = rest % left := by
    have := Int.emod_def rest left
    rw [Int.mul_comm] at this
    omega
  rw [e]
  have m0 : 0 ≤ rest % left := Int.emod_nonneg _ h
  have m1 : rest % left < left := Int.emod_lt_of_pos _ hl
  refine ⟨m0, by have := E.lp; omega, hl, by have := E.lp; omega, E.b, ?_, ?_⟩
  · obtain ⟨x, hx⟩ := E.a
    obtain ⟨y, hy⟩ := E.b
    refine ⟨x - rest / left * y, ?_⟩
    rw [← e]
    have h1 : (past - rest / left * now) * n - (rest - rest / left * left) = (past * n - rest) - rest / left * (now * n - left) := by
      rw [Int.sub_mul, Int.mul_sub, Int.mul_assoc]
      omega
    rw [h1, hx, hy, Int.mul_sub]
    congr 1
    rw [← Int.mul_assoc, ← Int.mul_assoc, Int.mul_comm (rest / left) p]
  · rw [Int.gcd_comm]
    have := E.g
    rw [Int.gcd_comm] at this
    rw [← this]
    show Nat.gcd _ _ = Nat.gcd _ _
    have a1 : (rest % left).natAbs = rest.natAbs % left.natAbs := by
      have hr := E.r0
      have q : ((rest.natAbs % left.natAbs : Nat) : Int) = rest % left := by
        rw [Int.natCast_emod]
        rw [Int.natAbs_of_nonneg (by omega), Int.natAbs_of_nonneg (by omega)]
      omega
    rw [a1, ← Nat.gcd_rec, Nat.gcd_comm]
theorem Eu.times {p n rest left past now : Int} (E : Eu p n rest left past now) (h : left ≠ 0) : 0 ≤ rest / left ∧ rest / left ≤ p := by
  have hl : 0 < left := by have := E.l0; omega
  have hr := E.r0
  have hp := E.rp
  refine ⟨Int.ediv_nonneg (by omega) (by omega), ?_⟩
  have : rest / left ≤ rest := Int.ediv_le_self _ (by omega)
  omega
/-- at the end: the inverse -/
theorem Eu.inv {p n rest past now : Int} (m : Md p) (E : Eu p n rest 0 past now) : 0 ≤ past % p ∧ past % p < p ∧ (past % p * n) % p = 1 := by
  have hlo := m.lo
  have r1 : rest = 1 := by
    have g := E.g
    have h0 := E.r0
    rw [Int.gcd_zero_right] at g
    omega
  have hm : (past * n) % p = 1 := by
    obtain ⟨x, hx⟩ := E.a
    have e : past * n = 1 + p * x := by omega
    rw [e, Int.add_mul_emod_self_left]
    exact Int.emod_eq_of_lt (by omega) (by omega)
  refine ⟨Int.emod_nonneg _ (by omega), Int.emod_lt_of_pos _ (by omega), ?_⟩
  rw [Int.mul_emod, Int.emod_emod, ← Int.mul_emod]
  exact hm
/-- what over tells, times what it divided by -/
theorem over_back {p a b i : Int} (ha : 0 ≤ a ∧ a < p) (hi : (i * b) % p = 1 % p) : (a * i % p * b) % p = a := by
  have e : (a * i % p * b) % p = (a * (i * b)) % p := by
    rw [Int.mul_emod, Int.emod_emod, ← Int.mul_emod, Int.mul_assoc]
  rw [e, Int.mul_emod, hi, ← Int.mul_emod, Int.mul_one]
  exact Int.emod_eq_of_lt ha.1 ha.2
end Num

namespace K01
open PySem PySem.Spec PyProof.Rows L2 Ver
def top (i : Nat) : Stmt := PySem.Challenge.pw_firstanswers_k01_fields.main.body.getD i (.Pass ⟨0, 0, 0, 0⟩)
abbrev s_is_integer : Stmt := top 3
abbrev n_is_integer : List Str := ["value"]
theorem sc_is_integer : FnScope n_is_integer ["value"] (defScope s_is_integer) := ⟨rfl, rfl, rfl, by decide +kernel, rfl, by decide +kernel, by decide +kernel⟩
def d_is_integer : He.DefD := ⟨("is_integer", none), "is_integer", "is_integer", defArgs s_is_integer, defBody s_is_integer, defScope s_is_integer, [], []⟩
abbrev s_is_between : Stmt := top 4
abbrev n_is_between : List Str := ["value", "low", "high"]
theorem sc_is_between : FnScope n_is_between ["value", "low", "high"] (defScope s_is_between) := ⟨rfl, rfl, rfl, by decide +kernel, rfl, by decide +kernel, by decide +kernel⟩
def d_is_between : He.DefD := ⟨("is_between", none), "is_between", "is_between", defArgs s_is_between, defBody s_is_between, defScope s_is_between, [], []⟩
abbrev s_Field___init__ : Stmt := inClass (top 15) 1
abbrev n_Field___init__ : List Str := ["self", "prime"]
theorem sc_Field___init__ : FnScope n_Field___init__ ["self", "prime"] (defScope s_Field___init__) := ⟨rfl, rfl, rfl, by decide +kernel, rfl, by decide +kernel, by decide +kernel⟩
def d_Field___init__ : He.DefD := ⟨("Field", some "__init__"), "__init__", "Field.__init__", defArgs s_Field___init__, defBody s_Field___init__, defScope s_Field___init__, [], []⟩
abbrev s_Field___eq__ : Stmt := inClass (top 15) 4
abbrev n_Field___eq__ : List Str := ["self", "other"]
theorem sc_Field___eq__ : FnScope n_Field___eq__ ["self", "other"] (defScope s_Field___eq__) := ⟨rfl, rfl, rfl, by decide +kernel, rfl, by decide +kernel, by decide +kernel⟩
def d_Field___eq__ : He.DefD := ⟨("Field", some "__eq__"), "__eq__", "Field.__eq__", defArgs s_Field___eq__, defBody s_Field___eq__, defScope s_Field___eq__, [], []⟩
abbrev s_Fractions___init__ : Stmt := inClass (top 16) 0
abbrev n_Fractions___init__ : List Str := ["self"]
theorem sc_Fractions___init__ : FnScope n_Fractions___init__ ["self"] (defScope s_Fractions___init__) := ⟨rfl, rfl, rfl, by decide +kernel, rfl, by decide +kernel, by decide +kernel⟩
def d_Fractions___init__ : He.DefD := ⟨("Fractions", some "__init__"), "__init__", "Fractions.__init__", defArgs s_Fractions___init__, defBody s_Fractions___init__, defScope s_Fractions___init__, [], []⟩
abbrev s_Modulo___init__ : Stmt := inClass (top 17) 0
abbrev n_Modulo___init__ : List Str := ["self", "prime"]
theorem sc_Modulo___init__ : FnScope n_Modulo___init__ ["self", "prime"] (defScope s_Modulo___init__) := ⟨rfl, rfl, rfl, by decide +kernel, rfl, by decide +kernel, by decide +kernel⟩
def d_Modulo___init__ : He.DefD := ⟨("Modulo", some "__init__"), "__init__", "Modulo.__init__", defArgs s_Modulo___init__, defBody s_Modulo___init__, defScope s_Modulo___init__, [], []⟩
abbrev s_is_prime : Stmt := top 18
abbrev n_is_prime : List Str := ["value", "divisor"]
theorem sc_is_prime : FnScope n_is_prime ["value"] (defScope s_is_prime) := ⟨rfl, rfl, rfl, by decide +kernel, rfl, by decide +kernel, by decide +kernel⟩
def d_is_prime : He.DefD := ⟨("is_prime", none), "is_prime", "is_prime", defArgs s_is_prime, defBody s_is_prime, defScope s_is_prime, [], []⟩
abbrev s_integer_of : Stmt := top 22
abbrev n_integer_of : List Str := ["text", "most"]
theorem sc_integer_of : FnScope n_integer_of ["text", "most"] (defScope s_integer_of) := ⟨rfl, rfl, rfl, by decide +kernel, rfl, by decide +kernel, by decide +kernel⟩
def d_integer_of : He.DefD := ⟨("integer_of", none), "integer_of", "integer_of", defArgs s_integer_of, defBody s_integer_of, defScope s_integer_of, [], []⟩
abbrev s_InvalidPrime___init__ : Stmt := inClass (top 6) 0
abbrev n_InvalidPrime___init__ : List Str := ["self", "value"]
theorem sc_InvalidPrime___init__ : FnScope n_InvalidPrime___init__ ["self", "value"] (defScope s_InvalidPrime___init__) := ⟨rfl, rfl, rfl, by decide +kernel, rfl, by decide +kernel, by decide +kernel⟩
def d_InvalidPrime___init__ : He.DefD := ⟨("InvalidPrime", some "__init__"), "__init__", "InvalidPrime.__init__", defArgs s_InvalidPrime___init__, defBody s_InvalidPrime___init__, defScope s_InvalidPrime___init__, [], []⟩
abbrev s_InvalidText___init__ : Stmt := inClass (top 8) 0
abbrev n_InvalidText___init__ : List Str := ["self", "line"]
theorem sc_InvalidText___init__ : FnScope n_InvalidText___init__ ["self", "line"] (defScope s_InvalidText___init__) := ⟨rfl, rfl, rfl, by decide +kernel, rfl, by decide +kernel, by decide +kernel⟩
def d_InvalidText___init__ : He.DefD := ⟨("InvalidText", some "__init__"), "__init__", "InvalidText.__init__", defArgs s_InvalidText___init__, defBody s_InvalidText___init__, defScope s_InvalidText___init__, [], []⟩
abbrev s__law_pen : Stmt := top 26
abbrev n__law_pen : List Str := ["_law_script"]
theorem sc__law_pen : FnScope n__law_pen ["_law_script"] (defScope s__law_pen) := ⟨rfl, rfl, rfl, by decide +kernel, rfl, by decide +kernel, by decide +kernel⟩
def d__law_pen : He.DefD := ⟨("_law_pen", none), "_law_pen", "_law_pen", defArgs s__law_pen, defBody s__law_pen, defScope s__law_pen, [], []⟩
abbrev s__law_draw : Stmt := top 27
abbrev n__law_draw : List Str := ["_law_pen_here", "_law_many", "_law_digit", "_law_place", "_law_cell", "_law_mixed", "_law_drawn"]
theorem sc__law_draw : FnScope n__law_draw ["_law_pen_here", "_law_many"] (defScope s__law_draw) := ⟨rfl, rfl, rfl, by decide +kernel, rfl, by decide +kernel, by decide +kernel⟩
def d__law_draw : He.DefD := ⟨("_law_draw", none), "_law_draw", "_law_draw", defArgs s__law_draw, defBody s__law_draw, defScope s__law_draw, [], []⟩
abbrev s__law_pick : Stmt := top 28
abbrev n__law_pick : List Str := ["_law_pen_here", "_law_options"]
theorem sc__law_pick : FnScope n__law_pick ["_law_pen_here", "_law_options"] (defScope s__law_pick) := ⟨rfl, rfl, rfl, by decide +kernel, rfl, by decide +kernel, by decide +kernel⟩
def d__law_pick : He.DefD := ⟨("_law_pick", none), "_law_pick", "_law_pick", defArgs s__law_pick, defBody s__law_pick, defScope s__law_pick, [], []⟩
abbrev s__law_prime : Stmt := top 29
abbrev n__law_prime : List Str := ["_law_pen_here"]
theorem sc__law_prime : FnScope n__law_prime ["_law_pen_here"] (defScope s__law_prime) := ⟨rfl, rfl, rfl, by decide +kernel, rfl, by decide +kernel, by decide +kernel⟩
def d__law_prime : He.DefD := ⟨("_law_prime", none), "_law_prime", "_law_prime", defArgs s__law_prime, defBody s__law_prime, defScope s__law_prime, [], []⟩
abbrev s__law_odd : Stmt := top 30
abbrev n__law_odd : List Str := ["_law_pen_here", "_law_some"]
theorem sc__law_odd : FnScope n__law_odd ["_law_pen_here"] (defScope s__law_odd) := ⟨rfl, rfl, rfl, by decide +kernel, rfl, by decide +kernel, by decide +kernel⟩
def d__law_odd : He.DefD := ⟨("_law_odd", none), "_law_odd", "_law_odd", defArgs s__law_odd, defBody s__law_odd, defScope s__law_odd, [], []⟩
abbrev s__law_made_field : Stmt := top 31
abbrev n__law_made_field : List Str := ["_law_prime_here"]
theorem sc__law_made_field : FnScope n__law_made_field ["_law_prime_here"] (defScope s__law_made_field) := ⟨rfl, rfl, rfl, by decide +kernel, rfl, by decide +kernel, by decide +kernel⟩
def d__law_made_field : He.DefD := ⟨("_law_made_field", none), "_law_made_field", "_law_made_field", defArgs s__law_made_field, defBody s__law_made_field, defScope s__law_made_field, [], []⟩
abbrev s__law_is_whole : Stmt := top 32
abbrev n__law_is_whole : List Str := ["_law_thing"]
theorem sc__law_is_whole : FnScope n__law_is_whole ["_law_thing"] (defScope s__law_is_whole) := ⟨rfl, rfl, rfl, by decide +kernel, rfl, by decide +kernel, by decide +kernel⟩
def d__law_is_whole : He.DefD := ⟨("_law_is_whole", none), "_law_is_whole", "_law_is_whole", defArgs s__law_is_whole, defBody s__law_is_whole, defScope s__law_is_whole, [], []⟩
abbrev s__law_is_prime : Stmt := top 33
abbrev n__law_is_prime : List Str := ["_law_number", "_law_at"]
theorem sc__law_is_prime : FnScope n__law_is_prime ["_law_number"] (defScope s__law_is_prime) := ⟨rfl, rfl, rfl, by decide +kernel, rfl, by decide +kernel, by decide +kernel⟩
def d__law_is_prime : He.DefD := ⟨("_law_is_prime", none), "_law_is_prime", "_law_is_prime", defArgs s__law_is_prime, defBody s__law_is_prime, defScope s__law_is_prime, [], []⟩
abbrev s__law_drawn_prime : Stmt := top 34
abbrev n__law_drawn_prime : List Str := ["_law_pen_here", "_law_some"]
theorem sc__law_drawn_prime : FnScope n__law_drawn_prime ["_law_pen_here"] (defScope s__law_drawn_prime) := ⟨rfl, rfl, rfl, by decide +kernel, rfl, by decide +kernel, by decide +kernel⟩
def d__law_drawn_prime : He.DefD := ⟨("_law_drawn_prime", none), "_law_drawn_prime", "_law_drawn_prime", defArgs s__law_drawn_prime, defBody s__law_drawn_prime, defScope s__law_drawn_prime, [], []⟩
abbrev s__law_is_fine : Stmt := top 35
abbrev n__law_is_fine : List Str := ["_law_thing"]
theorem sc__law_is_fine : FnScope n__law_is_fine ["_law_thing"] (defScope s__law_is_fine) := ⟨rfl, rfl, rfl, by decide +kernel, rfl, by decide +kernel, by decide +kernel⟩
def d__law_is_fine : He.DefD := ⟨("_law_is_fine", none), "_law_is_fine", "_law_is_fine", defArgs s__law_is_fine, defBody s__law_is_fine, defScope s__law_is_fine, [], []⟩
abbrev s__law_refused : Stmt := top 36
abbrev n__law_refused : List Str := ["_law_thing", "e"]
theorem sc__law_refused : FnScope n__law_refused ["_law_thing"] (defScope s__law_refused) := ⟨rfl, rfl, rfl, by decide +kernel, rfl, by decide +kernel, by decide +kernel⟩
def d__law_refused : He.DefD := ⟨("_law_refused", none), "_law_refused", "_law_refused", defArgs s__law_refused, defBody s__law_refused, defScope s__law_refused, [], []⟩
abbrev s__law_read : Stmt := top 37
abbrev n__law_read : List Str := ["_law_text", "e"]
theorem sc__law_read : FnScope n__law_read ["_law_text"] (defScope s__law_read) := ⟨rfl, rfl, rfl, by decide +kernel, rfl, by decide +kernel, by decide +kernel⟩
def d__law_read : He.DefD := ⟨("_law_read", none), "_law_read", "_law_read", defArgs s__law_read, defBody s__law_read, defScope s__law_read, [], []⟩
abbrev s__law_bent_name : Stmt := top 38
abbrev n__law_bent_name : List Str := ["_law_pen_here", "_law_prime_here", "_law_text", "_law_some"]
theorem sc__law_bent_name : FnScope n__law_bent_name ["_law_pen_here", "_law_prime_here"] (defScope s__law_bent_name) := ⟨rfl, rfl, rfl, by decide +kernel, rfl, by decide +kernel, by decide +kernel⟩
def d__law_bent_name : He.DefD := ⟨("_law_bent_name", none), "_law_bent_name", "_law_bent_name", defArgs s__law_bent_name, defBody s__law_bent_name, defScope s__law_bent_name, [], []⟩
abbrev s_law : Stmt := top 39
abbrev n_law : List Str := ["_law_script", "_law_pen_here", "_law_whole", "_law_turn", "_law_thing", "_law_prime_here", "_law_other", "_law_field", "_law_text", "_law_due", "_law_told", "_law_odd_here"]
theorem sc_law : FnScope n_law ["_law_script"] (defScope s_law) := ⟨rfl, rfl, rfl, by decide +kernel, rfl, by decide +kernel, by decide +kernel⟩
def d_law : He.DefD := ⟨("law", none), "law", "law", defArgs s_law, defBody s_law, defScope s_law, [], []⟩
def fn : List He.DefD := [d_is_integer, d_is_between, d_Field___init__, d_Field___eq__, d_Fractions___init__, d_Modulo___init__, d_is_prime, d_integer_of, d_InvalidPrime___init__, d_InvalidText___init__, d__law_pen, d__law_draw, d__law_pick, d__law_prime, d__law_odd, d__law_made_field, d__law_is_whole, d__law_is_prime, d__law_drawn_prime, d__law_is_fine, d__law_refused, d__law_read, d__law_bent_name, d_law]
section
variable {P : Program} {w : World} {K : PySem.W.Frag} {fa : List He.Fa} {mg : Str → Option Value} {base : Heap} {k : Nat} {sp : Sp}
theorem mk_is_integer (S : He.SaysD fa fn K) (len : ∀ vs H Q E, sp vs H Q E → vs.length = 1)
    (hb : ∀ (cdv : Value) (A : Around) (outer : List Env) (s : Shared) (H : Hp) (vs : List V) (Q : VK) (E : XK), A.guards = some [] → Room k (A.deeper (envOfC "is_integer" (defScope s_is_integer) s.heap.objs.size (He.ga K "is_integer") cdv)) → sp vs H Q E →
      ∃ t, PSs (cxOf CX0 P w K mg base n_is_integer "is_integer" (defScope s_is_integer) (He.ga K "is_integer") cdv A outer s H E).nox (defBody s_is_integer) t ∧ t { nx := fun _ H' => Q .non H', rt := Q } (start n_is_integer vs) H) : FnG P w K mg base CX0 (k + 1) (He.ga K "is_integer") sp := by
  obtain ⟨fd, F⟩ := S.def_ 0 (d := d_is_integer) rfl
  exact ok0 F sc_is_integer (F.bindsA fun _ _ _ _ _ _ us hl => match us, hl with | [_], _ => rfl) len hb
theorem kp_is_integer (S : He.SaysD fa fn K) : PySem.W.keepIn K (.ref (He.ga K "is_integer")) = true := by
  obtain ⟨fd, F⟩ := S.def_ 0 (d := d_is_integer) rfl
  exact F.kp
theorem mk_is_between (S : He.SaysD fa fn K) (len : ∀ vs H Q E, sp vs H Q E → vs.length = 3)
    (hb : ∀ (cdv : Value) (A : Around) (outer : List Env) (s : Shared) (H : Hp) (vs : List V) (Q : VK) (E : XK), A.guards = some [] → Room k (A.deeper (envOfC "is_between" (defScope s_is_between) s.heap.objs.size (He.ga K "is_between") cdv)) → sp vs H Q E →
      ∃ t, PSs (cxOf CX0 P w K mg base n_is_between "is_between" (defScope s_is_between) (He.ga K "is_between") cdv A outer s H E).nox (defBody s_is_between) t ∧ t { nx := fun _ H' => Q .non H', rt := Q } (start n_is_between vs) H) : FnG P w K mg base CX0 (k + 1) (He.ga K "is_between") sp := by
  obtain ⟨fd, F⟩ := S.def_ 1 (d := d_is_between) rfl
  exact ok0 F sc_is_between (F.bindsA fun _ _ _ _ _ _ us hl => match us, hl with | [_, _, _], _ => rfl) len hb
theorem kp_is_between (S : He.SaysD fa fn K) : PySem.W.keepIn K (.ref (He.ga K "is_between")) = true := by
  obtain ⟨fd, F⟩ := S.def_ 1 (d := d_is_between) rfl
  exact F.kp
theorem mk_Field___init__ (S : He.SaysD fa fn K) (len : ∀ vs H Q E, sp vs H Q E → vs.length = 2)
    (hb : ∀ (cdv : Value) (A : Around) (outer : List Env) (s : Shared) (H : Hp) (vs : List V) (Q : VK) (E : XK), A.guards = some [] → Room k (A.deeper (envOfC "Field.__init__" (defScope s_Field___init__) s.heap.objs.size (He.ma K (He.ga K "Field") "__init__") cdv)) → sp vs H Q E →
      ∃ t, PSs (cxOf CX0 P w K mg base n_Field___init__ "Field.__init__" (defScope s_Field___init__) (He.ma K (He.ga K "Field") "__init__") cdv A outer s H E).nox (defBody s_Field___init__) t ∧ t { nx := fun _ H' => Q .non H', rt := Q } (start n_Field___init__ vs) H) : FnG P w K mg base CX0 (k + 1) (He.ma K (He.ga K "Field") "__init__") sp := by
  obtain ⟨fd, F⟩ := S.def_ 2 (d := d_Field___init__) rfl
  exact ok0 F sc_Field___init__ (F.bindsA fun _ _ _ _ _ _ us hl => match us, hl with | [_, _], _ => rfl) len hb
theorem kp_Field___init__ (S : He.SaysD fa fn K) : PySem.W.keepIn K (.ref (He.ma K (He.ga K "Field") "__init__")) = true := by
  obtain ⟨fd, F⟩ := S.def_ 2 (d := d_Field___init__) rfl
  exact F.kp
theorem mk_Field___eq__ (S : He.SaysD fa fn K) (len : ∀ vs H Q E, sp vs H Q E → vs.length = 2)
    (hb : ∀ (cdv : Value) (A : Around) (outer : List Env) (s : Shared) (H : Hp) (vs : List V) (Q : VK) (E : XK), A.guards = some [] → Room k (A.deeper (envOfC "Field.__eq__" (defScope s_Field___eq__) s.heap.objs.size (He.ma K (He.ga K "Field") "__eq__") cdv)) → sp vs H Q E →
      ∃ t, PSs (cxOf CX0 P w K mg base n_Field___eq__ "Field.__eq__" (defScope s_Field___eq__) (He.ma K (He.ga K "Field") "__eq__") cdv A outer s H E).nox (defBody s_Field___eq__) t ∧ t { nx := fun _ H' => Q .non H', rt := Q } (start n_Field___eq__ vs) H) : FnG P w K mg base CX0 (k + 1) (He.ma K (He.ga K "Field") "__eq__") sp := by
  obtain ⟨fd, F⟩ := S.def_ 3 (d := d_Field___eq__) rfl
  exact ok0 F sc_Field___eq__ (F.bindsA fun _ _ _ _ _ _ us hl => match us, hl with | [_, _], _ => rfl) len hb
theorem kp_Field___eq__ (S : He.SaysD fa fn K) : PySem.W.keepIn K (.ref (He.ma K (He.ga K "Field") "__eq__")) = true := by
  obtain ⟨fd, F⟩ := S.def_ 3 (d := d_Field___eq__) rfl
  exact F.kp
theorem mk_Fractions___init__ (S : He.SaysD fa fn K) (len : ∀ vs H Q E, sp vs H Q E → vs.length = 1)
    (hb : ∀ (cdv : Value) (A : Around) (outer : List Env) (s : Shared) (H : Hp) (vs : List V) (Q : VK) (E : XK), A.guards = some [] → Room k (A.deeper (envOfC "Fractions.__init__" (defScope s_Fractions___init__) s.heap.objs.size (He.ma K (He.ga K "Fractions") "__init__") cdv)) → sp vs H Q E →
      ∃ t, PSs (cxOf CX0 P w K mg base n_Fractions___init__ "Fractions.__init__" (defScope s_Fractions___init__) (He.ma K (He.ga K "Fractions") "__init__") cdv A outer s H E).nox (defBody s_Fractions___init__) t ∧ t { nx := fun _ H' => Q .non H', rt := Q } (start n_Fractions___init__ vs) H) : FnG P w K mg base CX0 (k + 1) (He.ma K (He.ga K "Fractions") "__init__") sp := by
  obtain ⟨fd, F⟩ := S.def_ 4 (d := d_Fractions___init__) rfl
  exact ok0 F sc_Fractions___init__ (F.bindsA fun _ _ _ _ _ _ us hl => match us, hl with | [_], _ => rfl) len hb
theorem kp_Fractions___init__ (S : He.SaysD fa fn K) : PySem.W.keepIn K (.ref (He.ma K (He.ga K "Fractions") "__init__")) = true := by
  obtain ⟨fd, F⟩ := S.def_ 4 (d := d_Fractions___init__) rfl
  exact F.kp
theorem mk_Modulo___init__ (S : He.SaysD fa fn K) (len : ∀ vs H Q E, sp vs H Q E → vs.length = 2)
    (hb : ∀ (cdv : Value) (A : Around) (outer : List Env) (s : Shared) (H : Hp) (vs : List V) (Q : VK) (E : XK), A.guards = some [] → Room k (A.deeper (envOfC "Modulo.__init__" (defScope s_Modulo___init__) s.heap.objs.size (He.ma K (He.ga K "Modulo") "__init__") cdv)) → sp vs H Q E →
      ∃ t, PSs (cxOf CX0 P w K mg base n_Modulo___init__ "Modulo.__init__" (defScope s_Modulo___init__) (He.ma K (He.ga K "Modulo") "__init__") cdv A outer s H E).nox (defBody s_Modulo___init__) t ∧ t { nx := fun _ H' => Q .non H', rt := Q } (start n_Modulo___init__ vs) H) : FnG P w K mg base CX0 (k + 1) (He.ma K (He.ga K "Modulo") "__init__") sp := by
  obtain ⟨fd, F⟩ := S.def_ 5 (d := d_Modulo___init__) rfl
  exact ok0 F sc_Modulo___init__ (F.bindsA fun _ _ _ _ _ _ us hl => match us, hl with | [_, _], _ => rfl) len hb
theorem mkX_Modulo___init__ (S : He.SaysD fa fn K) (len : ∀ vs H Q E, sp vs H Q E → vs.length = 2)
    (hb : ∀ (cdv : Value) (A : Around) (outer : List Env) (s : Shared) (H : Hp) (vs : List V) (Q : VK) (E : XK), A.guards = some [] → Room k (A.deeper (envOfC "Modulo.__init__" (defScope s_Modulo___init__) s.heap.objs.size (He.ma K (He.ga K "Modulo") "__init__") cdv)) → sp vs H Q E →
      ∃ t, PSs (cxOf (L2.CX P w) P w K mg base n_Modulo___init__ "Modulo.__init__" (defScope s_Modulo___init__) (He.ma K (He.ga K "Modulo") "__init__") cdv A outer s H E) (defBody s_Modulo___init__) t ∧ t { nx := fun _ H' => Q .non H', rt := Q } (start n_Modulo___init__ vs) H) : FnG P w K mg base (L2.CX P w) (k + 1) (He.ma K (He.ga K "Modulo") "__init__") sp := by
  obtain ⟨fd, F⟩ := S.def_ 5 (d := d_Modulo___init__) rfl
  exact okG F sc_Modulo___init__ (F.bindsA fun _ _ _ _ _ _ us hl => match us, hl with | [_, _], _ => rfl) len hb
theorem kp_Modulo___init__ (S : He.SaysD fa fn K) : PySem.W.keepIn K (.ref (He.ma K (He.ga K "Modulo") "__init__")) = true := by
  obtain ⟨fd, F⟩ := S.def_ 5 (d := d_Modulo___init__) rfl
  exact F.kp
theorem mk_is_prime (S : He.SaysD fa fn K) (len : ∀ vs H Q E, sp vs H Q E → vs.length = 1)
    (hb : ∀ (cdv : Value) (A : Around) (outer : List Env) (s : Shared) (H : Hp) (vs : List V) (Q : VK) (E : XK), A.guards = some [] → Room k (A.deeper (envOfC "is_prime" (defScope s_is_prime) s.heap.objs.size (He.ga K "is_prime") cdv)) → sp vs H Q E →
      ∃ t, PSs (cxOf CX0 P w K mg base n_is_prime "is_prime" (defScope s_is_prime) (He.ga K "is_prime") cdv A outer s H E).nox (defBody s_is_prime) t ∧ t { nx := fun _ H' => Q .non H', rt := Q } (start n_is_prime vs) H) : FnG P w K mg base CX0 (k + 1) (He.ga K "is_prime") sp := by
  obtain ⟨fd, F⟩ := S.def_ 6 (d := d_is_prime) rfl
  exact ok0 F sc_is_prime (F.bindsA fun _ _ _ _ _ _ us hl => match us, hl with | [_], _ => rfl) len hb
theorem kp_is_prime (S : He.SaysD fa fn K) : PySem.W.keepIn K (.ref (He.ga K "is_prime")) = true := by
  obtain ⟨fd, F⟩ := S.def_ 6 (d := d_is_prime) rfl
  exact F.kp
theorem mk_integer_of (S : He.SaysD fa fn K) (len : ∀ vs H Q E, sp vs H Q E → vs.length = 2)
    (hb : ∀ (cdv : Value) (A : Around) (outer : List Env) (s : Shared) (H : Hp) (vs : List V) (Q : VK) (E : XK), A.guards = some [] → Room k (A.deeper (envOfC "integer_of" (defScope s_integer_of) s.heap.objs.size (He.ga K "integer_of") cdv)) → sp vs H Q E →
      ∃ t, PSs (cxOf CX0 P w K mg base n_integer_of "integer_of" (defScope s_integer_of) (He.ga K "integer_of") cdv A outer s H E).nox (defBody s_integer_of) t ∧ t { nx := fun _ H' => Q .non H', rt := Q } (start n_integer_of vs) H) : FnG P w K mg base CX0 (k + 1) (He.ga K "integer_of") sp := by
  obtain ⟨fd, F⟩ := S.def_ 7 (d := d_integer_of) rfl
  exact ok0 F sc_integer_of (F.bindsA fun _ _ _ _ _ _ us hl => match us, hl with | [_, _], _ => rfl) len hb
theorem kp_integer_of (S : He.SaysD fa fn K) : PySem.W.keepIn K (.ref (He.ga K "integer_of")) = true := by
  obtain ⟨fd, F⟩ := S.def_ 7 (d := d_integer_of) rfl
  exact F.kp
theorem mk_InvalidPrime___init__ (S : He.SaysD fa fn K) (len : ∀ vs H Q E, sp vs H Q E → vs.length = 2)
    (hb : ∀ (cdv : Value) (A : Around) (outer : List Env) (s : Shared) (H : Hp) (vs : List V) (Q : VK) (E : XK), A.guards = some [] → Room k (A.deeper (envOfC "InvalidPrime.__init__" (defScope s_InvalidPrime___init__) s.heap.objs.size (He.ma K (He.ga K "InvalidPrime") "__init__") cdv)) → sp vs H Q E →
      ∃ t, PSs (cxOf CX0 P w K mg base n_InvalidPrime___init__ "InvalidPrime.__init__" (defScope s_InvalidPrime___init__) (He.ma K (He.ga K "InvalidPrime") "__init__") cdv A outer s H E).nox (defBody s_InvalidPrime___init__) t ∧ t { nx := fun _ H' => Q .non H', rt := Q } (start n_InvalidPrime___init__ vs) H) : FnG P w K mg base CX0 (k + 1) (He.ma K (He.ga K "InvalidPrime") "__init__") sp := by
  obtain ⟨fd, F⟩ := S.def_ 8 (d := d_InvalidPrime___init__) rfl
  exact ok0 F sc_InvalidPrime___init__ (F.bindsA fun _ _ _ _ _ _ us hl => match us, hl with | [_, _], _ => rfl) len hb
theorem kp_InvalidPrime___init__ (S : He.SaysD fa fn K) : PySem.W.keepIn K (.ref (He.ma K (He.ga K "InvalidPrime") "__init__")) = true := by
  obtain ⟨fd, F⟩ := S.def_ 8 (d := d_InvalidPrime___init__) rfl
  exact F.kp
theorem mk_InvalidText___init__ (S : He.SaysD fa fn K) (len : ∀ vs H Q E, sp vs H Q E → vs.length = 2)
    (hb : ∀ (cdv : Value) (A : Around) (outer : List Env) (s : Shared) (H : Hp) (vs : List V) (Q : VK) (E : XK), A.guards = some [] → Room k (A.deeper (envOfC "InvalidText.__init__" (defScope s_InvalidText___init__) s.heap.objs.size (He.ma K (He.ga K "InvalidText") "__init__") cdv)) → sp vs H Q E →
      ∃ t, PSs (cxOf CX0 P w K mg base n_InvalidText___init__ "InvalidText.__init__" (defScope s_InvalidText___init__) (He.ma K (He.ga K "InvalidText") "__init__") cdv A outer s H E).nox (defBody s_InvalidText___init__) t ∧ t { nx := fun _ H' => Q .non H', rt := Q } (start n_InvalidText___init__ vs) H) : FnG P w K mg base CX0 (k + 1) (He.ma K (He.ga K "InvalidText") "__init__") sp := by
  obtain ⟨fd, F⟩ := S.def_ 9 (d := d_InvalidText___init__) rfl
  exact ok0 F sc_InvalidText___init__ (F.bindsA fun _ _ _ _ _ _ us hl => match us, hl with | [_, _], _ => rfl) len hb
theorem kp_InvalidText___init__ (S : He.SaysD fa fn K) : PySem.W.keepIn K (.ref (He.ma K (He.ga K "InvalidText") "__init__")) = true := by
  obtain ⟨fd, F⟩ := S.def_ 9 (d := d_InvalidText___init__) rfl
  exact F.kp
theorem mk__law_pen (S : He.SaysD fa fn K) (len : ∀ vs H Q E, sp vs H Q E → vs.length = 1)
    (hb : ∀ (cdv : Value) (A : Around) (outer : List Env) (s : Shared) (H : Hp) (vs : List V) (Q : VK) (E : XK), A.guards = some [] → Room k (A.deeper (envOfC "_law_pen" (defScope s__law_pen) s.heap.objs.size (He.ga K "_law_pen") cdv)) → sp vs H Q E →
      ∃ t, PSs (cxOf CX0 P w K mg base n__law_pen "_law_pen" (defScope s__law_pen) (He.ga K "_law_pen") cdv A outer s H E).nox (defBody s__law_pen) t ∧ t { nx := fun _ H' => Q .non H', rt := Q } (start n__law_pen vs) H) : FnG P w K mg base CX0 (k + 1) (He.ga K "_law_pen") sp := by
  obtain ⟨fd, F⟩ := S.def_ 10 (d := d__law_pen) rfl
  exact ok0 F sc__law_pen (F.bindsA fun _ _ _ _ _ _ us hl => match us, hl with | [_], _ => rfl) len hb
theorem kp__law_pen (S : He.SaysD fa fn K) : PySem.W.keepIn K (.ref (He.ga K "_law_pen")) = true := by
  obtain ⟨fd, F⟩ := S.def_ 10 (d := d__law_pen) rfl
  exact F.kp
theorem mk__law_draw (S : He.SaysD fa fn K) (len : ∀ vs H Q E, sp vs H Q E → vs.length = 2)
    (hb : ∀ (cdv : Value) (A : Around) (outer : List Env) (s : Shared) (H : Hp) (vs : List V) (Q : VK) (E : XK), A.guards = some [] → Room k (A.deeper (envOfC "_law_draw" (defScope s__law_draw) s.heap.objs.size (He.ga K "_law_draw") cdv)) → sp vs H Q E →
      ∃ t, PSs (cxOf CX0 P w K mg base n__law_draw "_law_draw" (defScope s__law_draw) (He.ga K "_law_draw") cdv A outer s H E).nox (defBody s__law_draw) t ∧ t { nx := fun _ H' => Q .non H', rt := Q } (start n__law_draw vs) H) : FnG P w K mg base CX0 (k + 1) (He.ga K "_law_draw") sp := by
  obtain ⟨fd, F⟩ := S.def_ 11 (d := d__law_draw) rfl
  exact ok0 F sc__law_draw (F.bindsA fun _ _ _ _ _ _ us hl => match us, hl with | [_, _], _ => rfl) len hb
theorem kp__law_draw (S : He.SaysD fa fn K) : PySem.W.keepIn K (.ref (He.ga K "_law_draw")) = true := by
  obtain ⟨fd, F⟩ := S.def_ 11 (d := d__law_draw) rfl
  exact F.kp
theorem mk__law_pick (S : He.SaysD fa fn K) (len : ∀ vs H Q E, sp vs H Q E → vs.length = 2)
    (hb : ∀ (cdv : Value) (A : Around) (outer : List Env) (s : Shared) (H : Hp) (vs : List V) (Q : VK) (E : XK), A.guards = some [] → Room k (A.deeper (envOfC "_law_pick" (defScope s__law_pick) s.heap.objs.size (He.ga K "_law_pick") cdv)) → sp vs H Q E →
      ∃ t, PSs (cxOf CX0 P w K mg base n__law_pick "_law_pick" (defScope s__law_pick) (He.ga K "_law_pick") cdv A outer s H E).nox (defBody s__law_pick) t ∧ t { nx := fun _ H' => Q .non H', rt := Q } (start n__law_pick vs) H) : FnG P w K mg base CX0 (k + 1) (He.ga K "_law_pick") sp := by
  obtain ⟨fd, F⟩ := S.def_ 12 (d := d__law_pick) rfl
  exact ok0 F sc__law_pick (F.bindsA fun _ _ _ _ _ _ us hl => match us, hl with | [_, _], _ => rfl) len hb
theorem kp__law_pick (S : He.SaysD fa fn K) : PySem.W.keepIn K (.ref (He.ga K "_law_pick")) = true := by
  obtain ⟨fd, F⟩ := S.def_ 12 (d := d__law_pick) rfl
  exact F.kp
theorem mk__law_prime (S : He.SaysD fa fn K) (len : ∀ vs H Q E, sp vs H Q E → vs.length = 1)
    (hb : ∀ (cdv : Value) (A : Around) (outer : List Env) (s : Shared) (H : Hp) (vs : List V) (Q : VK) (E : XK), A.guards = some [] → Room k (A.deeper (envOfC "_law_prime" (defScope s__law_prime) s.heap.objs.size (He.ga K "_law_prime") cdv)) → sp vs H Q E →
      ∃ t, PSs (cxOf CX0 P w K mg base n__law_prime "_law_prime" (defScope s__law_prime) (He.ga K "_law_prime") cdv A outer s H E).nox (defBody s__law_prime) t ∧ t { nx := fun _ H' => Q .non H', rt := Q } (start n__law_prime vs) H) : FnG P w K mg base CX0 (k + 1) (He.ga K "_law_prime") sp := by
  obtain ⟨fd, F⟩ := S.def_ 13 (d := d__law_prime) rfl
  exact ok0 F sc__law_prime (F.bindsA fun _ _ _ _ _ _ us hl => match us, hl with | [_], _ => rfl) len hb
theorem kp__law_prime (S : He.SaysD fa fn K) : PySem.W.keepIn K (.ref (He.ga K "_law_prime")) = true := by
  obtain ⟨fd, F⟩ := S.def_ 13 (d := d__law_prime) rfl
  exact F.kp
theorem mk__law_odd (S : He.SaysD fa fn K) (len : ∀ vs H Q E, sp vs H Q E → vs.length = 1)
    (hb : ∀ (cdv : Value) (A : Around) (outer : List Env) (s : Shared) (H : Hp) (vs : List V) (Q : VK) (E : XK), A.guards = some [] → Room k (A.deeper (envOfC "_law_odd" (defScope s__law_odd) s.heap.objs.size (He.ga K "_law_odd") cdv)) → sp vs H Q E →
      ∃ t, PSs (cxOf CX0 P w K mg base n__law_odd "_law_odd" (defScope s__law_odd) (He.ga K "_law_odd") cdv A outer s H E).nox (defBody s__law_odd) t ∧ t { nx := fun _ H' => Q .non H', rt := Q } (start n__law_odd vs) H) : FnG P w K mg base CX0 (k + 1) (He.ga K "_law_odd") sp := by
  obtain ⟨fd, F⟩ := S.def_ 14 (d := d__law_odd) rfl
  exact ok0 F sc__law_odd (F.bindsA fun _ _ _ _ _ _ us hl => match us, hl with | [_], _ => rfl) len hb
theorem kp__law_odd (S : He.SaysD fa fn K) : PySem.W.keepIn K (.ref (He.ga K "_law_odd")) = true := by
  obtain ⟨fd, F⟩ := S.def_ 14 (d := d__law_odd) rfl
  exact F.kp
theorem mk__law_made_field (S : He.SaysD fa fn K) (len : ∀ vs H Q E, sp vs H Q E → vs.length = 1)
    (hb : ∀ (cdv : Value) (A : Around) (outer : List Env) (s : Shared) (H : Hp) (vs : List V) (Q : VK) (E : XK), A.guards = some [] → Room k (A.deeper (envOfC "_law_made_field" (defScope s__law_made_field) s.heap.objs.size (He.ga K "_law_made_field") cdv)) → sp vs H Q E →
      ∃ t, PSs (cxOf CX0 P w K mg base n__law_made_field "_law_made_field" (defScope s__law_made_field) (He.ga K "_law_made_field") cdv A outer s H E).nox (defBody s__law_made_field) t ∧ t { nx := fun _ H' => Q .non H', rt := Q } (start n__law_made_field vs) H) : FnG P w K mg base CX0 (k + 1) (He.ga K "_law_made_field") sp := by
  obtain ⟨fd, F⟩ := S.def_ 15 (d := d__law_made_field) rfl
  exact ok0 F sc__law_made_field (F.bindsA fun _ _ _ _ _ _ us hl => match us, hl with | [_], _ => rfl) len hb
theorem kp__law_made_field (S : He.SaysD fa fn K) : PySem.W.keepIn K (.ref (He.ga K "_law_made_field")) = true := by
  obtain ⟨fd, F⟩ := S.def_ 15 (d := d__law_made_field) rfl
  exact F.kp
theorem mk__law_is_whole (S : He.SaysD fa fn K) (len : ∀ vs H Q E, sp vs H Q E → vs.length = 1)
    (hb : ∀ (cdv : Value) (A : Around) (outer : List Env) (s : Shared) (H : Hp) (vs : List V) (Q : VK) (E : XK), A.guards = some [] → Room k (A.deeper (envOfC "_law_is_whole" (defScope s__law_is_whole) s.heap.objs.size (He.ga K "_law_is_whole") cdv)) → sp vs H Q E →
      ∃ t, PSs (cxOf CX0 P w K mg base n__law_is_whole "_law_is_whole" (defScope s__law_is_whole) (He.ga K "_law_is_whole") cdv A outer s H E).nox (defBody s__law_is_whole) t ∧ t { nx := fun _ H' => Q .non H', rt := Q } (start n__law_is_whole vs) H) : FnG P w K mg base CX0 (k + 1) (He.ga K "_law_is_whole") sp := by
  obtain ⟨fd, F⟩ := S.def_ 16 (d := d__law_is_whole) rfl
  exact ok0 F sc__law_is_whole (F.bindsA fun _ _ _ _ _ _ us hl => match us, hl with | [_], _ => rfl) len hb
theorem kp__law_is_whole (S : He.SaysD fa fn K) : PySem.W.keepIn K (.ref (He.ga K "_law_is_whole")) = true := by
  obtain ⟨fd, F⟩ := S.def_ 16 (d := d__law_is_whole) rfl
  exact F.kp
theorem mk__law_is_prime (S : He.SaysD fa fn K) (len : ∀ vs H Q E, sp vs H Q E → vs.length = 1)
    (hb : ∀ (cdv : Value) (A : Around) (outer : List Env) (s : Shared) (H : Hp) (vs : List V) (Q : VK) (E : XK), A.guards = some [] → Room k (A.deeper (envOfC "_law_is_prime" (defScope s__law_is_prime) s.heap.objs.size (He.ga K "_law_is_prime") cdv)) → sp vs H Q E →
      ∃ t, PSs (cxOf CX0 P w K mg base n__law_is_prime "_law_is_prime" (defScope s__law_is_prime) (He.ga K "_law_is_prime") cdv A outer s H E).nox (defBody s__law_is_prime) t ∧ t { nx := fun _ H' => Q .non H', rt := Q } (start n__law_is_prime vs) H) : FnG P w K mg base CX0 (k + 1) (He.ga K "_law_is_prime") sp := by
  obtain ⟨fd, F⟩ := S.def_ 17 (d := d__law_is_prime) rfl
  exact ok0 F sc__law_is_prime (F.bindsA fun _ _ _ _ _ _ us hl => match us, hl with | [_], _ => rfl) len hb
theorem kp__law_is_prime (S : He.SaysD fa fn K) : PySem.W.keepIn K (.ref (He.ga K "_law_is_prime")) = true := by
  obtain ⟨fd, F⟩ := S.def_ 17 (d := d__law_is_prime) rfl
  exact F.kp
theorem mk__law_drawn_prime (S : He.SaysD fa fn K) (len : ∀ vs H Q E, sp vs H Q E → vs.length = 1)
    (hb : ∀ (cdv : Value) (A : Around) (outer : List Env) (s : Shared) (H : Hp) (vs : List V) (Q : VK) (E : XK), A.guards = some [] → Room k (A.deeper (envOfC "_law_drawn_prime" (defScope s__law_drawn_prime) s.heap.objs.size (He.ga K "_law_drawn_prime") cdv)) → sp vs H Q E →
      ∃ t, PSs (cxOf CX0 P w K mg base n__law_drawn_prime "_law_drawn_prime" (defScope s__law_drawn_prime) (He.ga K "_law_drawn_prime") cdv A outer s H E).nox (defBody s__law_drawn_prime) t ∧ t { nx := fun _ H' => Q .non H', rt := Q } (start n__law_drawn_prime vs) H) : FnG P w K mg base CX0 (k + 1) (He.ga K "_law_drawn_prime") sp := by
  obtain ⟨fd, F⟩ := S.def_ 18 (d := d__law_drawn_prime) rfl
  exact ok0 F sc__law_drawn_prime (F.bindsA fun _ _ _ _ _ _ us hl => match us, hl with | [_], _ => rfl) len hb
theorem kp__law_drawn_prime (S : He.SaysD fa fn K) : PySem.W.keepIn K (.ref (He.ga K "_law_drawn_prime")) = true := by
  obtain ⟨fd, F⟩ := S.def_ 18 (d := d__law_drawn_prime) rfl
  exact F.kp
theorem mk__law_is_fine (S : He.SaysD fa fn K) (len : ∀ vs H Q E, sp vs H Q E → vs.length = 1)
    (hb : ∀ (cdv : Value) (A : Around) (outer : List Env) (s : Shared) (H : Hp) (vs : List V) (Q : VK) (E : XK), A.guards = some [] → Room k (A.deeper (envOfC "_law_is_fine" (defScope s__law_is_fine) s.heap.objs.size (He.ga K "_law_is_fine") cdv)) → sp vs H Q E →
      ∃ t, PSs (cxOf CX0 P w K mg base n__law_is_fine "_law_is_fine" (defScope s__law_is_fine) (He.ga K "_law_is_fine") cdv A outer s H E).nox (defBody s__law_is_fine) t ∧ t { nx := fun _ H' => Q .non H', rt := Q } (start n__law_is_fine vs) H) : FnG P w K mg base CX0 (k + 1) (He.ga K "_law_is_fine") sp := by
  obtain ⟨fd, F⟩ := S.def_ 19 (d := d__law_is_fine) rfl
  exact ok0 F sc__law_is_fine (F.bindsA fun _ _ _ _ _ _ us hl => match us, hl with | [_], _ => rfl) len hb
theorem kp__law_is_fine (S : He.SaysD fa fn K) : PySem.W.keepIn K (.ref (He.ga K "_law_is_fine")) = true := by
  obtain ⟨fd, F⟩ := S.def_ 19 (d := d__law_is_fine) rfl
  exact F.kp
theorem mk__law_refused (S : He.SaysD fa fn K) (len : ∀ vs H Q E, sp vs H Q E → vs.length = 1)
    (hb : ∀ (cdv : Value) (A : Around) (outer : List Env) (s : Shared) (H : Hp) (vs : List V) (Q : VK) (E : XK), A.guards = some [] → Room k (A.deeper (envOfC "_law_refused" (defScope s__law_refused) s.heap.objs.size (He.ga K "_law_refused") cdv)) → sp vs H Q E →
      ∃ t, PSs (cxOf CX0 P w K mg base n__law_refused "_law_refused" (defScope s__law_refused) (He.ga K "_law_refused") cdv A outer s H E).nox (defBody s__law_refused) t ∧ t { nx := fun _ H' => Q .non H', rt := Q } (start n__law_refused vs) H) : FnG P w K mg base CX0 (k + 1) (He.ga K "_law_refused") sp := by
  obtain ⟨fd, F⟩ := S.def_ 20 (d := d__law_refused) rfl
  exact ok0 F sc__law_refused (F.bindsA fun _ _ _ _ _ _ us hl => match us, hl with | [_], _ => rfl) len hb
theorem kp__law_refused (S : He.SaysD fa fn K) : PySem.W.keepIn K (.ref (He.ga K "_law_refused")) = true := by
  obtain ⟨fd, F⟩ := S.def_ 20 (d := d__law_refused) rfl
  exact F.kp
theorem mk__law_read (S : He.SaysD fa fn K) (len : ∀ vs H Q E, sp vs H Q E → vs.length = 1)
    (hb : ∀ (cdv : Value) (A : Around) (outer : List Env) (s : Shared) (H : Hp) (vs : List V) (Q : VK) (E : XK), A.guards = some [] → Room k (A.deeper (envOfC "_law_read" (defScope s__law_read) s.heap.objs.size (He.ga K "_law_read") cdv)) → sp vs H Q E →
      ∃ t, PSs (cxOf CX0 P w K mg base n__law_read "_law_read" (defScope s__law_read) (He.ga K "_law_read") cdv A outer s H E).nox (defBody s__law_read) t ∧ t { nx := fun _ H' => Q .non H', rt := Q } (start n__law_read vs) H) : FnG P w K mg base CX0 (k + 1) (He.ga K "_law_read") sp := by
  obtain ⟨fd, F⟩ := S.def_ 21 (d := d__law_read) rfl
  exact ok0 F sc__law_read (F.bindsA fun _ _ _ _ _ _ us hl => match us, hl with | [_], _ => rfl) len hb
theorem kp__law_read (S : He.SaysD fa fn K) : PySem.W.keepIn K (.ref (He.ga K "_law_read")) = true := by
  obtain ⟨fd, F⟩ := S.def_ 21 (d := d__law_read) rfl
  exact F.kp
theorem mk__law_bent_name (S : He.SaysD fa fn K) (len : ∀ vs H Q E, sp vs H Q E → vs.length = 2)
    (hb : ∀ (cdv : Value) (A : Around) (outer : List Env) (s : Shared) (H : Hp) (vs : List V) (Q : VK) (E : XK), A.guards = some [] → Room k (A.deeper (envOfC "_law_bent_name" (defScope s__law_bent_name) s.heap.objs.size (He.ga K "_law_bent_name") cdv)) → sp vs H Q E →
      ∃ t, PSs (cxOf CX0 P w K mg base n__law_bent_name "_law_bent_name" (defScope s__law_bent_name) (He.ga K "_law_bent_name") cdv A outer s H E).nox (defBody s__law_bent_name) t ∧ t { nx := fun _ H' => Q .non H', rt := Q } (start n__law_bent_name vs) H) : FnG P w K mg base CX0 (k + 1) (He.ga K "_law_bent_name") sp := by
  obtain ⟨fd, F⟩ := S.def_ 22 (d := d__law_bent_name) rfl
  exact ok0 F sc__law_bent_name (F.bindsA fun _ _ _ _ _ _ us hl => match us, hl with | [_, _], _ => rfl) len hb
theorem kp__law_bent_name (S : He.SaysD fa fn K) : PySem.W.keepIn K (.ref (He.ga K "_law_bent_name")) = true := by
  obtain ⟨fd, F⟩ := S.def_ 22 (d := d__law_bent_name) rfl
  exact F.kp
theorem mk_law (S : He.SaysD fa fn K) (len : ∀ vs H Q E, sp vs H Q E → vs.length = 1)
    (hb : ∀ (cdv : Value) (A : Around) (outer : List Env) (s : Shared) (H : Hp) (vs : List V) (Q : VK) (E : XK), A.guards = some [] → Room k (A.deeper (envOfC "law" (defScope s_law) s.heap.objs.size (He.ga K "law") cdv)) → sp vs H Q E →
      ∃ t, PSs (cxOf CX0 P w K mg base n_law "law" (defScope s_law) (He.ga K "law") cdv A outer s H E).nox (defBody s_law) t ∧ t { nx := fun _ H' => Q .non H', rt := Q } (start n_law vs) H) : FnG P w K mg base CX0 (k + 1) (He.ga K "law") sp := by
  obtain ⟨fd, F⟩ := S.def_ 23 (d := d_law) rfl
  exact ok0 F sc_law (F.bindsA fun _ _ _ _ _ _ us hl => match us, hl with | [_], _ => rfl) len hb
theorem kp_law (S : He.SaysD fa fn K) : PySem.W.keepIn K (.ref (He.ga K "law")) = true := by
  obtain ⟨fd, F⟩ := S.def_ 23 (d := d_law) rfl
  exact F.kp
end
end K01

/-! The mathematics of the fractions: the reduced pair, common bottoms. -/
namespace Num
open Rat
theorem den_pos' (q : Rat) : (0 : Int) < (q.den : Int) := Int.natCast_pos.mpr q.den_pos
/-- the divisor with the sign of the bottom -/
def dvs (t b : Int) : Int := if b < 0 then -((Nat.gcd t.natAbs b.natAbs : Nat) : Int) else ((Nat.gcd t.natAbs b.natAbs : Nat) : Int)
theorem dvs_ex {t b : Int} (hb : b ≠ 0) : ∃ (t' b' : Int), t = dvs t b * t' ∧ b = dvs t b * b' ∧ dvs t b ≠ 0 ∧ 0 < b' ∧ (t /. b).num = t' ∧ ((t /. b).den : Int) = b' := by
  have gpos : 0 < Nat.gcd t.natAbs b.natAbs := Nat.gcd_pos_of_pos_right _ (Int.natAbs_pos.mpr hb)
  have gt : ((Nat.gcd t.natAbs b.natAbs : Nat) : Int) ∣ t := Int.natAbs_dvd_natAbs.mp (Nat.gcd_dvd_left _ _)
  have gb : ((Nat.gcd t.natAbs b.natAbs : Nat) : Int) ∣ b := Int.natAbs_dvd_natAbs.mp (Nat.gcd_dvd_right _ _)
  have hn := Rat.num_divInt t b
  have hd := Rat.den_divInt t b
  have eg : Int.gcd b t = Nat.gcd t.natAbs b.natAbs := Nat.gcd_comm _ _
  rw [eg] at hn hd
  rw [if_neg hb] at hd
  unfold dvs
  generalize Nat.gcd t.natAbs b.natAbs = g at *
  obtain ⟨x, ex⟩ := gt
  obtain ⟨y, ey⟩ := gb
  have g0 : (0 : Int) < (g : Int) := Int.natCast_pos.mpr gpos
  by_cases h : b < 0
  · rw [if_pos h]
    have sg : b.sign = -1 := Int.sign_eq_neg_one_of_neg h
    have y0 : y < 0 := by
      by_cases c : y < 0
      · exact c
      · have := Int.mul_nonneg (Int.le_of_lt g0) (Int.not_lt.mp c)
        omega
    refine ⟨-x, -y, by rw [Int.neg_mul_neg]; exact ex, by rw [Int.neg_mul_neg]; exact ey, by omega, by omega, ?_, ?_⟩
    · rw [hn, sg, ex, ← Int.mul_assoc, Int.mul_comm (-1), Int.mul_assoc, Int.mul_ediv_cancel_left _ (by omega)]
      omega
    · rw [hd, Int.natCast_ediv, ey]
      have : (((g : Int) * y).natAbs : Int) = (g : Int) * (-y) := by
        rw [Int.mul_neg]
        have : (g : Int) * y < 0 := by rw [← ey]; exact h
        omega
      rw [this, Int.mul_ediv_cancel_left _ (by omega)]
  · rw [if_neg h]
    have bp : 0 < b := by omega
    have sg : b.sign = 1 := Int.sign_eq_one_of_pos bp
    have y0 : 0 < y := by
      by_cases c : 0 < y
      · exact c
      · have := Int.mul_nonpos_of_nonneg_of_nonpos (Int.le_of_lt g0) (Int.not_lt.mp c)
        omega
    refine ⟨x, y, ex, ey, by omega, y0, ?_, ?_⟩
    · rw [hn, sg, Int.one_mul, ex, Int.mul_ediv_cancel_left _ (by omega)]
    · rw [hd, Int.natCast_ediv, ey]
      have : (((g : Int) * y).natAbs : Int) = (g : Int) * y := by
        have : 0 < (g : Int) * y := by rw [← ey]; exact bp
        omega
      rw [this, Int.mul_ediv_cancel_left _ (by omega)]
theorem dvs_out {t b : Int} (hb : b ≠ 0) : dvs t b ≠ 0 ∧ t.fdiv (dvs t b) = (t /. b).num ∧ b.fdiv (dvs t b) = ((t /. b).den : Int) ∧ (b = dvs t b ↔ (t /. b).den = 1) ∧ (t /. b).num.natAbs ≤ t.natAbs ∧ (t /. b).den ≤ b.natAbs := by
  obtain ⟨t', b', h1, h2, h3, h4, h5, h6⟩ := dvs_ex (t := t) hb
  generalize dvs t b = d at *
  have hd1 : 1 ≤ d.natAbs := by omega
  refine ⟨h3, ?_, ?_, ⟨fun h => ?_, fun h => ?_⟩, ?_, ?_⟩
  · rw [h5]
    conv => lhs; rw [h1]
    exact Int.mul_fdiv_cancel_left _ h3
  · rw [h6]
    conv => lhs; rw [h2]
    exact Int.mul_fdiv_cancel_left _ h3
  · have e : d * b' = d * 1 := by rw [← h2, Int.mul_one]; exact h
    have := Int.eq_of_mul_eq_mul_left h3 e
    omega
  · have e : b' = 1 := by omega
    rw [e, Int.mul_one] at h2
    exact h2
  · rw [h5]
    conv => rhs; rw [h1, Int.natAbs_mul]
    exact Nat.le_mul_of_pos_left _ hd1
  · have e : (t /. b).den = b'.natAbs := by omega
    rw [e]
    conv => rhs; rw [h2, Int.natAbs_mul]
    exact Nat.le_mul_of_pos_left _ hd1
theorem gcd_low (q : Rat) : Nat.gcd q.num.natAbs (q.den : Int).natAbs = 1 := q.reduced
theorem dvs_one (t : Int) : (t /. 1).num = t ∧ (t /. 1).den = 1 := by
  obtain ⟨h1, h2, h3, h4, h5, h6⟩ := dvs_out (t := t) (b := 1) (by decide)
  have e : dvs t 1 = 1 := by
    unfold dvs
    rw [if_neg (by decide)]
    show ((Nat.gcd t.natAbs 1 : Nat) : Int) = 1
    rw [Nat.gcd_one_right]
    rfl
  rw [e, Int.fdiv_one] at h2
  exact ⟨h2.symm, h4.mp e.symm⟩
/-! ### the operations -/
theorem add_is (a b : Rat) : (a.num * b.den + b.num * a.den) /. ((a.den : Int) * b.den) = a + b := by
  rw [Rat.add_def', ← Rat.divInt_ofNat, Int.natCast_mul]
theorem sub_is (a b : Rat) : (a.num * b.den - b.num * a.den) /. ((a.den : Int) * b.den) = a - b := by
  rw [Rat.sub_def', ← Rat.divInt_ofNat, Int.natCast_mul]
theorem mul_is (a b : Rat) : (a.num * b.num) /. ((a.den : Int) * b.den) = a * b := by
  rw [Rat.mul_def', ← Rat.divInt_ofNat, Int.natCast_mul]
/-! ### a common bottom -/
theorem divInt_add_same (a b c : Int) (h : c ≠ 0) : (a + b) /. c = a /. c + b /. c := by
  rw [Rat.divInt_add_divInt _ _ h h, ← Int.add_mul, Rat.divInt_mul_right h]
theorem over_L {q : Rat} {L : Int} (hL : L ≠ 0) (h : (q.den : Int) ∣ L) : (q.num * (L / q.den)) /. L = q := by
  obtain ⟨x, ex⟩ := h
  have d0 := den_pos' q
  have x0 : x ≠ 0 := by
    intro z
    rw [z, Int.mul_zero] at ex
    exact hL ex
  have e : L / (q.den : Int) = x := by
    rw [ex]
    exact Int.mul_ediv_cancel_left _ (by omega)
  rw [e, ex, Rat.divInt_mul_right x0, Rat.num_divInt_den]
theorem sum_L {L : Int} (hL : L ≠ 0) : ∀ qs : List Rat, (∀ q ∈ qs, (q.den : Int) ∣ L) → (qs.map fun q => q.num * (L / q.den)).sum /. L = qs.sum
  | [], _ => by
    show (0 : Int) /. L = (0 : Rat)
    exact Rat.zero_divInt L
  | q :: qs, h => by
    rw [List.map_cons, List.sum_cons, List.sum_cons, divInt_add_same _ _ _ hL, over_L hL (h q List.mem_cons_self), sum_L hL qs fun x hx => h x (List.mem_cons_of_mem _ hx)]
/-! ### sizes -/
def Bq (n : Nat) (q : Rat) : Prop := q.num.natAbs < 2 ^ n ∧ q.den < 2 ^ n
theorem Bq.mono {m n : Nat} {q : Rat} (h : Bq m q) (hl : m ≤ n) : Bq n q := ⟨Nat.lt_of_lt_of_le h.1 (Nat.pow_le_pow_right (by decide) hl), Nat.lt_of_lt_of_le h.2 (Nat.pow_le_pow_right (by decide) hl)⟩
theorem bq_div {t b : Int} {n : Nat} (hb : b ≠ 0) (h1 : t.natAbs < 2 ^ n) (h2 : b.natAbs < 2 ^ n) : Bq n (t /. b) := by
  obtain ⟨_, _, _, _, h5, h6⟩ := dvs_out (t := t) hb
  exact ⟨Nat.lt_of_le_of_lt h5 h1, Nat.lt_of_le_of_lt h6 h2⟩
theorem add_lt {i j : Int} {n : Nat} (h1 : i.natAbs < 2 ^ n) (h2 : j.natAbs < 2 ^ n) : (i + j).natAbs < 2 ^ (n + 1) := by
  rw [Nat.pow_succ]
  omega
theorem sub_lt {i j : Int} {n : Nat} (h1 : i.natAbs < 2 ^ n) (h2 : j.natAbs < 2 ^ n) : (i - j).natAbs < 2 ^ (n + 1) := by
  rw [Nat.pow_succ]
  omega
end Num

/-! Both kinds of fields over Rat: their operations, the rules of numbers, remainders of fractions. -/
namespace Num
open Rat
inductive Fk where
  | fr
  | md (p : Int)
def Fk.code : Fk → Int
  | .fr => 0
  | .md p => p
def Fk.ok : Fk → Prop
  | .fr => True
  | .md p => Md p
def iq (i : Int) : Rat := ((i : Int) : Rat)
theorem iq_num (i : Int) : (iq i).num = i := rfl
theorem iq_den (i : Int) : (iq i).den = 1 := rfl
theorem iq_eq {q : Rat} (h : q.den = 1) : q = iq q.num := by
  apply Rat.ext
  · rfl
  · exact h
def addG : Fk → Rat → Rat → Rat
  | .fr, a, b => a + b
  | .md p, a, b => iq ((a.num + b.num) % p)
def subG : Fk → Rat → Rat → Rat
  | .fr, a, b => a - b
  | .md p, a, b => iq ((a.num - b.num) % p)
def mulG : Fk → Rat → Rat → Rat
  | .fr, a, b => a * b
  | .md p, a, b => iq ((a.num * b.num) % p)
def Sz : Fk → Nat → Rat → Prop
  | .fr, n, q => Bq n q
  | .md p, _, q => q.den = 1 ∧ 0 ≤ q.num ∧ q.num < p
theorem Sz.mono {φ : Fk} {m n : Nat} {q : Rat} (h : Sz φ m q) (hl : m ≤ n) : Sz φ n q := by
  cases φ with
  | fr => exact Bq.mono h hl
  | md p => exact h
theorem emod_r (a b n : Int) : (a * (b % n)) % n = (a * b) % n := by
  rw [Int.mul_emod, Int.emod_emod, ← Int.mul_emod]
theorem emod_l (a b n : Int) : (a % n * b) % n = (a * b) % n := by
  rw [Int.mul_emod, Int.emod_emod, ← Int.mul_emod]
theorem sz_md {p i : Int} {n : Nat} (h : Md p) : Sz (.md p) n (iq (i % p)) := by
  have := h.lo
  exact ⟨rfl, Int.emod_nonneg _ (by omega), Int.emod_lt_of_pos _ (by omega)⟩
theorem md_self {p : Int} {n : Nat} {a : Rat} (h : Sz (.md p) n a) : iq (a.num % p) = a := by
  obtain ⟨h1, h2, h3⟩ := h
  rw [Int.emod_eq_of_lt h2 h3]
  exact (iq_eq h1).symm
theorem addG_comm (φ : Fk) (a b : Rat) : addG φ a b = addG φ b a := by
  cases φ with
  | fr => exact Rat.add_comm a b
  | md p => simp only [addG, Int.add_comm]
theorem mulG_comm (φ : Fk) (a b : Rat) : mulG φ a b = mulG φ b a := by
  cases φ with
  | fr => exact Rat.mul_comm a b
  | md p => simp only [mulG, Int.mul_comm]
theorem addG_assoc (φ : Fk) (a b c : Rat) : addG φ (addG φ a b) c = addG φ a (addG φ b c) := by
  cases φ with
  | fr => exact Rat.add_assoc a b c
  | md p => simp only [addG, iq_num, Int.emod_add_emod, Int.add_emod_emod, Int.add_assoc]
theorem mulG_assoc (φ : Fk) (a b c : Rat) : mulG φ (mulG φ a b) c = mulG φ a (mulG φ b c) := by
  cases φ with
  | fr => exact Rat.mul_assoc a b c
  | md p => simp only [mulG, iq_num, emod_l, emod_r, Int.mul_assoc]
theorem mulG_add (φ : Fk) (a b c : Rat) : mulG φ a (addG φ b c) = addG φ (mulG φ a b) (mulG φ a c) := by
  cases φ with
  | fr => exact Rat.mul_add a b c
  | md p => simp only [mulG, addG, iq_num, emod_r, Int.emod_add_emod, Int.add_emod_emod, Int.mul_add]
theorem subG_add {φ : Fk} {n : Nat} {a b : Rat} (h : Sz φ n a) : addG φ (subG φ a b) b = a := by
  cases φ with
  | fr => exact Rat.sub_add_cancel
  | md p =>
    simp only [addG, subG, iq_num, Int.emod_add_emod, Int.sub_add_cancel]
    exact md_self h
theorem subG_self (φ : Fk) (a : Rat) : subG φ a a = 0 := by
  cases φ with
  | fr => exact Rat.sub_self
  | md p =>
    simp only [subG, Int.sub_self, Int.zero_emod]
    rfl
theorem addG_zero {φ : Fk} {n : Nat} {a : Rat} (h : Sz φ n a) : addG φ a 0 = a := by
  cases φ with
  | fr => exact Rat.add_zero a
  | md p =>
    have e : (0 : Rat).num = 0 := rfl
    simp only [addG, e, Int.add_zero]
    exact md_self h
theorem mulG_one {φ : Fk} {n : Nat} {a : Rat} (h : Sz φ n a) : mulG φ a 1 = a := by
  cases φ with
  | fr => exact Rat.mul_one a
  | md p =>
    have e : (1 : Rat).num = 1 := rfl
    simp only [mulG, e, Int.mul_one]
    exact md_self h
theorem mulG_zero (φ : Fk) (a : Rat) : mulG φ a 0 = 0 := by
  cases φ with
  | fr => exact Rat.mul_zero a
  | md p =>
    have e : (0 : Rat).num = 0 := rfl
    simp only [mulG, e, Int.mul_zero, Int.zero_emod]
    rfl
theorem sub_sub {φ : Fk} {n : Nat} {a : Rat} (h : Sz φ n a) : subG φ 0 (subG φ 0 a) = a := by
  cases φ with
  | fr =>
    show (0 : Rat) - (0 - a) = a
    rw [Rat.sub_eq_add_neg, Rat.sub_eq_add_neg, Rat.zero_add, Rat.zero_add, Rat.neg_neg]
  | md p =>
    have e : (0 : Rat).num = 0 := rfl
    simp only [subG, e, iq_num, Int.sub_emod_emod]
    have e2 : (0 : Int) - (0 - a.num) = a.num := by omega
    rw [e2]
    exact md_self h
/-! ### coprime to the modulus -/
theorem cop {p x : Int} (m : Md p) (h : ¬ p ∣ x) : Nat.gcd p.natAbs x.natAbs = 1 := by
  have hlo := m.lo
  have h0 := Int.emod_nonneg x (show p ≠ 0 by omega)
  have h1 := Int.emod_lt_of_pos x (show 0 < p by omega)
  have hz : x % p ≠ 0 := fun z => h (Int.dvd_of_emod_eq_zero z)
  have g := m.pr (x % p) (by omega) h1
  have e : Int.gcd (x % p) p = Int.gcd x p := by
    rw [Int.emod_def, Int.gcd_sub_mul_left_left]
  rw [e] at g
  rw [Nat.gcd_comm]
  exact g
theorem dvd_mul_cop {p x y : Int} (m : Md p) (hy : ¬ p ∣ y) (h : p ∣ x * y) : p ∣ x := by
  have c := cop m hy
  rw [← Int.natAbs_dvd_natAbs] at h ⊢
  rw [Int.natAbs_mul] at h
  exact Nat.Coprime.dvd_of_dvd_mul_right c h
theorem not_dvd_mul {p x y : Int} (m : Md p) (hx : ¬ p ∣ x) (hy : ¬ p ∣ y) : ¬ p ∣ x * y := fun h => hx (dvd_mul_cop m hy h)
theorem eq_of_dvd {p a b : Int} (a0 : 0 ≤ a) (ap : a < p) (b0 : 0 ≤ b) (bp : b < p) (h : p ∣ a - b) : a = b := by
  have e : (a - b) % p = 0 := Int.emod_eq_zero_of_dvd h
  have e2 : a % p = b % p := Int.emod_eq_emod_iff_emod_sub_eq_zero.mpr e
  rw [Int.emod_eq_of_lt a0 ap, Int.emod_eq_of_lt b0 bp] at e2
  exact e2
theorem dvd_of_emod {p a b : Int} (h : a % p = b % p) : p ∣ a - b := Int.dvd_of_emod_eq_zero (Int.emod_eq_emod_iff_emod_sub_eq_zero.mp h)
/-! ### quotients -/
theorem mulG_cancel {φ : Fk} {n m : Nat} {a b c : Rat} (ok : φ.ok) (ha : Sz φ n a) (hc : Sz φ m c) (hb : Sz φ n b) (b0 : b ≠ 0) (h : mulG φ c b = mulG φ a b) : c = a := by
  cases φ with
  | fr =>
    have h2 : c * b = a * b := h
    have e : c * b * b⁻¹ = a * b * b⁻¹ := by rw [h2]
    rwa [Rat.mul_assoc, Rat.mul_assoc, Rat.mul_inv_cancel b b0, Rat.mul_one, Rat.mul_one] at e
  | md p =>
    have ok : Md p := ok
    obtain ⟨a1, a2, a3⟩ := ha
    obtain ⟨b1, b2, b3⟩ := hb
    obtain ⟨c1, c2, c3⟩ := hc
    have h2 : (c.num * b.num) % p = (a.num * b.num) % p := congrArg Rat.num h
    have nb : ¬ p ∣ b.num := fun z => by
      have z2 := Int.emod_eq_zero_of_dvd z
      rw [Int.emod_eq_of_lt b2 b3] at z2
      exact b0 (Rat.num_eq_zero.mp z2)
    have d := dvd_of_emod h2
    rw [← Int.sub_mul] at d
    have e := eq_of_dvd c2 c3 a2 a3 (dvd_mul_cop ok nb d)
    rw [iq_eq c1, iq_eq a1, e]
theorem div_mul {a b : Rat} (b0 : b ≠ 0) : (a.num * b.den) /. ((a.den : Int) * b.num) * b = a := by
  have bn : b.num ≠ 0 := fun z => b0 (Rat.num_eq_zero.mp z)
  have bd : (b.den : Int) ≠ 0 := by have := den_pos' b; omega
  conv => lhs; rhs; rw [← Rat.num_divInt_den b]
  rw [Rat.divInt_mul_divInt]
  have e1 : a.num * (b.den : Int) * b.num = a.num * ((b.den : Int) * b.num) := Int.mul_assoc _ _ _
  have e2 : (a.den : Int) * b.num * (b.den : Int) = a.den * ((b.den : Int) * b.num) := by rw [Int.mul_assoc, Int.mul_comm b.num]
  rw [e1, e2, Rat.divInt_mul_right (Int.mul_ne_zero bd bn), Rat.num_divInt_den]
/-! ### remainders of fractions -/
/-- c is the remainder of q modulo p -/
def Rem (p : Int) (q : Rat) (c : Int) : Prop := ¬ p ∣ (q.den : Int) ∧ 0 ≤ c ∧ c < p ∧ (c * q.den) % p = q.num % p
theorem cross {N D : Int} (hD : D ≠ 0) : N * ((N /. D).den : Int) = (N /. D).num * D := by
  obtain ⟨t', b', h1, h2, h3, h4, h5, h6⟩ := dvs_ex (t := N) hD
  rw [h5, h6]
  generalize dvs N D = d at *
  rw [h1, h2, Int.mul_assoc, ← Int.mul_assoc t' d b', Int.mul_comm t' d, Int.mul_assoc]
theorem den_dvd {N D : Int} (hD : D ≠ 0) : ((N /. D).den : Int) ∣ D := by
  obtain ⟨t', b', h1, h2, h3, h4, h5, h6⟩ := dvs_ex (t := N) hD
  rw [h6]
  exact ⟨dvs N D, by rw [Int.mul_comm]; exact h2⟩
theorem rem_nd {p N D : Int} (hD : D ≠ 0) (h : ¬ p ∣ D) : ¬ p ∣ ((N /. D).den : Int) := fun z => h (Int.dvd_trans z (den_dvd hD))
theorem rem_is {p N D c c' : Int} (m : Md p) (hD : D ≠ 0) (nD : ¬ p ∣ D) (c0 : 0 ≤ c) (cp : c < p) (h : (c * D) % p = N % p) (r : Rem p (N /. D) c') : c' = c := by
  obtain ⟨r1, r2, r3, r4⟩ := r
  have x := cross (N := N) hD
  generalize (N /. D).num = n at *
  generalize ((N /. D).den : Int) = d at *
  refine eq_of_dvd r2 r3 c0 cp (dvd_mul_cop m (not_dvd_mul m r1 nD) ?_)
  obtain ⟨u, hu⟩ := dvd_of_emod r4
  obtain ⟨v, hv⟩ := dvd_of_emod h
  have e1 : c' * d = n + p * u := by omega
  have e2 : c * D = N + p * v := by omega
  refine ⟨u * D - v * d, ?_⟩
  have e3 : (c' - c) * (d * D) = c' * d * D - c * D * d := by
    rw [Int.sub_mul, Int.mul_assoc c' d D, Int.mul_assoc c D d, Int.mul_comm D d]
  rw [e3, e1, e2, Int.add_mul, Int.add_mul, x, Int.mul_sub, Int.mul_assoc, Int.mul_assoc]
  omega
theorem dd_ne0 (a b : Rat) : (a.den : Int) * b.den ≠ 0 := Int.mul_ne_zero (by have := den_pos' a; omega) (by have := den_pos' b; omega)
theorem rem_add {p : Int} {a b : Rat} {c e f : Int} (m : Md p) (ha : Rem p a c) (hb : Rem p b e) (h : Rem p (a + b) f) : f = (c + e) % p := by
  obtain ⟨a1, a2, a3, a4⟩ := ha
  obtain ⟨b1, b2, b3, b4⟩ := hb
  have hlo := m.lo
  rw [← add_is] at h
  refine rem_is m (dd_ne0 a b) (not_dvd_mul m a1 b1) (Int.emod_nonneg _ (by omega)) (Int.emod_lt_of_pos _ (by omega)) ?_ h
  rw [emod_l, Int.add_mul, Int.add_emod, ← Int.mul_assoc, Int.mul_comm (a.den : Int), ← Int.mul_assoc, Int.mul_emod (c * (a.den : Int)), a4, ← Int.mul_emod, Int.mul_emod (e * (b.den : Int)), b4, ← Int.mul_emod, ← Int.add_emod]
theorem rem_mul {p : Int} {a b : Rat} {c e f : Int} (m : Md p) (ha : Rem p a c) (hb : Rem p b e) (h : Rem p (a * b) f) : f = (c * e) % p := by
  obtain ⟨a1, a2, a3, a4⟩ := ha
  obtain ⟨b1, b2, b3, b4⟩ := hb
  have hlo := m.lo
  rw [← mul_is] at h
  refine rem_is m (dd_ne0 a b) (not_dvd_mul m a1 b1) (Int.emod_nonneg _ (by omega)) (Int.emod_lt_of_pos _ (by omega)) ?_ h
  have e1 : c * e * ((a.den : Int) * b.den) = c * a.den * (e * b.den) := by
    rw [Int.mul_assoc, Int.mul_assoc, ← Int.mul_assoc e, Int.mul_comm e (a.den : Int), Int.mul_assoc (a.den : Int)]
  rw [emod_l, e1, Int.mul_emod (c * (a.den : Int)), a4, b4, ← Int.mul_emod]
theorem num_nd {p : Int} {b : Rat} {e : Int} (m : Md p) (hb : Rem p b e) (e0 : e ≠ 0) : ¬ p ∣ b.num := fun z => by
  obtain ⟨b1, b2, b3, b4⟩ := hb
  rw [Int.emod_eq_zero_of_dvd z] at b4
  have d := dvd_mul_cop m b1 (Int.dvd_of_emod_eq_zero b4)
  have := Int.le_of_dvd (by omega) d
  omega
theorem rem_div {p : Int} {a b : Rat} {c e f g : Int} (m : Md p) (ha : Rem p a c) (hb : Rem p b e) (e0 : e ≠ 0) (g0 : 0 ≤ g) (gp : g < p) (hg : (g * e) % p = c) (h : Rem p ((a.num * b.den) /. ((a.den : Int) * b.num)) f) : f = g := by
  have nb := num_nd m hb e0
  obtain ⟨a1, a2, a3, a4⟩ := ha
  obtain ⟨b1, b2, b3, b4⟩ := hb
  have bn : b.num ≠ 0 := fun z => nb (by rw [z]; exact Int.dvd_zero p)
  refine rem_is m (Int.mul_ne_zero (by have := den_pos' a; omega) bn) (not_dvd_mul m a1 nb) g0 gp ?_ h
  have x1 : (g * ((a.den : Int) * b.num)) % p = (g * ((a.den : Int) * (e * b.den))) % p := by
    rw [Int.mul_emod g, Int.mul_emod (a.den : Int) b.num, ← b4, ← Int.mul_emod (a.den : Int), ← Int.mul_emod g]
  have x2 : g * ((a.den : Int) * (e * b.den)) = g * e * (a.den * b.den) := by
    rw [Int.mul_assoc g e, ← Int.mul_assoc e (a.den : Int), Int.mul_comm e (a.den : Int), Int.mul_assoc (a.den : Int)]
  have x3 : (g * e * ((a.den : Int) * b.den)) % p = (c * (a.den * b.den)) % p := by
    rw [Int.mul_emod (g * e), hg]
    exact emod_r c _ p
  rw [x1, x2, x3, ← Int.mul_assoc, Int.mul_emod (c * (a.den : Int)), a4, ← Int.mul_emod]
end Num

/-! An own exception class directly over a built-in one, whose __init__ hands on to it and stores nothing. -/
namespace Ver
open PySem PySem.Spec PyProof.Rows L2
/-- what the written part tells of such a class -/
structure ExN (K : PySem.W.Frag) (C fI : Addr) (bmB : List Value) (newId : String) : Prop where
  q : PySem.W.excInitIn K C bmB newId = true
  iC : PySem.W.findIn K (.ref C) "__init__" = some (some (.ref fI))
  tI : PySem.W.typeIn K (.ref fI) = some (.type "function")
  exC : PySem.W.subIn K (.ref C) (.type "BaseException") = some true
  tyC : PySem.W.typeIn K (.ref C) = some (.type "type")
  kC : PySem.W.keepIn K (.ref C) = true
section
variable {X : Cx} {pins : List (Addr × Obj)} {σ : L2.St} {H : Hp} {s : Shared} {a C fI : Addr} {bmB : List Value} {B newId initId : String}
theorem binit_ok {A : Around} {E : Value → Shared → Prop} {us : List Value} {Q : Value → Shared → Prop} (F : ExcBaseFacts B newId initId bmB) (q : PySem.W.excInitIn X.K C bmB newId = true) (I : Inv X pins σ H s) (e : H a = some (exo a C none))
    (hl : us.length ≤ sizeLine) (h : ∀ s', Inv X pins σ H s' → Q .none s') : wpAny (model X.prog X.w) A (call (.builtin initId) (.ref a :: us)) Q E s := by
  obtain ⟨nm, N, qn, bs, bm, hd, sn, sub, ab, col, dd, k0, k1, k2, k3, k5, hC, hT⟩ := PySem.W.excInit_of I.kIn q
  obtain ⟨t1, ho⟩ := exo_at I.hok e
  obtain ⟨hp, g, d, t, os⟩ := s
  refine wpAny_call (PySem.HandSPX.init_base F hT hC ho hl fun h' t2 k hx => h _ ?_)
  have J := I.write (t' := t) (x := a) (e := a) (o := exo a C none) (by rw [e]; exact True.intro) (.inl rfl) k ⟨_, hx⟩ (exo_ok hx)
  have same : upd H a (exo a C none) = H := funext fun b => by
    by_cases z : b = a
    · rw [z, upd_same, e]
    · exact upd_ne z
  rwa [same] at J
variable {x : Str} {e : Expr} {es : List Expr} {ta : TA} {p p1 p2 pos : Pos}
/-- its reading: self is an exception that is being made, without a dict as yet -/
def tBi (K : PySem.W.Frag) (bmB : List Value) (newId : String) (ta : TA) : TE := fun σ H Q => ta σ H fun vs H1 => ∃ (a C : Addr) (ws : List V), vs = .ref a :: ws ∧ ws.length ≤ 1000 ∧ PySem.W.excInitIn K C bmB newId = true ∧ H1 a = some (exo a C none) ∧ Q .non H1
/-- B.__init__(self, ..), B a built-in class of errors -/
theorem pe_binit {pl : Sem Bool} (F : ExcBaseFacts B newId initId bmB) (hg : Gl X x) (hm : X.mg x = none) (hv : bootBuiltins x = some (.type B)) (hty : typeOf (.type B) = pure (.type "type")) (hst : Manifest.isStub B = false) (hh : PySem.W.handedIn (.builtin initId) = true)
    (hsp : PySem.W.findCls X.K (.type B) (.type "type") "__init__" = some (.val (.builtin initId))) (ha : PA X (e :: es) ta)
    (hc : eval (.Call (.Attribute (.Name x p1) "__init__" p2) (e :: es) [] pos) X.env = (do
      let ov ← eval (.Name x p1) X.env
      standAt p2.atName
      let (f, first) ← holding [ov] (getMethod ov "__init__" pl)
      callWith pos f first (backTo pos (starEach (e :: es) X.env)) (backToKw pos (keywordEach [] X.env))) := by rfl)
    (he : starEach (e :: es) X.env = (false, eval e X.env) :: starEach es X.env := by rfl) (hpl : (backTo pos (starEach es X.env)).any (·.1) = false := by rfl) (hn : x ≠ "__name__" := by decide) (hd : (x == ("__debug__" : Str)) = false := by decide) :
    PE X (.Call (.Attribute (.Name x p1) "__init__" p2) (e :: es) [] pos) (tBi X.K bmB newId ta) := by
  refine ⟨fun pins s σ H Q I h => PySem.W.methodCall_KW (ld_blt I hg hm hv ?_ hn hd) hc⟩
  obtain ⟨m, fr⟩ := I.fr
  refine PySem.W.method_type fr I.ok.mod.kin hty hst hsp hh ?_
  show wpAny _ _ (callWith pos (Value.builtin initId) [] (backTo pos (starEach (e :: es) X.env)) []) _ _ _
  refine PyProof.Rows.callWith_method1 (thn (ha.run pos pins _ σ H _ (I.tok _) h) fun us s1 z => ?_) he hpl
  obtain ⟨vs, H1, I1, r1, a, C, ws, rfl, hl, q, ea, qq⟩ := z
  match us, r1 with
  | u0 :: ur, .cons ra rw' =>
    cases (show u0 = Value.ref a from ra)
    exact binit_ok F q I1 ea (by rw [← Paired.length rw', sizeLine_eq]; omega) fun s' J => ⟨.non, H1, J, rfl, qq⟩
/-- the exception is let go: what stood ahead stands, and it is known no more -/
theorem let_go {H1 H2 : Hp} {hp hp2 h2 : Heap} {g1 g2 : Array GenState} {d1 d2 : Drawn} {t1 t2 : Nat} {os1 os2 : OsState} (I1 : Inv X pins σ H1 ⟨hp, g1, d1, t1, os1⟩) (ha : hp.objs.size ≤ a) (k : ∀ b o, hp.get? b = some o → hp2.get? b = some o)
    (un : Un (frs X.stack) [] (upd H1 a (exo a C none)) H2 hp2 h2) (hok : HOk X.prog X.w H2 h2) (ho : os2 = os1) (hb : AllBare g2) (ea : H2 a = some (exo a C none)) :
    ∃ (t0 : Addr) (G : Heap), Inv X pins σ (del H2 a) ⟨G, g2, d2, t2, os2⟩ ∧ (∀ b o, G.get? b = some o → h2.get? b = some o) ∧ G.get? a = none ∧
      h2.get? a = some ({ cls := .ref C, dict := none, data := .fields #[.ref t0, .none, .none, .none, .bool false, .none] } : Obj) := by
  obtain ⟨t0, hoe⟩ := exo_at hok ea
  have na : H1 a = none := I1.hok.fresh ha
  obtain ⟨G, in_, out⟩ := restrict h2 fun b => decide (b ≠ a)
  have gk : ∀ b, b ≠ a → G.get? b = h2.get? b := fun b hb => in_ b (decide_eq_true hb)
  have ge : G.get? a = none := out a (by simp)
  have old : ∀ {b : Addr} {o : Obj}, hp.get? b = some o → b ≠ a := fun z => Nat.ne_of_lt (Nat.lt_of_lt_of_le (Heap.lt_size z) ha)
  have up : ∀ {b : Addr}, b ≠ a → H1 b = none → upd H1 a (exo a C none) b = none := fun hb n => by rw [upd_ne hb]; exact n
  have U : Un (frs X.stack) [] H1 (del H2 a) hp G := {
    keep := fun b o z n hf hx => (gk b (old z)).trans (un.keep b o (k b o z) (up (old z) n) hf hx)
    slot := fun b o z n hf hx => by
      obtain ⟨sl, y⟩ := un.slot b o (k b o z) (up (old z) n) hf hx
      exact ⟨sl, (gk b (old z)).trans y⟩
    free := fun b o z n hx => (del_ne (old z)).trans (un.free b o (k b o z) (up (old z) n) hx)
    there := fun b o z hx => by
      obtain ⟨o', y⟩ := un.there b o (k b o z) hx
      exact ⟨o', (gk b (old z)).trans y⟩
    tups := fun b xs z => (del_ne (ne_of_none z na)).trans (un.tups b xs ((upd_ne (ne_of_none z na)).trans z))
    frzs := fun b o v z => (del_ne (ne_of_none z na)).trans (un.frzs b o v ((upd_ne (ne_of_none z na)).trans z))
    tbls := fun b ps z => by
      obtain ⟨more, y⟩ := un.tbls b ps ((upd_ne (ne_of_none z na)).trans z)
      exact ⟨more, (del_ne (ne_of_none z na)).trans y⟩ }
  have ok3 : HOk X.prog X.w (del H2 a) G := fun b o z => by
    have hba : b ≠ a := fun e => by
      rw [e, del_same] at z
      cases z
    rw [del_ne hba] at z
    have noa : ∀ {c : Addr}, H2 c = some (.own b) → c ≠ a := fun hc => at_ne ea hc exo_own
    refine (hok b o z).stay (fun c v hc y => (gk c ?_).trans y) (fun c hc => (del_ne (noa hc)).trans hc) fun c xs hc => (del_ne (at_ne ea hc exo_tup)).trans hc
    rcases hc with hc | hc
    · rw [hc]
      exact hba
    · exact noa hc
  refine ⟨t0, G, I1.call' (ch := []) ho U ok3 hb (fun b z => absurd z (by simp)), fun b o z => ?_, ge, hoe⟩
  by_cases e : b = a
  · rw [e, ge] at z
    cases z
  · exact (gk b e).symm.trans z
/-- the promise of an __init__ that stores nothing -/
def spInitN (C : Addr) : Sp := fun vs H Q _ => ∃ a : Addr, vs = [.ref a] ∧ H a = some (exo a C none) ∧ Q .non H
theorem pmk_n {CX : CXT} {k : Nat} (F : ExcBaseFacts B newId initId bmB) (T : ExN X.K C fI bmB newId) (F1 : FnG X.prog X.w X.K X.mg X.base CX k fI (spInitN C)) (hr : Room (k + 1) X.A) (hgd : X.A.guards = some []) (hx : Passes CX X (fun _ _ _ => False)) (hg : Gl X x) (hm : X.mg x = some (.ref C))
    (hdb : (x == ("__debug__" : Str)) = false := by decide) : PMk X (.Call (.Name x p) [] [] pos) (fun _ H Q => Q (.ref C) none H) := by
  intro pins s σ H Q I h
  refine wpAny_Call_Name_kw (ld_glob I hg hm (PySem.W.callWith_K0 I.kIn T.kC ?_) hdb)
  show wpAny _ _ (call (.ref C) []) _ _ _
  obtain ⟨nm, N, qn, bs, bm, hd, sn, sub, ab, col, dd, k0, k1, k2, k3, k5, hC, hT⟩ := PySem.W.excInit_of I.kIn T.q
  obtain ⟨hp, g, dr, tk, os⟩ := s
  have big : hp.objs.size ≤ hp.objs.size + 1 := Nat.le_succ _
  have hn : H (hp.objs.size + 1) = none := I.hok.fresh big
  have kk : ∀ b o, hp.get? b = some o → ((hp.push (PySem.W.kdv_tup [])).push (PySem.HandSPX.excO C hp.objs.size)).get? b = some o := fun b o z => Heap.get?_push_of_some _ (Heap.get?_push_of_some _ z)
  have made : ((hp.push (PySem.W.kdv_tup [])).push (PySem.HandSPX.excO C hp.objs.size)).get? (hp.objs.size + 1) = some (PySem.HandSPX.excO C hp.objs.size) := by heap_get
  have I2 : Inv X pins σ (upd H (hp.objs.size + 1) (exo (hp.objs.size + 1) C none)) ⟨(hp.push (PySem.W.kdv_tup [])).push (PySem.HandSPX.excO C hp.objs.size), g, dr, tk, os⟩ :=
    I.laid (t' := tk) (a := hp.objs.size + 1) (o := exo (hp.objs.size + 1) C none) (h' := (hp.push (PySem.W.kdv_tup [])).push (PySem.HandSPX.excO C hp.objs.size)) kk big (exo_ok made)
  have q2 : spInitN C [V.ref (hp.objs.size + 1)] (upd H (hp.objs.size + 1) (exo (hp.objs.size + 1) C none)) (fun v H2 => v = .non ∧ H2 = upd H (hp.objs.size + 1) (exo (hp.objs.size + 1) C none)) (fun _ _ _ => False) := ⟨_, rfl, upd_same, rfl, rfl⟩
  refine wpAny_call (PySem.HandSPX.call_own F hT hC (PySem.W.looks_findIn I.kIn T.iC) (fun self => PySem.W.bind_fn I.kIn self T.tI) (Nat.zero_le _)
    (codeAny_mono (F1 _ X.stack _ _ [Value.ref (hp.objs.size + 1)] [V.ref (hp.objs.size + 1)] _ (fun _ _ _ => False) (made_guards hgd C []) (hr.make C [] []) (I2.env0.make C [] []) (.cons rfl .nil) q2) fun rs s' hq => ?_))
  match rs, hq with
  | .error er, hq => exact hx pins σ _ _ er s' I2 hq
  | .ok .next, hq => exact hq.elim
  | .ok .brk, hq => exact hq.elim
  | .ok .cont, hq => exact hq.elim
  | .ok (.ret u), hq =>
    obtain ⟨v, H2, os2, bare2, un2, ok2, rv, rfl, rfl⟩ := hq
    obtain ⟨h2, g2, d2, t2, os'⟩ := s'
    obtain ⟨t0, G, J, kG, ge, hoe⟩ := let_go (a := hp.objs.size + 1) (C := C) (d2 := d2) (t2 := t2) I big kk un2 ok2 os2 bare2 upd_same
    have eH : del (upd H (hp.objs.size + 1) (exo (hp.objs.size + 1) C none)) (hp.objs.size + 1) = H := funext fun b => by
      by_cases z : b = hp.objs.size + 1
      · rw [z, del_same, hn]
      · rw [del_ne z, upd_ne z]
    rw [eH] at J
    exact ⟨rv, hp.objs.size + 1, _, _, ⟨G, g2, d2, t2, os'⟩, H, .ref C, none, rfl, J, kG, ge, hoe, ⟨rfl, rfl⟩, rfl, rfl, hn, rfl, bare2, raises_own T.exC T.tyC, h⟩
end
end Ver

namespace Num
theorem fmod_lt {a b : Int} (h : b ≠ 0) : (a.fmod b).natAbs < b.natAbs := by
  rw [Int.fmod_eq_emod]
  have h0 := Int.emod_nonneg a h
  by_cases c : 0 ≤ b
  · have h1 := Int.emod_lt_of_pos a (show 0 < b by omega)
    rw [if_pos (.inl c)]
    omega
  · have h1 := Int.emod_lt_of_neg a (show b < 0 by omega)
    by_cases d : b ∣ a
    · rw [if_pos (.inr d), Int.emod_eq_zero_of_dvd d]
      omega
    · have h2 : a % b ≠ 0 := fun z => d (Int.dvd_of_emod_eq_zero z)
      rw [if_neg (by rintro (z | z); exact c z; exact d z)]
      omega
theorem gcd_fmod (a b : Int) : Int.gcd b (a.fmod b) = Int.gcd a b := by
  rw [Int.fmod_def, Int.gcd_sub_mul_left_right, Int.gcd_comm]
end Num
namespace Ver
open PySem PySem.Spec PyProof.Rows L2
/-- a part that is not run -/
theorem pe_dead {X : Cx} {e : Expr} : PE X e (fun _ _ _ => False) := ⟨fun _ _ _ _ _ _ h => h.elim⟩
/-- C.m(e, ..), m a plain def of the class C itself or above it -/
theorem pe_clsG {X : Cx} {CX : CXT} {k : Nat} {f C : Addr} {sp : Sp} {E : XK} {x m : Str} {p pos apos : Pos} {e : Expr} {es : List Expr} {t : TA} {pl : Sem Bool} (hg : Gl X x) (hm : X.mg x = some (.ref C)) (rd : PySem.W.readsIn X.K C (.type "type") = true)
    (ga : PySem.W.specialIn X.K (.ref C) "__getattribute__" = some (some (.builtin "type.__getattribute__"))) (fi : PySem.W.findCls X.K (.ref C) (.type "type") m = some (.val (.ref f))) (hk : PySem.W.keepIn X.K (.ref f) = true)
    (F : FnG X.prog X.w X.K X.mg X.base CX k f sp) (hr : Room k X.A) (hgd : X.A.guards = some []) (hx : Passes CX X E) (ha : PA X (e :: es) t)
    (hst : starEach (e :: es) X.env = (false, eval e X.env) :: starEach es X.env := by rfl) (hpl : (backTo pos (starEach es X.env)).any (·.1) = false := by rfl)
    (ht : eval (.Call (.Attribute (.Name x p) m apos) (e :: es) [] pos) X.env = (do
      let ov ← eval (.Name x p) X.env
      standAt apos.atName
      let (g, first) ← holding [ov] (getMethod ov m pl)
      callWith pos g first (backTo pos (starEach (e :: es) X.env)) (backToKw pos (keywordEach [] X.env))) := by rfl) (hdb : (x == ("__debug__" : Str)) = false := by decide) :
    PE X (.Call (.Attribute (.Name x p) m apos) (e :: es) [] pos) (fun σ H Q => t σ H fun vs H1 => sp vs H1 Q E) := by
  refine ⟨fun pins s σ H Q I h => PySem.W.methodCall_KW (pl := pl) (ld_glob I hg hm ?_ hdb) ht⟩
  refine PySem.W.method_cls I.kIn ga (PySem.W.cls_value I.kIn rd fi rfl ?_)
  have J := I.tok (s.toks + 1)
  refine PySem.W.callWith_K (first := []) (h₀ := X.base) I.ok.mod.kin hk (thn (ha.run pos pins _ σ H _ J h) fun us s1 z => ?_) hst hpl
  obtain ⟨vs, H1, I1, r, q⟩ := z
  exact ⟨I1.kIn, runG F hr hgd hx I1 r q⟩
/-- lcm of two ints, great ones too -/
theorem cr_lcm {X : Cx} : CallR X (.builtin "math.lcm") (fun vs H Q => ∃ a b : Int, vs = [.int a, .int b] ∧ a.natAbs < 2 ^ 8000 ∧ b.natAbs < 2 ^ 8000 ∧ Q (.int ((Nat.lcm a.natAbs b.natAbs : Nat) : Int)) H) := by
  intro pins s σ H vs us Q I r h
  obtain ⟨a, b, rfl, ha, hb, q⟩ := h
  obtain ⟨t, u, rfl⟩ := Vals.int2 r
  have la := PySem.Flt.log2_lt_of (by decide) ha
  have lb := PySem.Flt.log2_lt_of (by decide) hb
  have h1 : (max 1 a.natAbs).log2 ≤ 8000 := by
    rcases Nat.le_total 1 a.natAbs with z | z
    · rw [Nat.max_eq_right z]; omega
    · rw [Nat.max_eq_left z]; decide
  have h2 : (max a.natAbs b.natAbs).log2 ≤ 8000 := by
    rcases Nat.le_total a.natAbs b.natAbs with z | z
    · rw [Nat.max_eq_right z]; omega
    · rw [Nat.max_eq_left z]; omega
  have e1 : Nat.lcm 1 a.natAbs = a.natAbs := Nat.lcm_one_left _
  have hs : ((((Nat.lcm 1 a.natAbs).lcm b.natAbs : Nat) : Int)).natAbs.log2 < bitsLine := by
    rw [e1]
    have l1 : Nat.lcm a.natAbs b.natAbs ≤ a.natAbs * b.natAbs := by
      rw [Nat.lcm]
      exact Nat.div_le_self _ _
    have l2 : a.natAbs * b.natAbs < 2 ^ (8000 + 8000) := by
      rw [Nat.pow_add]
      exact Nat.mul_lt_mul'' ha hb
    have l3 : (((Nat.lcm a.natAbs b.natAbs : Nat) : Int)).natAbs < 2 ^ (8000 + 8000) := Nat.lt_of_le_of_lt l1 l2
    have l4 := PySem.Flt.log2_lt_of (by decide) l3
    have e : bitsLine = 134217728 := by decide
    omega
  have g := PySem.W.mg_run_lcm a t b u (by omega) (by omega) hs
  rw [e1] at g
  exact PySem.call_function_meets PySem.W.MGF.kind_lcm PySem.W.MGF.plain_lcm PySem.W.MGF.entry_lcm (PySem.W.MGF.args_lcm _ _) g.meets ⟨.int _, H, I.tok _, ⟨_, rfl⟩, q⟩
section
variable {P : Program} {w : World} {K : PySem.W.Frag} {mg : Str → Option Value} {base : Heap} {CX : CXT} {k : Nat} {f : Addr} {sp sp1 sp2 : Sp}
theorem FnG.either (F1 : FnG P w K mg base CX k f sp1) (F2 : FnG P w K mg base CX k f sp2) (h : ∀ vs H Q E, sp vs H Q E → sp1 vs H Q E ∨ sp2 vs H Q E) : FnG P w K mg base CX k f sp := fun A outer s H us vs Q E g hr e0 r q =>
  (h vs H Q E q).elim (F1 A outer s H us vs Q E g hr e0 r) (F2 A outer s H us vs Q E g hr e0 r)
end
section
variable {X : Cx} {CX : CXT} {k : Nat} {f C : Addr} {sp : Sp} {E : XK} {x : Str} {p pos : Pos}
/-- C() -/
theorem pe_makeG0 (M : Mk X.K C f) (F : FnG X.prog X.w X.K X.mg X.base CX k f sp) (hr : Room (k + 1) X.A) (hgd : X.A.guards = some []) (hg : Gl X x) (hm : X.mg x = some (.ref C)) (hx : Passes CX X E)
    (hdb : (x == ("__debug__" : Str)) = false := by decide) : PE X (.Call (.Name x p) [] [] pos) (StX.tMakeR C sp E tNil) := by
  refine ⟨fun pins s σ H Q I q => wpAny_Call_Name_kw (ld_glob I hg hm (PySem.W.callWith_K0 I.kIn M.kp ?_) hdb)⟩
  show wpAny _ _ (call (.ref C) []) _ _ _
  refine wpAny_call (make_map (f := f) I.kIn M.makes M.init (beq_iff_eq.mp M.fn) ?_)
  have q2 := q (s.heap.objs.size + 1) s.heap.objs.size (I.hok.fresh (Nat.le_succ _)) (I.hok.fresh (Nat.le_refl _)) (Nat.ne_of_lt (Nat.lt_succ_self _))
  have I2 := Inv.made (C := C) I
  refine codeAny_mono (F _ X.stack _ _ (Value.ref (s.heap.objs.size + 1) :: []) (V.ref (s.heap.objs.size + 1) :: []) _ E (made_guards hgd C []) (hr.make C [] []) (I2.env0.make C [] []) (.cons rfl .nil) q2) fun rs s' hq => ?_
  match rs, hq with
  | .error e', hq => exact hx pins σ _ _ e' s' I2 hq
  | .ok (.ret u), hq =>
    obtain ⟨v, H', I3, rv, ev, q3⟩ := I2.after hq
    subst ev
    exact ⟨rv, V.ref (s.heap.objs.size + 1), H', I3, rfl, q3⟩
  | .ok .next, hq => exact hq.elim
  | .ok .brk, hq => exact hq.elim
  | .ok .cont, hq => exact hq.elim
end
end Ver

namespace Ver
open PySem PySem.Spec PyProof.Rows L2
section
variable {X : Cx} {CX : CXT} {k : Nat} {f : Addr} {sp : Sp} {E : L2.St → XK} {m : Str} {pos apos : Pos} {e o : Expr} {es : List Expr} {t : TA} {ta : TE}
/-- o.m(e, ..), what it lets out is caught here -/
def tMethGS (K : PySem.W.Frag) (m : Str) (f : Addr) (sp : Sp) (E : L2.St → XK) (ta : TE) (t : TA) : TE := fun σ H Q => ta σ H fun x H1 => ∃ a C dx fs, x = .ref a ∧ H1 a = some (.ins C dx fs) ∧ Cls K C ∧ Meth K C m f ∧ fs.lookup m = none ∧
  t σ H1 fun vs H2 => sp (.ref a :: vs) H2 Q (E σ)
theorem pe_methGS {pl : Sem Bool} (K' : PySem.W.Frag) (hK : X.K = K') (he : PE X o ta) (hk : PySem.W.keepIn X.K (.ref f) = true) (F : FnG X.prog X.w X.K X.mg X.base CX k f sp) (hr : Room k X.A) (hgd : X.A.guards = some []) (hx : ∀ σ, PassesAt CX X σ (E σ)) (ha : PA X (e :: es) t)
    (hst : starEach (e :: es) X.env = (false, eval e X.env) :: starEach es X.env := by rfl) (hpl : (backTo pos (starEach es X.env)).any (·.1) = false := by rfl)
    (ht : eval (.Call (.Attribute o m apos) (e :: es) [] pos) X.env = (do
      let ov ← eval o X.env
      standAt apos.atName
      let (g, first) ← holding [ov] (getMethod ov m pl)
      callWith pos g first (backTo pos (starEach (e :: es) X.env)) (backToKw pos (keywordEach [] X.env))) := by rfl) :
    PE X (.Call (.Attribute o m apos) (e :: es) [] pos) (tMethGS K' m f sp E ta t) := by
  subst hK
  refine ⟨fun pins s σ H Q I h => PySem.W.methodCall_KW (pl := pl) (thn (he.run pins s σ H _ I h) fun u s1 z => ?_) ht⟩
  obtain ⟨x, H1, I1, rx, a, C, dx, fs, rfl, ea, c, hm, l, q⟩ := z
  cases (show u = Value.ref a from rx)
  refine getmeth_ok I1 ea c hm l (PySem.W.callWith_K (first := [.ref a]) (h₀ := X.base) I.ok.mod.kin hk (thn (ha.run pos pins s1 σ H1 _ I1 q) fun us s2 y => ?_) hst hpl)
  obtain ⟨vs, H2, I2, r, q2⟩ := y
  refine ⟨I2.kIn, ?_⟩
  exact wpAny_call (codeAny_mono (F X.A X.stack s2 H2 (.ref a :: us) (.ref a :: vs) Q (E σ) hgd hr I2.env0 (.cons rfl r) q2) fun rs s' hq => by
    match rs, hq with
    | .error e', hq => exact hx σ pins H2 s2 e' s' I2 hq
    | .ok (.ret u), hq => exact I2.after hq
    | .ok .next, hq => exact hq.elim
    | .ok .brk, hq => exact hq.elim
    | .ok .cont, hq => exact hq.elim)
end
/-! ### lists, shown -/
theorem textFrom_up : ∀ (ts : List Str) (k : Nat) (acc : Str), (textFrom k acc ts).length ≤ acc.length + piled ts
  | [], _, acc => by show acc.length ≤ acc.length + 0; omega
  | t :: r, k, acc => by
    have ih := textFrom_up r (k + 1) (acc ++ (if k > 0 then ", " else "" : String) ++ t)
    have e : (acc ++ (if k > 0 then ", " else "" : String) ++ t).length ≤ acc.length + 2 + t.length := by
      rw [strLen_append, strLen_append]
      by_cases h : k > 0
      · rw [if_pos h]
        exact Nat.le_refl _
      · rw [if_neg h]
        show acc.length + 0 + t.length ≤ _
        omega
    show (textFrom (k + 1) _ r).length ≤ _
    rw [piled_cons]
    omega
end Ver

/-! Data with dicts in it, and its show. -/
namespace Ver
open PySem PySem.Spec PyProof.Rows L2
def kdat : Key → PyData
  | .inl i => .int i
  | .inr x => .str x
mutual
inductive Do (K : PySem.W.Frag) (H : Hp) : V → PyData → Prop
  | non : Do K H .non .none
  | bl (b : Bool) : Do K H (.bl b) (.bool b)
  | int (i : Int) : Do K H (.int i) (.int i)
  | str (x : Str) : Do K H (.str x) (.str x)
  | lst {a : Addr} {xs : List V} {ds : List PyData} : SqL K H a xs → DoAll K H xs ds → Do K H (.ref a) (.list ds)
  | tup {a : Addr} {xs : List V} {ds : List PyData} : SqT K H a xs → DoAll K H xs ds → Do K H (.ref a) (.tuple ds)
  | dic {a : Addr} {kvs : List (Key × V)} {kds : List (PyData × PyData)} : H a = some (.dK kvs) → DoKv K H kvs kds → Do K H (.ref a) (.dict kds)
inductive DoAll (K : PySem.W.Frag) (H : Hp) : List V → List PyData → Prop
  | nil : DoAll K H [] []
  | cons {v : V} {vs : List V} {d : PyData} {ds : List PyData} : Do K H v d → DoAll K H vs ds → DoAll K H (v :: vs) (d :: ds)
inductive DoKv (K : PySem.W.Frag) (H : Hp) : List (Key × V) → List (PyData × PyData) → Prop
  | nil : DoKv K H [] []
  | cons {k : Key} {v : V} {kvs : List (Key × V)} {d : PyData} {kds : List (PyData × PyData)} : Do K H v d → DoKv K H kvs kds → DoKv K H ((k, v) :: kvs) ((kdat k, d) :: kds)
end
theorem reads_key {h : Heap} {k : Key} {v : Value} (e : keyIs k v = true) : Reads h v (kdat k) [] := by
  rcases keyIs_shape e with ⟨i, t, rfl, rfl⟩ | ⟨x, t, rfl, rfl⟩
  · exact .int i t
  · exact .str x t
/-- the module table is a dict of the written part -/
def Sm (K : PySem.W.Frag) : Prop := ∃ o, K.lookup sysModules = some o ∧ o.cls = .type "dict"
section
variable {X : Cx} {pins : List (Addr × Obj)} {σ : L2.St} {H : Hp} {s : Shared}
mutual
theorem Do.reads (sm : Sm X.K) (I : Inv X pins σ H s) : ∀ (d : PyData) (v : V) (u : Value), Do X.K H v d → RelV v u → ∃ as, Reads s.heap u d as ∧ sysModules ∉ as
  | .none, _, _, h, r => by
    cases h
    cases r
    exact ⟨_, Reads.none, by simp⟩
  | .bool b, _, _, h, r => by
    cases h
    cases r
    exact ⟨_, Reads.bool b, by simp⟩
  | .int i, _, _, h, r => by
    cases h
    obtain ⟨t, rfl⟩ := r
    exact ⟨_, Reads.int i t, by simp⟩
  | .str x, _, _, h, r => by
    cases h
    obtain ⟨t, rfl⟩ := r
    exact ⟨_, Reads.str x t, by simp⟩
  | .list ds, _, _, h, r => by
    cases h with
    | lst hs ha =>
      cases r
      obtain ⟨its, rv, ⟨o, n, ho, hc, _, hd⟩, _⟩ := I.list hs
      obtain ⟨as, hr, hn⟩ := Do.readsAll sm I ds _ its ha rv
      refine ⟨_, Reads.list ho hc hd hr, fun z => ?_⟩
      rcases List.mem_cons.mp z with e | z
      · obtain ⟨o2, lk, c2⟩ := sm
        have g := I.kIn _ _ lk
        rw [e] at g
        rw [ho] at g
        cases g
        rw [hc] at c2
        exact absurd c2 (by decide)
      · exact hn z
  | .tuple ds, _, _, h, r => by
    cases h with
    | tup hs ha =>
      cases r
      obtain ⟨its, rv, ⟨o, ho, hc, n, hd⟩, _⟩ := I.tuple hs
      obtain ⟨as, hr, hn⟩ := Do.readsAll sm I ds _ its ha rv
      exact ⟨_, Reads.tuple ho hc hd hr, hn⟩
  | .dict kds, _, _, h, r => by
    cases h with
    | dic ha hk =>
      cases r
      obtain ⟨_, ne, vs, kv, o, es, ep, ho, he, hd, _, hp, _⟩ := dk_of I.hok ha
      obtain ⟨as, bs, h1, h2, n1, n2⟩ := Do.readsKv sm I kds _ vs es.toList hk kv hp
      refine ⟨_, Reads.dict ho he.1 hd h1 h2, fun z => ?_⟩
      rcases List.mem_append.mp z with z | z
      · rcases List.mem_cons.mp z with e | z
        · rw [e] at ne
          rw [beq_self_eq_true] at ne
          cases ne
        · exact n1 z
      · exact n2 z
theorem Do.readsAll (sm : Sm X.K) (I : Inv X pins σ H s) : ∀ (ds : List PyData) (vs : List V) (us : List Value), DoAll X.K H vs ds → Vals vs us → ∃ as, ReadsAll s.heap us ds as ∧ sysModules ∉ as
  | [], _, _, h, r => by
    cases h
    cases r
    exact ⟨_, ReadsAll.nil, by simp⟩
  | d :: ds, _, _, h, r => by
    cases h with
    | cons h1 h2 =>
      cases r with
      | cons r1 r2 =>
        obtain ⟨as, q1, n1⟩ := Do.reads sm I d _ _ h1 r1
        obtain ⟨bs, q2, n2⟩ := Do.readsAll sm I ds _ _ h2 r2
        exact ⟨_, ReadsAll.cons q1 q2, fun z => (List.mem_append.mp z).elim n1 n2⟩
theorem Do.readsKv (sm : Sm X.K) (I : Inv X pins σ H s) : ∀ (kds : List (PyData × PyData)) (kvs : List (Key × V)) (vs : List (Key × Value)) (es : List DictEntry), DoKv X.K H kvs kds → KV kvs vs → Pairs (mixKind X.prog X.w) es vs →
    ∃ as bs, ReadsAll s.heap (es.map (·.key)) (kds.map (·.1)) as ∧ ReadsAll s.heap (es.map (·.val)) (kds.map (·.2)) bs ∧ sysModules ∉ as ∧ sysModules ∉ bs
  | [], _, _, _, h, k, p => by
    cases h
    cases k
    cases p
    exact ⟨_, _, ReadsAll.nil, ReadsAll.nil, by simp, by simp⟩
  | (dk, d) :: kds, _, _, _, h, k, p => by
    cases h with
    | cons h1 h2 =>
      cases k with
      | cons k1 k2 =>
        cases p with
        | cons p1 p2 p3 =>
          rename_i k v kvs b l2 en es
          obtain ⟨e1, e2⟩ := k1
          have e1 : k = b.1 := e1
          have e2 : RelV v en.val := by
            rw [p2]
            exact e2
          have p1 : keyIs k en.key = true := by
            rw [e1]
            exact p1
          obtain ⟨bs0, q1, n1⟩ := Do.reads sm I d _ _ h1 e2
          obtain ⟨as, bs, r1, r2, m1, m2⟩ := Do.readsKv sm I kds _ _ _ h2 k2 p3
          refine ⟨_, _, ReadsAll.cons (reads_key p1) r1, ReadsAll.cons q1 r2, ?_, fun z => (List.mem_append.mp z).elim n1 m2⟩
          simpa using m1
end
/-- repr(x), x any data -/
def rReprO (K : PySem.W.Frag) : List V → Hp → VK → Prop := fun xs H Q => ∃ (x : V) (d : PyData), xs = [x] ∧ Do K H x d ∧ d.showable = true ∧ d.shown.length ≤ sizeLine ∧ d.depth ≤ 60 ∧ Q (.str d.shown) H
theorem call_reprO (sm : Sm X.K) (hg : X.A.guards = some []) (hu : X.A.units + 64 < cLine) : CallR X (.builtin "repr") (rReprO X.K) := by
  intro pins s σ H xs us Q I r h
  obtain ⟨x, d, rfl, hd, hs, hz, hdp, q⟩ := h
  obtain ⟨u, rfl, rx⟩ := vals1 r
  obtain ⟨as, rd, na⟩ := Do.reads sm I d x u hd rx
  cases rd with
  | none => exact PySem.P.repr_of_none ⟨.str _, H, I.tok _, ⟨_, rfl⟩, by simpa only [PyData.shown] using q⟩
  | bool b => exact PySem.P.repr_of_bool ⟨.str _, H, I.tok _, ⟨_, rfl⟩, by simpa only [PyData.shown] using q⟩
  | int i t => exact PySem.P.repr_of_int (by simpa [PyData.showable] using hs) ⟨.str _, H, I.tok _, ⟨_, rfl⟩, by simpa only [PyData.shown] using q⟩
  | str y t => exact PySem.P.repr_of_str ⟨.str _, H, I.tok _, ⟨_, rfl⟩, by simpa only [PyData.shown] using q⟩ (by simpa only [PyData.shown] using hz)
  | list h1 h2 h3 h4 =>
    exact repr_of_reads' (.list h1 h2 h3 h4) hs (fun _ => na) hg (by omega) (fun _ _ z => z) (fun h' u tk hk => ⟨.str _, H, I.kept (t' := tk) hk, ⟨u, rfl⟩, q⟩) hz
  | tuple h1 h2 h3 h4 =>
    exact repr_of_reads' (.tuple h1 h2 h3 h4) hs (fun _ => na) hg (by omega) (fun _ _ z => z) (fun h' u tk hk => ⟨.str _, H, I.kept (t' := tk) hk, ⟨u, rfl⟩, q⟩) hz
  | dict h1 h2 h3 h4 h5 =>
    exact repr_of_reads' (.dict h1 h2 h3 h4 h5) hs (fun _ => na) hg (by omega) (fun _ _ z => z) (fun h' u tk hk => ⟨.str _, H, I.kept (t' := tk) hk, ⟨u, rfl⟩, q⟩) hz
end
end Ver

namespace Ver
open PySem PySem.Spec PyProof.Rows L2
def tyD : PyData → String
  | .none => "NoneType"
  | .bool _ => "bool"
  | .int _ => "int"
  | .str _ => "str"
  | .list _ => "list"
  | .tuple _ => "tuple"
  | .dict _ => "dict"
section
variable {K : PySem.W.Frag} {H H' : Hp}
theorem Do.ty {x : V} {d : PyData} (h : Do K H x d) : TyX K H x (.type (tyD d)) := by
  cases h with
  | non => exact .base .non
  | bl b => exact .base (.bl b)
  | int i => exact .base (.int i)
  | str s => exact .base (.str s)
  | lst hs ha =>
    rcases hs with (e | ⟨o, e⟩) | ⟨o, its, n, lk, c, _⟩
    · exact .base (.lst e)
    · exact .base (.frz e)
    · exact .kList lk c
  | tup hs ha =>
    rcases hs with (e | ⟨o, e⟩) | ⟨o, its, n, lk, c, _⟩
    · exact .base (.tup e)
    · exact .fTuple e
    · exact .kTuple lk c
  | dic e hk => exact .base (.dK e)
theorem sqt_keep {a : Addr} {xs : List V} (s : Same H H') (h : SqT K H a xs) : SqT K H' a xs := by
  rcases h with (h | ⟨o, h⟩) | h
  · exact .inl (.inl (s _ _ h))
  · exact .inl (.inr ⟨o, s _ _ h⟩)
  · exact .inr h
mutual
theorem Do.same (s : Same H H') : ∀ (d : PyData) (x : V), Do K H x d → Do K H' x d
  | .none, _, h => by cases h; exact .non
  | .bool b, _, h => by cases h; exact .bl b
  | .int i, _, h => by cases h; exact .int i
  | .str y, _, h => by cases h; exact .str y
  | .list ds, _, h => by
    cases h with
    | lst hs ha => exact .lst (s.seq hs) (DoAll.same s ds _ ha)
  | .tuple ds, _, h => by
    cases h with
    | tup hs ha => exact .tup (sqt_keep s hs) (DoAll.same s ds _ ha)
  | .dict kds, _, h => by
    cases h with
    | dic e hk => exact .dic (s _ _ e) (DoKv.same s kds _ hk)
theorem DoAll.same (s : Same H H') : ∀ (ds : List PyData) (xs : List V), DoAll K H xs ds → DoAll K H' xs ds
  | [], _, h => by cases h; exact .nil
  | d :: ds, _, h => by
    cases h with
    | cons h1 h2 => exact .cons (Do.same s d _ h1) (DoAll.same s ds _ h2)
theorem DoKv.same (s : Same H H') : ∀ (kds : List (PyData × PyData)) (kvs : List (Key × V)), DoKv K H kvs kds → DoKv K H' kvs kds
  | [], _, h => by cases h; exact .nil
  | (dk, d) :: kds, _, h => by
    cases h with
    | cons h1 h2 => exact .cons (Do.same s d _ h1) (DoKv.same s kds _ h2)
end
/-- isinstance(x, a built-in type), x any data -/
def is_int (d : PyData) : Bool := match d with | .int _ => true | .bool _ => true | _ => false
theorem kit_int : ∀ d : PyData, PySem.W.kitOne K (.type (tyD d)) (.type "int") = some (is_int d)
  | .none => show PySem.W.kitOne K (.type "NoneType") (.type "int") = some false from kit_ty (by decide +kernel)
  | .bool _ => show PySem.W.kitOne K (.type "bool") (.type "int") = some true from kit_ty (by decide +kernel)
  | .int _ => show PySem.W.kitOne K (.type "int") (.type "int") = some true from kit_ty (by decide +kernel)
  | .str _ => show PySem.W.kitOne K (.type "str") (.type "int") = some false from kit_ty (by decide +kernel)
  | .list _ => show PySem.W.kitOne K (.type "list") (.type "int") = some false from kit_ty (by decide +kernel)
  | .tuple _ => show PySem.W.kitOne K (.type "tuple") (.type "int") = some false from kit_ty (by decide +kernel)
  | .dict _ => show PySem.W.kitOne K (.type "dict") (.type "int") = some false from kit_ty (by decide +kernel)
def is_bool (d : PyData) : Bool := match d with | .bool _ => true | _ => false
theorem kit_bool : ∀ d : PyData, PySem.W.kitOne K (.type (tyD d)) (.type "bool") = some (is_bool d)
  | .none => show PySem.W.kitOne K (.type "NoneType") (.type "bool") = some false from kit_ty (by decide +kernel)
  | .bool _ => show PySem.W.kitOne K (.type "bool") (.type "bool") = some true from kit_ty (by decide +kernel)
  | .int _ => show PySem.W.kitOne K (.type "int") (.type "bool") = some false from kit_ty (by decide +kernel)
  | .str _ => show PySem.W.kitOne K (.type "str") (.type "bool") = some false from kit_ty (by decide +kernel)
  | .list _ => show PySem.W.kitOne K (.type "list") (.type "bool") = some false from kit_ty (by decide +kernel)
  | .tuple _ => show PySem.W.kitOne K (.type "tuple") (.type "bool") = some false from kit_ty (by decide +kernel)
  | .dict _ => show PySem.W.kitOne K (.type "dict") (.type "bool") = some false from kit_ty (by decide +kernel)
def is_tuple (d : PyData) : Bool := match d with | .tuple _ => true | _ => false
theorem kit_tuple : ∀ d : PyData, PySem.W.kitOne K (.type (tyD d)) (.type "tuple") = some (is_tuple d)
  | .none => show PySem.W.kitOne K (.type "NoneType") (.type "tuple") = some false from kit_ty (by decide +kernel)
  | .bool _ => show PySem.W.kitOne K (.type "bool") (.type "tuple") = some false from kit_ty (by decide +kernel)
  | .int _ => show PySem.W.kitOne K (.type "int") (.type "tuple") = some false from kit_ty (by decide +kernel)
  | .str _ => show PySem.W.kitOne K (.type "str") (.type "tuple") = some false from kit_ty (by decide +kernel)
  | .list _ => show PySem.W.kitOne K (.type "list") (.type "tuple") = some false from kit_ty (by decide +kernel)
  | .tuple _ => show PySem.W.kitOne K (.type "tuple") (.type "tuple") = some true from kit_ty (by decide +kernel)
  | .dict _ => show PySem.W.kitOne K (.type "dict") (.type "tuple") = some false from kit_ty (by decide +kernel)
def is_str (d : PyData) : Bool := match d with | .str _ => true | _ => false
theorem kit_str : ∀ d : PyData, PySem.W.kitOne K (.type (tyD d)) (.type "str") = some (is_str d)
  | .none => show PySem.W.kitOne K (.type "NoneType") (.type "str") = some false from kit_ty (by decide +kernel)
  | .bool _ => show PySem.W.kitOne K (.type "bool") (.type "str") = some false from kit_ty (by decide +kernel)
  | .int _ => show PySem.W.kitOne K (.type "int") (.type "str") = some false from kit_ty (by decide +kernel)
  | .str _ => show PySem.W.kitOne K (.type "str") (.type "str") = some true from kit_ty (by decide +kernel)
  | .list _ => show PySem.W.kitOne K (.type "list") (.type "str") = some false from kit_ty (by decide +kernel)
  | .tuple _ => show PySem.W.kitOne K (.type "tuple") (.type "str") = some false from kit_ty (by decide +kernel)
  | .dict _ => show PySem.W.kitOne K (.type "dict") (.type "str") = some false from kit_ty (by decide +kernel)
def is_list (d : PyData) : Bool := match d with | .list _ => true | _ => false
theorem kit_list : ∀ d : PyData, PySem.W.kitOne K (.type (tyD d)) (.type "list") = some (is_list d)
  | .none => show PySem.W.kitOne K (.type "NoneType") (.type "list") = some false from kit_ty (by decide +kernel)
  | .bool _ => show PySem.W.kitOne K (.type "bool") (.type "list") = some false from kit_ty (by decide +kernel)
  | .int _ => show PySem.W.kitOne K (.type "int") (.type "list") = some false from kit_ty (by decide +kernel)
  | .str _ => show PySem.W.kitOne K (.type "str") (.type "list") = some false from kit_ty (by decide +kernel)
  | .list _ => show PySem.W.kitOne K (.type "list") (.type "list") = some true from kit_ty (by decide +kernel)
  | .tuple _ => show PySem.W.kitOne K (.type "tuple") (.type "list") = some false from kit_ty (by decide +kernel)
  | .dict _ => show PySem.W.kitOne K (.type "dict") (.type "list") = some false from kit_ty (by decide +kernel)
def is_dict (d : PyData) : Bool := match d with | .dict _ => true | _ => false
theorem kit_dict : ∀ d : PyData, PySem.W.kitOne K (.type (tyD d)) (.type "dict") = some (is_dict d)
  | .none => show PySem.W.kitOne K (.type "NoneType") (.type "dict") = some false from kit_ty (by decide +kernel)
  | .bool _ => show PySem.W.kitOne K (.type "bool") (.type "dict") = some false from kit_ty (by decide +kernel)
  | .int _ => show PySem.W.kitOne K (.type "int") (.type "dict") = some false from kit_ty (by decide +kernel)
  | .str _ => show PySem.W.kitOne K (.type "str") (.type "dict") = some false from kit_ty (by decide +kernel)
  | .list _ => show PySem.W.kitOne K (.type "list") (.type "dict") = some false from kit_ty (by decide +kernel)
  | .tuple _ => show PySem.W.kitOne K (.type "tuple") (.type "dict") = some false from kit_ty (by decide +kernel)
  | .dict _ => show PySem.W.kitOne K (.type "dict") (.type "dict") = some true from kit_ty (by decide +kernel)
end
end Ver

namespace Ver
open PySem PySem.Spec PyProof.Rows L2
/-! ### == and != of any data -/
section
variable {X : Cx}
def rEqO (K : PySem.W.Frag) : R2 := fun x y H Q => ∃ d e, Do K H x d ∧ Do K H y e ∧ SeqAt.shaped d = true ∧ SeqAt.shaped e = true ∧ Q (.bl (PyData.eqv d e)) H
def rNeO (K : PySem.W.Frag) : R2 := fun x y H Q => ∃ d e, Do K H x d ∧ Do K H y e ∧ SeqAt.shaped d = true ∧ SeqAt.shaped e = true ∧ Q (.bl (!PyData.eqv d e)) H
def rNotInO (K : PySem.W.Frag) : R2 := fun x y H Q => ∃ d ds, Do K H x d ∧ Do K H y (.list ds) ∧ SeqAt.shaped d = true ∧ SeqAt.shaped (.list ds) = true ∧ Q (.bl (!(ds.any fun z => PyData.eqv z d))) H
theorem op_eqO (sm : Sm X.K) (hu : X.A.units + 64 < cLine) : OpR X (compareOp .Eq) (rEqO X.K) := by
  intro pins s σ H x y v u Q I rx ry h
  obtain ⟨d, e, hd, he, sd, se, q⟩ := h
  obtain ⟨as, r1, _⟩ := Do.reads sm I d x v hd rx
  obtain ⟨bs, r2, _⟩ := Do.reads sm I e y u he ry
  exact SeqAt.compareEq_shaped r1 r2 sd se hu ⟨.bl _, H, I, rfl, q⟩
theorem op_neO (sm : Sm X.K) (hu : X.A.units + 64 < cLine) : OpR X (compareOp .NotEq) (rNeO X.K) := by
  intro pins s σ H x y v u Q I rx ry h
  obtain ⟨d, e, hd, he, sd, se, q⟩ := h
  obtain ⟨as, r1, _⟩ := Do.reads sm I d x v hd rx
  obtain ⟨bs, r2, _⟩ := Do.reads sm I e y u he ry
  exact SeqAt.compareNe_shaped r1 r2 sd se hu ⟨.bl _, H, I, rfl, q⟩
theorem op_notInO (sm : Sm X.K) (hu : X.A.units + 65 < cLine) : OpR X (compareOp .NotIn) (rNotInO X.K) := by
  intro pins s σ H x y v u Q I rx ry h
  obtain ⟨d, ds, hd, he, sd, se, q⟩ := h
  obtain ⟨as, r1, _⟩ := Do.reads sm I d x v hd rx
  obtain ⟨bs, r2, _⟩ := Do.reads sm I (.list ds) y u he ry
  exact SeqAt.notIn_list_reads r2 r1 (SeqAt.canLay_of_shaped se) (SeqAt.canLay_of_shaped sd) (room_in_shaped sd hu) ⟨.bl _, H, I, rfl, q⟩
/-- a text, many times -/
theorem op_strMul : OpR X (binaryOp .Mult) (fun x y H Q => ∃ (a : Str) (n : Int), x = .str a ∧ y = .int n ∧ a.length ≤ 1000 ∧ 0 < a.length ∧ 2 ≤ n ∧ n ≤ 10000 ∧ (⟨(List.replicate n.toNat a.cps).foldl (· ++ ·) #[]⟩ : Str).length ≤ sizeLine ∧ Q (.str ⟨(List.replicate n.toNat a.cps).foldl (· ++ ·) #[]⟩) H) := by
  intro pins s σ H x y v u Q I rx ry h
  obtain ⟨a, n, rfl, rfl, h1, h0, h2, h3, hz, q⟩ := h
  obtain ⟨t, rfl⟩ := rx
  obtain ⟨t2, rfl⟩ := ry
  have e1 : ¬ n < 1 := by omega
  have e2 : ¬ (n == 1 || a.length == 0) = true := by
    rw [Bool.or_eq_true, not_or]
    refine ⟨fun z => ?_, fun z => ?_⟩
    · have := beq_iff_eq.mp z
      omega
    · have := beq_iff_eq.mp z
      omega
  refine PySem.P.mul_str ?_ (fun _ _ => ?_) (fun _ _ => ?_) ?_
  · rw [decide_eq_false (by omega), decide_eq_false (by omega)]
    rfl
  · have : (2 ^ 63 - 1) / n ≥ 1000 := Int.le_ediv_of_mul_le (by omega) (by omega)
    omega
  · have hm : a.length * n.toNat ≤ 1000 * 10000 := Nat.mul_le_mul h1 (by omega)
    exact decide_eq_false (by rw [sizeLine_eq]; omega)
  · rw [if_neg e1, if_neg e2]
    exact ⟨hz, .str _, H, I.tok _, ⟨_, rfl⟩, q⟩
end
/-! ### an own __eq__ -/
section
variable {M : Model} {prog : Program} {w : World} {A : Around} {E : Value → Shared → Prop} {s : Shared} {K : PySem.W.Frag} {x C L f : Addr} {h₀ : Heap} {m : Str → Option Value} {ox : Obj} {od : Option Obj} {name : Str} {b tb : Value}
theorem ifBound_B {id B : String} {args : List Value} {Q : Option Value → Shared → Prop} (S : PySem.Slot B name id) (X : K.In s.heap) (I : PySem.W.InstAt s.heap x ox C od) (hs : PySem.W.findIn K (.ref C) name = some (some (.builtin id)))
    (h : wpAny M A (call (.builtin id) (.ref x :: args)) (fun v => Q (some v)) E s) : wpAny M A (callSpecialIfBound? (.ref x) name args) Q E s := by
  simp only [callSpecialIfBound?, bindSpecialIfBound?]
  refine wpAny_holding (wpAny_bind (wpAny_bind (wpAny_bind (I.type.here ((PySem.W.looks_findIn X hs).here ?_)))))
  simp only [S.bind]
  refine wpAny_bind (wpAny_askSetting (wpAny_ite ?_))
  have fin : wpAny M A (call (.builtin id) ([.ref x] ++ args) >>= fun v => pure (some v)) Q E s := wpAny_bind (wpAny_mono h (fun v s' h' => wpAny_pure h') fun _ _ h' => h')
  split
  · exact wpAny_bind (wpAny_pure (wpAny_pure fin))
  · exact wpAny_tryCatch (wpAny_bind (wpAny_pure (wpAny_pure fin)))
theorem objNe_K (X : K.In s.heap) (I : PySem.W.InstAt s.heap x ox C od) (hs : PySem.W.findIn K (.ref C) "__eq__" = some (some (.ref f))) (hf : PySem.W.isFn K (.ref f) = true) (hu : A.units < cLine) {Q : Fin → Shared → Prop}
    (hcall : wpAny (model prog w) A (call (.ref f) [.ref x, b]) (fun v s' => ∃ k, v = .bool k ∧ Q (.done (.ret (.bool (!k)))) s') E s) :
    wpAny (model prog w) A (Builtin.«object.__ne__» ⟨[.ref x, b], []⟩) Q E s := by
  obtain ⟨hp, g, d, t, os⟩ := s
  unfold Builtin.«object.__ne__»
  repeat (first
    | with_reducible refine wpAny_cRoomFor hu ?_
    | (refine wpAny_bind (m := callSpecialIfBound? (.ref x) (Str.ofString "__eq__") [b])
        (PySem.W.ifBound_K X I hs hf (wpAny_mono hcall (fun r s' hr => by
          obtain ⟨b, rfl, hq⟩ := hr
          repeat (first | exact hq | exact wpAny_pure hq | exact wpAny_truthy_bool hq | (refine wpAny_bind (m := truthy (.bool _)) (wpAny_truthy_bool ?_)) | wp_step)) fun _ _ e => e)))
    | wp_step)
theorem ne_K {Q : Value → Shared → Prop} (hu : A.units + 1 < cLine) (X : K.In s.heap) (I : PySem.W.InstAt s.heap x ox C od) (hb : PySem.W.Looks (model prog w) s.heap (typeOf b) tb) (hn : PySem.W.notFirst K C tb = true)
    (hs : PySem.W.findIn K (.ref C) "__eq__" = some (some (.ref f))) (hf : PySem.W.isFn K (.ref f) = true) (hne : PySem.W.findIn K (.ref C) "__ne__" = some (some (.builtin "object.__ne__"))) (hob : PySem.W.subIn K (.ref C) (.type "object") = some true)
    (h : wpAny (model prog w) A.in1 (call (.ref f) [.ref x, b]) (fun v s' => ∃ k, v = .bool k ∧ Q (.bool (!k)) s') E s) : wpAny (model prog w) A (richCompare .NotEq (.ref x) b) Q E s := by
  have isO : PySem.W.Looks (model prog w) s.heap (isInstance (.ref x) (.type "object")) true := I.type.andThen (PySem.W.looks_subIn X hob)
  have one : wpAny (model prog w) A (tryCompare (.ref x) (cmpInfo .NotEq).2.1 b) (fun r s' => ∃ v, r = some v ∧ Q v s') E s := by
    unfold tryCompare
    refine wpAny_bind (ifBound_B PySem.F.cmp_object.ne X I hne (wpAny_call (codeAny_call_builtin PySem.F.cmp_object.ne.plain PySem.F.cmpEntry_ne
      (PySem.W.check_slot PySem.F.cmpKind_ne PySem.F.cmpSplit_ne isO (PySem.F.cmpArgs_ne _ _) (objNe_K (A := A.in1) X I hs hf hu (wpAny_mono h (fun v s' hv => ?_) fun _ _ e => e))))))
    obtain ⟨k, rfl, hq⟩ := hv
    first | exact ⟨k, rfl, wpAny_pure ⟨_, rfl, hq⟩⟩ | exact ⟨k, rfl, wpAny_pure (wpAny_pure ⟨_, rfl, hq⟩)⟩
  unfold richCompare
  simp only [oneThing_ref]
  refine wpAny_holding (wpAny_bind (wpAny_cRoomFor (Nat.lt_of_succ_lt hu) ?_))
  refine wpAny_bind (I.type.here (wpAny_bind (hb.here ?_)))
  split
  · rename_i q
    have e : PySem.W.subIn K tb (.ref C) = some false := by
      rcases Bool.or_eq_true_iff.mp hn with e | e
      · rw [beq_iff_eq.mp e] at q; simp at q
      · exact beq_iff_eq.mp e
    refine wpAny_bind ((PySem.W.looks_subIn X e).here ?_)
    simp only [Bool.false_eq_true, if_false]
    refine wpAny_bind (wpAny_mono one (fun r s' z => ?_) fun _ _ e => e)
    obtain ⟨v, rfl, hq⟩ := z
    exact wpAny_pure hq
  · refine wpAny_bind (wpAny_pure ?_)
    simp only [Bool.false_eq_true, if_false]
    refine wpAny_bind (wpAny_mono one (fun r s' z => ?_) fun _ _ e => e)
    obtain ⟨v, rfl, hq⟩ := z
    exact wpAny_pure hq
end
end Ver

namespace Ver
open PySem PySem.Spec PyProof.Rows L2
/-- what the written part tells of the class at C whose == is the def at f, against a value of the type t -/
structure OwnQ (K : PySem.W.Frag) (C f : Addr) (t : Value) : Prop where
  nf : PySem.W.notFirst K C t = true
  eq : PySem.W.findIn K (.ref C) "__eq__" = some (some (.ref f))
  fn : PySem.W.isFn K (.ref f) = true
  ne : PySem.W.findIn K (.ref C) "__ne__" = some (some (.builtin "object.__ne__"))
  ob : PySem.W.subIn K (.ref C) (.type "object") = some true
section
variable {X : Cx} {CX : CXT} {k : Nat} {f C : Addr} {sp : Sp} {E : XK} {pins : List (Addr × Obj)} {σ : L2.St} {H : Hp} {s : Shared} {Q : VK} {us : List Value} {vs : List V}
/-- the callee's run, one call further in -/
theorem runG1 (F : FnG X.prog X.w X.K X.mg X.base CX k f sp) (hr : Room (k + 1) X.A) (hgd : X.A.guards = some []) (hx : Passes CX X E) (I : Inv X pins σ H s) (r : Vals vs us) (h : sp vs H Q E) :
    wpAny (model X.prog X.w) X.A.in1 (call (.ref f) us) (EP X pins σ Q) X.xe s :=
  wpAny_call (codeAny_mono (F X.A.in1 X.stack s H us vs Q E hgd hr.in1 I.env0.in1 r h) fun rs s' hq => by
    match rs, hq with
    | .error e', hq => exact hx pins σ H s e' s' I hq
    | .ok (.ret u), hq => exact I.after hq
    | .ok .next, hq => exact hq.elim
    | .ok .brk, hq => exact hq.elim
    | .ok .cont, hq => exact hq.elim)
def rOwnQ (K : PySem.W.Frag) (f : Addr) (sp : Sp) (E : XK) (g : Bool → Bool) : R2 := fun x y H Q => ∃ (a C dx : Addr) (fs : List (Str × V)) (t : Value), x = .ref a ∧ H a = some (.ins C dx fs) ∧ TyX K H y t ∧ OwnQ K C f t ∧
  sp [x, y] H (fun z H' => ∃ b : Bool, z = .bl b ∧ Q (.bl (g b)) H') E
theorem op_eqOwn (F : FnG X.prog X.w X.K X.mg X.base CX k f sp) (hr : Room (k + 1) X.A) (hgd : X.A.guards = some []) (hx : Passes CX X E) : OpR X (compareOp .Eq) (rOwnQ X.K f sp E fun b => b) := by
  intro pins s σ H x y v u Q I rx ry h
  obtain ⟨a, C, dx, fs, t, rfl, ea, ty, O, q⟩ := h
  cases (show v = Value.ref a from rx)
  obtain ⟨mA, ob, r, wi, _, ho⟩ := ins_get I.hok ea
  obtain ⟨od, J, _⟩ := ob.look
  obtain ⟨P, kx, hp, _⟩ := kit_of I ry ty
  obtain ⟨m, hF⟩ := I.fr
  show wpAny _ _ (richCompare .Eq (.ref a) u) _ _ _
  refine PySem.W.cmp_K (op := .Eq) (tb := t) (Nat.lt_of_lt_of_le (Nat.lt_of_le_of_lt (Nat.le_add_right _ 64) hr.units) (Nat.le_refl _)) hF I.ok.mod.kin J (kx.ty _ _ I.kIn hp) O.nf O.eq O.fn ?_
  refine wpAny_mono (runG (us := [.ref a, u]) (vs := [.ref a, y]) F (hr.mono (Nat.le_succ k)) hgd hx I (.cons rfl (.cons ry .nil)) q) (fun w s' z => ?_) fun _ _ x => x
  obtain ⟨z', H', I', rz, b, rfl, qz⟩ := z
  cases (show w = Value.bool b from rz)
  exact ⟨.bl b, H', I', rfl, qz⟩
theorem op_neOwn (F : FnG X.prog X.w X.K X.mg X.base CX k f sp) (hr : Room (k + 1) X.A) (hgd : X.A.guards = some []) (hx : Passes CX X E) : OpR X (compareOp .NotEq) (rOwnQ X.K f sp E fun b => !b) := by
  intro pins s σ H x y v u Q I rx ry h
  obtain ⟨a, C, dx, fs, t, rfl, ea, ty, O, q⟩ := h
  cases (show v = Value.ref a from rx)
  obtain ⟨mA, ob, r, wi, _, ho⟩ := ins_get I.hok ea
  obtain ⟨od, J, _⟩ := ob.look
  obtain ⟨P, kx, hp, _⟩ := kit_of I ry ty
  show wpAny _ _ (richCompare .NotEq (.ref a) u) _ _ _
  refine ne_K (tb := t) (Nat.lt_of_le_of_lt (Nat.add_le_add_left (by decide) _) hr.units) I.kIn J (kx.ty _ _ I.kIn hp) O.nf O.eq O.fn O.ne O.ob ?_
  refine wpAny_mono (runG1 (us := [.ref a, u]) (vs := [.ref a, y]) F hr hgd hx I (.cons rfl (.cons ry .nil)) q) (fun w s' z => ?_) fun _ _ x => x
  obtain ⟨z', H', I', rz, b, rfl, qz⟩ := z
  cases (show w = Value.bool b from rz)
  exact ⟨b, rfl, .bl (!b), H', I', rfl, qz⟩
end
/-! ### a static method, read off its class; what is raised is caught here -/
/-- what the written part tells of a static method -/
structure StM (K : PySem.W.Frag) (C : Addr) (m : Str) (f : Addr) : Prop where
  ga : PySem.W.specialIn K (.ref C) "__getattribute__" = some (some (.builtin "type.__getattribute__"))
  ty : PySem.W.typeIn K (.ref C) = some (.type "type")
  rd : PySem.W.readsIn K C (.type "type") = true
  at_ : ∃ p, PySem.W.findCls K (.ref C) (.type "type") m = some (.get (.builtin "staticmethod.__get__") (.ref p) .none (.ref C)) ∧ ∃ rest, PySem.W.recIn K p "staticmethod" = some (.ref f :: rest)
  kp : PySem.W.keepIn K (.ref f) = true
section
variable {X : Cx} {CX : CXT} {k : Nat} {f C : Addr} {sp : Sp} {x m : Str} {p pos apos : Pos} {e : Expr} {es : List Expr} {t : TA}
/-- C.m(e, ..), what it raises is wished for at the slots -/
theorem pe_stcGS {E : L2.St → XK} {pl : Sem Bool} (S : StM X.K C m f) (hg : Gl X x) (hm : X.mg x = some (.ref C)) (F : FnG X.prog X.w X.K X.mg X.base CX k f sp) (hr : Room k X.A) (hgd : X.A.guards = some []) (hx : ∀ σ, PassesAt CX X σ (E σ)) (ha : PA X (e :: es) t)
    (hst : starEach (e :: es) X.env = (false, eval e X.env) :: starEach es X.env := by rfl) (hpl : (backTo pos (starEach es X.env)).any (·.1) = false := by rfl)
    (ht : eval (.Call (.Attribute (.Name x p) m apos) (e :: es) [] pos) X.env = (do
      let ov ← eval (.Name x p) X.env
      standAt apos.atName
      let (g, first) ← holding [ov] (getMethod ov m pl)
      callWith pos g first (backTo pos (starEach (e :: es) X.env)) (backToKw pos (keywordEach [] X.env))) := by rfl) (hdb : (x == ("__debug__" : Str)) = false := by decide) :
    PE X (.Call (.Attribute (.Name x p) m apos) (e :: es) [] pos) (fun σ H Q => t σ H fun vs H1 => sp vs H1 Q (E σ)) := by
  obtain ⟨pa, fc, rest, hp⟩ := S.at_
  refine ⟨fun pins s σ H Q I h => PySem.W.methodCall_KW (pl := pl) (ld_glob I hg hm ?_ hdb) ht⟩
  obtain ⟨mm, fr⟩ := I.fr
  refine PySem.W.method_of_cls fr I.ok.mod.kin S.ga (PySem.W.cls_sm fr I.ok.mod.kin S.ty S.rd fc hp (by rfl) ?_)
  have J := I.tok (s.toks + 1)
  refine PySem.W.callWith_K (first := []) (h₀ := X.base) I.ok.mod.kin S.kp (thn (ha.run pos pins _ σ H _ J h) fun us s1 z => ?_) hst hpl
  obtain ⟨vs, H1, I1, r, q⟩ := z
  refine ⟨I1.kIn, ?_⟩
  exact wpAny_call (codeAny_mono (F X.A X.stack s1 H1 us vs Q (E σ) hgd hr I1.env0 r q) fun rs s' hq => by
    match rs, hq with
    | .error e', hq => exact hx σ pins H1 s1 e' s' I1 hq
    | .ok (.ret u), hq => exact I1.after hq
    | .ok .next, hq => exact hq.elim
    | .ok .brk, hq => exact hq.elim
    | .ok .cont, hq => exact hq.elim)
/-- C(e, ..), what __init__ raises is wished for at the slots -/
def tMakeGS (C : Addr) (sp : Sp) (E : L2.St → XK) (t : TA) : TE := fun σ H Q => StX.tMakeR C sp (E σ) t σ H Q
theorem pe_makeGS {E : L2.St → XK} (M : Mk X.K C f) (F : FnG X.prog X.w X.K X.mg X.base CX k f sp) (hr : Room (k + 1) X.A) (hgd : X.A.guards = some []) (hg : Gl X x) (hm : X.mg x = some (.ref C)) (hx : ∀ σ, PassesAt CX X σ (E σ)) (ha : PA X (e :: es) t)
    (hdb : (x == ("__debug__" : Str)) = false := by decide) (he : starEach (e :: es) X.env = (false, eval e X.env) :: starEach es X.env := by rfl)
    (hpl : (backTo pos (starEach es X.env)).any (·.1) = false := by rfl) : PE X (.Call (.Name x p) (e :: es) [] pos) (tMakeGS C sp E t) := by
  refine ⟨fun pins s σ H Q I h => wpAny_Call_Name_kw (ld_glob I hg hm (PySem.W.callWith_K (h₀ := X.base) I.ok.mod.kin M.kp (thn (ha.run pos pins s σ H _ I h) fun us s1 z => ?_) he hpl) hdb)⟩
  obtain ⟨vs, H1, I1, r, q⟩ := z
  refine ⟨I1.kIn, wpAny_call (make_map (f := f) I1.kIn M.makes M.init (beq_iff_eq.mp M.fn) ?_)⟩
  have q2 := q (s1.heap.objs.size + 1) s1.heap.objs.size (I1.hok.fresh (Nat.le_succ _)) (I1.hok.fresh (Nat.le_refl _)) (Nat.ne_of_lt (Nat.lt_succ_self _))
  have I2 := Inv.made (C := C) I1
  refine codeAny_mono (F _ X.stack _ _ (Value.ref (s1.heap.objs.size + 1) :: us) (V.ref (s1.heap.objs.size + 1) :: vs) _ (E σ) (made_guards hgd C us) (hr.make C us []) (I2.env0.make C us []) (.cons rfl r) q2) fun rs s' hq => ?_
  match rs, hq with
  | .error e', hq => exact hx σ pins _ _ e' s' I2 hq
  | .ok (.ret u), hq =>
    obtain ⟨v, H', I3, rv, ev, q3⟩ := I2.after hq
    subst ev
    exact ⟨rv, V.ref (s1.heap.objs.size + 1), H', I3, rfl, q3⟩
  | .ok .next, hq => exact hq.elim
  | .ok .brk, hq => exact hq.elim
  | .ok .cont, hq => exact hq.elim
end
end Ver

namespace Ver
open PySem PySem.Spec PyProof.Rows L2
/-- isinstance(e, c), e the exception that the suite holds, its dict at dd -/
def rIsED (K : PySem.W.Frag) (D a dd : Addr) : List V → Hp → VK → Prop := fun xs H Q => ∃ (c : V) (cv : Value) (b : Bool) (fs : List (Str × V)), xs = [.ref a, c] ∧ (∀ u, RelV c u → u = cv) ∧ PySem.W.kitOne K (.ref D) cv = some b ∧ H dd = some (.xd fs) ∧ Q (.bl b) H
theorem call_isED {X : Cx} {a D dd : Addr} {oe : Obj} {pn : List (Addr × Obj)} (C : ExcC X.K D) (hz : Zc (.ref D) (some dd) oe) (hf : ∃ vs, oe.data = .fields vs) : CallR (X.suite a ((a, oe) :: pn)) (.builtin "isinstance") (rIsED X.K D a dd) := by
  intro pins s σ H xs us Q I r h
  obtain ⟨c, cv, b, fs, rfl, hcv, e, ea, q⟩ := h
  match us, r with
  | [_, _], .cons rx (.cons rt .nil) =>
    cases rx
    cases hcv _ rt
    obtain ⟨g, _⟩ := I.pin (a, oe) (List.mem_append_left _ List.mem_cons_self)
    obtain ⟨vs, hv⟩ := hf
    obtain ⟨mA, hns, _⟩ := show ObjOk X.prog X.w H s.heap dd (.xd fs) from I.hok dd _ ea
    obtain ⟨od, ho, _⟩ := lookIn_ns hns
    obtain ⟨cd, hc, _⟩ := PySem.W.any_some C.hd
    have J : PySem.W.InstAt s.heap a oe D (some od) := ⟨g, hz.1, by unfold PySem.W.notCls; rw [hv] <;> rfl, by rw [hz.2]; exact ho⟩
    exact PySem.W.kia_one (PySem.W.kitx_exc (by rw [hc]; rfl) C.hg C.hk C.hs C.ha C.hn C.ht C.hm) I.kIn J e (fun z => nomatch z) fun tk => ⟨.bl b, H, I.kept (t' := tk) fun _ _ z => z, rfl, q⟩
end Ver

namespace Ver
open PySem PySem.Spec PyProof.Rows L2 SeqAt
open AutoSeq1 (wpAny_loadPart')
/-! ### a dict and a text are never equal -/
theorem dict_no_str (l : Addr) (o : Obj) (b : Str) (u : Tok) :
    PySem.Meets (Builtin.«dict.__eq__» ⟨[.ref l, .str b u], []⟩) (fun _ R s => s.heap.get? l = some o ∧ R (.ok (.ret .notImplemented)) s) := .of_wp fun prog w A R s h => by
  obtain ⟨hp, g, d, tk, os⟩ := s
  have f1 := PySem.F.sub_str_dict
  wp_walk using wpAny_loadPart' h.1
  exact ⟨_, rfl, h.2⟩
theorem str_no_dict (l : Addr) (o : Obj) (b : Str) (u : Tok) (es : Array DictEntry) (ep : Nat) (hd : o.data = .dict es ep) :
    PySem.Meets (Builtin.«str.__eq__» ⟨[.str b u, .ref l], []⟩) (fun _ R s => s.heap.get? l = some o ∧ R (.ok (.ret .notImplemented)) s) := .of_wp fun prog w A R s h => by
  obtain ⟨hp, g, d, tk, os⟩ := s
  wp_walk using wpAny_loadPart' h.1, wpAny_load h.1
  rw [hd]
  wp_walk using wpAny_loadPart' h.1, wpAny_load h.1
  exact ⟨_, rfl, h.2⟩
section
variable {A : Around} {s : Shared} {l : Addr} {o : Obj} {es : Array DictEntry} {ep : Nat}
theorem rc_str_dict (b : Str) (u : Tok) (ho : s.heap.get? l = some o) (hc : o.cls = .type "dict") (hd : o.data = .dict es ep) (hu : A.units < cLine) : RcAt A s (.str b u) (.ref l) false := fun prog w E Q h =>
  rc_eq_decline_or (k := false) (typeIs_str s b u) ⟨_, ho, hc⟩ (by decide) PySem.F.sub_dict_str PySem.F.slot_str_eq PySem.F.slot_dict_eq_refl
    (fun _ q => call_meets PySem.F.slot_str_eq (typeIs_str s b u) PySem.F.entry_str_eq (PySem.F.args_str_eq_2 _ _) (str_no_dict l o b u es ep hd) ⟨ho, q⟩)
    (fun _ q => call_meets PySem.F.slot_dict_eq_refl ⟨_, ho, hc⟩ PySem.F.entry_dict_eq (PySem.F.args_dict_eq_2 _ _) (dict_no_str l o b u) ⟨ho, q⟩)
    (fun _ q => wpAny_of_eq (rfl : isSame (.str b u) (.ref l) = pure false) q) (.inr hu) h
theorem rc_dict_str (b : Str) (u : Tok) (ho : s.heap.get? l = some o) (hc : o.cls = .type "dict") (hd : o.data = .dict es ep) (hu : A.units < cLine) : RcAt A s (.ref l) (.str b u) false := fun prog w E Q h =>
  rc_eq_decline_or (k := false) ⟨_, ho, hc⟩ (typeIs_str s b u) (by decide) PySem.F.sub_str_dict PySem.F.slot_dict_eq PySem.F.slot_str_eq_refl
    (fun _ q => call_meets PySem.F.slot_dict_eq ⟨_, ho, hc⟩ PySem.F.entry_dict_eq (PySem.F.args_dict_eq_2 _ _) (dict_no_str l o b u) ⟨ho, q⟩)
    (fun _ q => call_meets PySem.F.slot_str_eq_refl (typeIs_str s b u) PySem.F.entry_str_eq (PySem.F.args_str_eq_2 _ _) (str_no_dict l o b u es ep hd) ⟨ho, q⟩)
    (fun _ q => wpAny_of_eq (rfl : isSame (.ref l) (.str b u) = pure false) q) (.inr hu) h
theorem ea_str_dict (b : Str) (u : Tok) (ho : s.heap.get? l = some o) (hc : o.cls = .type "dict") (hd : o.data = .dict es ep) (hu : A.units < cLine) : EqAt A s (.str b u) (.ref l) false := fun prog w E Q h => by
  unfold eqBool
  exact wpAny_holding (wpAny_ite_split (fun z => absurd (eq_of_beq z) nofun) fun _ => wpAny_bind (rc_str_dict b u ho hc hd hu prog w E _ (wpAny_truthy_bool h)))
end
section
variable {X : Cx}
/-- a dict == a text; a dict that is sought among texts -/
def rEqDS : R2 := fun x y H Q => ∃ (a : Addr) (kvs : List (Key × V)) (t : Str), x = .ref a ∧ y = .str t ∧ H a = some (.dK kvs) ∧ Q (.bl false) H
theorem op_eqDS (hu : X.A.units < cLine) : OpR X (compareOp .Eq) rEqDS := by
  intro pins s σ H x y v u Q I rx ry h
  obtain ⟨a, kvs, t, rfl, rfl, ea, q⟩ := h
  cases (show v = Value.ref a from rx)
  obtain ⟨tk, rfl⟩ := ry
  obtain ⟨_, _, vs, _, o, es, ep, ho, he, hd, _⟩ := dk_of I.hok ea
  show wpAny _ _ (richCompare .Eq (.ref a) (.str t tk)) _ _ _
  exact rc_dict_str t tk ho he.1 hd hu X.prog X.w _ _ ⟨.bl false, H, I, rfl, q⟩
def rNotInDS (K : PySem.W.Frag) : R2 := fun x y H Q => ∃ (a b : Addr) (kvs : List (Key × V)) (ts : List Str), x = .ref a ∧ y = .ref b ∧ H a = some (.dK kvs) ∧ SqL K H b (ts.map V.str) ∧ Q (.bl true) H
theorem op_notInDS (hu : X.A.units + 1 < cLine) : OpR X (compareOp .NotIn) (rNotInDS X.K) := by
  intro pins s σ H x y v u Q I rx ry h
  obtain ⟨a, b, kvs, ts, rfl, rfl, ea, hl, q⟩ := h
  cases (show v = Value.ref a from rx)
  cases (show u = Value.ref b from ry)
  obtain ⟨_, _, vs, _, o, es, ep, ho, he, hd, _⟩ := dk_of I.hok ea
  obtain ⟨its, rv, ⟨ob, n, hob, hoc, hdn, hdd⟩, _⟩ := I.list hl
  refine notIn_listAt (fun _ => false) ⟨ob, hob, hoc, n, hdd⟩ (fun z hz => ?_) ?_
  · obtain ⟨i, hi, e⟩ := Array.mem_iff_getElem.mp hz
    have hi2 : i < its.length := by simpa using hi
    have e2 : its[i] = z := by simpa using e
    have hlen := rv.length
    rw [List.length_map] at hlen
    obtain ⟨w2, hw, rw_⟩ := rv.get (i := i) (x := V.str ts[i]) (by rw [List.getElem?_map, List.getElem?_eq_getElem (by omega)]; rfl)
    rw [List.getElem?_eq_getElem hi2, e2] at hw
    cases hw
    obtain ⟨tk, rfl⟩ := rw_
    exact ea_str_dict ts[i] tk ho he.1 hd hu
  · have e : its.toArray.any (fun _ => false) = false := by simp
    rw [e]
    exact ⟨.bl true, H, I, rfl, q⟩
end
end Ver

namespace K01
open PySem PySem.Spec PyProof.Rows L2 Ver Num
/-- the names of the text's own defs and classes; the built-in names that it reads -/
def gl : List Str := ["is_integer", "is_between", "is_prime", "integer_of", "_law_pen", "_law_draw", "_law_pick", "_law_prime", "_law_odd", "_law_made_field", "_law_is_whole", "_law_is_prime", "_law_drawn_prime", "_law_is_fine", "_law_refused", "_law_read", "_law_bent_name", "law", "Field", "Fractions", "Modulo", "InvalidPrime", "InvalidText"]
def fr : List Str := ["isinstance", "int", "bool", "str", "len", "abs", "list", "range", "repr", "min", "ValueError"]
def FL : Int := 10000000000000000000000000000000000000000000000000000000000000000000000000000000000000000000000000000
abbrev s_Field_prime : Stmt := inClass (top 15) 2
abbrev s_Field_name : Stmt := inClass (top 15) 3
abbrev s_Field_named : Stmt := inClass (top 15) 5
/-- the def of Field's == -/
def eqF (K : PySem.W.Frag) : Addr := He.ma K (He.ga K "Field") "__eq__"
/-- a class of fields -/
structure FC (K : PySem.W.Frag) (C : Addr) : Prop where
  cl : Cls K C
  np : NoAttr K C "_prime"
  dg : ∃ t, Con K C "DIGITS" (.int 100) (.int 100 t)
  own : ∀ t ∈ ([Value.type "int", .type "str", .type "list", .ref (He.ga K "Fractions"), .ref (He.ga K "Modulo")] : List Value), OwnQ K C (eqF K) t
def fa : List He.Fa := gl.map He.Fa.glo ++ fr.map He.Fa.free
/-- what making and asking the objects of a class of fields wants -/
structure MC (K : PySem.W.Frag) (C : Addr) : Prop where
  mkr : Mk K C (He.ma K C "__init__")
  isF : PySem.W.kitOne K (.ref C) (.ref (He.ga K "Field")) = some true
  cl : PySem.W.findIn K (.ref C) "__class__" = some (some (.builtin "object.__class__"))
  ob : PySem.W.mroIn K C (.type "object") = some true
/-- an error with one field, made by its own __init__ -/
structure EC (K : PySem.W.Frag) (C : Addr) (f : Str) : Prop where
  ox : OexC K C
  nf : PySem.W.findIn K (.ref C) f = some none
  iC : PySem.W.findIn K (.ref C) "__init__" = some (some (.ref (He.ma K C "__init__")))
  tI : PySem.W.typeIn K (.ref (He.ma K C "__init__")) = some (.type "function")
  xf : XfC K C
  ec : ExcC K C
  te : PySem.W.exmOne K (.ref C) (.ref C) = some true
  isV : PySem.W.kitOne K (.ref C) (.type "ValueError") = some true
/-- a property of Field and its getter's def -/
structure PC (K : PySem.W.Frag) (m q : Str) (st : Stmt) (p g : Addr) : Prop where
  fF : PropOf K (He.ga K "Fractions") m p g
  fM : PropOf K (He.ga K "Modulo") m p g
  df : ∃ fd, FunD K m q (defArgs st) (defBody st) (defScope st) [] [] g fd
/-- what the top has left -/
structure Tx (K : PySem.W.Frag) (mg : Str → Option Value) : Prop where
  d : He.SaysD fa fn K
  g : ∀ x ∈ gl, mg x = some (.ref (He.ga K x))
  z : ∀ x ∈ fr, mg x = none
  gp : ∃ t, mg "GREATEST_PRIME" = some (.int 1000000000 t)
  pd : ∃ t, mg "PRIME_DIGITS" = some (.int 10 t)
  dd : ∃ t, mg "DECIMAL_DIGITS" = some (.str "0123456789" t)
  sm : Sm K
  isq : mg "isqrt" = some (.builtin "math.isqrt")
  fcF : FC K (He.ga K "Fractions")
  fcM : FC K (He.ga K "Modulo")
  mF : MC K (He.ga K "Fractions")
  mM : MC K (He.ga K "Modulo")
  eP : EC K (He.ga K "InvalidPrime") "value"
  eT : EC K (He.ga K "InvalidText") "line"
  pP : ∃ p g, PC K "prime" "Field.prime" s_Field_prime p g
  pN : ∃ p g, PC K "name" "Field.name" s_Field_name p g
  st : ∃ g fd, StM K (He.ga K "Field") "named" g ∧ FunD K "named" "Field.named" (defArgs s_Field_named) (defBody s_Field_named) (defScope s_Field_named) [] [] g fd
  cdF : ∃ t, ClX.CRead K (He.ga K "Field") (.type "type") ∧ ClX.CVal K (He.ga K "Field") (.type "type") "DIGITS" (.int 100) (.int 100 t)
  rdF : PySem.W.readsIn K (He.ga K "Field") (.type "type") = true
  gaF : PySem.W.specialIn K (.ref (He.ga K "Field")) "__getattribute__" = some (some (.builtin "type.__getattribute__"))
  fiF : PySem.W.findCls K (.ref (He.ga K "Field")) (.type "type") "__init__" = some (.val (.ref (He.ma K (He.ga K "Field") "__init__")))
  clS : PySem.W.specialIn K (.builtin "object.__class__") "__get__" = some (some (.builtin "getset_descriptor.__get__"))
  clT : PySem.W.takesIn K (.builtin "object.__class__") = some true
  vV : PySem.W.findCls K (.type "ValueError") (.type "type") "__init__" = some (.val (.builtin "ValueError.__init__"))
  nK : ∀ t ∈ ([.type "int", .type "str", .type "list"] : List Value), PySem.W.kitOne K t (.ref (He.ga K "Field")) = some false
theorem ifT {c : Bool} {A B : Prop} (h : c = true) (q : A) : if c = true then A else B := by
  rw [if_pos h]
  exact q
theorem ifF {c : Bool} {A B : Prop} (h : c = false) (q : B) : if c = true then A else B := by
  rw [if_neg (by rw [h]; exact Bool.false_ne_true)]
  exact q
theorem iEq (a b : Int) : decide (V.int a = V.int b) = decide (a = b) := by
  by_cases h : a = b
  · rw [decide_eq_true h, decide_eq_true (by rw [h])]
  · rw [decide_eq_false h, decide_eq_false fun z => h (V.int.inj z)]
theorem same_up {H : Hp} {p : Addr} {o : HO} (h : H p = none) : Same H (upd H p o) := fun b x e => by
  rw [upd_ne (ne_of_none e h)]
  exact e
end K01

namespace K01
open PySem PySem.Spec PyProof.Rows L2 Ver Num
/-! ### the pen: a dict of the script's cells, a place, a rest -/
def penL (c : Addr) (b l : Int) : List (Key × V) := [(.inr "cells", .ref c), (.inr "begun", .int b), (.inr "left", .int l)]
structure PenAt (H : Hp) (d : Addr) (k : Int) : Prop where
  ex : ∃ (c : Addr) (cells : List Int) (b l : Int), H d = some (.dK (penL c b l)) ∧ H c = some (.lst (cells.map V.int)) ∧ cells.length ≤ 63 ∧ 0 ≤ b ∧ b ≤ k ∧ 0 ≤ l
/-- all but what stands at d is kept; the pen's list of cells is the same object -/
def But (d : Addr) (H H' : Hp) : Prop := (∀ b o, H b = some o → b ≠ d → H' b = some o) ∧ ∀ c b l, H d = some (.dK (penL c b l)) → ∃ b' l', H' d = some (.dK (penL c b' l'))
theorem But.refl {d : Addr} {H : Hp} : But d H H := ⟨fun _ _ e _ => e, fun c b l e => ⟨b, l, e⟩⟩
theorem But.trans {d : Addr} {H H1 H2 : Hp} (a : But d H H1) (b : But d H1 H2) : But d H H2 := ⟨fun c o e n => b.1 c o (a.1 c o e n) n, fun c x l e => by
  obtain ⟨b1, l1, e1⟩ := a.2 c x l e
  exact b.2 c b1 l1 e1⟩
theorem But.same {d : Addr} {H H1 : Hp} (s : Same H H1) : But d H H1 := ⟨fun c o e _ => s c o e, fun c b l e => ⟨b, l, s _ _ e⟩⟩
theorem pen_inj {c c2 : Addr} {b b2 l l2 : Int} (h : penL c b l = penL c2 b2 l2) : c = c2 := by
  have h1 := (List.cons.inj h).1
  exact V.ref.inj (congrArg Prod.snd h1)
theorem but_up {d c : Addr} {H : Hp} {b l b' l' : Int} (h : H d = some (.dK (penL c b l))) : But d H (upd H d (.dK (penL c b' l'))) := ⟨fun b u e n => by rw [upd_ne n]; exact e, fun c2 b2 l2 e => by
  rw [h] at e
  have e2 : penL c b l = penL c2 b2 l2 := HO.dK.inj (Option.some.inj e)
  have ec := pen_inj e2
  subst ec
  exact ⟨b', l', upd_same⟩⟩
/-- the pen with its list of cells told -/
structure PenC (H : Hp) (d c : Addr) (k : Int) : Prop where
  ex : ∃ (cells : List Int) (b l : Int), H d = some (.dK (penL c b l)) ∧ H c = some (.lst (cells.map V.int)) ∧ cells.length ≤ 63 ∧ 0 ≤ b ∧ b ≤ k ∧ 0 ≤ l
theorem PenAt.c {H : Hp} {d : Addr} {k : Int} (p : PenAt H d k) : ∃ c, PenC H d c k := by
  obtain ⟨c, cells, b, l, h⟩ := p.ex
  exact ⟨c, cells, b, l, h⟩
theorem PenC.at_ {H : Hp} {d c : Addr} {k : Int} (p : PenC H d c k) : PenAt H d k := by
  obtain ⟨cells, b, l, h⟩ := p.ex
  exact ⟨c, cells, b, l, h⟩
theorem PenC.on {H H' : Hp} {d c : Addr} {k k' : Int} (p : PenC H d c k) (bt : But d H H') (q : PenAt H' d k') : PenC H' d c k' := by
  obtain ⟨cells, b, l, h1, _⟩ := p.ex
  obtain ⟨b1, l1, e1⟩ := bt.2 c b l h1
  obtain ⟨c2, cells2, b2, l2, g1, g⟩ := q.ex
  have e2 : penL c b1 l1 = penL c2 b2 l2 := HO.dK.inj (Option.some.inj (e1.symm.trans g1))
  have ec := pen_inj e2
  subst ec
  exact ⟨cells2, b2, l2, g1, g⟩
theorem PenC.up {H : Hp} {d c D : Addr} {k : Int} {o : HO} (p : PenC H d c k) (n1 : d ≠ D) (n2 : c ≠ D) : PenC (upd H D o) d c k := by
  obtain ⟨cells, b, l, h1, h2, h⟩ := p.ex
  exact ⟨cells, b, l, by rw [upd_ne n1]; exact h1, by rw [upd_ne n2]; exact h2, h⟩
theorem PenAt.same {H H' : Hp} {d : Addr} {k : Int} (p : PenAt H d k) (s : Same H H') : PenAt H' d k := by
  obtain ⟨c, cells, b, l, h1, h2, r⟩ := p.ex
  exact ⟨c, cells, b, l, s _ _ h1, s _ _ h2, r⟩
theorem PenAt.mono {H : Hp} {d : Addr} {j k : Int} (p : PenAt H d j) (h : j ≤ k) : PenAt H d k := by
  obtain ⟨c, cells, b, l, h1, h2, h3, h4, h5, h6⟩ := p.ex
  exact ⟨c, cells, b, l, h1, h2, h3, h4, by omega, h6⟩
theorem ks1 : ¬ (("cells" : Str) = "begun") := by decide +kernel
theorem ks2 : ¬ (("cells" : Str) = "left") := by decide +kernel
theorem ks3 : ¬ (("begun" : Str) = "left") := by decide +kernel
theorem nk {a b : Str} (h : ¬ a = b) : ¬ ((Sum.inr a : Key) = (Sum.inr b : Key)) := fun z => h (Sum.inr.inj z)
theorem pen_cells (c : Addr) (b l : Int) : valV (penL c b l) (.inr "cells") = some (.ref c) := valV_pos rfl
theorem pen_begun (c : Addr) (b l : Int) : valV (penL c b l) (.inr "begun") = some (.int b) := (valV_neg (nk ks1)).trans (valV_pos rfl)
theorem pen_left (c : Addr) (b l : Int) : valV (penL c b l) (.inr "left") = some (.int l) := (valV_neg (nk ks2)).trans ((valV_neg (nk ks3)).trans (valV_pos rfl))
theorem put_begun (c : Addr) (b l b' : Int) : putK (penL c b l) (.inr "begun") (.int b') = penL c b' l := by
  have n1 := nk ks1
  have n2 := nk (Ne.symm ks3)
  simp [putK, penL, n1, n2]
theorem put_left (c : Addr) (b l l' : Int) : putK (penL c b l) (.inr "left") (.int l') = penL c b l' := by
  have n1 := nk ks2
  have n2 := nk ks3
  simp [putK, penL, n1, n2]
theorem get_cells {H : Hp} {d c : Addr} {b l : Int} (h : H d = some (.dK (penL c b l))) : DGet H d (.str "cells") (some (.ref c)) := by
  have z := DGet.k (k := Sum.inr "cells") h
  rwa [pen_cells] at z
theorem get_begun {H : Hp} {d c : Addr} {b l : Int} (h : H d = some (.dK (penL c b l))) : DGet H d (.str "begun") (some (.int b)) := by
  have z := DGet.k (k := Sum.inr "begun") h
  rwa [pen_begun] at z
theorem get_left {H : Hp} {d c : Addr} {b l : Int} (h : H d = some (.dK (penL c b l))) : DGet H d (.str "left") (some (.int l)) := by
  have z := DGet.k (k := Sum.inr "left") h
  rwa [pen_left] at z
theorem dput_begun {H : Hp} {d c : Addr} {b l b' : Int} (h : H d = some (.dK (penL c b l))) : DPut H d (.str "begun") (.int b') (upd H d (.dK (penL c b' l))) := by
  have z := DPut.k (k := Sum.inr "begun") (v := .int b') h (by show 3 < sizeLine; decide)
  rwa [put_begun] at z
theorem dput_left {H : Hp} {d c : Addr} {b l l' : Int} (h : H d = some (.dK (penL c b l))) : DPut H d (.str "left") (.int l') (upd H d (.dK (penL c b l'))) := by
  have z := DPut.k (k := Sum.inr "left") (v := .int l') h (by show 3 < sizeLine; decide)
  rwa [put_left] at z
theorem merge_pen (c : Addr) (b l : Int) : mergeK [] (penL c b l) = penL c b l := by
  have n1 := nk ks1
  have n2 := nk ks2
  have n3 := nk ks3
  simp [mergeK, putK, penL, n1, n2, n3]
/-! ### lists of ints as data -/
theorem dp_ints {K : PySem.W.Frag} {H : Hp} : ∀ ns : List Int, DpAll K H (ns.map V.int) (ns.map PyData.int)
  | [] => .nil
  | n :: ns => .cons (.int n) (dp_ints ns)
theorem ints_depth : ∀ ns : List Int, PyData.depthAll (ns.map PyData.int) ≤ 1
  | [] => by simp [PyData.depthAll]
  | n :: ns => by
    have := ints_depth ns
    simp only [List.map_cons, PyData.depthAll, PyData.depth]
    omega
theorem ints_can : ∀ ns : List Int, PyData.canLayAll0 (ns.map PyData.int) = true
  | [] => by simp [PyData.canLayAll0]
  | n :: ns => by simp only [List.map_cons, PyData.canLayAll0, PyData.canLay0, ints_can ns, Bool.and_true]
theorem ints_shaped (ns : List Int) : SeqAt.shaped (.list (ns.map PyData.int)) = true := by
  unfold SeqAt.shaped
  have h1 := ints_depth ns
  have h2 := ints_can ns
  have e1 : (PyData.list (ns.map PyData.int)).canLay0 = true := by simp only [PyData.canLay0, h2]
  have e2 : (PyData.list (ns.map PyData.int)).depth ≤ 64 := by
    simp only [PyData.depth]
    omega
  rw [e1, decide_eq_true e2]
  rfl
theorem ints_empty : ∀ ns : List Int, PyData.eqv (.list (ns.map PyData.int)) (.list []) = decide (ns = [])
  | [] => by simp [PyData.eqv, PyData.eqvAll]
  | n :: ns => by simp [PyData.eqv, PyData.eqvAll]
end K01

namespace K01
open PySem PySem.Spec PyProof.Rows L2 Ver Num
section
variable {P : Program} {w : World} {K : PySem.W.Frag} {mg : Str → Option Value} {base : Heap}
/-! ### _law_pen -/
theorem cut_ints (ns : List Int) (lo hi : Option Int) : cutV (ns.map V.int) lo hi = ((ns.drop (HT.sIx ns.length 0 lo)).take (HT.sIx ns.length ns.length hi - HT.sIx ns.length 0 lo)).map V.int := by
  unfold cutV
  rw [List.length_map, List.map_take, List.map_drop]
def spPen (K : PySem.W.Frag) : Sp := fun vs H Q _ => ∃ (a : Addr) (ns : List Int), vs = [.ref a] ∧ SqL K H a (ns.map V.int) ∧ ns.length ≤ 63 ∧ ∀ (d : Addr) (H' : Hp), Same H H' → H d = none → PenAt H' d 0 → Q (.ref d) H'
theorem ok_pen (T : Tx K mg) : FnG P w K mg base CX0 1 (He.ga K "_law_pen") (spPen K) := by
  refine mk__law_pen T.d (fun vs H Q E h => ?_) (fun cdv A outer s H vs Q E hg hr h => ?_)
  · obtain ⟨a, ns, rfl, _⟩ := h
    rfl
  · obtain ⟨a, ns, rfl, hs, hl, q⟩ := h
    refine ⟨_, pss_one (ps_ret (pe_disp (pps_cons pe_str (pe_callTy call_list_of (by rfl) (T.z "list" (by decide +kernel)) (by decide +kernel) (pa_cons (pe_slice sl_list (pv 0) po_none (po_some pe_int)) pa_nil))
      (pps_cons pe_str pe_int (pps_cons pe_str pe_int pps_nil))) (by rfl) (by rfl) (fun z => by cases z) (by decide))), ?_⟩
    intro d nd
    have s0 := same_up (o := .dK []) nd
    refine ⟨_, rfl, 63, rfl, a, _, rfl, s0.seq hs, fun m nm => ?_⟩
    have s1 := same_up (o := .lst (cutV (ns.map V.int) none (some 63))) nm
    refine ⟨m, _, rfl, .inl (.inl (.inl upd_same)), fun c nc => ?_⟩
    have s2 := same_up (o := .lst (cutV (ns.map V.int) none (some 63))) nc
    have sa := (s0.trans s1).trans s2
    have dd : H d = none := nd
    have dm : d ≠ m := ne_of_none upd_same nm
    have dc : d ≠ c := fun z => by
      rw [← z, upd_ne dm, upd_same] at nc
      cases nc
    refine ⟨?_, penL c 0 0, rfl, by show 3 ≤ 15; decide, ?_⟩
    · rw [upd_ne dc, upd_ne dm, upd_same]
    · rw [merge_pen]
      refine q d _ (fun b o e => ?_) nd ⟨c, (ns.drop (HT.sIx ns.length 0 none)).take (HT.sIx ns.length ns.length (some 63) - HT.sIx ns.length 0 none), 0, 0, upd_same, ?_, ?_, by omega, by omega, by omega⟩
      · rw [upd_ne (ne_of_none e nd)]
        exact sa _ _ e
      · rw [upd_ne (Ne.symm dc), upd_same, cut_ints]
      · rw [List.length_take, List.length_drop]
        omega
/-! ### _law_draw -/
theorem em1 {X m : Int} (h : 0 < m) (h2 : m ≤ 2 ^ 64) : -(2 ^ 64) < X % m ∧ X % m < 2 ^ 64 := by
  have a := Int.emod_nonneg X (show m ≠ 0 by omega)
  have b := Int.emod_lt_of_pos X h
  omega
def spDraw : Sp := fun vs H Q _ => ∃ (d : Addr) (k n : Int), vs = [.ref d, .int n] ∧ PenAt H d k ∧ k < 1000000000000 ∧ 0 < n ∧ n < 1073741824 ∧
  ∀ (i : Int) (H' : Hp), But d H H' → PenAt H' d (k + 1) → 0 ≤ i → i < n → Q (.int i) H'
theorem ok_draw (T : Tx K mg) : FnG P w K mg base CX0 1 (He.ga K "_law_draw") spDraw := by
  refine mk__law_draw T.d (fun vs H Q E h => ?_) (fun cdv A outer s H vs Q E hg hr h => ?_)
  · obtain ⟨d, k, n, rfl, _⟩ := h
    rfl
  · obtain ⟨d, k, n, rfl, pen, k9, n0, n9, q⟩ := h
    have hu := hu_of hr
    have nd := sc__law_draw.nd
    have zi := T.z "int" (by decide +kernel)
    have zl := T.z "len" (by decide +kernel)
    have za := T.z "abs" (by decide +kernel)
    have bi : bootBuiltins "int" = some (.type "int") := by decide +kernel
    have bl : bootBuiltins "len" = some (.builtin "len") := by decide +kernel
    have ba : bootBuiltins "abs" = some (.builtin "abs") := by decide +kernel
    obtain ⟨c, cells, b, l, hd, hc, cl, b0, bk, l0⟩ := pen.ex
    have dc : d ≠ c := ne_of hd hc (by intro z; cases z)
    refine ⟨_, pss_cons (ps_if (pt_cmpR op_gt (pe_dget hu (pv 0) pe_str (fun _ _ => rfl)) pe_int (nomark _))
        (pss_cons (ps_set (i := 2) nd rfl (Or.inl rfl) (pe_op op_mod (pe_callTy call_int1 (by rfl) zi bi (pa_cons (pe_dget hu (pv 0) pe_str (fun _ _ => rfl)) pa_nil)) (pv 1)))
        (pss_cons (ps_dput hu (pv 0) pe_str (pe_op op_fdiv (pe_dget hu (pv 0) pe_str (fun _ _ => rfl)) (pv 1)) rfl)
        (pss_one (ps_ret (pv 2))))) pss_nil)
      (pss_cons (ps_set (i := 3) nd rfl (Or.inl rfl) (pe_dget hu (pv 0) pe_str (fun _ _ => rfl)))
      (pss_cons (ps_dput hu (pv 0) pe_str (pe_op op_add (pv 3) pe_int) rfl)
      (pss_cons (ps_set (i := 4) nd rfl (Or.inl rfl) (pe_op op_add (pe_op op_mul pe_int (pv 3)) pe_int))
      (pss_cons (ps_if (pt_cmpR (op_neD hr.units) (pe_dget hu (pv 0) pe_str (fun _ _ => rfl)) (pe_lst pa_nil) (nomark _))
        (pss_one (ps_set (i := 4) nd rfl (Or.inl rfl) (pe_ix ix_list (pe_dget hu (pv 0) pe_str (fun _ _ => rfl))
          (pe_op op_mod (pe_callTy call_int1 (by rfl) zi bi (pa_cons (pv 3) pa_nil)) (pe_callB call_len_seq (by rfl) zl bl (pa_cons (pe_dget hu (pv 0) pe_str (fun _ _ => rfl)) pa_nil))) (fun _ _ => rfl)))) pss_nil)
      (pss_cons (ps_if (PW.pt (pw_and (pt_cmpR op_lt (pv 3) (pe_callB call_len_seq (by rfl) zl bl (pa_cons (pe_dget hu (pv 0) pe_str (fun _ _ => rfl)) pa_nil)) (nomark _))
          (pw_and1 (pt_cmpR op_ge (pe_callB call_abs (by rfl) za ba (pa_cons (pv 4) pa_nil)) (pe_op op_pow pe_int pe_int) (nomark _)))))
        (pss_cons (ps_dput hu (pv 0) pe_str (pe_op op_fdiv (pe_op op_sub (pe_callB call_abs (by rfl) za ba (pa_cons (pv 4) pa_nil)) (pe_op op_pow pe_int pe_int)) (pv 1)) rfl)
        (pss_one (ps_ret (pe_op op_mod (pe_callTy call_int1 (by rfl) zi bi (pa_cons (pe_op op_sub (pe_callB call_abs (by rfl) za ba (pa_cons (pv 4) pa_nil)) (pe_op op_pow pe_int pe_int)) pa_nil)) (pv 1))))) pss_nil)
      (pss_cons (ps_set (i := 5) nd rfl (Or.inl rfl) (pe_op op_mul (pe_op op_mod (pe_callTy call_int1 (by rfl) zi bi (pa_cons (pv 4) pa_nil)) pe_int) pe_int))
      (pss_cons (ps_set (i := 6) nd rfl (Or.inl rfl) (pe_op op_mod (pe_callTy call_int1 (by rfl) zi bi (pa_cons (pe_op op_add (pe_op op_add (pv 5) (pe_op op_mul (pv 3) (pe_op op_add (pe_op op_mul pe_int (pv 3)) pe_int))) pe_int) pa_nil)) pe_int))
      (pss_cons (ps_set (i := 6) nd rfl (Or.inl rfl) (pe_op op_mod (pe_callTy call_int1 (by rfl) zi bi (pa_cons (pe_op op_add (pe_op op_add (pe_op op_add (pe_op op_mul (pv 6) (pv 6)) (pe_op op_mul pe_int (pv 6))) (pe_op op_mul pe_int (pv 3))) pe_int) pa_nil)) pe_int))
      (pss_one (ps_ret (pe_op op_mod (pe_callTy call_int1 (by rfl) zi bi (pa_cons (pe_op op_fdiv (pe_op op_mod (pe_callTy call_int1 (by rfl) zi bi (pa_cons (pe_op op_mul (pv 6) (pe_op op_add (pv 6) pe_int)) pa_nil)) pe_int) pe_int) pa_nil)) (pv 1)))))))))))), ?_⟩
    refine ⟨_, rfl, d, _, rfl, get_left hd, _, _, rfl, rfl, _, rfl, ?_⟩
    refine ite2 (fun hz => ?_) (fun hz => ?_)
    · -- the rest of a great cell
      refine ⟨_, rfl, d, _, rfl, get_left hd, .inl ⟨_, rfl, _, rfl, _, _, rfl, rfl, (by show 0 < n; omega), ?_⟩⟩
      refine ⟨_, rfl, d, _, rfl, get_left hd, _, rfl, _, _, rfl, rfl, ⟨by show 0 < n; omega, by show n < 1073741824; omega⟩, _, rfl, d, _, rfl, dput_left hd, ?_⟩
      refine ⟨_, rfl, q _ _ (but_up hd) ⟨c, cells, b, l / n, upd_same, by rw [upd_ne (Ne.symm dc)]; exact hc, cl, b0, by omega, Int.ediv_nonneg l0 (by omega)⟩ (Int.emod_nonneg _ (by omega)) (Int.emod_lt_of_pos _ n0)⟩
    · -- a new cell
      have hd1 : (upd H d (.dK (penL c (b + 1) l))) d = some (.dK (penL c (b + 1) l)) := upd_same
      have hc1 : (upd H d (.dK (penL c (b + 1) l))) c = some (.lst (cells.map V.int)) := by rw [upd_ne (Ne.symm dc)]; exact hc
      refine ⟨_, rfl, d, _, rfl, get_begun hd, ?_⟩
      refine ⟨_, rfl, _, _, rfl, rfl, _, rfl, d, _, rfl, dput_begun hd, ?_⟩
      refine ⟨_, rfl, _, _, rfl, rfl, .inl ⟨by decide, by decide⟩, _, _, rfl, rfl, ?_⟩
      refine ⟨_, rfl, d, _, rfl, get_cells hd1, Nat.zero_le _, fun z nz => ?_⟩
      have sz := same_up (o := .lst []) nz
      have hd2 := sz _ _ hd1
      have hc2 := sz _ _ hc1
      have bt : But d H (upd (upd H d (.dK (penL c (b + 1) l))) z (.lst [])) := (but_up hd).trans (But.same sz)
      refine ⟨.list (cells.map PyData.int), .list [], .lst (SqL.of hc2) (dp_ints cells), .lst (SqL.of upd_same) .nil, ints_shaped cells, ints_shaped [], _, rfl, ?_⟩
      rw [ints_empty]
      generalize upd (upd H d (.dK (penL c (b + 1) l))) z (.lst []) = H2 at hd2 hc2 bt
      have pen2 : ∀ l' : Int, 0 ≤ l' → PenAt (upd H2 d (.dK (penL c (b + 1) l'))) d (k + 1) := fun l' z0 => ⟨c, cells, b + 1, l', upd_same, by rw [upd_ne (Ne.symm dc)]; exact hc2, cl, by omega, by omega, z0⟩
      have pen0 : PenAt H2 d (k + 1) := ⟨c, cells, b + 1, l, hd2, hc2, cl, by omega, by omega, l0⟩
      by_cases he : cells = []
      all_goals
        first
        | (refine ifF (by rw [decide_eq_true he]; rfl) ?_)
        | (have hlen : 0 < (cells.map V.int).length := by
            rw [List.length_map]
            exact List.length_pos_iff.mpr he
           have hm0 := Int.emod_nonneg b (show (((cells.map V.int).length : Nat) : Int) ≠ 0 by omega)
           have hm1 := Int.emod_lt_of_pos b (show (0 : Int) < (((cells.map V.int).length : Nat) : Int) by omega)
           obtain ⟨j, hj⟩ : ∃ j : Nat, b % (((cells.map V.int).length : Nat) : Int) = (j : Int) := ⟨(b % (((cells.map V.int).length : Nat) : Int)).toNat, by omega⟩
           have jl : j < cells.length := by
            rw [hj, List.length_map] at hm1
            omega
           have hat : atI (cells.map V.int) (b % (((cells.map V.int).length : Nat) : Int)) = some (V.int cells[j]) := by
            rw [hj]
            exact atI_nat (by rw [List.getElem?_map, List.getElem?_eq_getElem jl]; rfl)
           refine ifT (by rw [decide_eq_false he]; rfl) ?_
           refine ⟨_, rfl, d, _, rfl, get_cells hd2, _, rfl, .inl ⟨_, rfl, _, rfl, d, _, rfl, get_cells hd2, c, _, rfl, .inl (SqL.of hc2), _, _, rfl, rfl, (by show (0 : Int) < (((cells.map V.int).length : Nat) : Int); omega), c, _, _, _, rfl, rfl, SqL.of hc2, hat, ?_⟩⟩)
        refine ⟨_, rfl, _, rfl, d, _, rfl, get_cells hd2, c, _, rfl, .inl (SqL.of hc2), _, _, rfl, rfl, _, rfl, ?_⟩
        refine ite2 (fun h1 => ?_) (fun h1 => iteF ?_)
        all_goals
          first
          | (refine ⟨_, rfl, _, rfl, _, _, rfl, rfl, ⟨by decide, by decide, by decide⟩, _, _, rfl, rfl, _, rfl, ?_⟩
             refine ite2 (fun h2 => ?_) (fun h2 => ?_))
          | skip
        all_goals
          first
          | (have h3 := of_decide_eq_true h2
             refine ⟨_, rfl, _, rfl, _, _, rfl, rfl, ⟨by decide, by decide, by decide⟩, _, _, rfl, rfl, _, rfl, _, _, rfl, rfl, ⟨by show 0 < n; omega, by show n < 1073741824; omega⟩, _, rfl, d, _, rfl, dput_left hd2, ?_⟩
             refine ⟨_, rfl, _, rfl, _, _, rfl, rfl, ⟨by decide, by decide, by decide⟩, _, _, rfl, rfl, .inl ⟨_, rfl, _, rfl, _, _, rfl, rfl, (by show 0 < n; omega), ?_⟩⟩
             exact q _ _ (bt.trans (but_up hd2)) (pen2 _ (Int.ediv_nonneg (Int.sub_nonneg.mpr h3) (by omega))) (Int.emod_nonneg _ (by omega)) (Int.emod_lt_of_pos _ n0))
          | (refine ⟨_, rfl, .inl ⟨_, rfl, _, _, rfl, rfl, (by show (0 : Int) < 4294967197; decide), _, _, rfl, rfl, .inr ⟨by decide, by decide⟩, ?_⟩⟩
             refine ⟨_, rfl, _, rfl, _, rfl, _, _, rfl, rfl, .inl ⟨by decide, by decide⟩, _, _, rfl, rfl, _, _, rfl, rfl, .inl ⟨by show -(2 ^ 64) < b; omega, by show b < 2 ^ 64; omega⟩, _, _, rfl, rfl, _, _, rfl, rfl, .inl ⟨_, rfl, _, _, rfl, rfl, (by show (0 : Int) < 4294967189; decide), ?_⟩⟩
             refine ⟨_, rfl, _, rfl, _, _, rfl, rfl, .inl (em1 (by decide) (by decide)), _, rfl, _, _, rfl, rfl, .inl ⟨by decide, by decide⟩, _, _, rfl, rfl, _, rfl, _, _, rfl, rfl, .inl ⟨by decide, by decide⟩, _, _, rfl, rfl, _, _, rfl, rfl, .inl ⟨_, rfl, _, _, rfl, rfl, (by show (0 : Int) < 4294967161; decide), ?_⟩⟩
             refine ⟨_, rfl, _, rfl, _, _, rfl, rfl, _, _, rfl, rfl, .inl (em1 (by decide) (by decide)), .inl ⟨_, rfl, _, _, rfl, rfl, (by show (0 : Int) < 4294967143; decide), _, _, rfl, rfl, ⟨by decide, by decide⟩, .inl ⟨_, rfl, _, rfl, _, _, rfl, rfl, (by show 0 < n; omega), ?_⟩⟩⟩
             exact q _ _ bt pen0 (Int.emod_nonneg _ (by omega)) (Int.emod_lt_of_pos _ n0))
end
end K01

namespace K01
open PySem PySem.Spec PyProof.Rows L2 Ver Num
section
variable {P : Program} {w : World} {K : PySem.W.Frag} {mg : Str → Option Value} {base : Heap}
theorem pen_ne {H : Hp} {d a : Addr} {k : Int} {xs : List V} (p : PenAt H d k) (h : H a = some (.lst xs)) : a ≠ d := by
  obtain ⟨c, cells, b, l, h1, _⟩ := p.ex
  exact ne_of h h1 (by intro z; cases z)
/-! ### _law_pick, _law_prime, _law_number -/
def spPick : Sp := fun vs H Q _ => ∃ (d a : Addr) (k : Int) (xs : List V), vs = [.ref d, .ref a] ∧ PenAt H d k ∧ k < 1000000000000 ∧ H a = some (.lst xs) ∧ 0 < xs.length ∧ xs.length < 1000 ∧
  ∀ (x : V) (H' : Hp), x ∈ xs → But d H H' → PenAt H' d (k + 1) → Q x H'
theorem ok_pick (T : Tx K mg) : FnG P w K mg base CX0 2 (He.ga K "_law_pick") spPick := by
  refine mk__law_pick T.d (fun vs H Q E h => ?_) (fun cdv A outer s H vs Q E hg hr h => ?_)
  · obtain ⟨d, a, k, xs, rfl, _⟩ := h
    rfl
  · obtain ⟨d, a, k, xs, rfl, pen, k9, ha, l0, l9, q⟩ := h
    refine ⟨_, pss_one (ps_ret (pe_ix ix_list (pv 1) (pe_callG (ok_draw T) hr hg (by rfl) (T.g "_law_draw" (by decide +kernel)) (kp__law_draw T.d) pass0
      (pa_cons (pv 0) (pa_cons (pe_callB call_len_seq (by rfl) (T.z "len" (by decide +kernel)) (by decide +kernel) (pa_cons (pv 1) pa_nil)) pa_nil))) (fun _ _ => rfl))), ?_⟩
    refine ⟨_, rfl, _, rfl, _, rfl, a, xs, rfl, .inl (SqL.of ha), d, k, _, rfl, pen, k9, by omega, by omega, fun i H1 bt pen1 i0 i1 => ?_⟩
    have ha1 := bt.1 a _ ha (pen_ne pen ha)
    obtain ⟨j, rfl⟩ : ∃ j : Nat, i = (j : Int) := ⟨i.toNat, by omega⟩
    have jl : j < xs.length := by omega
    refine ⟨a, xs, _, xs[j], rfl, rfl, SqL.of ha1, atI_nat (List.getElem?_eq_getElem jl), q _ H1 (List.getElem_mem jl) bt pen1⟩
end
end K01

namespace K01
open PySem PySem.Spec PyProof.Rows L2 Ver Num
/-! ### the names of fields -/
def digits : Str := "0123456789"
/-- the text is gone on with: not empty, not too long, of digits -/
def plainT (t : Str) (m : Nat) : Bool := decide (1 ≤ t.length) && decide (t.length ≤ m) && decide (Txt.stripChars t digits = "")
def bentZ (t : Str) : Bool := Txt.startswith t "0" && !decide (t = "0")
/-- the integer that a text is -/
def intOf (t : Str) (m : Nat) : Option Int := if plainT t m = true then (if bentZ t = true then none else PySem.intText? t) else none
/-- where it is asked, the text is one of an integer -/
def reachT (t : Str) (m : Nat) : Bool := !plainT t m || (bentZ t || (PySem.intText? t).isSome)
def tailT (t : Str) : Str := Txt.removeprefix t "modulo "
/-- the code of the field with this name -/
def namedI (t : Str) : Option Int := if t = "fractions" then some 0 else if Txt.startswith t "modulo " = true then (match intOf (tailT t) 10 with
  | some p => if prB Float64.isqrt p = true then some p else none
  | none => none) else none
def reachN (t : Str) : Bool := decide (t.length ≤ 10000) && (decide ((tailT t).length ≤ 10000) && reachT (tailT t) 10)
def namedD : PyData → Option Int
  | .str t => namedI t
  | _ => none
def isSp (t : Str) : Bool := decide (t = "fractions") || decide (t = "modulo 7")
/-- what the law asks of any value that it draws -/
def oddB : PyData → Bool
  | .dict _ => true
  | .str t => SeqAt.shaped (.str t) && (reachN t && (isSp t || (namedI t).isNone))
  | d => SeqAt.shaped d
end K01

namespace K01
open PySem PySem.Spec PyProof.Rows L2 Ver Num
section
variable {P : Program} {w : World} {K : PySem.W.Frag} {mg : Str → Option Value} {base : Heap}
/-- a value without parts -/
def atomD : PyData → Bool
  | .list _ => false
  | .tuple _ => false
  | .dict _ => false
  | _ => true
/-- how long it is, shown; of a tuple what its parts are together -/
def wtD : PyData → Nat
  | .tuple ds => piled (PyData.shownAll ds)
  | d => d.shown.length
def flatT : PyData → Bool
  | .tuple ds => ds.all atomD
  | _ => true
def OkO (d : PyData) : Prop := d.showable = true ∧ wtD d ≤ 1000 ∧ d.depth ≤ 4 ∧ flatT d = true ∧ oddB d = true
/-- a value that stays while the pen at p draws -/
def DoS (p : Addr) (K : PySem.W.Frag) (H : Hp) (x : V) (d : PyData) : Prop := ∀ H2, But p H H2 → Do K H2 x d
theorem DoS.do_ {p : Addr} {K : PySem.W.Frag} {H : Hp} {x : V} {d : PyData} (h : DoS p K H x d) : Do K H x d := h H But.refl
theorem DoS.but {p : Addr} {K : PySem.W.Frag} {H H' : Hp} {x : V} {d : PyData} (h : DoS p K H x d) (b : But p H H') : DoS p K H' x d := fun H2 b2 => h H2 (b.trans b2)
theorem up2 {H : Hp} {p : Addr} {o o2 : HO} (h : H p = none) : Same H (upd (upd H p o) p o2) := fun b x e => by
  rw [upd_ne (ne_of_none e h), upd_ne (ne_of_none e h)]
  exact e
abbrev oL1 : List V := [.non, .bl true, .bl false, .int 0, .int 1, .int (-1), .int 2, .int 7, .int 160, .int 161, .int (10 ^ (30 : Int).toNat), .str "", .str "a", .str "b", .str "ab", .str "ba"]
abbrev oL2 : List V := [.int (10 ^ (50 : Int).toNat * 10 ^ (50 : Int).toNat * 10 ^ (9 : Int).toNat), .int (0 - 10 ^ (50 : Int).toNat * 10 ^ (50 : Int).toNat * 10 ^ (9 : Int).toNat)]
abbrev oL3 (a b c d e : Addr) : List V := [.str "A", .str "0", .str "1", .str "1/2", .str "fractions", .str "modulo 7", .str "a b", .str " ", .str "aa", .str "abcde", .ref a, .ref b, .ref c, .ref d, .ref e]
abbrev oL4 (a b c d e f g h i j k : Addr) : List V := [.ref a, .ref b, .ref c, .ref d, .ref e, .ref f, .ref g, .ref h, .ref i, .ref j, .ref k]
def spOdd (K : PySem.W.Frag) : Sp := fun vs H Q _ => ∃ (d : Addr) (k : Int), vs = [.ref d] ∧ PenAt H d k ∧ k < 1000000 ∧ ∀ (x : V) (dd : PyData) (H' : Hp), DoS d K H' x dd → OkO dd → But d H H' → PenAt H' d (k + 1) → Q x H'
theorem ok_odd (T : Tx K mg) : FnG P w K mg base CX0 3 (He.ga K "_law_odd") (spOdd K) := by
  refine mk__law_odd T.d (fun vs H Q E h => ?_) (fun cdv A outer s H vs Q E hg hr h => ?_)
  · obtain ⟨d, k, rfl, _⟩ := h
    rfl
  · obtain ⟨d, k, rfl, pen, k9, q⟩ := h
    have nd := sc__law_odd.nd
    refine ⟨_, pss_cons (ps_set (i := 1) nd rfl (Or.inl rfl) (pe_lst (pa_cons pe_non (pa_cons pe_bl (pa_cons pe_bl (pa_cons pe_int (pa_cons pe_int (pa_cons (pe_un un_neg pe_int) (pa_cons pe_int (pa_cons pe_int (pa_cons pe_int (pa_cons pe_int (pa_cons (pe_op op_pow pe_int pe_int) (pa_cons pe_str (pa_cons pe_str (pa_cons pe_str (pa_cons pe_str (pa_cons pe_str pa_nil))))))))))))))))))
      (pss_cons (ps_set (i := 1) nd rfl (Or.inl rfl) (pe_op op_cat (pv 1) (pe_lst (pa_cons (pe_op op_mulW (pe_op op_mulW (pe_op op_pow pe_int pe_int) (pe_op op_pow pe_int pe_int)) (pe_op op_pow pe_int pe_int)) (pa_cons (pe_op op_sub pe_int (pe_op op_mulW (pe_op op_mulW (pe_op op_pow pe_int pe_int) (pe_op op_pow pe_int pe_int)) (pe_op op_pow pe_int pe_int))) pa_nil)))))
      (pss_cons (ps_set (i := 1) nd rfl (Or.inl rfl) (pe_op op_cat (pv 1) (pe_lst (pa_cons pe_str (pa_cons pe_str (pa_cons pe_str (pa_cons pe_str (pa_cons pe_str (pa_cons pe_str (pa_cons pe_str (pa_cons pe_str (pa_cons pe_str (pa_cons pe_str (pa_cons (pe_tup pa_nil) (pa_cons (pe_lst pa_nil) (pa_cons pe_dnewK (pa_cons (pe_tup (pa_cons pe_str pa_nil)) (pa_cons (pe_lst (pa_cons pe_str pa_nil)) pa_nil))))))))))))))))))
      (pss_cons (ps_set (i := 1) nd rfl (Or.inl rfl) (pe_op op_cat (pv 1) (pe_lst (pa_cons (pe_lst (pa_cons pe_int pa_nil)) (pa_cons (pe_tup (pa_cons pe_int (pa_cons pe_int pa_nil))) (pa_cons (pe_tup (pa_cons pe_int (pa_cons pe_int pa_nil))) (pa_cons (pe_tup (pa_cons pe_int (pa_cons pe_int pa_nil))) (pa_cons (pe_tup (pa_cons pe_int (pa_cons pe_int pa_nil))) (pa_cons (pe_tup (pa_cons pe_int (pa_cons pe_int pa_nil))) (pa_cons (pe_tup (pa_cons pe_int (pa_cons (pe_un un_neg pe_int) pa_nil))) (pa_cons (pe_tup (pa_cons pe_bl (pa_cons pe_int pa_nil))) (pa_cons (pe_lst (pa_cons pe_int (pa_cons pe_int pa_nil))) (pa_cons (pe_tup (pa_cons pe_int (pa_cons pe_int (pa_cons pe_int pa_nil)))) (pa_cons (pe_disp (pps_cons pe_str pe_int pps_nil) (by rfl) (by rfl) (fun z => by cases z) (by decide)) pa_nil))))))))))))))
      (pss_one (ps_ret (pe_callG (ok_pick T) hr hg (by rfl) (T.g "_law_pick" (by decide +kernel)) (kp__law_pick T.d) pass0 (pa_cons (pv 0) (pa_cons (pv 1) pa_nil)))))))), ?_⟩
    refine ⟨_, rfl, _, _, rfl, rfl, ⟨by decide, by decide, by decide⟩, by show 16 ≤ sizeLine; decide, fun l1 n1 => ?_⟩
    have s_l1 := same_up (o := .lst oL1) n1
    refine ⟨_, rfl, _, _, rfl, rfl, ⟨by decide, by decide, by decide⟩, _, _, rfl, rfl, ⟨by decide, by decide, by decide⟩, _, _, rfl, rfl, (by show CMulW _ _; unfold CMulW; decide +kernel), _, _, rfl, rfl, ⟨by decide, by decide, by decide⟩, _, _, rfl, rfl, (by show CMulW _ _; unfold CMulW; decide +kernel), _, _, rfl, rfl, ⟨by decide, by decide, by decide⟩, _, _, rfl, rfl, ⟨by decide, by decide, by decide⟩, _, _, rfl, rfl, (by show CMulW _ _; unfold CMulW; decide +kernel), _, _, rfl, rfl, ⟨by decide, by decide, by decide⟩, _, _, rfl, rfl, (by show CMulW _ _; unfold CMulW; decide +kernel), _, _, rfl, rfl, by show 2 ≤ sizeLine; decide, fun l2 n2 => ?_⟩
    have s_l2 := same_up (o := .lst oL2) n2
    refine ⟨l1, l2, _, _, rfl, rfl, s_l2 _ _ upd_same, upd_same, by show 16 + 2 ≤ sizeLine; decide, fun c2 n3 => ?_⟩
    have s_c2 := same_up (o := .lst (oL1 ++ oL2)) n3
    refine ⟨_, rfl, by show 0 ≤ sizeLine; decide, fun a1 m1 => ?_⟩
    have s_a1 := same_up (o := .tup []) m1
    refine ⟨by show 0 ≤ sizeLine; decide, fun a2 m2 => ?_⟩
    have s_a2 := same_up (o := .lst []) m2
    refine fun a3 m3 => ?_
    have s_a3 := same_up (o := .dK []) m3
    refine ⟨by show 1 ≤ sizeLine; decide, fun a4 m4 => ?_⟩
    have s_a4 := same_up (o := .tup [V.str "a"]) m4
    refine ⟨by show 1 ≤ sizeLine; decide, fun a5 m5 => ?_⟩
    have s_a5 := same_up (o := .lst [V.str "a"]) m5
    refine ⟨by show 15 ≤ sizeLine; decide, fun l3 n4 => ?_⟩
    have s_l3 := same_up (o := .lst (oL3 a1 a2 a3 a4 a5)) n4
    refine ⟨c2, l3, _, _, rfl, rfl, (((((s_a1.trans s_a2).trans s_a3).trans s_a4).trans s_a5).trans s_l3) _ _ upd_same, upd_same, by show 18 + 15 ≤ sizeLine; decide, fun c3 n5 => ?_⟩
    have s_c3 := same_up (o := .lst (oL1 ++ oL2 ++ oL3 a1 a2 a3 a4 a5)) n5
    refine ⟨_, rfl, by show 1 ≤ sizeLine; decide, fun a6 m6 => ?_⟩
    have s_a6 := same_up (o := .lst [V.int 1]) m6
    refine ⟨by show 2 ≤ sizeLine; decide, fun a7 m7 => ?_⟩
    have s_a7 := same_up (o := .tup [V.int 1, V.int 2]) m7
    refine ⟨by show 2 ≤ sizeLine; decide, fun a8 m8 => ?_⟩
    have s_a8 := same_up (o := .tup [V.int 2, V.int 4]) m8
    refine ⟨by show 2 ≤ sizeLine; decide, fun a9 m9 => ?_⟩
    have s_a9 := same_up (o := .tup [V.int 0, V.int 2]) m9
    refine ⟨by show 2 ≤ sizeLine; decide, fun a10 m10 => ?_⟩
    have s_a10 := same_up (o := .tup [V.int 1, V.int 1]) m10
    refine ⟨by show 2 ≤ sizeLine; decide, fun a11 m11 => ?_⟩
    have s_a11 := same_up (o := .tup [V.int 1, V.int 0]) m11
    refine ⟨_, rfl, by show 2 ≤ sizeLine; decide, fun a12 m12 => ?_⟩
    have s_a12 := same_up (o := .tup [V.int 1, V.int (-2)]) m12
    refine ⟨by show 2 ≤ sizeLine; decide, fun a13 m13 => ?_⟩
    have s_a13 := same_up (o := .tup [V.bl true, V.int 2]) m13
    refine ⟨by show 2 ≤ sizeLine; decide, fun a14 m14 => ?_⟩
    have s_a14 := same_up (o := .lst [V.int 1, V.int 2]) m14
    refine ⟨by show 3 ≤ sizeLine; decide, fun a15 m15 => ?_⟩
    have s_a15 := same_up (o := .tup [V.int 1, V.int 2, V.int 3]) m15
    refine fun a16 m16 => ?_
    refine ⟨upd_same, [(.inr "a", .int 1)], rfl, by show 1 ≤ 15; decide, ?_⟩
    have s_a16 := up2 (o := .dK []) (o2 := .dK (mergeK [] [((.inr "a" : Key), V.int 1)])) m16
    refine ⟨by show 11 ≤ sizeLine; decide, fun l4 n6 => ?_⟩
    have s_l4 := same_up (o := .lst (oL4 a6 a7 a8 a9 a10 a11 a12 a13 a14 a15 a16)) n6
    refine ⟨c3, l4, _, _, rfl, rfl, (((((((((((s_a6.trans s_a7).trans s_a8).trans s_a9).trans s_a10).trans s_a11).trans s_a12).trans s_a13).trans s_a14).trans s_a15).trans s_a16).trans s_l4) _ _ upd_same, upd_same, by show 33 + 11 ≤ sizeLine; decide, fun c4 n7 => ?_⟩
    have s_c4 := same_up (o := .lst (oL1 ++ oL2 ++ oL3 a1 a2 a3 a4 a5 ++ oL4 a6 a7 a8 a9 a10 a11 a12 a13 a14 a15 a16)) n7
    have tA := ((((((((((((((((((((((s_l1.trans s_l2).trans s_c2).trans s_a1).trans s_a2).trans s_a3).trans s_a4).trans s_a5).trans s_l3).trans s_c3).trans s_a6).trans s_a7).trans s_a8).trans s_a9).trans s_a10).trans s_a11).trans s_a12).trans s_a13).trans s_a14).trans s_a15).trans s_a16).trans s_l4).trans s_c4)
    refine ⟨_, rfl, _, rfl, d, c4, k, _, rfl, pen.same tA, by omega, upd_same, by show 0 < 44; decide, by show 44 < 1000; decide, fun x H9 hx bt pen9 => ?_⟩
    have c := (But.same tA).trans bt
    obtain ⟨pc, pcells, pb, pl, pd, _⟩ := (pen.same tA).ex
    have em : mergeK [] [((.inr "a" : Key), V.int 1)] = [(.inr "a", V.int 1)] := by simp [mergeK, putK]
    have h_a1 := ((((((((((((((((((s_a2.trans s_a3).trans s_a4).trans s_a5).trans s_l3).trans s_c3).trans s_a6).trans s_a7).trans s_a8).trans s_a9).trans s_a10).trans s_a11).trans s_a12).trans s_a13).trans s_a14).trans s_a15).trans s_a16).trans s_l4).trans s_c4) _ _ (upd_same (a := a1))
    have h_a2 := (((((((((((((((((s_a3.trans s_a4).trans s_a5).trans s_l3).trans s_c3).trans s_a6).trans s_a7).trans s_a8).trans s_a9).trans s_a10).trans s_a11).trans s_a12).trans s_a13).trans s_a14).trans s_a15).trans s_a16).trans s_l4).trans s_c4) _ _ (upd_same (a := a2))
    have h_a3 := ((((((((((((((((s_a4.trans s_a5).trans s_l3).trans s_c3).trans s_a6).trans s_a7).trans s_a8).trans s_a9).trans s_a10).trans s_a11).trans s_a12).trans s_a13).trans s_a14).trans s_a15).trans s_a16).trans s_l4).trans s_c4) _ _ (upd_same (a := a3))
    have h_a4 := (((((((((((((((s_a5.trans s_l3).trans s_c3).trans s_a6).trans s_a7).trans s_a8).trans s_a9).trans s_a10).trans s_a11).trans s_a12).trans s_a13).trans s_a14).trans s_a15).trans s_a16).trans s_l4).trans s_c4) _ _ (upd_same (a := a4))
    have h_a5 := ((((((((((((((s_l3.trans s_c3).trans s_a6).trans s_a7).trans s_a8).trans s_a9).trans s_a10).trans s_a11).trans s_a12).trans s_a13).trans s_a14).trans s_a15).trans s_a16).trans s_l4).trans s_c4) _ _ (upd_same (a := a5))
    have h_a6 := (((((((((((s_a7.trans s_a8).trans s_a9).trans s_a10).trans s_a11).trans s_a12).trans s_a13).trans s_a14).trans s_a15).trans s_a16).trans s_l4).trans s_c4) _ _ (upd_same (a := a6))
    have h_a7 := ((((((((((s_a8.trans s_a9).trans s_a10).trans s_a11).trans s_a12).trans s_a13).trans s_a14).trans s_a15).trans s_a16).trans s_l4).trans s_c4) _ _ (upd_same (a := a7))
    have h_a8 := (((((((((s_a9.trans s_a10).trans s_a11).trans s_a12).trans s_a13).trans s_a14).trans s_a15).trans s_a16).trans s_l4).trans s_c4) _ _ (upd_same (a := a8))
    have h_a9 := ((((((((s_a10.trans s_a11).trans s_a12).trans s_a13).trans s_a14).trans s_a15).trans s_a16).trans s_l4).trans s_c4) _ _ (upd_same (a := a9))
    have h_a10 := (((((((s_a11.trans s_a12).trans s_a13).trans s_a14).trans s_a15).trans s_a16).trans s_l4).trans s_c4) _ _ (upd_same (a := a10))
    have h_a11 := ((((((s_a12.trans s_a13).trans s_a14).trans s_a15).trans s_a16).trans s_l4).trans s_c4) _ _ (upd_same (a := a11))
    have h_a12 := (((((s_a13.trans s_a14).trans s_a15).trans s_a16).trans s_l4).trans s_c4) _ _ (upd_same (a := a12))
    have h_a13 := ((((s_a14.trans s_a15).trans s_a16).trans s_l4).trans s_c4) _ _ (upd_same (a := a13))
    have h_a14 := (((s_a15.trans s_a16).trans s_l4).trans s_c4) _ _ (upd_same (a := a14))
    have h_a15 := ((s_a16.trans s_l4).trans s_c4) _ _ (upd_same (a := a15))
    have h_a16 := (s_l4.trans s_c4) _ _ (upd_same (a := a16))
    simp only [List.mem_append, List.mem_cons, List.not_mem_nil, or_false] at hx
    rcases hx with ((hx | hx) | hx) | hx
    · rcases hx with rfl | rfl | rfl | rfl | rfl | rfl | rfl | rfl | rfl | rfl | rfl | rfl | rfl | rfl | rfl | rfl
      · exact q _ _ H9 (fun H2 b2 => .non) (by exact ⟨by decide +kernel, by decide +kernel, by decide +kernel, by decide +kernel, by decide +kernel⟩) c pen9
      · exact q _ _ H9 (fun H2 b2 => (.bl _)) (by exact ⟨by decide +kernel, by decide +kernel, by decide +kernel, by decide +kernel, by decide +kernel⟩) c pen9
      · exact q _ _ H9 (fun H2 b2 => (.bl _)) (by exact ⟨by decide +kernel, by decide +kernel, by decide +kernel, by decide +kernel, by decide +kernel⟩) c pen9
      · exact q _ _ H9 (fun H2 b2 => (.int _)) (by exact ⟨by decide +kernel, by decide +kernel, by decide +kernel, by decide +kernel, by decide +kernel⟩) c pen9
      · exact q _ _ H9 (fun H2 b2 => (.int _)) (by exact ⟨by decide +kernel, by decide +kernel, by decide +kernel, by decide +kernel, by decide +kernel⟩) c pen9
      · exact q _ _ H9 (fun H2 b2 => (.int _)) (by exact ⟨by decide +kernel, by decide +kernel, by decide +kernel, by decide +kernel, by decide +kernel⟩) c pen9
      · exact q _ _ H9 (fun H2 b2 => (.int _)) (by exact ⟨by decide +kernel, by decide +kernel, by decide +kernel, by decide +kernel, by decide +kernel⟩) c pen9
      · exact q _ _ H9 (fun H2 b2 => (.int _)) (by exact ⟨by decide +kernel, by decide +kernel, by decide +kernel, by decide +kernel, by decide +kernel⟩) c pen9
      · exact q _ _ H9 (fun H2 b2 => (.int _)) (by exact ⟨by decide +kernel, by decide +kernel, by decide +kernel, by decide +kernel, by decide +kernel⟩) c pen9
      · exact q _ _ H9 (fun H2 b2 => (.int _)) (by exact ⟨by decide +kernel, by decide +kernel, by decide +kernel, by decide +kernel, by decide +kernel⟩) c pen9
      · exact q _ _ H9 (fun H2 b2 => (.int _)) (by exact ⟨by decide +kernel, by decide +kernel, by decide +kernel, by decide +kernel, by decide +kernel⟩) c pen9
      · exact q _ _ H9 (fun H2 b2 => (.str _)) (by exact ⟨by decide +kernel, by decide +kernel, by decide +kernel, by decide +kernel, by decide +kernel⟩) c pen9
      · exact q _ _ H9 (fun H2 b2 => (.str _)) (by exact ⟨by decide +kernel, by decide +kernel, by decide +kernel, by decide +kernel, by decide +kernel⟩) c pen9
      · exact q _ _ H9 (fun H2 b2 => (.str _)) (by exact ⟨by decide +kernel, by decide +kernel, by decide +kernel, by decide +kernel, by decide +kernel⟩) c pen9
      · exact q _ _ H9 (fun H2 b2 => (.str _)) (by exact ⟨by decide +kernel, by decide +kernel, by decide +kernel, by decide +kernel, by decide +kernel⟩) c pen9
      · exact q _ _ H9 (fun H2 b2 => (.str _)) (by exact ⟨by decide +kernel, by decide +kernel, by decide +kernel, by decide +kernel, by decide +kernel⟩) c pen9
    · rcases hx with rfl | rfl
      · exact q _ _ H9 (fun H2 b2 => (.int _)) (by exact ⟨by decide +kernel, by decide +kernel, by decide +kernel, by decide +kernel, by decide +kernel⟩) c pen9
      · exact q _ _ H9 (fun H2 b2 => (.int _)) (by exact ⟨by decide +kernel, by decide +kernel, by decide +kernel, by decide +kernel, by decide +kernel⟩) c pen9
    · rcases hx with rfl | rfl | rfl | rfl | rfl | rfl | rfl | rfl | rfl | rfl | rfl | rfl | rfl | rfl | rfl
      · exact q _ _ H9 (fun H2 b2 => (.str _)) (by exact ⟨by decide +kernel, by decide +kernel, by decide +kernel, by decide +kernel, by decide +kernel⟩) c pen9
      · exact q _ _ H9 (fun H2 b2 => (.str _)) (by exact ⟨by decide +kernel, by decide +kernel, by decide +kernel, by decide +kernel, by decide +kernel⟩) c pen9
      · exact q _ _ H9 (fun H2 b2 => (.str _)) (by exact ⟨by decide +kernel, by decide +kernel, by decide +kernel, by decide +kernel, by decide +kernel⟩) c pen9
      · exact q _ _ H9 (fun H2 b2 => (.str _)) (by exact ⟨by decide +kernel, by decide +kernel, by decide +kernel, by decide +kernel, by decide +kernel⟩) c pen9
      · exact q _ _ H9 (fun H2 b2 => (.str _)) (by exact ⟨by decide +kernel, by decide +kernel, by decide +kernel, by decide +kernel, by decide +kernel⟩) c pen9
      · exact q _ _ H9 (fun H2 b2 => (.str _)) (by exact ⟨by decide +kernel, by decide +kernel, by decide +kernel, by decide +kernel, by decide +kernel⟩) c pen9
      · exact q _ _ H9 (fun H2 b2 => (.str _)) (by exact ⟨by decide +kernel, by decide +kernel, by decide +kernel, by decide +kernel, by decide +kernel⟩) c pen9
      · exact q _ _ H9 (fun H2 b2 => (.str _)) (by exact ⟨by decide +kernel, by decide +kernel, by decide +kernel, by decide +kernel, by decide +kernel⟩) c pen9
      · exact q _ _ H9 (fun H2 b2 => (.str _)) (by exact ⟨by decide +kernel, by decide +kernel, by decide +kernel, by decide +kernel, by decide +kernel⟩) c pen9
      · exact q _ _ H9 (fun H2 b2 => (.str _)) (by exact ⟨by decide +kernel, by decide +kernel, by decide +kernel, by decide +kernel, by decide +kernel⟩) c pen9
      · exact q _ _ H9 (fun H2 b2 => (.tup (.inl (.inl ((bt.trans b2).1 _ _ h_a1 (ne_of h_a1 pd (by intro z; cases z))))) .nil)) (by exact ⟨by decide +kernel, by decide +kernel, by decide +kernel, by decide +kernel, by decide +kernel⟩) c pen9
      · exact q _ _ H9 (fun H2 b2 => (.lst (.inl (.inl ((bt.trans b2).1 _ _ h_a2 (ne_of h_a2 pd (by intro z; cases z))))) .nil)) (by exact ⟨by decide +kernel, by decide +kernel, by decide +kernel, by decide +kernel, by decide +kernel⟩) c pen9
      · exact q _ _ H9 (fun H2 b2 => (.dic ((bt.trans b2).1 _ _ h_a3 (ne_of h_a3 pd (by intro z; have z := HO.dK.inj z; simp [penL] at z))) .nil)) (by exact ⟨by decide +kernel, by decide +kernel, by decide +kernel, by decide +kernel, by decide +kernel⟩) c pen9
      · exact q _ _ H9 (fun H2 b2 => (.tup (.inl (.inl ((bt.trans b2).1 _ _ h_a4 (ne_of h_a4 pd (by intro z; cases z))))) (.cons (.str _) .nil))) (by exact ⟨by decide +kernel, by decide +kernel, by decide +kernel, by decide +kernel, by decide +kernel⟩) c pen9
      · exact q _ _ H9 (fun H2 b2 => (.lst (.inl (.inl ((bt.trans b2).1 _ _ h_a5 (ne_of h_a5 pd (by intro z; cases z))))) (.cons (.str _) .nil))) (by exact ⟨by decide +kernel, by decide +kernel, by decide +kernel, by decide +kernel, by decide +kernel⟩) c pen9
    · rcases hx with rfl | rfl | rfl | rfl | rfl | rfl | rfl | rfl | rfl | rfl | rfl
      · exact q _ _ H9 (fun H2 b2 => (.lst (.inl (.inl ((bt.trans b2).1 _ _ h_a6 (ne_of h_a6 pd (by intro z; cases z))))) (.cons (.int _) .nil))) (by exact ⟨by decide +kernel, by decide +kernel, by decide +kernel, by decide +kernel, by decide +kernel⟩) c pen9
      · exact q _ _ H9 (fun H2 b2 => (.tup (.inl (.inl ((bt.trans b2).1 _ _ h_a7 (ne_of h_a7 pd (by intro z; cases z))))) (.cons (.int _) (.cons (.int _) .nil)))) (by exact ⟨by decide +kernel, by decide +kernel, by decide +kernel, by decide +kernel, by decide +kernel⟩) c pen9
      · exact q _ _ H9 (fun H2 b2 => (.tup (.inl (.inl ((bt.trans b2).1 _ _ h_a8 (ne_of h_a8 pd (by intro z; cases z))))) (.cons (.int _) (.cons (.int _) .nil)))) (by exact ⟨by decide +kernel, by decide +kernel, by decide +kernel, by decide +kernel, by decide +kernel⟩) c pen9
      · exact q _ _ H9 (fun H2 b2 => (.tup (.inl (.inl ((bt.trans b2).1 _ _ h_a9 (ne_of h_a9 pd (by intro z; cases z))))) (.cons (.int _) (.cons (.int _) .nil)))) (by exact ⟨by decide +kernel, by decide +kernel, by decide +kernel, by decide +kernel, by decide +kernel⟩) c pen9
      · exact q _ _ H9 (fun H2 b2 => (.tup (.inl (.inl ((bt.trans b2).1 _ _ h_a10 (ne_of h_a10 pd (by intro z; cases z))))) (.cons (.int _) (.cons (.int _) .nil)))) (by exact ⟨by decide +kernel, by decide +kernel, by decide +kernel, by decide +kernel, by decide +kernel⟩) c pen9
      · exact q _ _ H9 (fun H2 b2 => (.tup (.inl (.inl ((bt.trans b2).1 _ _ h_a11 (ne_of h_a11 pd (by intro z; cases z))))) (.cons (.int _) (.cons (.int _) .nil)))) (by exact ⟨by decide +kernel, by decide +kernel, by decide +kernel, by decide +kernel, by decide +kernel⟩) c pen9
      · exact q _ _ H9 (fun H2 b2 => (.tup (.inl (.inl ((bt.trans b2).1 _ _ h_a12 (ne_of h_a12 pd (by intro z; cases z))))) (.cons (.int _) (.cons (.int _) .nil)))) (by exact ⟨by decide +kernel, by decide +kernel, by decide +kernel, by decide +kernel, by decide +kernel⟩) c pen9
      · exact q _ _ H9 (fun H2 b2 => (.tup (.inl (.inl ((bt.trans b2).1 _ _ h_a13 (ne_of h_a13 pd (by intro z; cases z))))) (.cons (.bl _) (.cons (.int _) .nil)))) (by exact ⟨by decide +kernel, by decide +kernel, by decide +kernel, by decide +kernel, by decide +kernel⟩) c pen9
      · exact q _ _ H9 (fun H2 b2 => (.lst (.inl (.inl ((bt.trans b2).1 _ _ h_a14 (ne_of h_a14 pd (by intro z; cases z))))) (.cons (.int _) (.cons (.int _) .nil)))) (by exact ⟨by decide +kernel, by decide +kernel, by decide +kernel, by decide +kernel, by decide +kernel⟩) c pen9
      · exact q _ _ H9 (fun H2 b2 => (.tup (.inl (.inl ((bt.trans b2).1 _ _ h_a15 (ne_of h_a15 pd (by intro z; cases z))))) (.cons (.int _) (.cons (.int _) (.cons (.int _) .nil))))) (by exact ⟨by decide +kernel, by decide +kernel, by decide +kernel, by decide +kernel, by decide +kernel⟩) c pen9
      · exact q _ _ H9 (fun H2 b2 => (.dic (by rw [em] at h_a16; exact (bt.trans b2).1 _ _ h_a16 (ne_of h_a16 pd (by intro z; have z := HO.dK.inj z; simp [penL] at z))) (.cons (k := .inr "a") (.int 1) .nil))) (by exact ⟨by decide +kernel, by decide +kernel, by decide +kernel, by decide +kernel, by decide +kernel⟩) c pen9
end
end K01

namespace K01
open PySem PySem.Spec PyProof.Rows L2 Ver Num
section
variable {P : Program} {w : World} {K : PySem.W.Frag} {mg : Str → Option Value} {base : Heap}
/-- an int that is no bool -/
def isI : PyData → Bool
  | .int _ => true
  | _ => false
theorem isI_is (d : PyData) : (is_int d && !is_bool d) = isI d := by cases d <;> rfl
def spInt (K : PySem.W.Frag) : Sp := fun vs H Q _ => ∃ (x : V) (d : PyData), vs = [x] ∧ Do K H x d ∧ Q (.bl (isI d)) H
theorem ok_is_integer (T : Tx K mg) : FnG P w K mg base CX0 1 (He.ga K "is_integer") (spInt K) := by
  refine mk_is_integer T.d (fun vs H Q E h => ?_) (fun cdv A outer s H vs Q E hg hr h => ?_)
  · obtain ⟨x, d, rfl, _⟩ := h
    rfl
  · obtain ⟨x, d, rfl, hd, q⟩ := h
    have zi := T.z "isinstance" (by decide +kernel)
    rw [← isI_is] at q
    refine ⟨_, pss_one (ps_ret (pe_and (pe_callB call_isi (by rfl) zi (by decide +kernel) (pa_cons (pv 0) (pa_cons (pe_bltn (v := .ty "int") (by rfl) (T.z "int" (by decide +kernel)) (by decide +kernel) rfl) pa_nil)))
      (pe_one (pe_not (pe_callB call_isi (by rfl) zi (by decide +kernel) (pa_cons (pv 0) (pa_cons (pe_bltn (v := .ty "bool") (by rfl) (T.z "bool" (by decide +kernel)) (by decide +kernel) rfl) pa_nil))))))), ?_⟩
    refine ⟨_, rfl, _, _, _, _, _, rfl, .ty "int", hd.ty, kit_int d, _, rfl, ?_⟩
    cases e : is_int d with
    | false =>
      rw [e] at q
      exact ifF rfl q
    | true =>
      rw [e] at q
      exact ifT rfl ⟨_, rfl, _, _, _, _, _, rfl, .ty "bool", hd.ty, kit_bool d, _, rfl, q⟩
theorem ok_is_whole (T : Tx K mg) : FnG P w K mg base CX0 1 (He.ga K "_law_is_whole") (spInt K) := by
  refine mk__law_is_whole T.d (fun vs H Q E h => ?_) (fun cdv A outer s H vs Q E hg hr h => ?_)
  · obtain ⟨x, d, rfl, _⟩ := h
    rfl
  · obtain ⟨x, d, rfl, hd, q⟩ := h
    have zi := T.z "isinstance" (by decide +kernel)
    rw [← isI_is] at q
    refine ⟨_, pss_one (ps_ret (pe_and (pe_callB call_isi (by rfl) zi (by decide +kernel) (pa_cons (pv 0) (pa_cons (pe_bltn (v := .ty "int") (by rfl) (T.z "int" (by decide +kernel)) (by decide +kernel) rfl) pa_nil)))
      (pe_one (pe_not (pe_callB call_isi (by rfl) zi (by decide +kernel) (pa_cons (pv 0) (pa_cons (pe_bltn (v := .ty "bool") (by rfl) (T.z "bool" (by decide +kernel)) (by decide +kernel) rfl) pa_nil))))))), ?_⟩
    refine ⟨_, rfl, _, _, _, _, _, rfl, .ty "int", hd.ty, kit_int d, _, rfl, ?_⟩
    cases e : is_int d with
    | false =>
      rw [e] at q
      exact ifF rfl q
    | true =>
      rw [e] at q
      exact ifT rfl ⟨_, rfl, _, _, _, _, _, rfl, .ty "bool", hd.ty, kit_bool d, _, rfl, q⟩
def btw (lo hi : Int) : PyData → Bool
  | .int i => decide (lo ≤ i) && decide (i ≤ hi)
  | _ => false
def spBtw (K : PySem.W.Frag) : Sp := fun vs H Q _ => ∃ (x : V) (d : PyData) (lo hi : Int), vs = [x, .int lo, .int hi] ∧ Do K H x d ∧ Q (.bl (btw lo hi d)) H
theorem btw_not {lo hi : Int} {d : PyData} (h : isI d = false) : btw lo hi d = false := by cases d <;> first | rfl | cases h
theorem ok_is_between (T : Tx K mg) : FnG P w K mg base CX0 2 (He.ga K "is_between") (spBtw K) := by
  refine mk_is_between T.d (fun vs H Q E h => ?_) (fun cdv A outer s H vs Q E hg hr h => ?_)
  · obtain ⟨x, d, lo, hi, rfl, _⟩ := h
    rfl
  · obtain ⟨x, d, lo, hi, rfl, hd, q⟩ := h
    refine ⟨_, pss_one (ps_ret (pe_and (pe_callG (ok_is_integer T) hr hg (by rfl) (T.g "is_integer" (by decide +kernel)) (kp_is_integer T.d) pass0 (pa_cons (pv 0) pa_nil))
      (pe_one (pe_chain op_le op_le (pv 1) (pv 0) (pv 2))))), ?_⟩
    refine ⟨_, rfl, x, d, rfl, hd, _, rfl, ?_⟩
    cases e : isI d with
    | false =>
      rw [btw_not e] at q
      exact ifF rfl q
    | true =>
      cases hd with
      | int i =>
        refine ifT rfl ⟨_, rfl, _, rfl, _, _, rfl, rfl, _, rfl, ?_⟩
        have q : Q (.bl (decide (lo ≤ i) && decide (i ≤ hi))) H := q
        by_cases h : lo ≤ i
        · rw [decide_eq_true h] at q
          exact ifT (decide_eq_true h) ⟨_, rfl, _, _, rfl, rfl, q⟩
        · rw [decide_eq_false h] at q
          exact ifF (decide_eq_false h) q
      | _ => cases e
end
end K01

namespace K01
open PySem PySem.Spec PyProof.Rows L2 Ver Num
theorem ten9 : (10 : Int) ^ (9 : Int).toNat = 1000000000 := by decide
theorem pf_look (v : V) : ([(("_prime" : Str), v)] : List (Str × V)).lookup ("_prime" : Str) = some v := by simp [List.lookup]
theorem pf_no (v : V) {m : Str} (h : (m == ("_prime" : Str)) = false) : ([(("_prime" : Str), v)] : List (Str × V)).lookup m = none := by simp [List.lookup, h]
/-! ### primes -/
theorem sq_le {a b : Nat} (h : a * a ≤ b * b) : a ≤ b := Nat.le_of_not_lt fun z => by
  have := Nat.mul_lt_mul'' z z
  omega
theorem isqrt_small {n : Nat} (h : n ≤ 1000000000) : Float64.isqrt n ≤ 1000000 := by
  refine Nat.le_of_not_lt fun z => ?_
  have h1 := (Float64.isqrt_spec n).1
  have h2 : 1000001 * 1000001 ≤ Float64.isqrt n * Float64.isqrt n := Nat.mul_le_mul z z
  omega
/-- no divisor up to the root -/
def NoDiv (n : Nat) : Prop := ∀ d, 2 ≤ d → d * d ≤ n → n % d ≠ 0
theorem prB_of {v : Int} (h2 : 2 ≤ v) (h9 : v ≤ 1000000000) : prB Float64.isqrt v = (if v % 2 = 0 then decide (v = 2) else oddOk v.toNat ((Float64.isqrt v.toNat + 1 - 3 + 1) / 2)) := by
  show (decide (2 ≤ v) && decide (v ≤ 1000000000) && _) = _
  rw [decide_eq_true h2, decide_eq_true h9]
  rfl
theorem odd_ok_iff {n c : Nat} : oddOk n c = true ↔ ∀ i, i < c → n % (3 + 2 * i) ≠ 0 := by
  unfold oddOk
  rw [List.all_eq_true]
  constructor
  · intro h i hi z
    have q := h i (List.mem_range.mpr hi)
    rw [z] at q
    cases q
  · intro h i hi
    exact bne_iff_ne.mpr (h i (List.mem_range.mp hi))
theorem prB_noDiv {v : Int} (h2 : 2 ≤ v) (h9 : v ≤ 1000000000) : prB Float64.isqrt v = true ↔ NoDiv v.toNat := by
  obtain ⟨n, rfl⟩ : ∃ n : Nat, v = (n : Int) := ⟨v.toNat, by omega⟩
  rw [prB_of h2 h9, Int.toNat_natCast]
  obtain ⟨r1, r2⟩ := Float64.isqrt_spec n
  generalize Float64.isqrt n = r at r1 r2
  by_cases e : (n : Int) % 2 = 0
  · rw [if_pos e, decide_eq_true_eq]
    constructor
    · intro z d d2 dd
      have : n = 2 := by omega
      subst this
      have := Nat.mul_le_mul d2 d2
      omega
    · intro z
      refine Classical.byContradiction fun q => ?_
      exact z 2 (Nat.le_refl 2) (by omega) (by omega)
  · rw [if_neg e, odd_ok_iff]
    constructor
    · intro z d d2 dd q
      have dr : d ≤ r := by
        refine Nat.le_of_lt_succ (Nat.lt_of_not_le fun w => ?_)
        have w2 : r + 1 ≤ d := w
        have := Nat.mul_le_mul w2 w2
        omega
      by_cases de : d % 2 = 0
      · have hd : d ∣ n := Nat.dvd_of_mod_eq_zero q
        have h2d : 2 ∣ d := Nat.dvd_of_mod_eq_zero de
        have := Nat.mod_eq_zero_of_dvd (Nat.dvd_trans h2d hd)
        omega
      · refine z ((d - 3) / 2) (by omega) ?_
        rw [show 3 + 2 * ((d - 3) / 2) = d by omega]
        exact q
    · intro z i hi
      refine z (3 + 2 * i) (by omega) ?_
      have : 3 + 2 * i ≤ r := by omega
      exact Nat.le_trans (Nat.mul_le_mul this this) r1
def prD : PyData → Bool
  | .int v => prB Float64.isqrt v
  | _ => false
theorem prD_btw {d : PyData} (h : btw 2 1000000000 d = false) : prD d = false := by
  cases d with
  | int v =>
    show (decide (2 ≤ v) && decide (v ≤ 1000000000) && _) = false
    have h : (decide (2 ≤ v) && decide (v ≤ 1000000000)) = false := h
    rw [h]
    rfl
  | _ => rfl
section
variable {P : Program} {w : World} {K : PySem.W.Frag} {mg : Str → Option Value} {base : Heap}
theorem call_isqrt {X : Cx} : CallR X (.builtin "math.isqrt") (fun vs H Q => ∃ a : Int, vs = [.int a] ∧ 0 ≤ a ∧ a < 2 ^ 64 ∧ Q (.int ((Float64.isqrt a.toNat : Nat) : Int)) H) := by
  intro pins s σ H vs us Q I r h
  obtain ⟨a, rfl, h0, h1, q⟩ := h
  obtain ⟨u, rfl, t, rfl⟩ := vals1 r
  exact PySem.W.mg_isqrt h0 h1 ⟨.int _, H, I.tok _, ⟨_, rfl⟩, q⟩
theorem range_odd (r : Nat) : Builtin.Range.rangeSize 3 ((r : Int) + 1) 2 = (((r + 1 - 3 + 1) / 2 : Nat) : Int) := by
  unfold Builtin.Range.rangeSize
  rw [if_pos (by decide)]
  by_cases h : (3 : Int) < (r : Int) + 1
  · rw [if_pos h]
    omega
  · rw [if_neg h]
    omega
theorem small_odd {r : Nat} (h : r ≤ 1000000) : Builtin.Range.small 3 ((r : Int) + 1) 2 = true := by
  unfold Builtin.Range.small
  rw [range_odd]
  have h2 : (r + 1 - 3 + 1) / 2 ≤ 1000000 := by omega
  generalize (r + 1 - 3 + 1) / 2 = n at h2
  have f1 : ∀ i : Int, 0 ≤ i → i ≤ 2000000 → Builtin.Range.rangeFitsLong i = true := fun i h0 h1 => by
    unfold Builtin.Range.rangeFitsLong
    rw [decide_eq_true (show -(2 ^ 63 : Int) ≤ i by omega), decide_eq_true (show i < (2 ^ 63 : Int) by omega)]
    rfl
  rw [f1 3 (by omega) (by omega), f1 ((r : Int) + 1) (by omega) (by omega), f1 2 (by omega) (by omega), f1 (n : Int) (by omega) (by omega), if_pos (by decide), f1 ((r : Int) + 1 + (2 - 1)) (by omega) (by omega), Bool.or_true]
  rfl
def spIsPrime (K : PySem.W.Frag) : Sp := fun vs H Q _ => ∃ (x : V) (d : PyData), vs = [x] ∧ Do K H x d ∧ Q (.bl (prD d)) H
theorem ok_is_prime (T : Tx K mg) : FnG P w K mg base CX0 3 (He.ga K "is_prime") (spIsPrime K) := by
  refine mk_is_prime T.d (fun vs H Q E h => ?_) (fun cdv A outer s H vs Q E hg hr h => ?_)
  · obtain ⟨x, d, rfl, _⟩ := h
    rfl
  · obtain ⟨x, d, rfl, hd, q⟩ := h
    obtain ⟨tg, gp⟩ := T.gp
    refine ⟨_, pss_cons (ps_if (pt_not (pt_val (pe_callG (ok_is_between T) hr hg (by rfl) (T.g "is_between" (by decide +kernel)) (kp_is_between T.d) pass0 (pa_cons (pv 0) (pa_cons pe_int (pa_cons (pe_glob (v := .int 1000000000) (by rfl) gp ⟨_, rfl⟩) pa_nil)))))) (pss_one (ps_ret pe_bl)) pss_nil)
      (pss_cons (ps_if (pt_cmpR op_eq (pe_op op_and (pv 0) pe_int) pe_int (nomark _)) (pss_one (ps_ret (pe_cmpR op_eq (pv 0) pe_int (nomark _)))) pss_nil)
      (pss_cons (ps_for PassesOwn.never rfl (pi_range3 (by rfl) (T.z "range" (by decide +kernel)) (pa_cons pe_int (pa_cons (pe_op op_add (pe_callBfun call_isqrt (by rfl) T.isq (pa_cons (pv 0) pa_nil)) pe_int) (pa_cons pe_int pa_nil)))) (pg_name (i := 1) sc_is_prime.nd rfl (.inl rfl))
        (pss_one (ps_if (pt_cmpR op_eq (pe_op op_mod (pv 0) (pv 1)) pe_int (nomark _)) (pss_one (ps_ret pe_bl)) pss_nil)))
      (pss_one (ps_ret pe_bl)))), ?_⟩
    refine ⟨_, rfl, x, d, 2, 1000000000, rfl, hd, _, rfl, ?_⟩
    cases eb : btw 2 1000000000 d with
    | false =>
      rw [prD_btw eb] at q
      exact ifT rfl q
    | true =>
      refine ifF rfl ?_
      cases hd with
      | int v =>
        have eb : (decide (2 ≤ v) && decide (v ≤ 1000000000)) = true := eb
        rw [Bool.and_eq_true] at eb
        have v2 : 2 ≤ v := of_decide_eq_true eb.1
        have v9 : v ≤ 1000000000 := of_decide_eq_true eb.2
        have q : Q (.bl (prB Float64.isqrt v)) H := q
        rw [prB_of v2 v9] at q
        refine ⟨_, rfl, _, _, rfl, rfl, rfl, _, rfl, ?_⟩
        rw [iEq, bitAnd_m1]
        by_cases e : v % 2 = 0
        · rw [if_pos e] at q
          refine ifT (decide_eq_true e) ⟨_, rfl, rfl, ?_⟩
          rw [iEq]
          exact q
        · rw [if_neg e] at q
          refine ifF (decide_eq_false e) ⟨_, rfl, v, rfl, by omega, by omega, _, _, rfl, rfl, 3, _, 2, _, rfl, ⟨by decide, by decide, small_odd (isqrt_small (by omega)), range_odd _⟩, ?_⟩
          refine for_rangeC (lo := 3) (c := 2) (fun i σ H' => ∃ d : Option V, σ = [some (.int v), d] ∧ H' = H ∧ ∀ j, j < i → v.toNat % (3 + 2 * j) ≠ 0) ⟨none, rfl, rfl, fun j hj => absurd hj (Nat.not_lt_zero j)⟩ ?_ ?_
          · rintro i σ H' hi ⟨d, rfl, rfl, hs⟩
            refine ⟨_, rfl, _, rfl, _, _, rfl, rfl, (by show (0 : Int) < 3 + (i : Int) * 2; omega), rfl, _, rfl, ?_⟩
            rw [iEq]
            have e1 : ((v.toNat % (3 + 2 * i) : Nat) : Int) = v % (3 + (i : Int) * 2) := by
              rw [Int.natCast_emod]
              congr 1
              · omega
              · rw [Int.natCast_add, Int.natCast_mul]
                omega
            by_cases z : v % (3 + (i : Int) * 2) = 0
            · refine ifT (decide_eq_true z) ?_
              have : oddOk v.toNat ((Float64.isqrt v.toNat + 1 - 3 + 1) / 2) = false := Bool.eq_false_iff.mpr fun t => odd_ok_iff.mp t i hi (by omega)
              rw [this] at q
              exact q
            · refine ifF (decide_eq_false z) ⟨_, rfl, rfl, fun j hj => ?_⟩
              by_cases c : j < i
              · exact hs j c
              · rw [show j = i by omega]
                omega
          · rintro σ H' ⟨d, rfl, rfl, hs⟩
            rw [odd_ok_iff.mpr hs] at q
            exact q
      | _ => cases eb
/-! ### the law's own primes -/
def spLPr : Sp := fun vs H Q _ => ∃ v : Int, vs = [.int v] ∧ 2 ≤ v ∧ v ≤ 1000000000 ∧ Q (.bl (prB Float64.isqrt v)) H
theorem ok_lpr (T : Tx K mg) : FnG P w K mg base CX0 1 (He.ga K "_law_is_prime") spLPr := by
  refine mk__law_is_prime T.d (fun vs H Q E h => ?_) (fun cdv A outer s H vs Q E hg hr h => ?_)
  · obtain ⟨v, rfl, _⟩ := h
    rfl
  · obtain ⟨v, rfl, v2, v9, q⟩ := h
    have nd := sc__law_is_prime.nd
    have zi := T.z "int" (by decide +kernel)
    have bi : bootBuiltins "int" = some (.type "int") := by decide +kernel
    refine ⟨_, pss_cons (ps_set (i := 1) nd rfl (Or.inl rfl) pe_int)
      (pss_cons (ps_while PassesOwn.never (pt_cmpR op_le (pe_op op_mul (pv 1) (pv 1)) (pv 0) (nomark _))
        (pss_cons (ps_if (pt_cmpR op_eq (pe_op op_mod (pe_callTy call_int1 (by rfl) zi bi (pa_cons (pv 0) pa_nil)) (pv 1)) pe_int (nomark _)) (pss_one (ps_ret pe_bl)) pss_nil)
        (pss_one (ps_set (i := 1) nd rfl (Or.inl rfl) (pe_op op_add (pe_op op_add (pv 1) pe_int) (pe_callTy call_int1 (by rfl) zi bi (pa_cons (pe_cmpR op_gt (pv 1) pe_int (nomark _)) pa_nil)))))))
      (pss_one (ps_ret pe_bl))), ?_⟩
    refine ⟨fun k σ H' => ∃ a : Nat, k = v.toNat + 1 - a ∧ H' = H ∧ σ = [some (.int v), some (.int (a : Int))] ∧ 2 ≤ a ∧ a ≤ 100000 ∧ (a = 2 ∨ a % 2 = 1) ∧ ∀ d, 2 ≤ d → d < a → v.toNat % d ≠ 0, ⟨_, 2, rfl, rfl, rfl, Nat.le_refl 2, by decide, .inl rfl, fun d h1 h2 => by omega⟩, ?_⟩
    rintro k σ H' ⟨a, rfl, rfl, rfl, a2, a9, ap, an⟩
    refine ⟨_, rfl, _, rfl, _, _, rfl, rfl, .inl ⟨by show -(2 ^ 64) < (a : Int); omega, by show (a : Int) < 2 ^ 64; omega⟩, _, rfl, _, _, rfl, rfl, _, rfl, ?_⟩
    by_cases c : (a : Int) * a ≤ v
    · have cn : a * a ≤ v.toNat := by
        have : ((a * a : Nat) : Int) = (a : Int) * a := Int.natCast_mul a a
        omega
      have an1 : a ≤ a * a := Nat.le_mul_self a
      have a8 : a ≤ 90000 := Nat.le_of_not_lt fun z => by
        have z2 : 90001 * 90001 ≤ a * a := Nat.mul_le_mul z z
        omega
      refine ifT (decide_eq_true c) ?_
      refine ⟨fun σ' H'' => ∃ b : Nat, a < b ∧ H'' = H' ∧ σ' = [some (.int v), some (.int (b : Int))] ∧ 2 ≤ b ∧ b ≤ 100000 ∧ (b = 2 ∨ b % 2 = 1) ∧ ∀ d, 2 ≤ d → d < b → v.toNat % d ≠ 0, ?_, ?_⟩
      · rintro σ' H'' ⟨b, hb, e1, e2, e3⟩
        exact ⟨_, (by omega : v.toNat + 1 - b < v.toNat + 1 - a), b, rfl, e1, e2, e3⟩
      · refine ⟨_, rfl, .inl ⟨_, rfl, _, rfl, _, _, rfl, rfl, (by show (0 : Int) < (a : Int); omega), rfl, _, rfl, ?_⟩⟩
        rw [iEq]
        have e1 : ((v.toNat % a : Nat) : Int) = v % (a : Int) := by
          rw [Int.natCast_emod]
          congr 1
          omega
        by_cases z : v % (a : Int) = 0
        · refine ifT (decide_eq_true z) ?_
          have : prB Float64.isqrt v = false := Bool.eq_false_iff.mpr fun t => (prB_noDiv v2 v9).mp t a a2 cn (by omega)
          rw [this] at q
          exact q
        · refine ifF (decide_eq_false z) ?_
          refine ⟨_, rfl, _, _, rfl, rfl, _, rfl, _, _, rfl, rfl, .inr ⟨_, rfl, _, _, rfl, rfl, ?_⟩⟩
          by_cases g : (a : Int) > 2
          · rw [decide_eq_true g]
            refine ⟨a + 2, by omega, rfl, rfl, by omega, by omega, .inr (by omega), fun d h1 h2 => ?_⟩
            by_cases d1 : d < a
            · exact an d h1 d1
            · by_cases d2 : d = a
              · rw [d2]
                omega
              · intro w
                have h2n : v.toNat % 2 ≠ 0 := an 2 (Nat.le_refl 2) (by omega)
                have dd : d ∣ v.toNat := Nat.dvd_of_mod_eq_zero w
                have h2d : 2 ∣ d := Nat.dvd_of_mod_eq_zero (by omega)
                exact h2n (Nat.mod_eq_zero_of_dvd (Nat.dvd_trans h2d dd))
          · rw [decide_eq_false g]
            refine ⟨a + 1, by omega, rfl, rfl, by omega, by omega, .inr (by omega), fun d h1 h2 => ?_⟩
            rw [show d = a by omega]
            omega
    · refine ifF (decide_eq_false c) ?_
      have : prB Float64.isqrt v = true := (prB_noDiv v2 v9).mpr fun d h1 h2 => an d h1 (Nat.lt_of_not_le fun w => by
        have w1 := Nat.mul_le_mul w w
        have w2 : ((a * a : Nat) : Int) = (a : Int) * a := Int.natCast_mul a a
        omega)
      rw [this] at q
      exact q
end
end K01

namespace K01
open PySem PySem.Spec PyProof.Rows L2 Ver Num
/-! ### the fields -/
def pval : Fk → V
  | .fr => .non
  | .md p => .int p
def clsOf (K : PySem.W.Frag) : Fk → Addr
  | .fr => He.ga K "Fractions"
  | .md _ => He.ga K "Modulo"
def okP : Fk → Prop
  | .fr => True
  | .md p => prB Float64.isqrt p = true
theorem prB_bd {p : Int} (h : prB Float64.isqrt p = true) : 2 ≤ p ∧ p ≤ 1000000000 := by
  have h : ((decide (2 ≤ p) && decide (p ≤ 1000000000)) && _) = true := h
  rw [Bool.and_eq_true, Bool.and_eq_true] at h
  exact ⟨of_decide_eq_true h.1.1, of_decide_eq_true h.1.2⟩
def FieldC (K : PySem.W.Frag) (H : Hp) (f : Addr) (φ : Fk) : Prop := ∃ dx, H f = some (.ins (clsOf K φ) dx [(("_prime" : Str), pval φ)])
theorem FieldC.same {K : PySem.W.Frag} {H H' : Hp} {f : Addr} {φ : Fk} (F : FieldC K H f φ) (s : Same H H') : FieldC K H' f φ := by
  obtain ⟨dx, e⟩ := F
  exact ⟨dx, s _ _ e⟩
theorem FieldC.but {K : PySem.W.Frag} {H H' : Hp} {f d : Addr} {φ : Fk} {k : Int} (F : FieldC K H f φ) (pen : PenAt H d k) (b : But d H H') : FieldC K H' f φ := by
  obtain ⟨dx, e⟩ := F
  obtain ⟨cc, cells, b1, l, h1, _⟩ := pen.ex
  exact ⟨dx, b.1 _ _ e (ne_of e h1 (by intro z; cases z))⟩
theorem Tx.fc {K : PySem.W.Frag} {mg : Str → Option Value} (T : Tx K mg) : ∀ φ : Fk, FC K (clsOf K φ)
  | .fr => T.fcF
  | .md _ => T.fcM
theorem Tx.mc {K : PySem.W.Frag} {mg : Str → Option Value} (T : Tx K mg) : ∀ φ : Fk, MC K (clsOf K φ)
  | .fr => T.mF
  | .md _ => T.mM
theorem cls_in {K : PySem.W.Frag} : ∀ φ : Fk, Value.ref (clsOf K φ) ∈ ([Value.type "int", .type "str", .type "list", .ref (He.ga K "Fractions"), .ref (He.ga K "Modulo")] : List Value)
  | .fr => by simp [clsOf]
  | .md _ => by simp [clsOf]
theorem Tx.tyx {K : PySem.W.Frag} {mg : Str → Option Value} (T : Tx K mg) {H : Hp} {f : Addr} {φ : Fk} (F : FieldC K H f φ) : TyX K H (.ref f) (.ref (clsOf K φ)) := by
  obtain ⟨dx, e⟩ := F
  exact .base (.ins e (T.fc φ).cl (T.mc φ).cl T.clS T.clT (T.mc φ).ob)
theorem rd_prime {K : PySem.W.Frag} {mg : Str → Option Value} (T : Tx K mg) {σ : L2.St} {H : Hp} {f : Addr} {φ : Fk} {i : Nat} {Q : VK} (h0 : σ[i]? = some (some (.ref f))) (F : FieldC K H f φ) (q : Q (pval φ) H) : tFld K (tVar i) "_prime" σ H Q := by
  obtain ⟨dx, e⟩ := F
  exact ⟨.ref f, h0, f, _, dx, _, pval φ, rfl, e, (T.fc φ).cl, (T.fc φ).np, pf_look _, q⟩
theorem made_same {H H' : Hp} {x dx : Addr} {o1 o2 : HO} (hx : H x = none) (hd : H dx = none) (s : Same (upd (upd H dx o1) x o2) H') : Same H H' := fun b o e => by
  refine s b o ?_
  rw [upd_ne (ne_of_none e hx), upd_ne (ne_of_none e hd)]
  exact e
section
variable {P : Program} {w : World} {K : PySem.W.Frag} {mg : Str → Option Value} {base : Heap}
/-! ### errors -/
/-- the promise of an __init__ that keeps one field -/
def spErr (C : Addr) (f : Str) : Sp := fun vs H Q _ => ∃ (a : Addr) (x : V), vs = [.ref a, x] ∧ H a = some (exo a C none) ∧ ∀ dx, H dx = none → dx ≠ a → Q .non (upd (upd H dx (exd dx [(f, x)])) a (exo a C (some dx)))
theorem ok_InvalidPrime (T : Tx K mg) : ∃ fd, FnOk P w K mg base CX0 1 (He.ma K (He.ga K "InvalidPrime") "__init__") fd ["self", "value"] (spErr (He.ga K "InvalidPrime") "value") ∧ Binds K fd ["self", "value"] [] := by
  have EC := T.eP
  obtain ⟨fd, FD⟩ := T.d.def_ 8 (d := d_InvalidPrime___init__) rfl
  have hb : Binds K fd ["self", "value"] [] := FD.bindsN fun _ _ _ _ _ _ us hl => match us, hl with | [_, _], _ => rfl
  obtain ⟨⟨oc, od, dV, kV, doc, pm, an, cdv, ct, osl, rfl, lk, hcd, _⟩, _⟩ := FD
  refine ⟨_, fn_of lk hcd sc_InvalidPrime___init__ (fun vs H Q E h => ?_) (fun A outer s H vs Q E hr h => ?_), hb⟩
  · obtain ⟨a, x, rfl, _⟩ := h
    rfl
  · obtain ⟨a, x, rfl, ea, q⟩ := h
    refine ⟨_, PSs.nox (pss_cons (ps_expr (pe_veinit (by rfl) (T.z "ValueError" (by decide +kernel)) T.vV (pa_cons (pv 0) (pa_cons (pv 1) pa_nil)))) (pss_one (ps_ost (pv 0) (pv 1)))), ?_⟩
    exact ⟨_, rfl, _, rfl, a, He.ga K "InvalidPrime", [x], rfl, by show 1 ≤ 1000; decide, EC.ox, ea, _, rfl, _, rfl, a, He.ga K "InvalidPrime", rfl, EC.ox, EC.nf, .inl ⟨ea, q⟩⟩
theorem ok_InvalidText (T : Tx K mg) : ∃ fd, FnOk P w K mg base CX0 1 (He.ma K (He.ga K "InvalidText") "__init__") fd ["self", "line"] (spErr (He.ga K "InvalidText") "line") ∧ Binds K fd ["self", "line"] [] := by
  have EC := T.eT
  obtain ⟨fd, FD⟩ := T.d.def_ 9 (d := d_InvalidText___init__) rfl
  have hb : Binds K fd ["self", "line"] [] := FD.bindsN fun _ _ _ _ _ _ us hl => match us, hl with | [_, _], _ => rfl
  obtain ⟨⟨oc, od, dV, kV, doc, pm, an, cdv, ct, osl, rfl, lk, hcd, _⟩, _⟩ := FD
  refine ⟨_, fn_of lk hcd sc_InvalidText___init__ (fun vs H Q E h => ?_) (fun A outer s H vs Q E hr h => ?_), hb⟩
  · obtain ⟨a, x, rfl, _⟩ := h
    rfl
  · obtain ⟨a, x, rfl, ea, q⟩ := h
    refine ⟨_, PSs.nox (pss_cons (ps_expr (pe_veinit (by rfl) (T.z "ValueError" (by decide +kernel)) T.vV (pa_cons (pv 0) (pa_cons (pv 1) pa_nil)))) (pss_one (ps_ost (pv 0) (pv 1)))), ?_⟩
    exact ⟨_, rfl, _, rfl, a, He.ga K "InvalidText", [x], rfl, by show 1 ≤ 1000; decide, EC.ox, ea, _, rfl, _, rfl, a, He.ga K "InvalidText", rfl, EC.ox, EC.nf, .inl ⟨ea, q⟩⟩
/-- what a raise of such an error leaves -/
theorem err_mk {C : Addr} {f : Str} {x : V} {H : Hp} {a : Addr} {Q : XK} (na : H a = none) (q : ∀ (dd : Addr) (H' : Hp), Same H H' → H' dd = some (.xd [(f, x)]) → Q (.ref C) (some dd) H') :
    spErr C f [.ref a, x] (upd H a (exo a C none)) (fun v H2 => v = .non ∧ ∃ (d : Addr) (fs : List (Str × V)), H2 a = some (exo a C (some d)) ∧ H2 d = some (exd d fs) ∧ H d = none ∧ Q (.ref C) (some d) (upd (del H2 a) d (.xd fs))) (fun _ _ _ => False) := by
  refine ⟨a, x, rfl, upd_same, fun dx hd ne => ⟨rfl, dx, [(f, x)], upd_same, by rw [upd_ne ne]; exact upd_same, ?_, q dx _ (fun b o e => ?_) upd_same⟩⟩
  · rw [upd_ne ne] at hd
    exact hd
  · have hdx : H dx = none := by
      rw [upd_ne ne] at hd
      exact hd
    rw [upd_ne (ne_of_none e hdx), del_ne (ne_of_none e na), upd_ne (ne_of_none e na), upd_ne (ne_of_none e hdx), upd_ne (ne_of_none e na)]
    exact e
/-! ### making a field -/
def spFInit (K : PySem.W.Frag) : Sp := fun vs H Q _ => ∃ (f C dx : Addr) (x : V), vs = [.ref f, x] ∧ FC K C ∧ H f = some (.ins C dx []) ∧ Q .non (upd H f (.ins C dx [(("_prime" : Str), x)]))
theorem ok_finit (T : Tx K mg) : FnG P w K mg base CX0 1 (He.ma K (He.ga K "Field") "__init__") (spFInit K) := by
  refine mk_Field___init__ T.d (fun vs H Q E h => ?_) (fun cdv A outer s H vs Q E hg hr h => ?_)
  · obtain ⟨f, C, dx, x, rfl, _⟩ := h
    rfl
  · obtain ⟨f, C, dx, x, rfl, c, hf, q⟩ := h
    exact ⟨_, pss_one (ps_fld (pv 0) (pv 1) rfl), ⟨_, rfl, _, rfl, f, C, dx, [], rfl, hf, c.cl, c.np, (by show 0 < 1000; decide), q⟩⟩
def spFracInit (K : PySem.W.Frag) : Sp := fun vs H Q _ => ∃ (f dx : Addr), vs = [.ref f] ∧ H f = some (.ins (He.ga K "Fractions") dx []) ∧ Q .non (upd H f (.ins (He.ga K "Fractions") dx [(("_prime" : Str), V.non)]))
theorem ok_fracinit (T : Tx K mg) : FnG P w K mg base CX0 2 (He.ma K (He.ga K "Fractions") "__init__") (spFracInit K) := by
  refine mk_Fractions___init__ T.d (fun vs H Q E h => ?_) (fun cdv A outer s H vs Q E hg hr h => ?_)
  · obtain ⟨f, dx, rfl, _⟩ := h
    rfl
  · obtain ⟨f, dx, rfl, hf, q⟩ := h
    refine ⟨_, pss_one (ps_expr (pe_clsG (by rfl) (T.g "Field" (by decide +kernel)) T.rdF T.gaF T.fiF (kp_Field___init__ T.d) (ok_finit T) hr hg pass0 (pa_cons (pv 0) (pa_cons pe_non pa_nil)))), ?_⟩
    exact ⟨_, rfl, f, _, dx, _, rfl, T.fcF, hf, q⟩
def spMInit (K : PySem.W.Frag) : Sp := fun vs H Q E => ∃ (f dx : Addr) (x : V) (d : PyData), vs = [.ref f, x] ∧ Do K H x d ∧ H f = some (.ins (He.ga K "Modulo") dx []) ∧ (prD d = true → Q .non (upd H f (.ins (He.ga K "Modulo") dx [(("_prime" : Str), x)]))) ∧
  (prD d = false → ∀ (dd : Addr) (H' : Hp), Same H H' → H' dd = some (.xd [(("value" : Str), x)]) → E (.ref (He.ga K "InvalidPrime")) (some dd) H')
theorem ok_minit (T : Tx K mg) : FnG P w K mg base (L2.CX P w) 4 (He.ma K (He.ga K "Modulo") "__init__") (spMInit K) := by
  refine mkX_Modulo___init__ T.d (fun vs H Q E h => ?_) (fun cdv A outer s H vs Q E hg hr h => ?_)
  · obtain ⟨f, dx, x, d, rfl, _⟩ := h
    rfl
  · obtain ⟨f, dx, x, d, rfl, hd, hf, q, qe⟩ := h
    obtain ⟨fd, F1, hb⟩ := ok_InvalidPrime (P := P) (w := w) (base := base) T
    refine ⟨_, pss_cons (ps_if (pt_not (pt_val (pe_callG (ok_is_prime T) hr hg (by rfl) (T.g "is_prime" (by decide +kernel)) (kp_is_prime T.d) pass0 (pa_cons (pv 1) pa_nil))))
        (pss_one (ps_raise rfl (takes_of rfl rfl rfl rfl) (pmk_oex T.eP.ox T.eP.iC T.eP.tI F1 (hr.mono (by decide)) hb .nil pass0 (by rfl) (T.g "InvalidPrime" (by decide +kernel)) (pa_cons (pv 1) pa_nil)))) pss_nil)
      (pss_one (ps_expr (pe_clsG (by rfl) (T.g "Field" (by decide +kernel)) T.rdF T.gaF T.fiF (kp_Field___init__ T.d) (ok_finit T) (hr.mono (by decide)) hg pass0 (pa_cons (pv 0) (pa_cons (pv 1) pa_nil))))), ?_⟩
    refine ⟨_, rfl, x, d, rfl, hd, _, rfl, ?_⟩
    cases e : prD d with
    | true => exact ifF rfl ⟨_, rfl, _, rfl, f, _, dx, _, rfl, T.fcM, hf, q e⟩
    | false => exact ifT rfl ⟨_, rfl, by show 1 ≤ 1000; decide, fun a na => err_mk na (qe e)⟩
/-! ### Field's ==, name -/
def spEq (K : PySem.W.Frag) : Sp := fun vs H Q _ => ∃ (f : Addr) (φ : Fk) (y : V), vs = [.ref f, y] ∧ FieldC K H f φ ∧
  ((∃ (g : Addr) (ψ : Fk), y = .ref g ∧ FieldC K H g ψ ∧ Q (.bl (decide (pval φ = pval ψ))) H) ∨ ∃ t ∈ ([.type "int", .type "str", .type "list"] : List Value), TyX K H y t ∧ Q (.bl false) H)
theorem scal_p : ∀ φ ψ : Fk, scal (pval φ) (pval ψ) = true
  | .fr, .fr => rfl
  | .fr, .md _ => rfl
  | .md _, .fr => rfl
  | .md _, .md _ => rfl
theorem ok_eq (T : Tx K mg) : FnG P w K mg base CX0 1 (eqF K) (spEq K) := by
  refine mk_Field___eq__ T.d (fun vs H Q E h => ?_) (fun cdv A outer s H vs Q E hg hr h => ?_)
  · obtain ⟨f, φ, y, rfl, _⟩ := h
    rfl
  · obtain ⟨f, φ, y, rfl, F, q⟩ := h
    refine ⟨_, pss_one (ps_ret (pe_and (pe_callB call_isi (by rfl) (T.z "isinstance" (by decide +kernel)) (by decide +kernel) (pa_cons (pv 1) (pa_cons (pe_glob (v := .ref (He.ga K "Field")) (by rfl) (T.g "Field" (by decide +kernel)) rfl) pa_nil)))
      (pe_one (pe_cmpR op_eq (pe_fld (pv 0) rfl) (pe_fld (pv 1) rfl) (nomark _))))), ?_⟩
    rcases q with ⟨g, ψ, rfl, G, q⟩ | ⟨t, ht, ty, q⟩
    · refine ⟨_, rfl, _, _, _, _, true, rfl, .own _, T.tyx G, (T.mc ψ).isF, _, rfl, ifT rfl ?_⟩
      exact rd_prime T rfl F (rd_prime T rfl G ⟨scal_p φ ψ, q⟩)
    · exact ⟨_, rfl, _, _, _, _, false, rfl, .own _, ty, T.nK t ht, _, rfl, ifF rfl q⟩
def nameS : Fk → Str
  | .fr => "fractions"
  | .md p => "modulo " ++ (toString p : String)
end
end K01

namespace K01
open PySem PySem.Spec PyProof.Rows L2 Ver Num
theorem sEq (a b : Str) : decide (V.str a = V.str b) = decide (a = b) := by
  by_cases h : a = b
  · rw [decide_eq_true h, decide_eq_true (by rw [h])]
  · rw [decide_eq_false h, decide_eq_false fun z => h (V.str.inj z)]
theorem bEq (a b : Bool) : decide (V.bl a = V.bl b) = decide (a = b) := by cases a <;> cases b <;> rfl
section
variable {P : Program} {w : World} {K : PySem.W.Frag} {mg : Str → Option Value} {base : Heap}
/-! ### integer_of -/
def optV : Option Int → V
  | none => .non
  | some i => .int i
def spIntOf : Sp := fun vs H Q _ => ∃ (t : Str) (m : Nat), vs = [.str t, .int (m : Int)] ∧ t.length ≤ 10000 ∧ m ≤ 600 ∧ reachT t m = true ∧ Q (optV (intOf t m)) H
theorem ok_int_of (T : Tx K mg) : FnG P w K mg base CX0 1 (He.ga K "integer_of") spIntOf := by
  refine mk_integer_of T.d (fun vs H Q E h => ?_) (fun cdv A outer s H vs Q E hg hr h => ?_)
  · obtain ⟨t, m, rfl, _⟩ := h
    rfl
  · obtain ⟨t, m, rfl, tl, m9, rch, q⟩ := h
    obtain ⟨tk, dg⟩ := T.dd
    refine ⟨_, pss_cons (ps_if (PW.pt (pw_or (pt_not (pt_chain op_le op_le pe_int (pe_callB call_len_str (by rfl) (T.z "len" (by decide +kernel)) (by decide +kernel) (pa_cons (pv 0) pa_nil)) (pv 1)))
        (pw_or1 (pt_cmpR op_ne (pe_m1 PySem.F.slot_str_strip PySem.F.type_str_strip mt_stripChars (pv 0) (pe_glob (v := .str digits) (by rfl) dg ⟨_, rfl⟩)) pe_str (nomark _))))) (pss_one (ps_ret pe_non)) pss_nil)
      (pss_cons (ps_if (PW.pt (pw_and (pt_val (pe_m1 PySem.F.slot_str_startswith PySem.F.type_str_startswith mt_startswith (pv 0) pe_str)) (pw_and1 (pt_cmpR op_ne (pv 0) pe_str (nomark _))))) (pss_one (ps_ret pe_non)) pss_nil)
      (pss_one (ps_ret (pe_callTy call_int_str (by rfl) (T.z "int" (by decide +kernel)) (by decide +kernel) (pa_cons (pv 0) pa_nil))))), ?_⟩
    have sl : t.length ≤ sizeLine := by rw [sizeLine_eq]; omega
    refine ⟨_, rfl, t, rfl, sl, _, _, rfl, rfl, _, rfl, ?_⟩
    have bad : plainT t m = false → Q .non H := fun e => by
      have : intOf t m = none := by
        unfold intOf
        rw [e]
        rfl
      rw [this] at q
      exact q
    by_cases h1 : (1 : Int) ≤ (t.length : Int)
    · refine ifT (decide_eq_true h1) ⟨_, rfl, _, _, rfl, rfl, _, rfl, ?_⟩
      by_cases h2 : (t.length : Int) ≤ (m : Int)
      · rw [decide_eq_true h2]
        refine ifF rfl ?_
        refine ⟨_, rfl, ⟨_, rfl⟩, _, _, rfl, rfl, sl, rfl, _, rfl, ?_⟩
        rw [sEq]
        by_cases h3 : Txt.stripChars t digits = ""
        · refine ifF (by rw [decide_eq_true h3]; rfl) ?_
          have pl : plainT t m = true := by
            unfold plainT
            rw [decide_eq_true (show 1 ≤ t.length by omega), decide_eq_true (show t.length ≤ m by omega), decide_eq_true h3]
            rfl
          refine ⟨_, rfl, ⟨_, rfl⟩, _, _, rfl, rfl, _, rfl, ?_⟩
          have q : Q (optV (if bentZ t = true then none else PySem.intText? t)) H := by
            have e : intOf t m = if bentZ t = true then none else PySem.intText? t := by
              unfold intOf
              rw [if_pos pl]
            rw [← e]
            exact q
          have rch : (!plainT t m || (bentZ t || (PySem.intText? t).isSome)) = true := rch
          rw [pl, Bool.not_true, Bool.false_or] at rch
          have fin : bentZ t = false → ∃ n, PySem.intText? t = some n ∧ Q (.int n) H := fun eb => by
            rw [eb, Bool.false_or] at rch
            obtain ⟨n, hn⟩ := Option.isSome_iff_exists.mp rch
            rw [eb, hn] at q
            exact ⟨n, hn, q⟩
          have le : t.length ≤ 640 := by omega
          cases hs : Txt.startswith t "0" with
          | false =>
            obtain ⟨n, hn, qn⟩ := fin (by unfold bentZ; rw [hs]; rfl)
            exact ifF rfl (ifF rfl ⟨_, rfl, _, n, rfl, hn, le, qn⟩)
          | true =>
            refine ifT rfl ⟨_, rfl, rfl, _, rfl, ?_⟩
            rw [sEq]
            by_cases h4 : t = "0"
            · obtain ⟨n, hn, qn⟩ := fin (by unfold bentZ; rw [hs, decide_eq_true h4]; rfl)
              exact ifF (by rw [decide_eq_true h4]; rfl) ⟨_, rfl, _, n, rfl, hn, le, qn⟩
            · have eb : bentZ t = true := by unfold bentZ; rw [hs, decide_eq_false h4]; rfl
              rw [eb] at q
              exact ifT (by rw [decide_eq_false h4]; rfl) q
        · exact ifT (by rw [decide_eq_false h3]; rfl) (bad (by unfold plainT; rw [decide_eq_false h3, Bool.and_false]))
      · rw [decide_eq_false h2]
        exact ifT rfl (ifT rfl (bad (by unfold plainT; rw [decide_eq_false (show ¬ t.length ≤ m by omega), Bool.and_false, Bool.false_and])))
    · refine ifF (decide_eq_false h1) ⟨_, rfl, ?_⟩
      exact ifT rfl (ifT rfl (bad (by unfold plainT; rw [decide_eq_false (show ¬ 1 ≤ t.length by omega), Bool.false_and, Bool.false_and])))
end
end K01

namespace K01
open PySem PySem.Spec PyProof.Rows L2 Ver Num
section
variable {P : Program} {w : World} {K : PySem.W.Frag} {mg : Str → Option Value} {base : Heap}
/-! ### Field.named -/
/-- a value that may be asked for -/
def niceD : PyData → Bool
  | .dict _ => true
  | .str t => SeqAt.shaped (.str t) && reachN t
  | d => SeqAt.shaped d
theorem nice_odd {d : PyData} (h : oddB d = true) : niceD d = true := by
  cases d with
  | str t =>
    have h : (SeqAt.shaped (.str t) && (reachN t && _)) = true := h
    rw [Bool.and_eq_true, Bool.and_eq_true] at h
    show (SeqAt.shaped (.str t) && reachN t) = true
    rw [h.1, h.2.1]
    rfl
  | _ => exact h
theorem sc_named : FnScope ["text", "prime"] ["text"] (defScope s_Field_named) := ⟨rfl, rfl, rfl, by decide +kernel, rfl, by decide +kernel, by decide +kernel⟩
theorem made3 {H : Hp} {x dx : Addr} {o1 o2 o3 : HO} (hx : H x = none) (hd : H dx = none) : Same H (upd (upd (upd H dx o1) x o2) x o3) := fun b o e => by
  rw [upd_ne (ne_of_none e hx), upd_ne (ne_of_none e hx), upd_ne (ne_of_none e hd)]
  exact e
def optD : Option Int → PyData
  | none => .none
  | some i => .int i
theorem do_opt {H : Hp} : ∀ o : Option Int, Do K H (optV o) (optD o)
  | none => .non
  | some i => .int i
def spNamed (K : PySem.W.Frag) : Sp := fun vs H Q E => ∃ (x : V) (d : PyData), vs = [x] ∧ Do K H x d ∧ niceD d = true ∧ (∀ (φ : Fk) (f : Addr) (H' : Hp), namedD d = some φ.code → okP φ → Same H H' → FieldC K H' f φ → Q (.ref f) H') ∧
  (namedD d = none → ∀ (dd : Addr) (H' : Hp), Same H H' → H' dd = some (.xd [(("line" : Str), V.int 0)]) → E (.ref (He.ga K "InvalidText")) (some dd) H')
def isT : PyData → Str → Bool
  | .str z, t => decide (z = t)
  | _, _ => false
theorem eqv_str {d : PyData} {t : Str} : PyData.eqv d (.str t) = isT d t := by
  cases d with
  | str z =>
    show _ = decide (z = t)
    by_cases h : z = t
    · rw [decide_eq_true h, h]
      simp [PyData.eqv]
    · rw [decide_eq_false h]
      simp [PyData.eqv, h]
  | _ => simp [PyData.eqv, isT]
theorem shaped_s : ∀ t ∈ (["fractions", "modulo 7", "none", "odd"] : List Str), SeqAt.shaped (.str t) = true := by decide +kernel
theorem ok_named (T : Tx K mg) : ∃ g, StM K (He.ga K "Field") "named" g ∧ FnG P w K mg base (L2.CX P w) 6 g (spNamed K) := by
  obtain ⟨g, fd, st, FD⟩ := T.st
  refine ⟨g, st, okG FD sc_named (FD.bindsA fun _ _ _ _ _ _ us hl => match us, hl with | [_], _ => rfl) (fun vs H Q E h => ?_) (fun cdv A outer s H vs Q E hg hr h => ?_)⟩
  · obtain ⟨x, d, rfl, _⟩ := h
    rfl
  · obtain ⟨x, d, rfl, hd, nc, q, qe⟩ := h
    have nd := sc_named.nd
    have hu := hr.units
    obtain ⟨tpd, pd⟩ := T.pd
    obtain ⟨fd1, F1, hb⟩ := ok_InvalidText (P := P) (w := w) (base := base) T
    refine ⟨_, pss_cons (ps_if (pt_cmpR ((op_eqO T.sm hu).or (op_eqDS (Nat.lt_of_le_of_lt (Nat.le_add_right _ 64) hu))) (pv 0) pe_str (nomark _)) (pss_one (ps_ret (pe_makeG0 T.mF.mkr (ok_fracinit T) (hr.mono (by decide)) hg (by rfl) (T.g "Fractions" (by decide +kernel)) pass0))) pss_nil)
      (pss_cons (ps_if (PW.pt (pw_and (pt_val (pe_callB call_isi (by rfl) (T.z "isinstance" (by decide +kernel)) (by decide +kernel) (pa_cons (pv 0) (pa_cons (pe_bltn (v := .ty "str") (by rfl) (T.z "str" (by decide +kernel)) (by decide +kernel) rfl) pa_nil))))
          (pw_and1 (pt_val (pe_m1 PySem.F.slot_str_startswith PySem.F.type_str_startswith mt_startswith (pv 0) pe_str)))))
        (pss_cons (ps_set (i := 1) nd rfl (Or.inl rfl) (pe_callG (ok_int_of T) (hr.mono (by decide)) hg (by rfl) (T.g "integer_of" (by decide +kernel)) (kp_integer_of T.d) pass0
            (pa_cons (pe_m1 PySem.F.slot_str_removeprefix PySem.F.type_str_removeprefix mt_removeprefix (pv 0) pe_str) (pa_cons (pe_glob (v := .int 10) (by rfl) pd ⟨_, rfl⟩) pa_nil))))
        (pss_one (ps_if (pt_val (pe_callG (ok_is_prime T) (hr.mono (by decide)) hg (by rfl) (T.g "is_prime" (by decide +kernel)) (kp_is_prime T.d) pass0 (pa_cons (pv 1) pa_nil)))
          (pss_one (ps_ret (pe_makeG T.mM.mkr (ok_minit T) (hr.mono (by decide)) hg (by rfl) (T.g "Modulo" (by decide +kernel)) passL (pa_cons (pv 1) pa_nil)))) pss_nil))) pss_nil)
      (pss_one (ps_raise rfl (takes_of rfl rfl rfl rfl) (pmk_oex T.eT.ox T.eT.iC T.eT.tI F1 (hr.mono (by decide)) hb .nil pass0 (by rfl) (T.g "InvalidText" (by decide +kernel)) (pa_cons pe_int pa_nil))))), ?_⟩
    by_cases hdi : ∃ kds, d = .dict kds
    · obtain ⟨kds, rfl⟩ := hdi
      have ty := hd.ty
      cases hd with
      | dic ea hk =>
        refine ⟨_, rfl, .inr ⟨_, _, _, rfl, rfl, ea, _, rfl, ifF rfl ?_⟩⟩
        refine ⟨_, rfl, _, _, _, _, _, rfl, .ty "str", ty, kit_str (.dict kds), _, rfl, ifF rfl (ifF rfl ?_)⟩
        exact ⟨by show 1 ≤ 1000; decide, fun a na => err_mk na (qe rfl)⟩
    · have sh : SeqAt.shaped d = true := by
        cases d with
        | dict kds => exact absurd ⟨kds, rfl⟩ hdi
        | str t =>
          have nc : (SeqAt.shaped (.str t) && reachN t) = true := nc
          rw [Bool.and_eq_true] at nc
          exact nc.1
        | _ => exact nc
      refine ⟨_, rfl, .inl ⟨d, .str "fractions", hd, .str _, sh, shaped_s _ (by simp), _, rfl, ?_⟩⟩
      rw [eqv_str]
      cases es : is_str d with
      | false =>
        have e1 : isT d "fractions" = false := by cases d <;> first | rfl | cases es
        have e2 : namedD d = none := by cases d <;> first | rfl | cases es
        rw [e1]
        refine ifF rfl ⟨_, rfl, _, _, _, _, _, rfl, .ty "str", hd.ty, kit_str d, _, rfl, ?_⟩
        rw [es]
        exact ifF rfl (ifF rfl ⟨by show 1 ≤ 1000; decide, fun a na => err_mk na (qe e2)⟩)
      | true =>
        cases hd with
        | str t =>
          have nc : (SeqAt.shaped (.str t) && (decide (t.length ≤ 10000) && (decide ((tailT t).length ≤ 10000) && reachT (tailT t) 10))) = true := nc
          rw [Bool.and_eq_true, Bool.and_eq_true, Bool.and_eq_true] at nc
          obtain ⟨_, l1, l2, rch⟩ := nc
          have l1 : t.length ≤ sizeLine := by
            have := of_decide_eq_true l1
            rw [sizeLine_eq]
            omega
          have l2 := of_decide_eq_true l2
          by_cases hf : t = "fractions"
          · refine ifT (decide_eq_true hf) fun x dx nx ndx ne => ⟨x, dx, rfl, upd_same, rfl, q .fr x _ ?_ trivial ?_ ⟨dx, upd_same⟩⟩
            · show namedI t = some 0
              unfold namedI
              rw [if_pos hf]
            · exact made3 nx ndx
          · refine ifF (decide_eq_false hf) ?_
            refine ⟨_, rfl, _, _, _, _, _, rfl, .ty "str", .base (.str t), kit_str (.str t), _, rfl, ifT rfl ?_⟩
            refine ⟨_, rfl, ⟨_, rfl⟩, _, _, rfl, rfl, _, rfl, ?_⟩
            cases hs : Txt.startswith t "modulo " with
            | false =>
              have e2 : namedD (.str t) = none := by
                show namedI t = none
                unfold namedI
                rw [if_neg hf, hs]
                rfl
              exact ifF rfl ⟨by show 1 ≤ 1000; decide, fun a na => err_mk na (qe e2)⟩
            | true =>
              refine ifT rfl ?_
              have e3 : namedD (.str t) = (match intOf (tailT t) 10 with
                  | some p => if prB Float64.isqrt p = true then some p else none
                  | none => none) := by
                show namedI t = _
                unfold namedI
                rw [if_neg hf, if_pos hs]
                all_goals (cases intOf (tailT t) 10 <;> rfl)
              refine ⟨_, rfl, ⟨_, rfl⟩, _, _, rfl, rfl, l1, tailT t, 10, rfl, l2, by decide, rch, ?_⟩
              rw [e3] at q qe
              generalize intOf (tailT t) 10 = o at q qe
              refine ⟨_, rfl, optV o, optD o, rfl, do_opt o, _, rfl, ?_⟩
              cases o with
              | none => exact ifF rfl ⟨by show 1 ≤ 1000; decide, fun a na => err_mk na (qe rfl)⟩
              | some p =>
                cases hp : prB Float64.isqrt p with
                | false =>
                  refine ifF hp ⟨by show 1 ≤ 1000; decide, fun a na => err_mk na (qe ?_)⟩
                  show (if prB Float64.isqrt p = true then some p else none) = none
                  rw [hp]
                  rfl
                | true =>
                  refine ifT hp ⟨_, rfl, fun x dx nx ndx ne => ⟨x, dx, .int p, .int p, rfl, .int p, upd_same, fun _ => ⟨rfl, q (.md p) x _ ?_ hp ?_ ⟨dx, upd_same⟩⟩, fun z => absurd (hp.symm.trans z) (by decide)⟩⟩
                  · show (if prB Float64.isqrt p = true then some p else none) = some p
                    rw [hp]
                    rfl
                  · exact made3 nx ndx
        | _ => cases es
end
end K01

namespace K01
open PySem PySem.Spec PyProof.Rows L2 Ver Num
section
variable {P : Program} {w : World} {K : PySem.W.Frag} {mg : Str → Option Value} {base : Heap}
/-! ### the name of a field -/
def spName (K : PySem.W.Frag) : Sp := fun vs H Q _ => ∃ (f : Addr) (φ : Fk), vs = [.ref f] ∧ FieldC K H f φ ∧ okP φ ∧ Q (.str (nameS φ)) H
theorem sc_name : FnScope ["self"] ["self"] (defScope s_Field_name) := ⟨rfl, rfl, rfl, by decide +kernel, rfl, by decide +kernel, by decide +kernel⟩
theorem sc_pr : FnScope ["self"] ["self"] (defScope s_Field_prime) := ⟨rfl, rfl, rfl, by decide +kernel, rfl, by decide +kernel, by decide +kernel⟩
theorem int_text {p : Int} (h2 : 2 ≤ p) (h9 : p ≤ 1000000000) : p.natAbs.log2 < 1920 ∧ ((toString p : String) : Str).length ≤ 41 := by
  have e : p.natAbs < 2 ^ 40 := by
    have : (2 : Nat) ^ 40 = 1099511627776 := by decide
    omega
  have l := PySem.Flt.log2_lt_of (by decide) e
  refine ⟨by omega, ?_⟩
  have e := int_text_length_le (k := 40) (by decide) l
  rw [PySem.ofString_length]
  exact e
theorem ok_name (T : Tx K mg) : ∃ p g fd, PC K "name" "Field.name" s_Field_name p g ∧ FnOk P w K mg base CX0 1 g fd ["self"] (spName K) ∧ Binds K fd ["self"] [] := by
  obtain ⟨p, g, pc⟩ := T.pN
  obtain ⟨fd, FD⟩ := pc.df
  have hb : Binds K fd ["self"] [] := FD.bindsN fun _ _ _ _ _ _ us hl => match us, hl with | [_], _ => rfl
  obtain ⟨⟨oc, od, dV, kV, doc, pm, an, cdv, ct, osl, rfl, lk, hcd, _⟩, _⟩ := FD
  refine ⟨p, g, _, pc, fn_of lk hcd sc_name (fun vs H Q E h => ?_) (fun A outer s H vs Q E hr h => ?_), hb⟩
  · obtain ⟨f, φ, rfl, _⟩ := h
    rfl
  · obtain ⟨f, φ, rfl, F, ok, q⟩ := h
    refine ⟨_, PSs.nox (pss_one (ps_ret (pe_ifExp (pt_cmp (pc_isN (pe_fld (pv 0) rfl))) pe_str (pe_joined (.cons pe_str (.cons (pe_fmt (pe_fld (pv 0) rfl)) .nil)))))), ?_⟩
    cases φ with
    | fr => exact rd_prime T rfl F ⟨_, rfl, ifT rfl q⟩
    | md p =>
      obtain ⟨p2, p9⟩ := prB_bd ok
      obtain ⟨l1, l2⟩ := int_text p2 p9
      refine rd_prime T rfl F ⟨_, rfl, ifF rfl ?_⟩
      obtain ⟨dx, e⟩ := F
      refine ⟨_, rfl, by decide +kernel, _, rfl, f, _, dx, _, .int p, rfl, e, T.fcM.cl, T.fcM.np, pf_look _, .inr ⟨p, rfl, l1, _, rfl, ?_, ?_⟩⟩
      · rw [strLen_append]
        have : (Str.empty ++ ("modulo " : Str)).length = 7 := by decide +kernel
        rw [this, sizeLine_eq]
        omega
      · have : (Str.empty ++ ("modulo " : Str)) = ("modulo " : Str) := by decide +kernel
        show Q (.str ((Str.empty ++ ("modulo " : Str)) ++ _)) H
        rw [this]
        exact q
theorem ok_prime (T : Tx K mg) (φ : Fk) : ∃ p g fd, PropOf K (clsOf K φ) "prime" p g ∧ FnOk P w K mg base CX0 (0 + 1) g fd ["self"] (getSp (clsOf K φ) "_prime") ∧ Binds K fd ["self"] [] := by
  obtain ⟨p, g, pc⟩ := T.pP
  obtain ⟨fd, FD⟩ := pc.df
  have hb : Binds K fd ["self"] [] := FD.bindsN fun _ _ _ _ _ _ us hl => match us, hl with | [_], _ => rfl
  obtain ⟨⟨oc, od, dV, kV, doc, pm, an, cdv, ct, osl, rfl, lk, hcd, _⟩, _⟩ := FD
  have hp : PropOf K (clsOf K φ) "prime" p g := by
    cases φ with
    | fr => exact pc.fF
    | md _ => exact pc.fM
  exact ⟨p, g, _, hp, fn_getter lk hcd sc_pr rfl (by rfl) (T.fc φ).cl (T.fc φ).np, hb⟩
/-! ### _law_made_field, _law_prime -/
def spMade (K : PySem.W.Frag) : Sp := fun vs H Q _ => ∃ φ : Fk, vs = [.int φ.code] ∧ okP φ ∧ ∀ (f : Addr) (H' : Hp), Same H H' → FieldC K H' f φ → Q (.ref f) H'
theorem ok_made (T : Tx K mg) : FnG P w K mg base CX0 6 (He.ga K "_law_made_field") (spMade K) := by
  refine mk__law_made_field T.d (fun vs H Q E h => ?_) (fun cdv A outer s H vs Q E hg hr h => ?_)
  · obtain ⟨φ, rfl, _⟩ := h
    rfl
  · obtain ⟨φ, rfl, ok, q⟩ := h
    refine ⟨_, pss_one (ps_ret (pe_ifExp (pt_cmpR op_eq (pv 0) pe_int (nomark _)) (pe_makeG0 T.mF.mkr (ok_fracinit T) (hr.mono (by decide)) hg (by rfl) (T.g "Fractions" (by decide +kernel)) pass0)
      (pe_makeG T.mM.mkr (ok_minit T) hr hg (by rfl) (T.g "Modulo" (by decide +kernel)) passL (pa_cons (pv 0) pa_nil)))), ?_⟩
    refine ⟨_, rfl, rfl, _, rfl, ?_⟩
    rw [iEq]
    cases φ with
    | fr => exact ifT (by decide) fun x dx nx nd ne => ⟨x, dx, rfl, upd_same, rfl, q x _ (made3 nx nd) ⟨dx, upd_same⟩⟩
    | md p =>
      have hlo := (prB_bd ok).1
      refine ifF (decide_eq_false (show ¬ p = 0 by omega)) ⟨_, rfl, fun x dx nx nd ne => ⟨x, dx, .int p, .int p, rfl, .int p, upd_same, fun _ => ⟨rfl, q x _ (made3 nx nd) ⟨dx, upd_same⟩⟩, fun z => absurd ((show prD (.int p) = true from ok).symm.trans z) (by decide)⟩⟩
def six : List Int := [2, 3, 5, 7, 101, 1000003]
theorem six_ok : ∀ p ∈ six, okP (.md p) := by
  have : ∀ p ∈ six, prB Float64.isqrt p = true := by decide +kernel
  exact this
def spPrime : Sp := fun vs H Q _ => ∃ (d : Addr) (k : Int), vs = [.ref d] ∧ PenAt H d k ∧ k < 1000000000000 ∧ ∀ (p : Int) (H' : Hp), p ∈ six → But d H H' → PenAt H' d (k + 1) → Q (.int p) H'
theorem ok_lprime (T : Tx K mg) : FnG P w K mg base CX0 3 (He.ga K "_law_prime") spPrime := by
  refine mk__law_prime T.d (fun vs H Q E h => ?_) (fun cdv A outer s H vs Q E hg hr h => ?_)
  · obtain ⟨d, k, rfl, _⟩ := h
    rfl
  · obtain ⟨d, k, rfl, pen, k9, q⟩ := h
    refine ⟨_, pss_one (ps_ret (pe_callG (ok_pick T) hr hg (by rfl) (T.g "_law_pick" (by decide +kernel)) (kp__law_pick T.d) pass0
      (pa_cons (pv 0) (pa_cons (pe_lst (pa_cons pe_int (pa_cons pe_int (pa_cons pe_int (pa_cons pe_int (pa_cons pe_int (pa_cons pe_int (pa_cons pe_int (pa_cons pe_int pa_nil))))))))) pa_nil)))), ?_⟩
    refine ⟨_, rfl, by show 8 ≤ sizeLine; decide, fun l nl => ?_⟩
    have s0 := same_up (o := .lst [V.int 2, V.int 2, V.int 3, V.int 3, V.int 5, V.int 7, V.int 101, V.int 1000003]) nl
    refine ⟨d, l, k, _, rfl, pen.same s0, k9, upd_same, by show 0 < 8; decide, by show 8 < 1000; decide, fun x H1 hx bt pen1 => ?_⟩
    have b := (But.same s0).trans bt
    simp only [List.mem_cons, List.not_mem_nil, or_false] at hx
    rcases hx with rfl | rfl | rfl | rfl | rfl | rfl | rfl | rfl
    all_goals exact q _ H1 (by decide) b pen1
/-! ### _law_is_fine -/
def spFine (K : PySem.W.Frag) : Sp := fun vs H Q _ => ∃ (x : V) (d : PyData), vs = [x] ∧ Do K H x d ∧ Q (.bl (prD d)) H
theorem ok_fine (T : Tx K mg) : FnG P w K mg base CX0 2 (He.ga K "_law_is_fine") (spFine K) := by
  refine mk__law_is_fine T.d (fun vs H Q E h => ?_) (fun cdv A outer s H vs Q E hg hr h => ?_)
  · obtain ⟨x, d, rfl, _⟩ := h
    rfl
  · obtain ⟨x, d, rfl, hd, q⟩ := h
    refine ⟨_, pss_one (ps_ret (pe_and (pe_callG (ok_is_whole T) hr hg (by rfl) (T.g "_law_is_whole" (by decide +kernel)) (kp__law_is_whole T.d) pass0 (pa_cons (pv 0) pa_nil))
      (pe_and (pe_chain op_le op_le pe_int (pv 0) (pe_op op_pow pe_int pe_int)) (pe_one (pe_callG (ok_lpr T) hr hg (by rfl) (T.g "_law_is_prime" (by decide +kernel)) (kp__law_is_prime T.d) pass0 (pa_cons (pv 0) pa_nil)))))), ?_⟩
    refine ⟨_, rfl, x, d, rfl, hd, _, rfl, ?_⟩
    cases e : isI d with
    | false =>
      have : prD d = false := by cases d <;> first | rfl | cases e
      rw [this] at q
      exact ifF rfl q
    | true =>
      cases hd with
      | int v =>
        refine ifT rfl ⟨_, rfl, _, _, rfl, rfl, _, rfl, ?_⟩
        by_cases h2 : 2 ≤ v
        · refine ifT (decide_eq_true h2) ⟨_, _, rfl, rfl, ⟨by decide, by decide, by decide⟩, _, _, rfl, rfl, _, rfl, ?_⟩
          rw [ten9]
          by_cases h9 : v ≤ 1000000000
          · exact ifT (decide_eq_true h9) ⟨_, rfl, v, rfl, h2, h9, q⟩
          · have : prD (.int v) = false := prD_btw (by show (decide (2 ≤ v) && decide (v ≤ 1000000000)) = false; rw [decide_eq_false h9, Bool.and_false])
            rw [this] at q
            rw [decide_eq_false h9]
            exact ifF rfl q
        · have : prD (.int v) = false := prD_btw (by show (decide (2 ≤ v) && decide (v ≤ 1000000000)) = false; rw [decide_eq_false h2, Bool.false_and])
          rw [this] at q
          refine ifF (decide_eq_false h2) ?_
          exact ⟨_, rfl, ifF rfl q⟩
      | _ => cases e
end
end K01

namespace K01
open PySem PySem.Spec PyProof.Rows L2 Ver Num
theorem int_len {n : Int} (h : n.natAbs < 2 ^ 40) : n.natAbs.log2 < 1920 ∧ (PyData.int n).shown.length ≤ 41 := by
  have l := PySem.Flt.log2_lt_of (by decide) h
  refine ⟨by omega, ?_⟩
  have e := int_text_length_le (k := 40) (by decide) l
  simp only [PyData.shown]
  have e2 : (Str.ofString (toString n)).length ≤ 41 := by
    rw [PySem.ofString_length]
    exact e
  exact e2
theorem okO_int {i : Int} (h : i.natAbs < 2 ^ 40) : OkO (.int i) := by
  obtain ⟨a1, a2⟩ := int_len h
  exact ⟨by simp only [PyData.showable]; exact decide_eq_true a1, by show (PyData.int i).shown.length ≤ 1000; omega, by simp [PyData.depth], rfl, by show SeqAt.shaped (.int i) = true; simp [SeqAt.shaped, PyData.canLay0, PyData.depth]⟩
section
variable {P : Program} {w : World} {K : PySem.W.Frag} {mg : Str → Option Value} {base : Heap}
/-! ### _law_drawn_prime -/
def spDrawn (K : PySem.W.Frag) : Sp := fun vs H Q _ => ∃ (d : Addr) (k : Int), vs = [.ref d] ∧ PenAt H d k ∧ k < 100000 ∧ ∀ (x : V) (dd : PyData) (H' : Hp), DoS d K H' x dd → OkO dd → But d H H' → PenAt H' d (k + 10) → Q x H'
theorem ok_drawn (T : Tx K mg) : FnG P w K mg base CX0 4 (He.ga K "_law_drawn_prime") (spDrawn K) := by
  refine mk__law_drawn_prime T.d (fun vs H Q E h => ?_) (fun cdv A outer s H vs Q E hg hr h => ?_)
  · obtain ⟨d, k, rfl, _⟩ := h
    rfl
  · obtain ⟨d, k, rfl, pen, k9, q⟩ := h
    have nd := sc__law_drawn_prime.nd
    have gp := T.g "_law_pick" (by decide +kernel)
    have gd := T.g "_law_draw" (by decide +kernel)
    refine ⟨_, pss_cons (ps_set (i := 1) nd rfl (Or.inl rfl) (pe_lst (pa_cons pe_int (pa_cons pe_int (pa_cons pe_int (pa_cons pe_int (pa_cons pe_int (pa_cons pe_int (pa_cons pe_int (pa_cons pe_int (pa_cons pe_int (pa_cons pe_int (pa_cons pe_int (pa_cons pe_int (pa_cons pe_int (pa_cons pe_int (pa_cons (pe_op op_mul pe_int pe_int) pa_nil)))))))))))))))))
      (pss_cons (ps_set (i := 1) nd rfl (Or.inl rfl) (pe_op op_cat (pv 1) (pe_lst (pa_cons (pe_op op_pow pe_int pe_int) (pa_cons (pe_op op_add (pe_op op_pow pe_int pe_int) pe_int) (pa_cons pe_int (pa_cons pe_int (pa_cons pe_int (pa_cons (pe_un un_neg pe_int) (pa_cons (pe_op op_mul pe_int pe_int) (pa_cons (pe_op op_mul pe_int pe_int) pa_nil)))))))))))
      (pss_one (ps_ret (pe_callG (ok_pick T) (hr.mono (by decide)) hg (by rfl) gp (kp__law_pick T.d) pass0 (pa_cons (pv 0) (pa_cons (pe_lst
        (pa_cons (pe_callG (ok_pick T) (hr.mono (by decide)) hg (by rfl) gp (kp__law_pick T.d) pass0 (pa_cons (pv 0) (pa_cons (pv 1) pa_nil)))
        (pa_cons (pe_callG (ok_draw T) (hr.mono (by decide)) hg (by rfl) gd (kp__law_draw T.d) pass0 (pa_cons (pv 0) (pa_cons pe_int pa_nil)))
        (pa_cons (pe_callG (ok_draw T) (hr.mono (by decide)) hg (by rfl) gd (kp__law_draw T.d) pass0 (pa_cons (pv 0) (pa_cons (pe_op op_pow pe_int pe_int) pa_nil)))
        (pa_cons (pe_callG (ok_odd T) (hr.mono (by decide)) hg (by rfl) (T.g "_law_odd" (by decide +kernel)) (kp__law_odd T.d) pass0 (pa_cons (pv 0) pa_nil)) pa_nil))))) pa_nil)))))), ?_⟩
    refine ⟨_, _, rfl, rfl, .inl ⟨by decide, by decide⟩, by show 15 ≤ sizeLine; decide, fun l1 nl1 => ?_⟩
    refine ⟨_, rfl, _, _, rfl, rfl, ⟨by decide, by decide, by decide⟩, _, _, rfl, rfl, ⟨by decide, by decide, by decide⟩, _, _, rfl, rfl, _, rfl, _, _, rfl, rfl, .inl ⟨by decide, by decide⟩, _, _, rfl, rfl, .inl ⟨by decide, by decide⟩, by show 8 ≤ sizeLine; decide, fun l2 nl2 => ?_⟩
    generalize hX1 : [V.int 2, V.int 3, V.int 4, V.int 9, V.int 25, V.int 561, V.int 1105, V.int 2047, V.int 3277, V.int 41041, V.int 1373653, V.int 25326001, V.int 321197185, V.int 999999937, V.int (31607 * 31627)] = xs1
    have u1 := same_up (o := .lst xs1) nl1
    rw [hX1] at nl2
    generalize hX2 : [V.int (10 ^ (9 : Int).toNat), V.int (10 ^ (9 : Int).toNat + 7), V.int 2147483647, V.int 0, V.int 1, V.int (-7), V.int (31607 * 31607), V.int (999999937 * 3)] = xs2
    have u2 := same_up (o := .lst xs2) nl2
    refine ⟨l1, l2, _, _, rfl, rfl, u2 _ _ upd_same, upd_same, by rw [← hX1, ← hX2]; show 15 + 8 ≤ sizeLine; decide, fun c nc => ?_⟩
    have u3 := same_up (o := .lst (xs1 ++ xs2)) nc
    have s3 := (u1.trans u2).trans u3
    have pen3 := pen.same s3
    have hc : (upd (upd (upd H l1 (.lst xs1)) l2 (.lst xs2)) c (.lst (xs1 ++ xs2))) c = some (.lst (xs1 ++ xs2)) := upd_same
    have lc : (xs1 ++ xs2).length = 23 := by rw [← hX1, ← hX2]; rfl
    have gi : ∀ x ∈ xs1 ++ xs2, ∃ i : Int, x = .int i ∧ i.natAbs < 2 ^ 40 := by
      intro x hx
      rw [← hX1, ← hX2, ten9] at hx
      simp only [List.mem_append, List.mem_cons, List.not_mem_nil, or_false] at hx
      rcases hx with (rfl | rfl | rfl | rfl | rfl | rfl | rfl | rfl | rfl | rfl | rfl | rfl | rfl | rfl | rfl) | (rfl | rfl | rfl | rfl | rfl | rfl | rfl | rfl)
      all_goals exact ⟨_, rfl, by decide⟩
    refine ⟨_, rfl, _, rfl, _, rfl, d, c, k, _, rfl, pen3, by omega, hc, by rw [lc]; decide, by rw [lc]; decide, fun x1 H1 hx1 bt1 pen1 => ?_⟩
    obtain ⟨i1, rfl, hi1⟩ := gi x1 hx1
    refine ⟨_, rfl, d, _, 200, rfl, pen1, by omega, by decide, by decide, fun i2 H2 bt2 pen2 i20 i21 => ?_⟩
    refine ⟨_, rfl, _, _, rfl, rfl, ⟨by decide, by decide, by decide⟩, d, _, _, rfl, pen2, by omega, by rw [ten9]; decide, by rw [ten9]; decide, fun i3 H3 bt3 pen3 i30 i31 => ?_⟩
    rw [ten9] at i31
    refine ⟨_, rfl, d, _, rfl, pen3, by omega, fun xo dd H4 ho oo bt4 pen4 => ⟨by show 4 ≤ sizeLine; decide, fun l4 nl4 => ?_⟩⟩
    have s4 := same_up (o := .lst [V.int i1, V.int i2, V.int i3, xo]) nl4
    refine ⟨d, l4, _, _, rfl, pen4.same s4, by omega, upd_same, by show 0 < 4; decide, by show 4 < 1000; decide, fun y H5 hy bt5 pen5 => ?_⟩
    have c1 := (((But.same s3).trans bt1).trans bt2).trans bt3
    have c2 := (c1.trans bt4).trans ((But.same s4).trans bt5)
    have e40 : (2 : Nat) ^ 40 = 1099511627776 := by decide
    simp only [List.mem_cons, List.not_mem_nil, or_false] at hy
    rcases hy with rfl | rfl | rfl | rfl
    · exact q _ _ H5 (fun _ _ => .int i1) (okO_int hi1) c2 (pen5.mono (by omega))
    · exact q _ _ H5 (fun _ _ => .int i2) (okO_int (by omega)) c2 (pen5.mono (by omega))
    · exact q _ _ H5 (fun _ _ => .int i3) (okO_int (by omega)) c2 (pen5.mono (by omega))
    · exact q _ _ H5 ((ho.but (But.same s4)).but bt5) oo c2 (pen5.mono (by omega))
/-! ### _law_refused -/
def ShowOk (d : PyData) : Prop := d.showable = true ∧ d.shown.length ≤ sizeLine ∧ d.depth ≤ 60
def spRef (K : PySem.W.Frag) : Sp := fun vs H Q _ => ∃ (x : V) (d : PyData), vs = [x] ∧ Do K H x d ∧ ShowOk d ∧ ∀ H', Same H H' → Q (.bl (!prD d)) H'
/-- what the clause does with the exception at a, its dict at dd -/
def tCauP (K : PySem.W.Frag) (a dd : Addr) : TS := tRet (tAndV (tOp rEq (tCB (rReprO K) (tCons (tXf a (.ref (He.ga K "InvalidPrime")) (some dd) (He.ga K "InvalidPrime") "value" (tVar 1)) tNil)) (tCB (rReprO K) (tCons (tVar 0) tNil)))
  (tCB (rIsED K (He.ga K "InvalidPrime") a dd) (tCons (tVar 1) (tCons (tC (.ty "ValueError")) tNil))))
theorem ok_ref (T : Tx K mg) : FnG P w K mg base CX0 6 (He.ga K "_law_refused") (spRef K) := by
  refine mk__law_refused T.d (fun vs H Q E h => ?_) (fun cdv A outer s H vs Q E hg hr h => ?_)
  · obtain ⟨x, d, rfl, _⟩ := h
    rfl
  · obtain ⟨x, d, rfl, hd, ⟨so, sl, sd⟩, q⟩ := h
    have nd := sc__law_refused.nd
    have hu := hr.units
    have zr := T.z "repr" (by decide +kernel)
    have br : bootBuiltins "repr" = some (.builtin "repr") := by decide +kernel
    refine ⟨_, pss_cons (ps_try_as (i := 1) (ts := fun a cls d D σ H => cls = .ref (He.ga K "InvalidPrime") ∧ ∃ dd, d = some dd ∧ tCauP K a dd D σ H) rfl rfl nd rfl rfl ⟨rfl, by decide +kernel, .inl (T.g "InvalidPrime" (by decide +kernel))⟩ takes0
        (fun W pn xe tk _ => pss_one (ps_expr (pe_makeGS (E := WE W) T.mM.mkr (ok_minit T) hr hg (by rfl) (T.g "Modulo" (by decide +kernel)) (passAt tk) (pa_cons (pv 0) pa_nil))))
        (fun a oe cls d pn hz hf => ⟨fun pins s σ H D I h => by
          obtain ⟨rfl, dd, rfl, h⟩ := h
          exact (pss_one (ps_ret (pe_and (pe_cmpR op_eq (pe_callB (call_reprO T.sm (by exact hg) (by exact hu)) (by rfl) zr br (pa_cons (pe_xf T.eP.xf T.eP.nf hz hf (pv 1)) pa_nil)) (pe_callB (call_reprO T.sm (by exact hg) (by exact hu)) (by rfl) zr br (pa_cons (pv 0) pa_nil)) (nomark _))
            (pe_one (pe_callB (call_isED T.eP.ec hz hf) (by rfl) (T.z "isinstance" (by decide +kernel)) (by decide +kernel)
              (pa_cons (pv 1) (pa_cons (pe_bltn (v := .ty "ValueError") (by rfl) (T.z "ValueError" (by decide +kernel)) (by decide +kernel) rfl) pa_nil))))))).run pins s σ H D I h⟩))
      (pss_one (ps_ret pe_bl)), ?_⟩
    refine ⟨_, rfl, fun f dx nf ndx ne => ⟨f, dx, x, d, rfl, ?_, upd_same, fun e => ⟨rfl, ?_⟩, fun e dd H' sm hdd => ?_⟩⟩
    · exact Do.same (made_same nf ndx (fun b o z => z)) _ _ hd
    · rw [e] at q
      exact q _ (made3 nf ndx)
    · rw [e] at q
      have sH := made_same nf ndx sm
      refine ⟨true, T.eP.te, fun _ c hc => ⟨rfl, dd, rfl, ?_⟩, fun z => nomatch z⟩
      refine ⟨_, rfl, rfl, rfl, dd, _, x, rfl, hdd, rfl, x, d, rfl, Do.same sH _ _ hd, so, sl, sd, ?_⟩
      refine ⟨_, rfl, x, d, rfl, Do.same sH _ _ hd, so, sl, sd, rfl, _, rfl, ?_⟩
      refine ifT (decide_eq_true rfl) ⟨_, rfl, _, _, true, _, rfl, fun u r => r, T.eP.isV, hdd, q H' sH⟩
/-! ### _law_read -/
def spRead (K : PySem.W.Frag) : Sp := fun vs H Q _ => ∃ (x : V) (d : PyData), vs = [x] ∧ Do K H x d ∧ niceD d = true ∧ (∀ (φ : Fk) (f : Addr) (H' : Hp), namedD d = some φ.code → okP φ → Same H H' → FieldC K H' f φ → Q (.ref f) H') ∧
  (namedD d = none → ∀ H', Same H H' → Q (.str "none") H')
def tCauT (K : PySem.W.Frag) (a dd : Addr) : TS := tRet (tIf (tTest (tOp rEq (tCB (rReprO K) (tCons (tXf a (.ref (He.ga K "InvalidText")) (some dd) (He.ga K "InvalidText") "line" (tVar 1)) tNil)) (tC (.str "0")))) (tC (.str "none")) (tC (.str "odd")))
theorem ok_read (T : Tx K mg) : FnG P w K mg base CX0 7 (He.ga K "_law_read") (spRead K) := by
  obtain ⟨g, st, FN⟩ := ok_named (P := P) (w := w) (base := base) T
  refine mk__law_read T.d (fun vs H Q E h => ?_) (fun cdv A outer s H vs Q E hg hr h => ?_)
  · obtain ⟨x, d, rfl, _⟩ := h
    rfl
  · obtain ⟨x, d, rfl, hd, nc, q, qe⟩ := h
    have nd := sc__law_read.nd
    have hu := hr.units
    have zr := T.z "repr" (by decide +kernel)
    have br : bootBuiltins "repr" = some (.builtin "repr") := by decide +kernel
    refine ⟨_, pss_one (ps_try_as (i := 1) (ts := fun a cls d D σ H => cls = .ref (He.ga K "InvalidText") ∧ ∃ dd, d = some dd ∧ tCauT K a dd D σ H) rfl rfl nd rfl rfl ⟨rfl, by decide +kernel, .inl (T.g "InvalidText" (by decide +kernel))⟩ takes0
        (fun W pn xe tk _ => pss_one (ps_ret (pe_stcGS (E := WE W) st (by rfl) (T.g "Field" (by decide +kernel)) FN hr hg (passAt tk) (pa_cons (pv 0) pa_nil))))
        (fun a oe cls d pn hz hf => ⟨fun pins s σ H D I h => by
          obtain ⟨rfl, dd, rfl, h⟩ := h
          exact (pss_one (ps_ret (pe_ifExp (pt_cmpR op_eq (pe_callB (call_reprO T.sm (by exact hg) (by exact hu)) (by rfl) zr br (pa_cons (pe_xf T.eT.xf T.eT.nf hz hf (pv 1)) pa_nil)) pe_str (nomark _)) pe_str pe_str))).run pins s σ H D I h⟩)), ?_⟩
    refine ⟨_, rfl, x, d, rfl, hd, nc, q, fun e dd H' sm hdd => ?_⟩
    refine ⟨true, T.eT.te, fun _ c hc => ⟨rfl, dd, rfl, ?_⟩, fun z => nomatch z⟩
    refine ⟨_, rfl, rfl, rfl, dd, _, .int 0, rfl, hdd, rfl, .int 0, .int 0, rfl, .int 0, by decide +kernel, by decide +kernel, by decide +kernel, rfl, _, rfl, ?_⟩
    exact ifT (by decide +kernel) (qe e H' sm)
end
end K01

namespace K01
open PySem PySem.Spec PyProof.Rows L2 Ver Num
/-! ### a long name -/
theorem many_size (b : Array Nat) : ∀ (n : Nat) (a : Array Nat), ((List.replicate n b).foldl (· ++ ·) a).size = a.size + n * b.size
  | 0, a => by simp
  | n + 1, a => by
    rw [List.replicate_succ, List.foldl_cons, many_size b n (a ++ b), Array.size_append, Nat.succ_mul]
    omega
theorem many_all (b : Array Nat) (p : Nat → Bool) (hb : b.all p = true) : ∀ (n : Nat) (a : Array Nat), a.all p = true → ((List.replicate n b).foldl (· ++ ·) a).all p = true
  | 0, a, h => h
  | n + 1, a, h => by
    rw [List.replicate_succ, List.foldl_cons]
    refine many_all b p hb n (a ++ b) ?_
    rw [Array.all_append, h, hb]
    rfl
def many (n : Nat) (b : Array Nat) : Array Nat := (List.replicate n b).foldl (· ++ ·) #[]
theorem many_sz (n : Nat) (b : Array Nat) : (many n b).size = n * b.size := by
  unfold many
  rw [many_size]
  exact Nat.zero_add _
theorem many_ok (n : Nat) (b : Array Nat) (p : Nat → Bool) (hb : b.all p = true) : (many n b).all p = true := many_all b p hb n #[] (by simp)
def nines : Str := ⟨many (5000 : Int).toNat ("9" : Str).cps⟩
theorem nine1 : ("9" : Str).cps.size = 1 := by decide +kernel
theorem nine2 : ("9" : Str).cps.all (fun x => decide (x < 0x110000)) = true := by decide +kernel
theorem nines_len : nines.length = 5000 := by
  show (many _ _).size = 5000
  rw [many_sz, nine1]
  rfl
theorem long_name {s : Str} (h1 : 10 < s.length) (h9 : s.length ≤ 9000) (ok : s.cps.all (fun x => decide (x < 0x110000)) = true) : niceD (.str (("modulo " : Str) ++ s)) = true ∧ namedI (("modulo " : Str) ++ s) = none := by
  have l7 : ("modulo " : Str).length = 7 := by decide +kernel
  have l9 : ("fractions" : Str).length = 9 := by decide +kernel
  have lt : (("modulo " : Str) ++ s).length = 7 + s.length := by rw [strLen_append, l7]
  have ok2 : PyData.strOk (("modulo " : Str) ++ s) = true := by
    show ((("modulo " : Str).cps ++ s.cps).all fun x => decide (x < 0x110000)) = true
    rw [Array.all_append, ok]
    decide +kernel
  generalize ("modulo " : Str) ++ s = t at lt ok2
  have lta : 10 < (tailT t).length ∧ (tailT t).length ≤ 10000 := by
    unfold tailT Txt.removeprefix Txt.affix
    split
    · rename_i lo hi e
      split at e
      · cases e
        split
        · omega
        · have := size_strSub t ("modulo " : Str).length t.length (Nat.le_refl _)
          omega
      · cases e
    · omega
  have pl : plainT (tailT t) 10 = false := by
    unfold plainT
    rw [decide_eq_false (show ¬ (tailT t).length ≤ 10 by omega), Bool.and_false, Bool.false_and]
  have io : intOf (tailT t) 10 = none := by
    unfold intOf
    rw [pl]
    rfl
  refine ⟨?_, ?_⟩
  · show (SeqAt.shaped (.str t) && (decide (t.length ≤ 10000) && (decide ((tailT t).length ≤ 10000) && (!plainT (tailT t) 10 || _)))) = true
    rw [pl, decide_eq_true (show t.length ≤ 10000 by omega), decide_eq_true lta.2]
    have sh : SeqAt.shaped (.str t) = true := by
      unfold SeqAt.shaped
      simp only [PyData.canLay0, PyData.depth, ok2]
      rfl
    rw [sh]
    rfl
  · have nf : t ≠ "fractions" := fun e => by
      rw [e, l9] at lt
      omega
    unfold namedI
    rw [if_neg nf]
    split
    · rw [io]
    · rfl
end K01

namespace K01
open PySem PySem.Spec PyProof.Rows L2 Ver Num
/-- a text and what is due for it -/
def BentOk (p : Int) (t : Str) (o : Option Int) : Prop := niceD (.str t) = true ∧ namedI t = o ∧ (o = none ∨ o = some 0 ∨ o = some p)
theorem bent_dec {p : Int} {t : Str} {o : Option Int} (h : (niceD (.str t) && (decide (namedI t = o) && (decide (o = none) || (decide (o = some 0) || decide (o = some p))))) = true) : BentOk p t o := by
  rw [Bool.and_eq_true, Bool.and_eq_true, Bool.or_eq_true, Bool.or_eq_true] at h
  refine ⟨h.1, of_decide_eq_true h.2.1, ?_⟩
  rcases h.2.2 with z | z | z
  · exact .inl (of_decide_eq_true z)
  · exact .inr (.inl (of_decide_eq_true z))
  · exact .inr (.inr (of_decide_eq_true z))
theorem pen_neT {H : Hp} {p : Addr} {k : Int} {a : Addr} {xs : List V} (pen : PenAt H p k) (h : H a = some (.tup xs)) : a ≠ p := by
  obtain ⟨c, cells, b, l, h1, _⟩ := pen.ex
  exact ne_of h h1 (by intro z; cases z)
theorem bent_nines (p : Int) : BentOk p (("modulo " : Str) ++ nines) none := by
  obtain ⟨h1, h2⟩ := long_name (s := nines) (by rw [nines_len]; decide) (by rw [nines_len]; decide) (many_ok _ _ _ nine2)
  exact ⟨h1, h2, .inl rfl⟩
section
variable {P : Program} {w : World} {K : PySem.W.Frag} {mg : Str → Option Value} {base : Heap}
def spBent (K : PySem.W.Frag) : Sp := fun vs H Q _ => ∃ (d : Addr) (k p : Int), vs = [.ref d, .int p] ∧ p ∈ six ∧ PenAt H d k ∧ k < 1000000 ∧ ∀ (a : Addr) (t : Str) (o : Option Int) (H' : Hp), H' a = some (.tup [.str t, optV o]) → BentOk p t o → But d H H' → PenAt H' d (k + 1) → Q (.ref a) H'
theorem ok_bent (T : Tx K mg) : FnG P w K mg base CX0 3 (He.ga K "_law_bent_name") (spBent K) := by
  refine mk__law_bent_name T.d (fun vs H Q E h => ?_) (fun cdv A outer s H vs Q E hg hr h => ?_)
  · obtain ⟨d, k, p, rfl, _⟩ := h
    rfl
  · obtain ⟨d, k, p, rfl, p6, pen, k9, q⟩ := h
    have nd := sc__law_bent_name.nd
    refine ⟨_, pss_cons (ps_set (i := 2) nd rfl (Or.inl rfl) (pe_op op_add_str pe_str (pe_callTy call_str_int (by rfl) (T.z "str" (by decide +kernel)) (by decide +kernel) (pa_cons (pv 1) pa_nil))))
      (pss_cons (ps_set (i := 3) nd rfl (Or.inl rfl) (pe_lst (pa_cons (pe_tup (pa_cons (pv 2) (pa_cons (pv 1) pa_nil))) (pa_cons (pe_tup (pa_cons pe_str (pa_cons pe_int pa_nil))) (pa_cons (pe_tup (pa_cons (pe_op op_add_str pe_str (pe_callTy call_str_int (by rfl) (T.z "str" (by decide +kernel)) (by decide +kernel) (pa_cons (pv 1) pa_nil))) (pa_cons pe_non pa_nil))) (pa_cons (pe_tup (pa_cons (pe_op op_add_str pe_str (pe_callTy call_str_int (by rfl) (T.z "str" (by decide +kernel)) (by decide +kernel) (pa_cons (pv 1) pa_nil))) (pa_cons pe_non pa_nil))) pa_nil))))))
      (pss_cons (ps_set (i := 3) nd rfl (Or.inl rfl) (pe_op op_cat (pv 3) (pe_lst (pa_cons (pe_tup (pa_cons (pe_op op_add_str pe_str (pe_callTy call_str_int (by rfl) (T.z "str" (by decide +kernel)) (by decide +kernel) (pa_cons (pv 1) pa_nil))) (pa_cons pe_non pa_nil))) (pa_cons (pe_tup (pa_cons (pe_op op_add_str (pv 2) pe_str) (pa_cons pe_non pa_nil))) (pa_cons (pe_tup (pa_cons (pe_op op_add_str pe_str (pv 2)) (pa_cons pe_non pa_nil))) (pa_cons (pe_tup (pa_cons pe_str (pa_cons pe_non pa_nil))) pa_nil)))))))
      (pss_cons (ps_set (i := 3) nd rfl (Or.inl rfl) (pe_op op_cat (pv 3) (pe_lst (pa_cons (pe_tup (pa_cons pe_str (pa_cons pe_non pa_nil))) (pa_cons (pe_tup (pa_cons (pe_op op_add_str pe_str (pe_callTy call_str_int (by rfl) (T.z "str" (by decide +kernel)) (by decide +kernel) (pa_cons (pv 1) pa_nil))) (pa_cons pe_non pa_nil))) (pa_cons (pe_tup (pa_cons (pe_op op_add_str pe_str (pe_callTy call_str_int (by rfl) (T.z "str" (by decide +kernel)) (by decide +kernel) (pa_cons (pv 1) pa_nil))) (pa_cons pe_non pa_nil))) pa_nil))))))
      (pss_cons (ps_set (i := 3) nd rfl (Or.inl rfl) (pe_op op_cat (pv 3) (pe_lst (pa_cons (pe_tup (pa_cons (pe_op op_add_str pe_str (pe_op op_strMul pe_str pe_int)) (pa_cons pe_non pa_nil))) (pa_cons (pe_tup (pa_cons pe_str (pa_cons pe_non pa_nil))) (pa_cons (pe_tup (pa_cons pe_str (pa_cons pe_non pa_nil))) (pa_cons (pe_tup (pa_cons (pe_callTy call_str_int (by rfl) (T.z "str" (by decide +kernel)) (by decide +kernel) (pa_cons (pv 1) pa_nil)) (pa_cons pe_non pa_nil))) pa_nil)))))))
      (pss_one (ps_ret (pe_callG (ok_pick T) hr hg (by rfl) (T.g "_law_pick" (by decide +kernel)) (kp__law_pick T.d) pass0 (pa_cons (pv 0) (pa_cons (pe_op op_cat (pv 3) (pe_lst (pa_cons (pe_tup (pa_cons pe_str (pa_cons pe_non pa_nil))) (pa_cons (pe_tup (pa_cons pe_str (pa_cons pe_non pa_nil))) (pa_cons (pe_tup (pa_cons pe_str (pa_cons pe_non pa_nil))) (pa_cons (pe_tup (pa_cons pe_str (pa_cons pe_non pa_nil))) pa_nil)))))) pa_nil))))))))), ?_⟩
    have lg : p.natAbs.log2 < 1920 := (int_text (prB_bd (six_ok p p6)).1 (prB_bd (six_ok p p6)).2).1
    have lsp : ((toString p : String) : Str).length ≤ 41 := (int_text (prB_bd (six_ok p p6)).1 (prB_bd (six_ok p p6)).2).2
    have ltxl : (("modulo " : Str) ++ Str.ofString (toString p)).length ≤ 48 := by
      rw [strLen_append]
      have : ("modulo " : Str).length = 7 := by decide +kernel
      omega
    have lsz : ∀ a : Str, a.length ≤ 100 → a.length + (Str.ofString (toString p)).length ≤ sizeLine := fun a h => by rw [sizeLine_eq]; omega
    have ltx : ∀ a : Str, a.length ≤ 100 → (("modulo " : Str) ++ Str.ofString (toString p)).length + a.length ≤ sizeLine := fun a h => by rw [sizeLine_eq]; omega
    have ltx2 : ∀ a : Str, a.length ≤ 100 → a.length + (("modulo " : Str) ++ Str.ofString (toString p)).length ≤ sizeLine := fun a h => by rw [sizeLine_eq]; omega
    have nsz : nines.length ≤ sizeLine := by rw [nines_len, sizeLine_eq]; decide
    have nadd : ("modulo " : Str).length + nines.length ≤ sizeLine := by
      rw [nines_len, sizeLine_eq]
      have : ("modulo " : Str).length = 7 := by decide +kernel
      omega
    refine ⟨_, rfl, p, rfl, lg, ("modulo " : Str), _, rfl, rfl, lsz _ (by decide +kernel), ?_⟩
    refine ⟨_, rfl, _, rfl, by show 2 ≤ sizeLine; decide, fun q0_0 nq0_0 => ?_⟩
    have sq0_0 := same_up (o := .tup [V.str (("modulo " : Str) ++ Str.ofString (toString p)), V.int p]) nq0_0
    refine ⟨by show 2 ≤ sizeLine; decide, fun q0_1 nq0_1 => ?_⟩
    have sq0_1 := same_up (o := .tup [V.str ("fractions" : Str), V.int 0]) nq0_1
    refine ⟨_, rfl, p, rfl, lg, ("modulo 0" : Str), _, rfl, rfl, lsz _ (by decide +kernel), by show 2 ≤ sizeLine; decide, fun q0_2 nq0_2 => ?_⟩
    have sq0_2 := same_up (o := .tup [V.str (("modulo 0" : Str) ++ (Str.ofString (toString p))), V.non]) nq0_2
    refine ⟨_, rfl, p, rfl, lg, ("modulo  " : Str), _, rfl, rfl, lsz _ (by decide +kernel), by show 2 ≤ sizeLine; decide, fun q0_3 nq0_3 => ?_⟩
    have sq0_3 := same_up (o := .tup [V.str (("modulo  " : Str) ++ (Str.ofString (toString p))), V.non]) nq0_3
    refine ⟨by show 4 ≤ sizeLine; decide, fun l0 nl0 => ?_⟩
    have sl0 := same_up (o := .lst [V.ref q0_0, V.ref q0_1, V.ref q0_2, V.ref q0_3]) nl0
    refine ⟨_, rfl, _, rfl, p, rfl, lg, ("Modulo " : Str), _, rfl, rfl, lsz _ (by decide +kernel), by show 2 ≤ sizeLine; decide, fun q1_0 nq1_0 => ?_⟩
    have sq1_0 := same_up (o := .tup [V.str (("Modulo " : Str) ++ (Str.ofString (toString p))), V.non]) nq1_0
    refine ⟨_, rfl, _, (" " : Str), rfl, rfl, ltx _ (by decide +kernel), by show 2 ≤ sizeLine; decide, fun q1_1 nq1_1 => ?_⟩
    have sq1_1 := same_up (o := .tup [V.str ((("modulo " : Str) ++ Str.ofString (toString p)) ++ (" " : Str)), V.non]) nq1_1
    refine ⟨_, rfl, (" " : Str), _, rfl, rfl, ltx2 _ (by decide +kernel), by show 2 ≤ sizeLine; decide, fun q1_2 nq1_2 => ?_⟩
    have sq1_2 := same_up (o := .tup [V.str ((" " : Str) ++ (("modulo " : Str) ++ Str.ofString (toString p))), V.non]) nq1_2
    refine ⟨by show 2 ≤ sizeLine; decide, fun q1_3 nq1_3 => ?_⟩
    have sq1_3 := same_up (o := .tup [V.str ("modulo" : Str), V.non]) nq1_3
    refine ⟨by show 4 ≤ sizeLine; decide, fun l1 nl1 => ?_⟩
    have sl1 := same_up (o := .lst [V.ref q1_0, V.ref q1_1, V.ref q1_2, V.ref q1_3]) nl1
    refine ⟨l0, l1, _, _, rfl, rfl, ((((sq1_0.trans sq1_1).trans sq1_2).trans sq1_3).trans sl1) _ _ upd_same, upd_same, by show 4 + 4 ≤ sizeLine; decide, fun c1 nc1 => ?_⟩
    have sc1 := same_up (o := .lst ([V.ref q0_0, V.ref q0_1, V.ref q0_2, V.ref q0_3] ++ [V.ref q1_0, V.ref q1_1, V.ref q1_2, V.ref q1_3])) nc1
    refine ⟨_, rfl, by show 2 ≤ sizeLine; decide, fun q2_0 nq2_0 => ?_⟩
    have sq2_0 := same_up (o := .tup [V.str ("modulo " : Str), V.non]) nq2_0
    refine ⟨_, rfl, p, rfl, lg, ("modulo -" : Str), _, rfl, rfl, lsz _ (by decide +kernel), by show 2 ≤ sizeLine; decide, fun q2_1 nq2_1 => ?_⟩
    have sq2_1 := same_up (o := .tup [V.str (("modulo -" : Str) ++ (Str.ofString (toString p))), V.non]) nq2_1
    refine ⟨_, rfl, p, rfl, lg, ("modulo +" : Str), _, rfl, rfl, lsz _ (by decide +kernel), by show 2 ≤ sizeLine; decide, fun q2_2 nq2_2 => ?_⟩
    have sq2_2 := same_up (o := .tup [V.str (("modulo +" : Str) ++ (Str.ofString (toString p))), V.non]) nq2_2
    refine ⟨by show 3 ≤ sizeLine; decide, fun l2 nl2 => ?_⟩
    have sl2 := same_up (o := .lst [V.ref q2_0, V.ref q2_1, V.ref q2_2]) nl2
    refine ⟨c1, l2, _, _, rfl, rfl, (((sq2_0.trans sq2_1).trans sq2_2).trans sl2) _ _ upd_same, upd_same, by show 8 + 3 ≤ sizeLine; decide, fun c2 nc2 => ?_⟩
    have sc2 := same_up (o := .lst (([V.ref q0_0, V.ref q0_1, V.ref q0_2, V.ref q0_3] ++ [V.ref q1_0, V.ref q1_1, V.ref q1_2, V.ref q1_3]) ++ [V.ref q2_0, V.ref q2_1, V.ref q2_2])) nc2
    refine ⟨_, rfl, ("9" : Str), 5000, rfl, rfl, by decide +kernel, by decide +kernel, by decide, by decide, nsz, ("modulo " : Str), nines, rfl, rfl, nadd, by show 2 ≤ sizeLine; decide, fun q3_0 nq3_0 => ?_⟩
    have sq3_0 := same_up (o := .tup [V.str (("modulo " : Str) ++ nines), V.non]) nq3_0
    refine ⟨by show 2 ≤ sizeLine; decide, fun q3_1 nq3_1 => ?_⟩
    have sq3_1 := same_up (o := .tup [V.str ("modulo 4" : Str), V.non]) nq3_1
    refine ⟨by show 2 ≤ sizeLine; decide, fun q3_2 nq3_2 => ?_⟩
    have sq3_2 := same_up (o := .tup [V.str ("modulo 1000000007" : Str), V.non]) nq3_2
    refine ⟨_, rfl, p, rfl, lg, by show 2 ≤ sizeLine; decide, fun q3_3 nq3_3 => ?_⟩
    have sq3_3 := same_up (o := .tup [V.str (Str.ofString (toString p)), V.non]) nq3_3
    refine ⟨by show 4 ≤ sizeLine; decide, fun l3 nl3 => ?_⟩
    have sl3 := same_up (o := .lst [V.ref q3_0, V.ref q3_1, V.ref q3_2, V.ref q3_3]) nl3
    refine ⟨c2, l3, _, _, rfl, rfl, ((((sq3_0.trans sq3_1).trans sq3_2).trans sq3_3).trans sl3) _ _ upd_same, upd_same, by show 11 + 4 ≤ sizeLine; decide, fun c3 nc3 => ?_⟩
    have sc3 := same_up (o := .lst ((([V.ref q0_0, V.ref q0_1, V.ref q0_2, V.ref q0_3] ++ [V.ref q1_0, V.ref q1_1, V.ref q1_2, V.ref q1_3]) ++ [V.ref q2_0, V.ref q2_1, V.ref q2_2]) ++ [V.ref q3_0, V.ref q3_1, V.ref q3_2, V.ref q3_3])) nc3
    refine ⟨_, rfl, _, rfl, by show 2 ≤ sizeLine; decide, fun q4_0 nq4_0 => ?_⟩
    have sq4_0 := same_up (o := .tup [V.str ("fractions " : Str), V.non]) nq4_0
    refine ⟨by show 2 ≤ sizeLine; decide, fun q4_1 nq4_1 => ?_⟩
    have sq4_1 := same_up (o := .tup [V.str ("fraction" : Str), V.non]) nq4_1
    refine ⟨by show 2 ≤ sizeLine; decide, fun q4_2 nq4_2 => ?_⟩
    have sq4_2 := same_up (o := .tup [V.str ("" : Str), V.non]) nq4_2
    refine ⟨by show 2 ≤ sizeLine; decide, fun q4_3 nq4_3 => ?_⟩
    have sq4_3 := same_up (o := .tup [V.str ("modulo seven" : Str), V.non]) nq4_3
    refine ⟨by show 4 ≤ sizeLine; decide, fun l4 nl4 => ?_⟩
    have sl4 := same_up (o := .lst [V.ref q4_0, V.ref q4_1, V.ref q4_2, V.ref q4_3]) nl4
    refine ⟨c3, l4, _, _, rfl, rfl, ((((sq4_0.trans sq4_1).trans sq4_2).trans sq4_3).trans sl4) _ _ upd_same, upd_same, by show 15 + 4 ≤ sizeLine; decide, fun c4 nc4 => ?_⟩
    have sc4 := same_up (o := .lst (((([V.ref q0_0, V.ref q0_1, V.ref q0_2, V.ref q0_3] ++ [V.ref q1_0, V.ref q1_1, V.ref q1_2, V.ref q1_3]) ++ [V.ref q2_0, V.ref q2_1, V.ref q2_2]) ++ [V.ref q3_0, V.ref q3_1, V.ref q3_2, V.ref q3_3]) ++ [V.ref q4_0, V.ref q4_1, V.ref q4_2, V.ref q4_3])) nc4
    have sA := (((((((((((((((((((((((((((sq0_0.trans sq0_1).trans sq0_2).trans sq0_3).trans sl0).trans sq1_0).trans sq1_1).trans sq1_2).trans sq1_3).trans sl1).trans sc1).trans sq2_0).trans sq2_1).trans sq2_2).trans sl2).trans sc2).trans sq3_0).trans sq3_1).trans sq3_2).trans sq3_3).trans sl3).trans sc3).trans sq4_0).trans sq4_1).trans sq4_2).trans sq4_3).trans sl4).trans sc4)
    refine ⟨d, c4, k, _, rfl, pen.same sA, by omega, upd_same, by show 0 < 19; decide, by show 19 < 1000; decide, fun x H1 hx bt pen1 => ?_⟩
    have c := (But.same sA).trans bt
    have fin : ∀ (a : Addr) (t : Str) (o : Option Int), H1 a = some (.tup [.str t, optV o]) → BentOk p t o → Q (.ref a) H1 := fun a t o e b => q a t o H1 e b c pen1
    have penA := pen.same sA
    have hq0_0 := ((((((((((((((((((((((((((sq0_1.trans sq0_2).trans sq0_3).trans sl0).trans sq1_0).trans sq1_1).trans sq1_2).trans sq1_3).trans sl1).trans sc1).trans sq2_0).trans sq2_1).trans sq2_2).trans sl2).trans sc2).trans sq3_0).trans sq3_1).trans sq3_2).trans sq3_3).trans sl3).trans sc3).trans sq4_0).trans sq4_1).trans sq4_2).trans sq4_3).trans sl4).trans sc4) _ _ (upd_same (a := q0_0))
    replace hq0_0 := bt.1 _ _ hq0_0 (pen_neT penA hq0_0)
    have hq0_1 := (((((((((((((((((((((((((sq0_2.trans sq0_3).trans sl0).trans sq1_0).trans sq1_1).trans sq1_2).trans sq1_3).trans sl1).trans sc1).trans sq2_0).trans sq2_1).trans sq2_2).trans sl2).trans sc2).trans sq3_0).trans sq3_1).trans sq3_2).trans sq3_3).trans sl3).trans sc3).trans sq4_0).trans sq4_1).trans sq4_2).trans sq4_3).trans sl4).trans sc4) _ _ (upd_same (a := q0_1))
    replace hq0_1 := bt.1 _ _ hq0_1 (pen_neT penA hq0_1)
    have hq0_2 := ((((((((((((((((((((((((sq0_3.trans sl0).trans sq1_0).trans sq1_1).trans sq1_2).trans sq1_3).trans sl1).trans sc1).trans sq2_0).trans sq2_1).trans sq2_2).trans sl2).trans sc2).trans sq3_0).trans sq3_1).trans sq3_2).trans sq3_3).trans sl3).trans sc3).trans sq4_0).trans sq4_1).trans sq4_2).trans sq4_3).trans sl4).trans sc4) _ _ (upd_same (a := q0_2))
    replace hq0_2 := bt.1 _ _ hq0_2 (pen_neT penA hq0_2)
    have hq0_3 := (((((((((((((((((((((((sl0.trans sq1_0).trans sq1_1).trans sq1_2).trans sq1_3).trans sl1).trans sc1).trans sq2_0).trans sq2_1).trans sq2_2).trans sl2).trans sc2).trans sq3_0).trans sq3_1).trans sq3_2).trans sq3_3).trans sl3).trans sc3).trans sq4_0).trans sq4_1).trans sq4_2).trans sq4_3).trans sl4).trans sc4) _ _ (upd_same (a := q0_3))
    replace hq0_3 := bt.1 _ _ hq0_3 (pen_neT penA hq0_3)
    have hq1_0 := (((((((((((((((((((((sq1_1.trans sq1_2).trans sq1_3).trans sl1).trans sc1).trans sq2_0).trans sq2_1).trans sq2_2).trans sl2).trans sc2).trans sq3_0).trans sq3_1).trans sq3_2).trans sq3_3).trans sl3).trans sc3).trans sq4_0).trans sq4_1).trans sq4_2).trans sq4_3).trans sl4).trans sc4) _ _ (upd_same (a := q1_0))
    replace hq1_0 := bt.1 _ _ hq1_0 (pen_neT penA hq1_0)
    have hq1_1 := ((((((((((((((((((((sq1_2.trans sq1_3).trans sl1).trans sc1).trans sq2_0).trans sq2_1).trans sq2_2).trans sl2).trans sc2).trans sq3_0).trans sq3_1).trans sq3_2).trans sq3_3).trans sl3).trans sc3).trans sq4_0).trans sq4_1).trans sq4_2).trans sq4_3).trans sl4).trans sc4) _ _ (upd_same (a := q1_1))
    replace hq1_1 := bt.1 _ _ hq1_1 (pen_neT penA hq1_1)
    have hq1_2 := (((((((((((((((((((sq1_3.trans sl1).trans sc1).trans sq2_0).trans sq2_1).trans sq2_2).trans sl2).trans sc2).trans sq3_0).trans sq3_1).trans sq3_2).trans sq3_3).trans sl3).trans sc3).trans sq4_0).trans sq4_1).trans sq4_2).trans sq4_3).trans sl4).trans sc4) _ _ (upd_same (a := q1_2))
    replace hq1_2 := bt.1 _ _ hq1_2 (pen_neT penA hq1_2)
    have hq1_3 := ((((((((((((((((((sl1.trans sc1).trans sq2_0).trans sq2_1).trans sq2_2).trans sl2).trans sc2).trans sq3_0).trans sq3_1).trans sq3_2).trans sq3_3).trans sl3).trans sc3).trans sq4_0).trans sq4_1).trans sq4_2).trans sq4_3).trans sl4).trans sc4) _ _ (upd_same (a := q1_3))
    replace hq1_3 := bt.1 _ _ hq1_3 (pen_neT penA hq1_3)
    have hq2_0 := (((((((((((((((sq2_1.trans sq2_2).trans sl2).trans sc2).trans sq3_0).trans sq3_1).trans sq3_2).trans sq3_3).trans sl3).trans sc3).trans sq4_0).trans sq4_1).trans sq4_2).trans sq4_3).trans sl4).trans sc4) _ _ (upd_same (a := q2_0))
    replace hq2_0 := bt.1 _ _ hq2_0 (pen_neT penA hq2_0)
    have hq2_1 := ((((((((((((((sq2_2.trans sl2).trans sc2).trans sq3_0).trans sq3_1).trans sq3_2).trans sq3_3).trans sl3).trans sc3).trans sq4_0).trans sq4_1).trans sq4_2).trans sq4_3).trans sl4).trans sc4) _ _ (upd_same (a := q2_1))
    replace hq2_1 := bt.1 _ _ hq2_1 (pen_neT penA hq2_1)
    have hq2_2 := (((((((((((((sl2.trans sc2).trans sq3_0).trans sq3_1).trans sq3_2).trans sq3_3).trans sl3).trans sc3).trans sq4_0).trans sq4_1).trans sq4_2).trans sq4_3).trans sl4).trans sc4) _ _ (upd_same (a := q2_2))
    replace hq2_2 := bt.1 _ _ hq2_2 (pen_neT penA hq2_2)
    have hq3_0 := ((((((((((sq3_1.trans sq3_2).trans sq3_3).trans sl3).trans sc3).trans sq4_0).trans sq4_1).trans sq4_2).trans sq4_3).trans sl4).trans sc4) _ _ (upd_same (a := q3_0))
    replace hq3_0 := bt.1 _ _ hq3_0 (pen_neT penA hq3_0)
    have hq3_1 := (((((((((sq3_2.trans sq3_3).trans sl3).trans sc3).trans sq4_0).trans sq4_1).trans sq4_2).trans sq4_3).trans sl4).trans sc4) _ _ (upd_same (a := q3_1))
    replace hq3_1 := bt.1 _ _ hq3_1 (pen_neT penA hq3_1)
    have hq3_2 := ((((((((sq3_3.trans sl3).trans sc3).trans sq4_0).trans sq4_1).trans sq4_2).trans sq4_3).trans sl4).trans sc4) _ _ (upd_same (a := q3_2))
    replace hq3_2 := bt.1 _ _ hq3_2 (pen_neT penA hq3_2)
    have hq3_3 := (((((((sl3.trans sc3).trans sq4_0).trans sq4_1).trans sq4_2).trans sq4_3).trans sl4).trans sc4) _ _ (upd_same (a := q3_3))
    replace hq3_3 := bt.1 _ _ hq3_3 (pen_neT penA hq3_3)
    have hq4_0 := ((((sq4_1.trans sq4_2).trans sq4_3).trans sl4).trans sc4) _ _ (upd_same (a := q4_0))
    replace hq4_0 := bt.1 _ _ hq4_0 (pen_neT penA hq4_0)
    have hq4_1 := (((sq4_2.trans sq4_3).trans sl4).trans sc4) _ _ (upd_same (a := q4_1))
    replace hq4_1 := bt.1 _ _ hq4_1 (pen_neT penA hq4_1)
    have hq4_2 := ((sq4_3.trans sl4).trans sc4) _ _ (upd_same (a := q4_2))
    replace hq4_2 := bt.1 _ _ hq4_2 (pen_neT penA hq4_2)
    have hq4_3 := (sl4.trans sc4) _ _ (upd_same (a := q4_3))
    replace hq4_3 := bt.1 _ _ hq4_3 (pen_neT penA hq4_3)
    clear sA penA sq0_0 sq0_1 sq0_2 sq0_3 sl0 sq1_0 sq1_1 sq1_2 sq1_3 sl1 sc1 sq2_0 sq2_1 sq2_2 sl2 sc2 sq3_0 sq3_1 sq3_2 sq3_3 sl3 sc3 sq4_0 sq4_1 sq4_2 sq4_3 sl4 sc4
    simp only [List.mem_append, List.mem_cons, List.not_mem_nil, or_false] at hx
    rcases hx with ((((rfl | rfl | rfl | rfl) | (rfl | rfl | rfl | rfl)) | (rfl | rfl | rfl)) | (rfl | rfl | rfl | rfl)) | (rfl | rfl | rfl | rfl)
    · refine fin _ _ (some p) hq0_0 ?_
      clear hq0_0 fin
      simp only [six, List.mem_cons, List.not_mem_nil, or_false] at p6
      rcases p6 with rfl | rfl | rfl | rfl | rfl | rfl <;> exact bent_dec (by decide +kernel)
    · exact fin _ _ (some 0) hq0_1 (bent_dec (by first | decide +kernel | (simp only [six, List.mem_cons, List.not_mem_nil, or_false] at p6; rcases p6 with rfl | rfl | rfl | rfl | rfl | rfl <;> decide +kernel)))
    · refine fin _ _ (none) hq0_2 ?_
      clear hq0_2 fin
      simp only [six, List.mem_cons, List.not_mem_nil, or_false] at p6
      rcases p6 with rfl | rfl | rfl | rfl | rfl | rfl <;> exact bent_dec (by decide +kernel)
    · refine fin _ _ (none) hq0_3 ?_
      clear hq0_3 fin
      simp only [six, List.mem_cons, List.not_mem_nil, or_false] at p6
      rcases p6 with rfl | rfl | rfl | rfl | rfl | rfl <;> exact bent_dec (by decide +kernel)
    · refine fin _ _ (none) hq1_0 ?_
      clear hq1_0 fin
      simp only [six, List.mem_cons, List.not_mem_nil, or_false] at p6
      rcases p6 with rfl | rfl | rfl | rfl | rfl | rfl <;> exact bent_dec (by decide +kernel)
    · refine fin _ _ (none) hq1_1 ?_
      clear hq1_1 fin
      simp only [six, List.mem_cons, List.not_mem_nil, or_false] at p6
      rcases p6 with rfl | rfl | rfl | rfl | rfl | rfl <;> exact bent_dec (by decide +kernel)
    · refine fin _ _ (none) hq1_2 ?_
      clear hq1_2 fin
      simp only [six, List.mem_cons, List.not_mem_nil, or_false] at p6
      rcases p6 with rfl | rfl | rfl | rfl | rfl | rfl <;> exact bent_dec (by decide +kernel)
    · exact fin _ _ (none) hq1_3 (bent_dec (by first | decide +kernel | (simp only [six, List.mem_cons, List.not_mem_nil, or_false] at p6; rcases p6 with rfl | rfl | rfl | rfl | rfl | rfl <;> decide +kernel)))
    · exact fin _ _ (none) hq2_0 (bent_dec (by first | decide +kernel | (simp only [six, List.mem_cons, List.not_mem_nil, or_false] at p6; rcases p6 with rfl | rfl | rfl | rfl | rfl | rfl <;> decide +kernel)))
    · refine fin _ _ (none) hq2_1 ?_
      clear hq2_1 fin
      simp only [six, List.mem_cons, List.not_mem_nil, or_false] at p6
      rcases p6 with rfl | rfl | rfl | rfl | rfl | rfl <;> exact bent_dec (by decide +kernel)
    · refine fin _ _ (none) hq2_2 ?_
      clear hq2_2 fin
      simp only [six, List.mem_cons, List.not_mem_nil, or_false] at p6
      rcases p6 with rfl | rfl | rfl | rfl | rfl | rfl <;> exact bent_dec (by decide +kernel)
    · exact fin _ _ none hq3_0 (bent_nines p)
    · exact fin _ _ (none) hq3_1 (bent_dec (by first | decide +kernel | (simp only [six, List.mem_cons, List.not_mem_nil, or_false] at p6; rcases p6 with rfl | rfl | rfl | rfl | rfl | rfl <;> decide +kernel)))
    · exact fin _ _ (none) hq3_2 (bent_dec (by first | decide +kernel | (simp only [six, List.mem_cons, List.not_mem_nil, or_false] at p6; rcases p6 with rfl | rfl | rfl | rfl | rfl | rfl <;> decide +kernel)))
    · refine fin _ _ (none) hq3_3 ?_
      clear hq3_3 fin
      simp only [six, List.mem_cons, List.not_mem_nil, or_false] at p6
      rcases p6 with rfl | rfl | rfl | rfl | rfl | rfl <;> exact bent_dec (by decide +kernel)
    · exact fin _ _ (none) hq4_0 (bent_dec (by first | decide +kernel | (simp only [six, List.mem_cons, List.not_mem_nil, or_false] at p6; rcases p6 with rfl | rfl | rfl | rfl | rfl | rfl <;> decide +kernel)))
    · exact fin _ _ (none) hq4_1 (bent_dec (by first | decide +kernel | (simp only [six, List.mem_cons, List.not_mem_nil, or_false] at p6; rcases p6 with rfl | rfl | rfl | rfl | rfl | rfl <;> decide +kernel)))
    · exact fin _ _ (none) hq4_2 (bent_dec (by first | decide +kernel | (simp only [six, List.mem_cons, List.not_mem_nil, or_false] at p6; rcases p6 with rfl | rfl | rfl | rfl | rfl | rfl <;> decide +kernel)))
    · exact fin _ _ (none) hq4_3 (bent_dec (by first | decide +kernel | (simp only [six, List.mem_cons, List.not_mem_nil, or_false] at p6; rcases p6 with rfl | rfl | rfl | rfl | rfl | rfl <;> decide +kernel)))
end
end K01

namespace K01
open PySem PySem.Spec PyProof.Rows L2 Ver Num
theorem ofS_low (s : String) : ∀ c ∈ (Str.ofString s).cps.toList, c < 16 ^ 8 := by
  rw [Str.ofString_eq_toList]
  intro c hc
  simp only [List.mem_map] at hc
  obtain ⟨z, _, rfl⟩ := hc
  have h := z.valid
  have h2 : z.toNat < 1114112 := by
    rcases h with h | h
    · exact Nat.lt_trans h (by decide)
    · exact h.2
  omega
theorem name_repr {p : Int} (h2 : 2 ≤ p) (h9 : p ≤ 1000000000) : (reprText (("modulo " : Str) ++ Str.ofString (toString p))).length ≤ 1000 := by
  have l := (int_text h2 h9).2
  have l7 : ("modulo " : Str).length = 7 := by decide +kernel
  refine Nat.le_trans (PySem.StrLaws.reprText_len _ fun c hc => ?_) (by rw [strLen_append, l7]; omega)
  have hc : c ∈ ((Str.ofString "modulo ").cps ++ (Str.ofString (toString p)).cps).toList := hc
  rw [Array.toList_append] at hc
  rcases List.mem_append.mp hc with hc | hc
  · exact ofS_low _ c hc
  · exact ofS_low _ c hc
theorem show_two {p : Int} (h2 : 2 ≤ p) (h9 : p ≤ 1000000000) : ShowOk (.list [.int p, .str (("modulo " : Str) ++ Str.ofString (toString p))]) := by
  obtain ⟨a1, a2⟩ := int_len (n := p) (by have : (2 : Nat) ^ 40 = 1099511627776 := by decide
                                          omega)
  have a3 := name_repr h2 h9
  refine ⟨?_, ?_, by simp [PyData.depth, PyData.depthAll]⟩
  · simp only [PyData.showable, PyData.showableAll, decide_eq_true a1]
    rfl
  · have e : (PyData.list [.int p, .str (("modulo " : Str) ++ Str.ofString (toString p))]).shown = listText [(PyData.int p).shown, reprText (("modulo " : Str) ++ Str.ofString (toString p))] := by simp only [PyData.shown, PyData.shownAll]
    rw [e]
    have e1 := textFrom_up [(PyData.int p).shown, reprText (("modulo " : Str) ++ Str.ofString (toString p))] 0 "["
    have e3 : (listText [(PyData.int p).shown, reprText (("modulo " : Str) ++ Str.ofString (toString p))]).length = (textFrom 0 "[" [(PyData.int p).shown, reprText (("modulo " : Str) ++ Str.ofString (toString p))]).length + 1 := by
      show (textFrom 0 "[" _ ++ "]").length = _
      rw [strLen_append]
      rfl
    have e4 : ("[" : Str).length = 1 := rfl
    rw [piled_cons, piled_cons, piled_nil] at e1
    rw [e3, sizeLine_eq]
    omega
theorem show_odd {d : PyData} (h : OkO d) : ShowOk d := by
  obtain ⟨h1, h2, h3, _⟩ := h
  refine ⟨h1, ?_, by omega⟩
  rw [sizeLine_eq]
  cases d with
  | tuple ds =>
    have h2 : piled (PyData.shownAll ds) ≤ 1000 := h2
    have e : (PyData.tuple ds).shown = tupleText (PyData.shownAll ds) := by simp only [PyData.shown]
    rw [e]
    generalize PyData.shownAll ds = ts at h2
    unfold tupleText
    rw [strLen_append, strLen_append]
    have e1 : ("(" : Str).length = 1 := rfl
    have e2 : ((if ts.length == 1 then ",)" else ")" : String) : Str).length ≤ 2 := by
      split
      · exact Nat.le_refl 2
      · exact Nat.le_succ 1
    by_cases h : ts = []
    · subst h
      have e3 : (Str.join ", " []).length = 0 := rfl
      omega
    · have j := join_length_add ts h
      omega
  | _ =>
    exact Nat.le_trans (show _ ≤ 1000 from h2) (by decide)
theorem code_of {φ ψ : Fk} (h1 : okP φ) (h2 : okP ψ) (h : φ.code = ψ.code) : φ = ψ := by
  cases φ with
  | fr =>
    cases ψ with
    | fr => rfl
    | md p =>
      have := (prB_bd h2).1
      have h : (0 : Int) = p := h
      omega
  | md p =>
    cases ψ with
    | fr =>
      have := (prB_bd h1).1
      have h : p = (0 : Int) := h
      omega
    | md q =>
      have h : p = q := h
      rw [h]
def spP (d : PyData) : Bool := match d with
  | .str t => isSp t
  | _ => false
theorem any_sp (d : PyData) : ([PyData.str "fractions", PyData.str "modulo 7"].any fun z => PyData.eqv z d) = spP d := by
  cases d with
  | str t =>
    show (PyData.eqv (.str "fractions") (.str t) || (PyData.eqv (.str "modulo 7") (.str t) || false)) = (decide (t = "fractions") || decide (t = "modulo 7"))
    rw [eqv_str, eqv_str, Bool.or_false]
    show (decide (_ = t) || decide (_ = t)) = _
    have e : ∀ a : Str, decide (a = t) = decide (t = a) := fun a => by
      by_cases h : a = t
      · rw [decide_eq_true h, decide_eq_true h.symm]
      · rw [decide_eq_false h, decide_eq_false fun z => h z.symm]
    rw [e, e]
  | _ => simp [PyData.eqv, spP]
theorem odd_none {d : PyData} (h : oddB d = true) (h2 : spP d = false) : namedD d = none := by
  cases d with
  | str t =>
    have h : (SeqAt.shaped (.str t) && (reachN t && (isSp t || (namedI t).isNone))) = true := h
    have h2 : isSp t = false := h2
    rw [Bool.and_eq_true, Bool.and_eq_true, h2, Bool.false_or] at h
    show namedI t = none
    exact Option.isNone_iff_eq_none.mp h.2.2
  | _ => rfl
section
variable {P : Program} {w : World} {K : PySem.W.Frag} {mg : Str → Option Value} {base : Heap}
theorem same_but {H H' : Hp} {d : Addr} (s : Same H H') : But d H H' := But.same s
theorem own_of (T : Tx K mg) (φ : Fk) {t : Value} (h : t ∈ ([Value.type "int", .type "str", .type "list", .ref (He.ga K "Fractions"), .ref (He.ga K "Modulo")] : List Value)) : OwnQ K (clsOf K φ) (eqF K) t := (T.fc φ).own t h
/-- a field beside another one: what == and != ask -/
theorem rd_ff (T : Tx K mg) {H : Hp} {f g : Addr} {φ ψ : Fk} {u : Bool → Bool} {Q : VK} (F : FieldC K H f φ) (G : FieldC K H g ψ) (q : Q (.bl (u (decide (pval φ = pval ψ)))) H) : rOwnQ K (eqF K) (spEq K) E0 u (.ref f) (.ref g) H Q := by
  obtain ⟨dx, e⟩ := id F
  exact ⟨f, clsOf K φ, dx, _, _, rfl, e, T.tyx G, own_of T φ (cls_in ψ), f, φ, .ref g, rfl, F, .inl ⟨g, ψ, rfl, G, _, rfl, q⟩⟩
theorem rd_fo (T : Tx K mg) {H : Hp} {f : Addr} {φ : Fk} {y : V} {t : Value} {u : Bool → Bool} {Q : VK} (F : FieldC K H f φ) (ht : t ∈ ([.type "int", .type "str", .type "list"] : List Value)) (ty : TyX K H y t) (q : Q (.bl (u false)) H) : rOwnQ K (eqF K) (spEq K) E0 u (.ref f) y H Q := by
  obtain ⟨dx, e⟩ := id F
  refine ⟨f, clsOf K φ, dx, _, t, rfl, e, ty, own_of T φ ?_, f, φ, y, rfl, F, .inr ⟨t, ht, ty, _, rfl, q⟩⟩
  simp only [List.mem_cons, List.not_mem_nil, or_false] at ht ⊢
  rcases ht with h | h | h
  · exact .inl h
  · exact .inr (.inl h)
  · exact .inr (.inr (.inl h))
theorem modS (K : PySem.W.Frag) (p : Int) {H : Hp} {x dx : Addr} (nx : H x = none) (nd : H dx = none) :
    Same H (upd (upd (upd H dx (.own x)) x (.ins (He.ga K "Modulo") dx [])) x (.ins (He.ga K "Modulo") dx [(("_prime" : Str), V.int p)])) := made3 nx nd
theorem modF (K : PySem.W.Frag) (p : Int) {H : Hp} {x dx : Addr} (_ : H x = none) (_ : H dx = none) :
    FieldC K (upd (upd (upd H dx (.own x)) x (.ins (He.ga K "Modulo") dx [])) x (.ins (He.ga K "Modulo") dx [(("_prime" : Str), V.int p)])) x (.md p) := ⟨dx, upd_same⟩
theorem nb (a : Bool) : (!decide (V.bl a = V.bl a)) = false := by
  rw [decide_eq_true rfl]
  rfl
theorem vacM {p : Int} {A : Prop} (ok : prB Float64.isqrt p = true) (z : prD (.int p) = false) : A := absurd ((show prD (.int p) = true from ok).symm.trans z) (by decide)
end
end K01

namespace K01
open PySem PySem.Spec PyProof.Rows L2 Ver Num
section
variable {P : Program} {w : World} {K : PySem.W.Frag} {mg : Str → Option Value} {base : Heap}
def spLaw (K : PySem.W.Frag) : Sp := fun vs H Q _ => ∃ (a : Addr) (ns : List Int), vs = [.ref a] ∧ SqL K H a (ns.map V.int) ∧ ns.length ≤ 63 ∧ ∀ H', Q (.bl true) H'
theorem ok_law (T : Tx K mg) : FnG P w K mg base CX0 8 (He.ga K "law") (spLaw K) := by
  obtain ⟨pF, gF, fdF, hpF, GF, bF⟩ := ok_prime (P := P) (w := w) (base := base) T .fr
  obtain ⟨pM, gM, fdM, hpM, GM, bM⟩ := ok_prime (P := P) (w := w) (base := base) T (.md 0)
  obtain ⟨pN, gN, fdN, pcN, GN, bN⟩ := ok_name (P := P) (w := w) (base := base) T
  obtain ⟨tD, crD, cvD⟩ := T.cdF
  refine mk_law T.d (fun vs H Q E h => ?_) (fun cdv A outer s H vs Q E hg hr h => ?_)
  · obtain ⟨a, ns, rfl, _⟩ := h
    rfl
  · obtain ⟨ad, ns, rfl, hs, hl, q⟩ := h
    have nd := sc_law.nd
    have zg := T.z "range" (by decide +kernel)
    have zr := T.z "repr" (by decide +kernel)
    have br : bootBuiltins "repr" = some (.builtin "repr") := by decide +kernel
    have zi := T.z "isinstance" (by decide +kernel)
    have hu := hr.units
    have hu1 : (A.deeper (envOfC "law" (defScope s_law) s.heap.objs.size (He.ga K "law") cdv)).units + 65 < cLine := by
      have := (hr.mono (show 1 ≤ 7 by decide)).in1.units
      exact this
    have gM_ := T.g "Modulo" (by decide +kernel)
    have gF_ := T.g "Fractions" (by decide +kernel)
    have gC := T.g "Field" (by decide +kernel)
    refine ⟨_, pss_cons (ps_set (i := 1) nd rfl (Or.inl rfl) (pe_callG (ok_pen T) (hr.mono (by decide)) hg (by rfl) (T.g "_law_pen" (by decide +kernel)) (kp__law_pen T.d) pass0 (pa_cons (pv 0) pa_nil)))
      (pss_cons (ps_set (i := 2) nd rfl (Or.inl rfl) (pe_makeG0 T.mF.mkr (ok_fracinit T) (hr.mono (by decide)) hg (by rfl) gF_ pass0))
      (pss_cons (ps_if (PW.pt (pw_or (pt_cmp (pc_notN (pe_prop (pv 2) T.fcF.cl hpF GF (hr.mono (by decide)) bF .nil pass0 (by rfl))))
          (pw_or (pt_cmpR op_ne (pe_prop (pv 2) T.fcF.cl pcN.fF GN (hr.mono (by decide)) bN .nil pass0 (by rfl)) pe_str (nomark _))
          (pw_or (pt_cmpR (op_neOwn (ok_eq T) (hr.mono (by decide)) hg pass0) (pv 2) (pe_makeG0 T.mF.mkr (ok_fracinit T) (hr.mono (by decide)) hg (by rfl) gF_ pass0) (nomark _))
          (pw_or1 (pt_not (pt_val (pe_callB call_isi (by rfl) zi (by decide +kernel) (pa_cons (pv 2) (pa_cons (pe_glob (v := .ref (He.ga K "Field")) (by rfl) gC rfl) pa_nil)))))))))) pss_never pss_nil)
      (pss_cons (ps_if (pt_cmpR op_ne (pe_callB (call_reprO T.sm hg hu) (by rfl) zr br (pa_cons (pe_lst (pa_cons (ClX.pe_cval (pe_glob (v := .ref (He.ga K "Field")) (by rfl) gC rfl)) (pa_cons (pe_con (pv 2) rfl)
          (pa_cons (pe_con (pe_makeG T.mM.mkr (ok_minit T) (hr.mono (by decide)) hg (by rfl) gM_ passL (pa_cons pe_int pa_nil)) rfl) pa_nil)))) pa_nil)) pe_str (nomark _)) pss_never pss_nil)
      (pss_cons (ps_for PassesOwn.never rfl (pi_range1 (by rfl) zg (pa_cons (pe_op op_add pe_int (pe_callB (call_min2 rfl) (by rfl) (T.z "min" (by decide +kernel)) (by decide +kernel) (pa_cons pe_int (pa_cons (pe_callB call_len_seq (by rfl) (T.z "len" (by decide +kernel)) (by decide +kernel) (pa_cons (pv 0) pa_nil)) pa_nil)))) pa_nil)) (pg_name (i := 3) nd rfl (.inl rfl))
        (pss_cons (ps_set (i := 4) nd rfl (Or.inl rfl) (pe_callG (ok_drawn T) (hr.mono (by decide)) hg (by rfl) (T.g "_law_drawn_prime" (by decide +kernel)) (kp__law_drawn_prime T.d) pass0 (pa_cons (pv 1) pa_nil)))
        (pss_cons (ps_if (pt_not (pt_val (pe_callG (ok_fine T) (hr.mono (by decide)) hg (by rfl) (T.g "_law_is_fine" (by decide +kernel)) (kp__law_is_fine T.d) pass0 (pa_cons (pv 4) pa_nil))))
          (pss_one (ps_if (pt_not (pt_val (pe_callG (ok_ref T) (hr.mono (by decide)) hg (by rfl) (T.g "_law_refused" (by decide +kernel)) (kp__law_refused T.d) pass0 (pa_cons (pv 4) pa_nil)))) pss_never pss_nil))
          (pss_one (ps_if (pt_cmpR op_ne (pe_callB (call_reprO T.sm hg hu) (by rfl) zr br (pa_cons (pe_lst
              (pa_cons (pe_prop (pe_makeG T.mM.mkr (ok_minit T) (hr.mono (by decide)) hg (by rfl) gM_ passL (pa_cons (pv 4) pa_nil)) T.fcM.cl hpM GM (hr.mono (by decide)) bM .nil pass0 (by rfl))
              (pa_cons (pe_prop (pe_makeG T.mM.mkr (ok_minit T) (hr.mono (by decide)) hg (by rfl) gM_ passL (pa_cons (pv 4) pa_nil)) T.fcM.cl pcN.fM GN (hr.mono (by decide)) bN .nil pass0 (by rfl)) pa_nil))) pa_nil))
            (pe_callB (call_reprO T.sm hg hu) (by rfl) zr br (pa_cons (pe_lst (pa_cons (pv 4) (pa_cons (pe_op op_add_str pe_str (pe_callTy call_str_int (by rfl) (T.z "str" (by decide +kernel)) (by decide +kernel) (pa_cons (pv 4) pa_nil))) pa_nil))) pa_nil)) (nomark _)) pss_never pss_nil)))
        (pss_cons (ps_par (i := 5) (j := 6) rfl nd rfl rfl (by decide) rfl rfl
          (pa_cons (pe_callG (ok_lprime T) (hr.mono (by decide)) hg (by rfl) (T.g "_law_prime" (by decide +kernel)) (kp__law_prime T.d) pass0 (pa_cons (pv 1) pa_nil))
          (pa_cons (pe_callG (ok_lprime T) (hr.mono (by decide)) hg (by rfl) (T.g "_law_prime" (by decide +kernel)) (kp__law_prime T.d) pass0 (pa_cons (pv 1) pa_nil)) pa_nil)) (by rfl))
        (pss_cons (ps_set (i := 7) nd rfl (Or.inl rfl) (pe_makeG T.mM.mkr (ok_minit T) (hr.mono (by decide)) hg (by rfl) gM_ passL (pa_cons (pv 5) pa_nil)))
        (pss_cons (ps_if (PW.pt (pw_or (pt_cmpR op_ne (pe_cmpR (op_eqOwn (ok_eq T) (hr.mono (by decide)) hg pass0) (pv 7) (pe_makeG T.mM.mkr (ok_minit T) (hr.mono (by decide)) hg (by rfl) gM_ passL (pa_cons (pv 6) pa_nil)) (nomark _)) (pe_cmpR op_eq (pv 5) (pv 6) (nomark _)) (nomark _))
          (pw_or1 (pt_cmpR op_ne (pe_cmpR (op_neOwn (ok_eq T) (hr.mono (by decide)) hg pass0) (pv 7) (pe_makeG T.mM.mkr (ok_minit T) (hr.mono (by decide)) hg (by rfl) gM_ passL (pa_cons (pv 6) pa_nil)) (nomark _)) (pe_cmpR op_ne (pv 5) (pv 6) (nomark _)) (nomark _))))) pss_never pss_nil)
        (pss_cons (ps_if (pt_cmpR (op_eqOwn (ok_eq T) (hr.mono (by decide)) hg pass0) (pv 7) (pv 2) (nomark _)) pss_never pss_nil)
        (pss_cons (ps_if (PW.pt (pw_or (pt_not (pt_val (pe_callB call_isi (by rfl) zi (by decide +kernel) (pa_cons (pv 7) (pa_cons (pe_glob (v := .ref (He.ga K "Field")) (by rfl) gC rfl) pa_nil)))))
          (pw_or (pt_cmpR (op_eqOwn (ok_eq T) (hr.mono (by decide)) hg pass0) (pv 7) (pv 5) (nomark _))
          (pw_or (pt_cmpR (op_eqOwn (ok_eq T) (hr.mono (by decide)) hg pass0) (pv 7) (pe_prop (pv 7) T.fcM.cl pcN.fM GN (hr.mono (by decide)) bN .nil pass0 (by rfl)) (nomark _))
          (pw_or1 (pt_cmpR (op_eqOwn (ok_eq T) (hr.mono (by decide)) hg pass0) (pv 2) (pe_lst (pa_cons pe_int pa_nil)) (nomark _))))))) pss_never pss_nil)
        (pss_cons (ps_asg (pe_callG (ok_bent T) (hr.mono (by decide)) hg (by rfl) (T.g "_law_bent_name" (by decide +kernel)) (kp__law_bent_name T.d) pass0 (pa_cons (pv 1) (pa_cons (pv 5) pa_nil)))
          (pg_tup rfl (pgs_cons (pg_name (i := 8) nd rfl (.inl rfl)) (pgs_cons (pg_name (i := 9) nd rfl (.inl rfl)) pgs_nil))))
        (pss_cons (ps_set (i := 10) nd rfl (Or.inl rfl) (pe_callG (ok_read T) hr hg (by rfl) (T.g "_law_read" (by decide +kernel)) (kp__law_read T.d) pass0 (pa_cons (pv 8) pa_nil)))
        (pss_cons (ps_if (pt_cmpR (op_ne.or (op_neOwn (ok_eq T) (hr.mono (by decide)) hg pass0)) (pv 10) (pe_ifExp (pt_cmp (pc_isN (pv 9))) pe_str (pe_callG (ok_made T) (hr.mono (by decide)) hg (by rfl) (T.g "_law_made_field" (by decide +kernel)) (kp__law_made_field T.d) pass0 (pa_cons (pv 9) pa_nil))) (nomark _)) pss_never pss_nil)
        (pss_cons (ps_set (i := 11) nd rfl (Or.inl rfl) (pe_callG (ok_odd T) (hr.mono (by decide)) hg (by rfl) (T.g "_law_odd" (by decide +kernel)) (kp__law_odd T.d) pass0 (pa_cons (pv 1) pa_nil)))
        (pss_one (ps_if (PW.pt (pw_and (pt_cmpR ((op_notInO T.sm hu1).or (op_notInDS (Nat.lt_of_le_of_lt (Nat.add_le_add_left (show 1 ≤ 65 by decide) _) hu1))) (pv 11) (pe_lst (pa_cons pe_str (pa_cons pe_str pa_nil))) (by rfl))
          (pw_and1 (pt_cmpR op_ne (pe_callG (ok_read T) hr hg (by rfl) (T.g "_law_read" (by decide +kernel)) (kp__law_read T.d) pass0 (pa_cons (pv 11) pa_nil)) pe_str (nomark _))))) pss_never pss_nil))))))))))))))
      (pss_one (ps_ret pe_bl)))))), ?_⟩
    -- the pen, the whole field
    refine ⟨_, rfl, ad, ns, rfl, hs, hl, fun d H1 s1 hd1 pen1 => ?_⟩
    refine fun wf dx nf ndx ne => ⟨wf, dx, rfl, upd_same, rfl, ?_⟩
    have s2 := made3 (o1 := .own wf) (o2 := .ins (He.ga K "Fractions") dx []) (o3 := .ins (He.ga K "Fractions") dx [(("_prime" : Str), V.non)]) nf ndx
    have F2 : FieldC K (upd (upd (upd H1 dx (.own wf)) wf (.ins (He.ga K "Fractions") dx [])) wf (.ins (He.ga K "Fractions") dx [(("_prime" : Str), V.non)])) wf .fr := ⟨dx, upd_same⟩
    have pen2 := pen1.same s2
    have hs2 := (s1.trans s2).seq hs
    obtain ⟨dw, ew⟩ := id F2
    -- prime, name
    refine ⟨_, rfl, wf, dw, _, rfl, ew, wf, dw, _, .non, rfl, ew, pf_look _, _, rfl, ifF rfl ?_⟩
    refine ⟨_, rfl, wf, dw, _, rfl, ew, wf, .fr, rfl, F2, trivial, rfl, _, rfl, ifF (by decide +kernel) ?_⟩
    refine ⟨_, rfl, fun x dx2 nx nd2 ne2 => ⟨x, dx2, rfl, upd_same, rfl, ?_⟩⟩
    have s3 := made3 (o1 := .own x) (o2 := .ins (He.ga K "Fractions") dx2 []) (o3 := .ins (He.ga K "Fractions") dx2 [(("_prime" : Str), V.non)]) nx nd2
    refine rd_ff (φ := .fr) (ψ := .fr) T (F2.same s3) ⟨dx2, upd_same⟩ ?_
    refine ⟨_, rfl, ifF (by rw [decide_eq_true rfl]; rfl) ?_⟩
    have F3 := F2.same s3
    have pen3 := pen2.same s3
    have hs3 := s3.seq hs2
    refine ⟨_, rfl, _, _, _, _, true, rfl, .own _, T.tyx F3, T.mF.isF, _, rfl, ifF rfl ?_⟩
    -- DIGITS
    obtain ⟨tdF, dgF⟩ := T.fcF.dg
    obtain ⟨tdM, dgM⟩ := T.fcM.dg
    obtain ⟨dw3, ew3⟩ := id F3
    refine ⟨_, _, _, _, rfl, crD, cvD, _, rfl, wf, _, dw3, _, _, _, rfl, ew3, T.fcF.cl, dgF, pf_no _ (by decide +kernel), ?_⟩
    refine fun m7 dx7 n7 nd7 ne7 => ⟨m7, dx7, .int 7, .int 7, rfl, .int 7, upd_same, fun _ => ⟨rfl, ?_⟩, vacM (by decide +kernel)⟩
    have s4 := modS K 7 n7 nd7
    have F7 := modF K 7 n7 nd7
    obtain ⟨d7, e7⟩ := id F7
    refine ⟨m7, _, d7, _, _, _, rfl, e7, T.fcM.cl, dgM, pf_no _ (by decide +kernel), by show 3 ≤ sizeLine; decide, fun l3 nl3 => ?_⟩
    have u4 := same_up (o := .lst [V.int 100, V.int 100, V.int 100]) nl3
    refine ⟨.ref l3, .list [.int 100, .int 100, .int 100], rfl, .lst (SqL.of upd_same) (.cons (.int _) (.cons (.int _) (.cons (.int _) .nil))), by decide +kernel, by decide +kernel, by decide +kernel, rfl, _, rfl, ?_⟩
    refine ifF (by rw [sEq, decide_eq_true (by decide +kernel)]; rfl) ?_
    have W4 := (F3.same s4).same u4
    have pen4 := (pen3.same s4).same u4
    have hs4 := (s4.trans u4).seq hs3
    refine ⟨_, rfl, ad, _, rfl, .inl hs4, _, _, rfl, _, _, rfl, rfl, _, rfl, ?_, ?_, ?_⟩
    · split <;> omega
    · split <;> omega
    refine for_range (lo := 0) (fun i σ H' => ∃ v3 v4 v5 v6 v7 v8 v9 v10 v11 : Option V, FieldC K H' wf .fr ∧ PenAt H' d (100 * (i : Int)) ∧ σ = [some (.ref ad), some (.ref d), some (.ref wf), v3, v4, v5, v6, v7, v8, v9, v10, v11]) ⟨_, _, _, _, _, _, _, _, _, W4, pen4.mono (by omega), rfl⟩ ?_ ?_
    · rintro i σ H0 hi ⟨v3, v4, v5, v6, v7, v8, v9, v10, v11, W0, pen0, rfl⟩
      have hi12 : i < 13 := by
        revert hi
        split <;> intro hi <;> omega
      clear hi
      refine ⟨_, rfl, d, _, rfl, pen0, by omega, fun x dd H1 ho oo bt1 pen1 => ?_⟩
      have W1 := W0.but pen0 bt1
      refine ⟨_, rfl, x, dd, rfl, ho.do_, _, rfl, ?_⟩
      cases e : prD dd with
      | false =>
        refine ifT rfl ⟨_, rfl, x, dd, rfl, ho.do_, show_odd oo, fun Hr sr => ⟨_, rfl, ifF (by rw [e]; rfl) ?_⟩⟩
        have W2 := W1.same sr
        have pen2 := pen1.same sr
        refine ⟨_, rfl, d, _, rfl, pen2, by omega, fun p H3 hp bt3 pen3 => ⟨_, rfl, d, _, rfl, pen3, by omega, fun o H4 ho bt4 pen4 => ⟨_, _, rfl, ?_⟩⟩⟩
        have W4 := (W2.but pen2 bt3).but pen3 bt4
        have okp := six_ok p hp
        have oko := six_ok o ho
        refine ⟨_, rfl, fun f dx nf ndx ne => ⟨f, dx, .int p, .int p, rfl, .int p, upd_same, fun _ => ⟨rfl, ?_⟩, vacM okp⟩⟩
        have s5 := modS K p nf ndx
        have F5 := modF K p nf ndx
        have W5 := W4.same s5
        have pen5 := pen4.same s5
        refine ⟨_, rfl, _, rfl, fun g6 dx6 nx ndx ne => ⟨g6, dx6, .int o, .int o, rfl, .int o, upd_same, fun _ => ⟨rfl, rd_ff (u := fun b => b) T (F5.same (modS K o nx ndx)) (modF K o nx ndx) ?_⟩, vacM oko⟩⟩
        have s6 := modS K o nx ndx
        refine ⟨_, rfl, _, rfl, rfl, rfl, _, rfl, ifF (nb _) ?_⟩
        have F6 := F5.same s6
        refine ⟨_, rfl, _, rfl, fun g7 dx7 nx ndx ne => ⟨g7, dx7, .int o, .int o, rfl, .int o, upd_same, fun _ => ⟨rfl, rd_ff (u := fun b => !b) T (F6.same (modS K o nx ndx)) (modF K o nx ndx) ?_⟩, vacM oko⟩⟩
        have s7 := modS K o nx ndx
        refine ⟨_, rfl, _, rfl, rfl, rfl, _, rfl, ifF (nb _) ?_⟩
        have F7 := F6.same s7
        have W7 := (W5.same s6).same s7
        have pen7 := (pen5.same s6).same s7
        refine ⟨_, rfl, _, rfl, rd_ff (u := fun b => b) T F7 W7 ⟨_, rfl, ifF (decide_eq_false fun z => by cases z) ?_⟩⟩
        refine ⟨_, rfl, _, _, _, _, true, rfl, .own _, T.tyx F7, T.mM.isF, _, rfl, ifF rfl ?_⟩
        refine ⟨_, rfl, _, rfl, rd_fo (u := fun b => b) (t := .type "int") T F7 (by simp) (.base (.int p)) ⟨_, rfl, ifF rfl ?_⟩⟩
        obtain ⟨dy, ey⟩ := id F7
        refine ⟨_, rfl, _, rfl, f, dy, _, rfl, ey, f, .md p, rfl, F7, okp, rd_fo (u := fun b => b) (t := .type "str") T F7 (by simp) (.base (.str _)) ⟨_, rfl, ifF rfl ?_⟩⟩
        refine ⟨_, rfl, by show 1 ≤ sizeLine; decide, fun ly nly => ?_⟩
        have uy := same_up (o := .lst [V.int 0]) nly
        refine rd_fo (u := fun b => b) (t := .type "list") T (W7.same uy) (by simp) (.base (.lst upd_same)) ⟨_, rfl, ifF rfl ?_⟩
        have W8 := W7.same uy
        have pen8 := pen7.same uy
        refine ⟨_, rfl, _, rfl, d, _, p, rfl, hp, pen8, by omega, fun a t oo H9 ha bo bt9 pen9 => ⟨a, _, rfl, .inl (.inl ha), rfl, _, _, rfl, _, _, rfl, rfl, ?_⟩⟩
        have W9 := W8.but pen8 bt9
        refine ⟨_, rfl, .str t, .str t, rfl, .str t, bo.1, fun φ f2 H10 en ok2 s10 G10 => ?_, fun en H10 s10 => ?_⟩
        · have eo : oo = some φ.code := bo.2.1.symm.trans en
          subst eo
          refine ⟨_, rfl, _, rfl, _, rfl, ifF (decide_eq_false fun z => by cases z) ?_⟩
          refine ⟨_, rfl, φ, rfl, ok2, fun g H11 s11 G11 => .inr (rd_ff (u := fun b => !b) T (G10.same s11) G11 ⟨_, rfl, ifF (by rw [decide_eq_true rfl]; rfl) ?_⟩)⟩
          refine ⟨_, rfl, d, _, rfl, (pen9.same s10).same s11, by omega, fun xo dO H12 hs12 oo12 bt12 pen12 => ?_⟩
          have W12 := ((W9.same s10).same s11).but ((pen9.same s10).same s11) bt12
          refine ⟨_, rfl, by show 2 ≤ sizeLine; decide, fun lz nlz => ?_⟩
          have uz := same_up (o := .lst [V.str "fractions", V.str "modulo 7"]) nlz
          have hz := hs12 _ (But.same uz)
          have W13 := W12.same uz
          have pen13 := pen12.same uz
          have ob := oo12.2.2.2.2
          by_cases hdi : ∃ kds, dO = .dict kds
          · obtain ⟨kds, rfl⟩ := hdi
            have hz2 := hz
            cases hz with
            | dic ea hk =>
              refine .inr ⟨_, lz, _, ["fractions", "modulo 7"], rfl, rfl, ea, SqL.of upd_same, _, rfl, ifT rfl ?_⟩
              refine ⟨_, rfl, _, _, rfl, hz2, nice_odd ob, fun φ f H14 en => absurd en (by simp [namedD]), fun en H14 s14 => ⟨rfl, _, rfl, ifF (by rw [decide_eq_true rfl]; rfl) ?_⟩⟩
              exact ⟨_, _, _, _, _, _, _, _, _, W13.same s14, (pen13.same s14).mono (by omega), rfl⟩
          · have sh : SeqAt.shaped dO = true := by
              cases dO with
              | dict kds => exact absurd ⟨kds, rfl⟩ hdi
              | str t =>
                have ob : (SeqAt.shaped (.str t) && _) = true := ob
                rw [Bool.and_eq_true] at ob
                exact ob.1
              | _ => exact ob
            refine .inl ⟨dO, [.str "fractions", .str "modulo 7"], hz, .lst (SqL.of upd_same) (.cons (.str _) (.cons (.str _) .nil)), sh, by decide +kernel, _, rfl, ?_⟩
            rw [any_sp]
            cases es : spP dO with
            | true =>
              refine ifF rfl (ifF rfl ?_)
              exact ⟨_, _, _, _, _, _, _, _, _, W13, pen13.mono (by omega), rfl⟩
            | false =>
              have nn := odd_none ob es
              refine ifT rfl ⟨_, rfl, _, _, rfl, hz, nice_odd ob, fun φ f H14 en => absurd (nn.symm.trans en) (by simp), fun en H14 s14 => ⟨rfl, _, rfl, ifF (by rw [decide_eq_true rfl]; rfl) ?_⟩⟩
              exact ⟨_, _, _, _, _, _, _, _, _, W13.same s14, (pen13.same s14).mono (by omega), rfl⟩
        · have eo : oo = none := bo.2.1.symm.trans en
          subst eo
          refine ⟨_, rfl, _, rfl, _, rfl, ifT (decide_eq_true rfl) (.inl ⟨rfl, _, rfl, ifF (by rw [decide_eq_true rfl]; rfl) ?_⟩)⟩
          refine ⟨_, rfl, d, _, rfl, pen9.same s10, by omega, fun xo dO H12 hs12 oo12 bt12 pen12 => ?_⟩
          have W12 := (W9.same s10).but (pen9.same s10) bt12
          refine ⟨_, rfl, by show 2 ≤ sizeLine; decide, fun lz nlz => ?_⟩
          have uz := same_up (o := .lst [V.str "fractions", V.str "modulo 7"]) nlz
          have hz := hs12 _ (But.same uz)
          have W13 := W12.same uz
          have pen13 := pen12.same uz
          have ob := oo12.2.2.2.2
          by_cases hdi : ∃ kds, dO = .dict kds
          · obtain ⟨kds, rfl⟩ := hdi
            have hz2 := hz
            cases hz with
            | dic ea hk =>
              refine .inr ⟨_, lz, _, ["fractions", "modulo 7"], rfl, rfl, ea, SqL.of upd_same, _, rfl, ifT rfl ?_⟩
              refine ⟨_, rfl, _, _, rfl, hz2, nice_odd ob, fun φ f H14 en => absurd en (by simp [namedD]), fun en H14 s14 => ⟨rfl, _, rfl, ifF (by rw [decide_eq_true rfl]; rfl) ?_⟩⟩
              exact ⟨_, _, _, _, _, _, _, _, _, W13.same s14, (pen13.same s14).mono (by omega), rfl⟩
          · have sh : SeqAt.shaped dO = true := by
              cases dO with
              | dict kds => exact absurd ⟨kds, rfl⟩ hdi
              | str t =>
                have ob : (SeqAt.shaped (.str t) && _) = true := ob
                rw [Bool.and_eq_true] at ob
                exact ob.1
              | _ => exact ob
            refine .inl ⟨dO, [.str "fractions", .str "modulo 7"], hz, .lst (SqL.of upd_same) (.cons (.str _) (.cons (.str _) .nil)), sh, by decide +kernel, _, rfl, ?_⟩
            rw [any_sp]
            cases es : spP dO with
            | true =>
              refine ifF rfl (ifF rfl ?_)
              exact ⟨_, _, _, _, _, _, _, _, _, W13, pen13.mono (by omega), rfl⟩
            | false =>
              have nn := odd_none ob es
              refine ifT rfl ⟨_, rfl, _, _, rfl, hz, nice_odd ob, fun φ f H14 en => absurd (nn.symm.trans en) (by simp), fun en H14 s14 => ⟨rfl, _, rfl, ifF (by rw [decide_eq_true rfl]; rfl) ?_⟩⟩
              exact ⟨_, _, _, _, _, _, _, _, _, W13.same s14, (pen13.same s14).mono (by omega), rfl⟩
      | true =>
        obtain ⟨v, rfl, rfl⟩ : ∃ v : Int, dd = .int v ∧ x = .int v := by
          cases dd with
          | int v =>
            have h := ho.do_
            cases h
            exact ⟨v, rfl, rfl⟩
          | _ => cases e
        have okv : prB Float64.isqrt v = true := e
        obtain ⟨v2, v9'⟩ := prB_bd okv
        have lgv := (int_text v2 v9').1
        have lnv := (int_text v2 v9').2
        obtain ⟨sh1, sh2, sh3⟩ := show_two v2 v9'
        refine ifF rfl ⟨_, rfl, fun y dx ny ndy ne => ⟨y, dx, .int v, .int v, rfl, .int v, upd_same, fun _ => ⟨rfl, ?_⟩, vacM okv⟩⟩
        have sa := modS K v ny ndy
        have Fa := modF K v ny ndy
        obtain ⟨dya, eya⟩ := id Fa
        refine ⟨y, dya, _, rfl, eya, y, dya, _, .int v, rfl, eya, pf_look _, _, rfl, fun y2 dx2 ny2 ndy2 ne2 => ⟨y2, dx2, .int v, .int v, rfl, .int v, upd_same, fun _ => ⟨rfl, ?_⟩, vacM okv⟩⟩
        have sb := modS K v ny2 ndy2
        have Fb := modF K v ny2 ndy2
        obtain ⟨dyb, eyb⟩ := id Fb
        refine ⟨y2, dyb, _, rfl, eyb, y2, .md v, rfl, Fb, okv, by show 2 ≤ sizeLine; decide, fun lc nlc => ?_⟩
        have uc := same_up (o := .lst [V.int v, V.str (nameS (.md v))]) nlc
        refine ⟨.ref lc, .list [.int v, .str (("modulo " : Str) ++ Str.ofString (toString v))], rfl, .lst (SqL.of upd_same) (.cons (.int _) (.cons (.str _) .nil)), sh1, sh2, sh3, ?_⟩
        refine ⟨_, rfl, _, rfl, v, rfl, lgv, ("modulo " : Str), _, rfl, rfl, ?_, by show 2 ≤ sizeLine; decide, fun ld nld => ?_⟩
        · have : ("modulo " : Str).length = 7 := by decide +kernel
          rw [this, sizeLine_eq]
          omega
        have ud := same_up (o := .lst [V.int v, V.str (("modulo " : Str) ++ Str.ofString (toString v))]) nld
        refine ⟨.ref ld, .list [.int v, .str (("modulo " : Str) ++ Str.ofString (toString v))], rfl, .lst (SqL.of upd_same) (.cons (.int _) (.cons (.str _) .nil)), sh1, sh2, sh3, rfl, _, rfl, ifF (by rw [decide_eq_true rfl]; rfl) ?_⟩
        have sr := ((sa.trans sb).trans uc).trans ud
        have W2 := W1.same sr
        have pen2 := pen1.same sr
        refine ⟨_, rfl, d, _, rfl, pen2, by omega, fun p H3 hp bt3 pen3 => ⟨_, rfl, d, _, rfl, pen3, by omega, fun o H4 ho bt4 pen4 => ⟨_, _, rfl, ?_⟩⟩⟩
        have W4 := (W2.but pen2 bt3).but pen3 bt4
        have okp := six_ok p hp
        have oko := six_ok o ho
        refine ⟨_, rfl, fun f dx nf ndx ne => ⟨f, dx, .int p, .int p, rfl, .int p, upd_same, fun _ => ⟨rfl, ?_⟩, vacM okp⟩⟩
        have s5 := modS K p nf ndx
        have F5 := modF K p nf ndx
        have W5 := W4.same s5
        have pen5 := pen4.same s5
        refine ⟨_, rfl, _, rfl, fun g6 dx6 nx ndx ne => ⟨g6, dx6, .int o, .int o, rfl, .int o, upd_same, fun _ => ⟨rfl, rd_ff (u := fun b => b) T (F5.same (modS K o nx ndx)) (modF K o nx ndx) ?_⟩, vacM oko⟩⟩
        have s6 := modS K o nx ndx
        refine ⟨_, rfl, _, rfl, rfl, rfl, _, rfl, ifF (nb _) ?_⟩
        have F6 := F5.same s6
        refine ⟨_, rfl, _, rfl, fun g7 dx7 nx ndx ne => ⟨g7, dx7, .int o, .int o, rfl, .int o, upd_same, fun _ => ⟨rfl, rd_ff (u := fun b => !b) T (F6.same (modS K o nx ndx)) (modF K o nx ndx) ?_⟩, vacM oko⟩⟩
        have s7 := modS K o nx ndx
        refine ⟨_, rfl, _, rfl, rfl, rfl, _, rfl, ifF (nb _) ?_⟩
        have F7 := F6.same s7
        have W7 := (W5.same s6).same s7
        have pen7 := (pen5.same s6).same s7
        refine ⟨_, rfl, _, rfl, rd_ff (u := fun b => b) T F7 W7 ⟨_, rfl, ifF (decide_eq_false fun z => by cases z) ?_⟩⟩
        refine ⟨_, rfl, _, _, _, _, true, rfl, .own _, T.tyx F7, T.mM.isF, _, rfl, ifF rfl ?_⟩
        refine ⟨_, rfl, _, rfl, rd_fo (u := fun b => b) (t := .type "int") T F7 (by simp) (.base (.int p)) ⟨_, rfl, ifF rfl ?_⟩⟩
        obtain ⟨dy, ey⟩ := id F7
        refine ⟨_, rfl, _, rfl, f, dy, _, rfl, ey, f, .md p, rfl, F7, okp, rd_fo (u := fun b => b) (t := .type "str") T F7 (by simp) (.base (.str _)) ⟨_, rfl, ifF rfl ?_⟩⟩
        refine ⟨_, rfl, by show 1 ≤ sizeLine; decide, fun ly nly => ?_⟩
        have uy := same_up (o := .lst [V.int 0]) nly
        refine rd_fo (u := fun b => b) (t := .type "list") T (W7.same uy) (by simp) (.base (.lst upd_same)) ⟨_, rfl, ifF rfl ?_⟩
        have W8 := W7.same uy
        have pen8 := pen7.same uy
        refine ⟨_, rfl, _, rfl, d, _, p, rfl, hp, pen8, by omega, fun a t oo H9 ha bo bt9 pen9 => ⟨a, _, rfl, .inl (.inl ha), rfl, _, _, rfl, _, _, rfl, rfl, ?_⟩⟩
        have W9 := W8.but pen8 bt9
        refine ⟨_, rfl, .str t, .str t, rfl, .str t, bo.1, fun φ f2 H10 en ok2 s10 G10 => ?_, fun en H10 s10 => ?_⟩
        · have eo : oo = some φ.code := bo.2.1.symm.trans en
          subst eo
          refine ⟨_, rfl, _, rfl, _, rfl, ifF (decide_eq_false fun z => by cases z) ?_⟩
          refine ⟨_, rfl, φ, rfl, ok2, fun g H11 s11 G11 => .inr (rd_ff (u := fun b => !b) T (G10.same s11) G11 ⟨_, rfl, ifF (by rw [decide_eq_true rfl]; rfl) ?_⟩)⟩
          refine ⟨_, rfl, d, _, rfl, (pen9.same s10).same s11, by omega, fun xo dO H12 hs12 oo12 bt12 pen12 => ?_⟩
          have W12 := ((W9.same s10).same s11).but ((pen9.same s10).same s11) bt12
          refine ⟨_, rfl, by show 2 ≤ sizeLine; decide, fun lz nlz => ?_⟩
          have uz := same_up (o := .lst [V.str "fractions", V.str "modulo 7"]) nlz
          have hz := hs12 _ (But.same uz)
          have W13 := W12.same uz
          have pen13 := pen12.same uz
          have ob := oo12.2.2.2.2
          by_cases hdi : ∃ kds, dO = .dict kds
          · obtain ⟨kds, rfl⟩ := hdi
            have hz2 := hz
            cases hz with
            | dic ea hk =>
              refine .inr ⟨_, lz, _, ["fractions", "modulo 7"], rfl, rfl, ea, SqL.of upd_same, _, rfl, ifT rfl ?_⟩
              refine ⟨_, rfl, _, _, rfl, hz2, nice_odd ob, fun φ f H14 en => absurd en (by simp [namedD]), fun en H14 s14 => ⟨rfl, _, rfl, ifF (by rw [decide_eq_true rfl]; rfl) ?_⟩⟩
              exact ⟨_, _, _, _, _, _, _, _, _, W13.same s14, (pen13.same s14).mono (by omega), rfl⟩
          · have sh : SeqAt.shaped dO = true := by
              cases dO with
              | dict kds => exact absurd ⟨kds, rfl⟩ hdi
              | str t =>
                have ob : (SeqAt.shaped (.str t) && _) = true := ob
                rw [Bool.and_eq_true] at ob
                exact ob.1
              | _ => exact ob
            refine .inl ⟨dO, [.str "fractions", .str "modulo 7"], hz, .lst (SqL.of upd_same) (.cons (.str _) (.cons (.str _) .nil)), sh, by decide +kernel, _, rfl, ?_⟩
            rw [any_sp]
            cases es : spP dO with
            | true =>
              refine ifF rfl (ifF rfl ?_)
              exact ⟨_, _, _, _, _, _, _, _, _, W13, pen13.mono (by omega), rfl⟩
            | false =>
              have nn := odd_none ob es
              refine ifT rfl ⟨_, rfl, _, _, rfl, hz, nice_odd ob, fun φ f H14 en => absurd (nn.symm.trans en) (by simp), fun en H14 s14 => ⟨rfl, _, rfl, ifF (by rw [decide_eq_true rfl]; rfl) ?_⟩⟩
              exact ⟨_, _, _, _, _, _, _, _, _, W13.same s14, (pen13.same s14).mono (by omega), rfl⟩
        · have eo : oo = none := bo.2.1.symm.trans en
          subst eo
          refine ⟨_, rfl, _, rfl, _, rfl, ifT (decide_eq_true rfl) (.inl ⟨rfl, _, rfl, ifF (by rw [decide_eq_true rfl]; rfl) ?_⟩)⟩
          refine ⟨_, rfl, d, _, rfl, pen9.same s10, by omega, fun xo dO H12 hs12 oo12 bt12 pen12 => ?_⟩
          have W12 := (W9.same s10).but (pen9.same s10) bt12
          refine ⟨_, rfl, by show 2 ≤ sizeLine; decide, fun lz nlz => ?_⟩
          have uz := same_up (o := .lst [V.str "fractions", V.str "modulo 7"]) nlz
          have hz := hs12 _ (But.same uz)
          have W13 := W12.same uz
          have pen13 := pen12.same uz
          have ob := oo12.2.2.2.2
          by_cases hdi : ∃ kds, dO = .dict kds
          · obtain ⟨kds, rfl⟩ := hdi
            have hz2 := hz
            cases hz with
            | dic ea hk =>
              refine .inr ⟨_, lz, _, ["fractions", "modulo 7"], rfl, rfl, ea, SqL.of upd_same, _, rfl, ifT rfl ?_⟩
              refine ⟨_, rfl, _, _, rfl, hz2, nice_odd ob, fun φ f H14 en => absurd en (by simp [namedD]), fun en H14 s14 => ⟨rfl, _, rfl, ifF (by rw [decide_eq_true rfl]; rfl) ?_⟩⟩
              exact ⟨_, _, _, _, _, _, _, _, _, W13.same s14, (pen13.same s14).mono (by omega), rfl⟩
          · have sh : SeqAt.shaped dO = true := by
              cases dO with
              | dict kds => exact absurd ⟨kds, rfl⟩ hdi
              | str t =>
                have ob : (SeqAt.shaped (.str t) && _) = true := ob
                rw [Bool.and_eq_true] at ob
                exact ob.1
              | _ => exact ob
            refine .inl ⟨dO, [.str "fractions", .str "modulo 7"], hz, .lst (SqL.of upd_same) (.cons (.str _) (.cons (.str _) .nil)), sh, by decide +kernel, _, rfl, ?_⟩
            rw [any_sp]
            cases es : spP dO with
            | true =>
              refine ifF rfl (ifF rfl ?_)
              exact ⟨_, _, _, _, _, _, _, _, _, W13, pen13.mono (by omega), rfl⟩
            | false =>
              have nn := odd_none ob es
              refine ifT rfl ⟨_, rfl, _, _, rfl, hz, nice_odd ob, fun φ f H14 en => absurd (nn.symm.trans en) (by simp), fun en H14 s14 => ⟨rfl, _, rfl, ifF (by rw [decide_eq_true rfl]; rfl) ?_⟩⟩
              exact ⟨_, _, _, _, _, _, _, _, _, W13.same s14, (pen13.same s14).mono (by omega), rfl⟩
    · rintro σ H' ⟨v3, v4, v5, v6, v7, v8, v9, v10, v11, W0, pen0, rfl⟩
      exact q H'
end
end K01

namespace K01
open PySem PySem.Spec PyProof.Rows L2 Ver Num
/-! ### the head: what it tells -/
abbrev R : PySem.W.OpenRow := PySem.W.OpenLaw.row PySem.Challenge.rw_firstanswers_k01_fields
def ads (g : Addr → Option Obj) : List Addr := (PySem.cStatics :: sysModules :: He.asD g 5).eraseDups
def KF (g : Addr → Option Obj) : PySem.W.Frag := He.frG g (ads g)
def fcls (K : PySem.W.Frag) (C a : Addr) (m : Str) : Bool := match PySem.W.findCls K (.ref C) (.type "type") m with
  | some (.val (.ref b)) => decide (b = a)
  | _ => false
theorem fcls_ok {K : PySem.W.Frag} {C a : Addr} {m : Str} (h : fcls K C a m = true) : PySem.W.findCls K (.ref C) (.type "type") m = some (.val (.ref a)) := by
  unfold fcls at h
  split at h
  · rename_i b e
    rw [e, of_decide_eq_true h]
  · cases h
/-- the module table -/
def smB (K : PySem.W.Frag) : Bool := match K.lookup sysModules with
  | some o => match o.cls with
    | .type s => decide (s = "dict")
    | _ => false
  | none => false
theorem smB_ok {K : PySem.W.Frag} (h : smB K = true) : Sm K := by
  unfold smB at h
  split at h
  · rename_i o e
    split at h
    · rename_i s e2
      exact ⟨o, e, by rw [e2, of_decide_eq_true h]⟩
    · cases h
  · cases h
/-- what stands at g, a def -/
def fnA (K : PySem.W.Frag) (g : Addr) : He.FnW := match K.lookup g with
  | some ⟨_, _, .func u, _⟩ => some (u.name, u.qualname, u.params, u.body, u.scope, u.globals, u.closure, u.builtins)
  | _ => none
def okA (K : PySem.W.Frag) (g : Addr) (q : Str) : Bool := PySem.W.keepIn K (.ref g) && match K.lookup g with
  | some ⟨_, _, .func u, _⟩ => (PySem.W.codeIn K u.code q && He.dflB K u.defaults []) && He.kwdB K u.kwdefaults []
  | _ => false
theorem fun_at {K : PySem.W.Frag} {g : Addr} {x q : Str} {st : Stmt} (e : fnA K g = (⟨("Field", some x), x, q, defArgs st, defBody st, defScope st, [], []⟩ : He.DefD).val) (c : okA K g q = true) : ∃ fd, FunD K x q (defArgs st) (defBody st) (defScope st) [] [] g fd := by
  obtain ⟨kp, c2⟩ := He.ba c
  unfold fnA at e
  split at c2
  · rename_i oc od u osl hl
    rw [hl] at e
    obtain ⟨u1, u2, u3, u4, u5, u6, u7, u8, u9, u10, u11, u12, u13, u14, u15⟩ := u
    obtain ⟨c3, k4⟩ := He.ba c2
    obtain ⟨k1, k3⟩ := He.ba c3
    have e2 := Option.some.inj e
    simp only [Prod.mk.injEq] at e2
    obtain ⟨rfl, rfl, rfl, rfl, rfl, rfl, rfl, rfl⟩ := e2
    exact ⟨_, ⟨oc, od, u8, u9, u10, u11, u12, u13, u14, osl, rfl, hl, k1, He.dflB_ok k3, He.kwdB_ok k4⟩, kp⟩
  · cases c2
/-- the constant DIGITS -/
def dgB (K : PySem.W.Frag) (C : Addr) : Bool := match PySem.W.findIn K (.ref C) "DIGITS" with
  | some (some (.int i t)) => decide (i = 100) && He.eqO (PySem.W.specialIn K (.int i t) "__get__") (some none)
  | _ => false
theorem dgB_ok {K : PySem.W.Frag} {C : Addr} (h : dgB K C = true) : ∃ t, Con K C "DIGITS" (.int 100) (.int 100 t) := by
  unfold dgB at h
  split at h
  · rename_i i t e
    obtain ⟨h1, h2⟩ := He.ba h
    have e1 := of_decide_eq_true h1
    subst e1
    exact ⟨t, e, ⟨t, rfl⟩, He.eqO_ok h2, by decide +kernel⟩
  · cases h
def ownB (K : PySem.W.Frag) (C : Addr) (t : Value) : Bool := PySem.W.notFirst K C t && (He.eqO (PySem.W.findIn K (.ref C) "__eq__") (some (some (.ref (eqF K)))) && (PySem.W.isFn K (.ref (eqF K)) && (He.eqO (PySem.W.findIn K (.ref C) "__ne__") (some (some (.builtin "object.__ne__"))) && decide (PySem.W.subIn K (.ref C) (.type "object") = some true))))
theorem ownB_ok {K : PySem.W.Frag} {C : Addr} {t : Value} (h : ownB K C t = true) : OwnQ K C (eqF K) t := by
  obtain ⟨h1, h⟩ := He.ba h
  obtain ⟨h2, h⟩ := He.ba h
  obtain ⟨h3, h⟩ := He.ba h
  obtain ⟨h4, h5⟩ := He.ba h
  exact ⟨h1, He.eqO_ok h2, h3, He.eqO_ok h4, of_decide_eq_true h5⟩
def fiveT (K : PySem.W.Frag) : List Value := [Value.type "int", .type "str", .type "list", .ref (He.ga K "Fractions"), .ref (He.ga K "Modulo")]
/-- a class of fields -/
def xc (K : PySem.W.Frag) (x : Str) : List Bool := [(He.Fa.cls x).ok K, (He.Fa.noat x "_prime").ok K, dgB K (He.ga K x), (fiveT K).all fun t => ownB K (He.ga K x) t,
  (He.Fa.mkr x).ok K, decide (PySem.W.kitOne K (.ref (He.ga K x)) (.ref (He.ga K "Field")) = some true),
  He.eqO (PySem.W.findIn K (.ref (He.ga K x)) "__class__") (some (some (.builtin "object.__class__"))), decide (PySem.W.mroIn K (He.ga K x) (.type "object") = some true)]
/-- an error over ValueError -/
def oexB (K : PySem.W.Frag) (C : Addr) : Bool := match K.lookup C with
  | some ⟨.type T, _, .cls cd, sl⟩ => (match cd.mro, sl.toList with
    | .ref C' :: bm, [_, _, _, _, some (.builtin n), _] => decide (T = "type") && (decide (C' = C) && (decide (n = "ValueError.__new__") && (!cd.hasDel && (cd.hasDict && PySem.HandSPX.refsVE bm))))
    | _, _ => false)
  | _ => false
theorem oexB_ok {K : PySem.W.Frag} {C : Addr} (h : oexB K C = true) : ∃ nm q N bs bm sn sub ab col dd k0 k1 k2 k3 k5, K.lookup C = some (excClassObj nm q C N bs bm true sn sub ab col dd k0 k1 k2 k3 k5 "ValueError.__new__") ∧ PySem.HandSPX.refsVE bm = true := by
  unfold oexB at h
  split at h
  · rename_i T dd cd sl ho
    obtain ⟨nm, bs, mro, ns, qn, hd, sn, sb, ab, col, del⟩ := cd
    obtain ⟨l⟩ := sl
    split at h
    · rename_i C' bm k0 k1 k2 k3 n k5 hm hs
      obtain ⟨h0, h⟩ := He.ba h
      obtain ⟨h1, h⟩ := He.ba h
      obtain ⟨h2, h⟩ := He.ba h
      obtain ⟨h3, h⟩ := He.ba h
      obtain ⟨h4, h5⟩ := He.ba h
      have e0 := of_decide_eq_true h0
      have e1 := of_decide_eq_true h1
      have e2 := of_decide_eq_true h2
      have e3 : del = false := by simpa using h3
      have e4 : hd = true := h4
      have em : mro = .ref C' :: bm := hm
      have es : l = [k0, k1, k2, k3, some (.builtin n), k5] := hs
      subst e0 e1 e2 e3 e4 em es
      exact ⟨nm, qn, ns, bs, bm, sn, sb, ab, col, dd, k0, k1, k2, k3, k5, ho, h5⟩
    · cases h
  · cases h
def xe (K : PySem.W.Frag) (x f : Str) : List Bool := [oexB K (He.ga K x), He.eqO (PySem.W.findIn K (.ref (He.ga K x)) "__setattr__") (some (some (.builtin "object.__setattr__"))), decide (PySem.W.subIn K (.ref (He.ga K x)) (.type "BaseException") = some true),
  decide (PySem.W.typeIn K (.ref (He.ga K x)) = some (.type "type")), PySem.W.keepIn K (.ref (He.ga K x)), He.eqO (PySem.W.findIn K (.ref (He.ga K x)) f) (some none),
  He.eqO (PySem.W.findIn K (.ref (He.ga K x)) "__init__") (some (some (.ref (He.ma K (He.ga K x) "__init__")))), decide (PySem.W.typeIn K (.ref (He.ma K (He.ga K x) "__init__")) = some (.type "function")),
  He.eqO (PySem.W.findIn K (.ref (He.ga K x)) "__getattribute__") (some (some (.builtin "BaseException.__getattribute__"))), He.eqO (PySem.W.findIn K (.ref (He.ga K x)) "__getattr__") (some none), PySem.W.hasDictIn K (He.ga K x),
  He.eqO (PySem.W.findIn K (.ref (He.ga K x)) "__class__") (some (some (.builtin "object.__class__"))), decide (PySem.W.mroIn K (He.ga K x) (.type "object") = some true), decide (PySem.W.exmOne K (.ref (He.ga K x)) (.ref (He.ga K x)) = some true),
  decide (PySem.W.kitOne K (.ref (He.ga K x)) (.type "ValueError") = some true)]
/-- a property -/
def pA (K : PySem.W.Frag) (m : Str) : Addr := He.ma K (He.ga K "Field") m
def gA (K : PySem.W.Frag) (p : Addr) (k : String) : Addr := match PySem.W.recIn K p k with
  | some (.ref g :: _) => g
  | _ => 0
def gOk (K : PySem.W.Frag) (p : Addr) (k : String) : Bool := match PySem.W.recIn K p k with
  | some (.ref _ :: _) => true
  | _ => false
theorem gOk_ex {K : PySem.W.Frag} {p : Addr} {k : String} (h : gOk K p k = true) : ∃ rest, PySem.W.recIn K p k = some (.ref (gA K p k) :: rest) := by
  unfold gOk at h
  split at h
  · rename_i g rest e
    refine ⟨rest, ?_⟩
    have eg : gA K p k = g := by
      unfold gA
      rw [e]
    rw [eg]
    exact e
  · cases h
def xp (K : PySem.W.Frag) (m q : Str) : List Bool := [He.eqO (PySem.W.findIn K (.ref (He.ga K "Fractions")) m) (some (some (.ref (pA K m)))), He.eqO (PySem.W.findIn K (.ref (He.ga K "Modulo")) m) (some (some (.ref (pA K m)))),
  He.eqO (PySem.W.specialIn K (.ref (pA K m)) "__get__") (some (some (.builtin "property.__get__"))), decide (PySem.W.takesIn K (.ref (pA K m)) = some true), gOk K (pA K m) "property", okA K (gA K (pA K m) "property") q]
/-- the static method -/
def stP (K : PySem.W.Frag) : Addr := match PySem.W.findCls K (.ref (He.ga K "Field")) (.type "type") "named" with
  | some (.get _ (.ref p) _ _) => p
  | _ => 0
def stB (K : PySem.W.Frag) : Bool := match PySem.W.findCls K (.ref (He.ga K "Field")) (.type "type") "named" with
  | some (.get (.builtin n) (.ref _) .none (.ref C)) => decide (n = "staticmethod.__get__") && decide (C = He.ga K "Field")
  | _ => false
theorem stB_ok {K : PySem.W.Frag} (h : stB K = true) : PySem.W.findCls K (.ref (He.ga K "Field")) (.type "type") "named" = some (.get (.builtin "staticmethod.__get__") (.ref (stP K)) .none (.ref (He.ga K "Field"))) := by
  unfold stB at h
  split at h
  · rename_i n p C e
    obtain ⟨h1, h2⟩ := He.ba h
    have e1 := of_decide_eq_true h1
    have e2 := of_decide_eq_true h2
    have e3 : stP K = p := by
      unfold stP
      rw [e]
    rw [e3, e, e1, e2]
  · cases h
def cdB (K : PySem.W.Frag) : Bool := match PySem.W.findCls K (.ref (He.ga K "Field")) (.type "type") "DIGITS" with
  | some (.val (.int i _)) => decide (i = 100)
  | _ => false
theorem cdB_ok {K : PySem.W.Frag} (h : cdB K = true) : ∃ t, PySem.W.findCls K (.ref (He.ga K "Field")) (.type "type") "DIGITS" = some (.val (.int 100 t)) := by
  unfold cdB at h
  split at h
  · rename_i i t e
    exact ⟨t, by rw [e, of_decide_eq_true h]⟩
  · cases h
def vvB (K : PySem.W.Frag) : Bool := match PySem.W.findCls K (.type "ValueError") (.type "type") "__init__" with
  | some (.val (.builtin n)) => decide (n = "ValueError.__init__")
  | _ => false
theorem vvB_ok {K : PySem.W.Frag} (h : vvB K = true) : PySem.W.findCls K (.type "ValueError") (.type "type") "__init__" = some (.val (.builtin "ValueError.__init__")) := by
  unfold vvB at h
  split at h
  · rename_i n e
    rw [e, of_decide_eq_true h]
  · cases h
def x1 (K : PySem.W.Frag) : List Bool := [(He.Fa.int "GREATEST_PRIME" 1000000000).ok K, (He.Fa.int "PRIME_DIGITS" 10).ok K, (He.Fa.str "DECIMAL_DIGITS" "0123456789").ok K, smB K, He.eqO (PySem.W.nsIn K mainGlobals "isqrt") (some (some (.builtin "math.isqrt")))]
def x3 (K : PySem.W.Frag) : List Bool := [PySem.W.readsIn K (He.ga K "Field") (.type "type"), He.eqO (PySem.W.specialIn K (.ref (He.ga K "Field")) "__getattribute__") (some (some (.builtin "type.__getattribute__"))),
  fcls K (He.ga K "Field") (He.ma K (He.ga K "Field") "__init__") "__init__",
  He.eqO (PySem.W.specialIn K (.builtin "object.__class__") "__get__") (some (some (.builtin "getset_descriptor.__get__"))), decide (PySem.W.takesIn K (.builtin "object.__class__") = some true),
  vvB K, cdB K, decide (PySem.W.typeIn K (.ref (He.ga K "Field")) = some (.type "type")), stB K, gOk K (stP K) "staticmethod", okA K (gA K (stP K) "staticmethod") "Field.named",
  decide (PySem.W.kitOne K (.type "int") (.ref (He.ga K "Field")) = some false), decide (PySem.W.kitOne K (.type "str") (.ref (He.ga K "Field")) = some false), decide (PySem.W.kitOne K (.type "list") (.ref (He.ga K "Field")) = some false)]
def ex (K : PySem.W.Frag) : Bool := (x1 K).all id && ((xc K "Fractions").all id && ((xc K "Modulo").all id && ((x3 K).all id && ((xe K "InvalidPrime" "value").all id && ((xe K "InvalidText" "line").all id && ((xp K "prime" "Field.prime").all id && (xp K "name" "Field.name").all id))))))
abbrev W3 : Type := He.FnW × He.FnW × He.FnW
def f3 (K : PySem.W.Frag) : W3 := (fnA K (gA K (pA K "prime") "property"), fnA K (gA K (pA K "name") "property"), fnA K (gA K (stP K) "staticmethod"))
def dV (x q : Str) (st : Stmt) : He.FnW := (⟨("Field", some x), x, q, defArgs st, defBody st, defScope st, [], []⟩ : He.DefD).val
def v3 : W3 := (dV "prime" "Field.prime" s_Field_prime, dV "name" "Field.name" s_Field_name, dV "named" "Field.named" s_Field_named)
def hook : PySem.W.Hook where
  α := He.AlD × Bool × W3
  obs := fun s => (He.obsD fa fn (KF s.heap.get?), ex (KF s.heap.get?), f3 (KF s.heap.get?))
  val := fun _ => (He.valD fn, true, v3)
  says := fun _ h => ∃ K : PySem.W.Frag, K.In h ∧ He.SaysD fa fn K ∧ ex K = true ∧ f3 K = v3
  of := fun _ _ e => ⟨_, He.frG_in, congrArg (fun z : He.AlD × Bool × W3 => z.1) e, congrArg (fun z : He.AlD × Bool × W3 => z.2.1) e, congrArg (fun z : He.AlD × Bool × W3 => z.2.2) e⟩
  keeps := fun _ _ _ ⟨K, hK, c⟩ k => ⟨K, PySem.W.Frag.In.keeps hK k, c⟩
def ob (s : PySem.W.SharedT) : He.AlD × Bool × W3 := (He.obsD fa fn (KF (HandSHeadRun.getT s)), ex (KF (HandSHeadRun.getT s)), f3 (KF (HandSHeadRun.getT s)))
theorem ob_eq (s : PySem.W.SharedT) : ob s = hook.obs s.abs := by
  have e : HandSHeadRun.getT s = s.abs.heap.get? := funext (HandSHeadRun.getT_eq s)
  unfold ob
  rw [e]
  rfl
def lo : List Str := (["_wall", "is_integer", "is_between", "InvalidPrime", "InvalidNumber", "InvalidText", "TooLong", "GREATEST_PRIME", "PRIME_DIGITS", "DECIMAL_DIGITS", "FIRST_LONG", "Field", "Fractions", "Modulo", "is_prime", "is_fraction", "is_longer", "parts", "integer_of", "signed_integer_of"] : List Str) ++
  (["number_of", "_law_pen", "_law_draw", "_law_pick", "_law_prime", "_law_odd", "_law_made_field", "_law_is_whole", "_law_is_prime", "_law_drawn_prime", "_law_is_fine", "_law_refused", "_law_read", "_law_bent_name"] : List Str)
abbrev qv : Program := PySem.W.view R.prog [0, 39]
end K01

namespace K01
open PySem PySem.Spec PyProof.Rows L2 Ver Num
theorem run (w : World) : HandSHeadRun.RunEqI R qv hook ob 8000 lo w := by
  unfold HandSHeadRun.RunEqI
  kernel_rfl
end K01

namespace K01
open PySem PySem.Spec PyProof.Rows L2 Ver Num
theorem all_cons_ok {b : Bool} {l : List Bool} (h : (b :: l).all id = true) : b = true ∧ l.all id = true := He.ba h
theorem fc_of {K : PySem.W.Frag} {x : Str} (e : (xc K x).all id = true) : FC K (He.ga K x) ∧ MC K (He.ga K x) := by
  obtain ⟨a1, e⟩ := all_cons_ok e
  obtain ⟨a2, e⟩ := all_cons_ok e
  obtain ⟨a3, e⟩ := all_cons_ok e
  obtain ⟨a4, e⟩ := all_cons_ok e
  obtain ⟨a5, e⟩ := all_cons_ok e
  obtain ⟨a6, e⟩ := all_cons_ok e
  obtain ⟨a7, e⟩ := all_cons_ok e
  obtain ⟨a8, e⟩ := all_cons_ok e
  exact ⟨⟨He.cls_ok a1, He.noat_ok a2, dgB_ok a3, fun t ht => ownB_ok (List.all_eq_true.mp a4 t ht)⟩, ⟨He.mkr_ok a5, of_decide_eq_true a6, He.eqO_ok a7, of_decide_eq_true a8⟩⟩
theorem ec_of {K : PySem.W.Frag} {x f : Str} (e : (xe K x f).all id = true) (hn : PySem.W.specialIn K (.builtin "object.__class__") "__get__" = some (some (.builtin "getset_descriptor.__get__"))) (ht : PySem.W.takesIn K (.builtin "object.__class__") = some true) : EC K (He.ga K x) f := by
  obtain ⟨a1, e⟩ := all_cons_ok e
  obtain ⟨a2, e⟩ := all_cons_ok e
  obtain ⟨a3, e⟩ := all_cons_ok e
  obtain ⟨a4, e⟩ := all_cons_ok e
  obtain ⟨a5, e⟩ := all_cons_ok e
  obtain ⟨a6, e⟩ := all_cons_ok e
  obtain ⟨a7, e⟩ := all_cons_ok e
  obtain ⟨a8, e⟩ := all_cons_ok e
  obtain ⟨a9, e⟩ := all_cons_ok e
  obtain ⟨a10, e⟩ := all_cons_ok e
  obtain ⟨a11, e⟩ := all_cons_ok e
  obtain ⟨a12, e⟩ := all_cons_ok e
  obtain ⟨a13, e⟩ := all_cons_ok e
  obtain ⟨a14, e⟩ := all_cons_ok e
  obtain ⟨a15, e⟩ := all_cons_ok e
  exact ⟨⟨oexB_ok a1, He.eqO_ok a2, of_decide_eq_true a3, of_decide_eq_true a4, a5⟩, He.eqO_ok a6, He.eqO_ok a7, of_decide_eq_true a8, ⟨He.eqO_ok a9, He.eqO_ok a10, of_decide_eq_true a3, a11⟩,
    ⟨He.eqO_ok a9, He.eqO_ok a10, of_decide_eq_true a3, a11, He.eqO_ok a12, hn, ht, of_decide_eq_true a13⟩, of_decide_eq_true a14, of_decide_eq_true a15⟩
theorem pc_of {K : PySem.W.Frag} {m q : Str} {st : Stmt} (e : (xp K m q).all id = true) (v : fnA K (gA K (pA K m) "property") = dV m q st) : PC K m q st (pA K m) (gA K (pA K m) "property") := by
  obtain ⟨a1, e⟩ := all_cons_ok e
  obtain ⟨a2, e⟩ := all_cons_ok e
  obtain ⟨a3, e⟩ := all_cons_ok e
  obtain ⟨a4, e⟩ := all_cons_ok e
  obtain ⟨a5, e⟩ := all_cons_ok e
  obtain ⟨a6, e⟩ := all_cons_ok e
  exact ⟨⟨He.eqO_ok a1, He.eqO_ok a3, of_decide_eq_true a4, gOk_ex a5⟩, ⟨He.eqO_ok a2, He.eqO_ok a3, of_decide_eq_true a4, gOk_ex a5⟩, fun_at v a6⟩
theorem tx_of {K : PySem.W.Frag} {h : Heap} {mg : Str → Option Value} (X : K.In h) (G : h.Ns mainGlobals mg) (c : He.SaysD fa fn K) (e : ex K = true) (v : f3 K = v3) : Tx K mg := by
  obtain ⟨e1, e⟩ := He.ba e
  obtain ⟨e2, e⟩ := He.ba e
  obtain ⟨e3, e⟩ := He.ba e
  obtain ⟨e4, e⟩ := He.ba e
  obtain ⟨e5, e⟩ := He.ba e
  obtain ⟨e6, e⟩ := He.ba e
  obtain ⟨e7, e8⟩ := He.ba e
  have v1 : fnA K (gA K (pA K "prime") "property") = dV "prime" "Field.prime" s_Field_prime := congrArg (fun z : W3 => z.1) v
  have v2 : fnA K (gA K (pA K "name") "property") = dV "name" "Field.name" s_Field_name := congrArg (fun z : W3 => z.2.1) v
  have v3' : fnA K (gA K (stP K) "staticmethod") = dV "named" "Field.named" s_Field_named := congrArg (fun z : W3 => z.2.2) v
  obtain ⟨a1, e1⟩ := all_cons_ok e1
  obtain ⟨a2, e1⟩ := all_cons_ok e1
  obtain ⟨a3, e1⟩ := all_cons_ok e1
  obtain ⟨a4, e1⟩ := all_cons_ok e1
  obtain ⟨a5, e1⟩ := all_cons_ok e1
  obtain ⟨f1, f2⟩ := fc_of e2
  obtain ⟨m1, m2⟩ := fc_of e3
  obtain ⟨c1, e4⟩ := all_cons_ok e4
  obtain ⟨c2, e4⟩ := all_cons_ok e4
  obtain ⟨c3, e4⟩ := all_cons_ok e4
  obtain ⟨c4, e4⟩ := all_cons_ok e4
  obtain ⟨c5, e4⟩ := all_cons_ok e4
  obtain ⟨c6, e4⟩ := all_cons_ok e4
  obtain ⟨c7, e4⟩ := all_cons_ok e4
  obtain ⟨c8, e4⟩ := all_cons_ok e4
  obtain ⟨c9, e4⟩ := all_cons_ok e4
  obtain ⟨c10, e4⟩ := all_cons_ok e4
  obtain ⟨c11, e4⟩ := all_cons_ok e4
  obtain ⟨c12, e4⟩ := all_cons_ok e4
  obtain ⟨c13, e4⟩ := all_cons_ok e4
  obtain ⟨c14, e4⟩ := all_cons_ok e4
  obtain ⟨fs, FS⟩ := fun_at (x := "named") (q := "Field.named") (st := s_Field_named) v3' c11
  obtain ⟨td, cd⟩ := cdB_ok c7
  have kp : PySem.W.keepIn K (.ref (gA K (stP K) "staticmethod")) = true := FS.kp
  exact
    { d := c
      g := fun x hx => He.glo_ok X G (He.SaysD.facts c (List.mem_append_left _ (List.mem_map_of_mem hx)))
      z := fun x hx => He.free_ok X G (He.SaysD.facts c (List.mem_append_right _ (List.mem_map_of_mem hx)))
      gp := He.int_ok X G a1
      pd := He.int_ok X G a2
      dd := He.str_ok X G a3
      sm := smB_ok a4
      isq := PySem.W.mg_of X G (He.eqO_ok a5)
      fcF := f1
      fcM := m1
      mF := f2
      mM := m2
      eP := ec_of e5 (He.eqO_ok c4) (of_decide_eq_true c5)
      eT := ec_of e6 (He.eqO_ok c4) (of_decide_eq_true c5)
      pP := ⟨_, _, pc_of e7 v1⟩
      pN := ⟨_, _, pc_of e8 v2⟩
      st := ⟨_, fs, ⟨He.eqO_ok c2, of_decide_eq_true c8, c1, ⟨_, stB_ok c9, gOk_ex c10⟩, kp⟩, FS⟩
      cdF := ⟨td, ⟨c1, He.eqO_ok c2⟩, ⟨cd, ⟨td, rfl⟩⟩⟩
      rdF := c1
      gaF := He.eqO_ok c2
      fiF := fcls_ok c3
      clS := He.eqO_ok c4
      clT := of_decide_eq_true c5
      vV := vvB_ok c6
      nK := fun t ht => by
        simp only [List.mem_cons, List.not_mem_nil, or_false] at ht
        rcases ht with rfl | rfl | rfl
        · exact of_decide_eq_true c12
        · exact of_decide_eq_true c13
        · exact of_decide_eq_true c14 }
end K01
open PySem PySem.W PySem.Calls PyProof.Rows
theorem PySem.Challenge.cw_firstanswers_k01_fields_holds : PySem.Challenge.rw_firstanswers_k01_fields.Holds := by
  w_on; o_law
  refine HandSHeadRun.head_imp (r := K01.R) (q := K01.qv) (H := K01.hook) (ob := K01.ob) (M := 8000) (loose := K01.lo) (d := HandSHeadRun.topDef K01.R.prog 39) (kwd := []) K01.ob_eq K01.run
    (by kernel_rfl) (by kernel_rfl) (by kernel_rfl) (by rfl) (by first | assumption | decide +kernel) (by decide +kernel) ⟨rfl, rfl, rfl, rfl, rfl, by decide +kernel⟩ ?hw ?hc
  case hw => w_witness2
  case hc =>
    refine Ver.walkG (l := PySem.Challenge.rw_firstanswers_k01_fields) (n := 63) (k := 8) rfl (by decide) (by kernel_rfl) ⟨rfl, by decide, by decide⟩ ?F
    intro w mg fa h Y G hmg0
    obtain ⟨K, KX, c, e, v⟩ := Y
    have hmg : mg ("law" : PySem.Str) = some (.ref fa) := by
      have q : (HandSHeadRun.topDef K01.R.prog 39).name = ("law" : PySem.Str) := by kernel_rfl
      rw [← q]
      exact hmg0
    have T := K01.tx_of KX G c e v
    have ef := hmg.symm.trans (T.g "law" (by decide +kernel))
    cases ef
    exact ⟨K, K01.spLaw K, KX, fun H a ns hl _ hS => ⟨a, ns, rfl, hS, hl, fun _ => rfl⟩, fun base h1 h2 => K01.ok_law T⟩
