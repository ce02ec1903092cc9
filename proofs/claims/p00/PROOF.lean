import PyProof.Rows.All
import Wide.All
import OpenK.AllK
import Wide.FinOn
import PySem.Challenge.RW_firstanswers_k00_errors
import HandS.Base
import HandS.Call
import HandS.List
import HandS.Ends
import HandS.Dict
import HandS.More
import HandS.Defaults
import HandS.Words
import HandS.Star
import PyProof.ReprRoads
import HandS.HeadHook1
import HandS.HeadHook2
import HandS.Wide
import HandS.Gcd
import HandS.Exc
import HandS.ExcInit
import HandS.WordsExc
import KE.KExcInit
import HandS.TryOnly
import HandS.ExcOwn
import HandS.IsInst
import PyProof.InstEq
import PyProof.StrOps2
import HandS.Deep
import HandS.SlotsOwn
import HandS.ExcIs
import HandS.ExcField
import KE.KExcIs
import HandS.Property
import PyProof.EqKinds
import HandS.MakeKwOnly
import HandS.SetFor
import HandS.Comp
import HandS.Zip
import HandS.ClsMeth
import HandS.FStr
import HandS.StrMore
import HandS.Text
import HandS.Iter
import HandS.WordsList
import HandS.Walk
import HandS.Head0
import HandS.Head1
import HandS.Head2
import HandS.Head3
import HandS.HeadHook4
set_option Elab.async false
set_option linter.all false
set_option maxRecDepth 100000
set_option maxHeartbeats 0
/-! Defs that show data (repr): their promise wants that no show is under way around them. -/
namespace Ver
open PySem PySem.Spec PyProof.Rows L2
/-- a promise for callers around whom nothing is being shown -/
def FnG (P : Program) (w : World) (K : PySem.W.Frag) (mg : Str → Option Value) (base : Heap) (CX : CXT) (k : Nat) (f : Addr) (sp : Sp) : Prop :=
  ∀ (A : Around) (outer : List Env) (s : Shared) (H : Hp) (us : List Value) (vs : List V) (Q : VK) (E : XK), A.guards = some [] → Room k A →
    Env0 P w K mg base A outer s H → Vals vs us → sp vs H Q E → codeAny (model P w) A (.call (.ref f) ⟨us, []⟩) (CR CX outer P w H s Q E) s
section
variable {P : Program} {w : World} {K : PySem.W.Frag} {mg : Str → Option Value} {base : Heap} {CX : CXT} {k : Nat} {f : Addr} {fd : FuncData} {sp : Sp}
variable {x qual : Str} {params : Arguments} {body : List Stmt} {scope : Scope} {N ps : List Str} {kws : List (Str × V)}
theorem FnG.ofR (F : FnR P w K mg base CX k f sp) : FnG P w K mg base CX k f sp := fun A outer s H us vs Q E _ hr e0 r h => F A outer s H us vs Q E hr e0 r h
theorem FnG.mono {j : Nat} (F : FnG P w K mg base CX j f sp) (h : j ≤ k) : FnG P w K mg base CX k f sp := fun A outer s H us vs Q E g hr e0 r q => F A outer s H us vs Q E g (hr.mono h) e0 r q
/-- the rule for such a def, its body as a term -/
theorem okG (F : FunD K x qual params body scope [] kws f fd) (S : FnScope N ps scope)
    (hb : ∀ (s : Shared) (us : List Value), us.length = ps.length → BindsTo s fd ⟨us, []⟩ (ps.zip us)) (len : ∀ vs H Q E, sp vs H Q E → vs.length = ps.length)
    (hbody : ∀ (cdv : Value) (A : Around) (outer : List Env) (s : Shared) (H : Hp) (vs : List V) (Q : VK) (E : XK), A.guards = some [] → Room k (A.deeper (envOfC qual scope s.heap.objs.size f cdv)) → sp vs H Q E →
      ∃ t, PSs (cxOf CX P w K mg base N qual scope f cdv A outer s H E) body t ∧ t { nx := fun _ H' => Q .non H', rt := Q } (start N vs) H) : FnG P w K mg base CX (k + 1) f sp := by
  obtain ⟨⟨oc, od, dV, kV, doc, pm, an, cdv, ct, osl, rfl, lk, hcd, _⟩, _⟩ := F
  intro A outer s H us vs Q E hg hr e0 r hsp
  have hl := len _ _ _ _ hsp
  refine StX.run_bnd (G := fun xs H2 => xs = vs ∧ H2 = H) lk hcd S hr e0 (fun A' Ex Q' q => ?_) fun s2 H2 xs g hr' => ?_
  · exact hb s us (by rw [← r.length]; exact hl) _ A' Ex Q' (q s H vs us e0 Un.refl rfl (fun _ _ z => z) r hl ⟨rfl, rfl⟩)
  · obtain ⟨rfl, rfl⟩ := g
    exact hbody cdv A outer s2 H2 xs Q E hg hr' hsp
end
section
variable {X : Cx} {CX : CXT} {k : Nat} {f : Addr} {sp : Sp} {E : XK} {x : Str} {p pos : Pos} {e : Expr} {es : List Expr} {t : TA}
/-- f(e, ..) -/
theorem pe_callG (F : FnG X.prog X.w X.K X.mg X.base CX k f sp) (hr : Room k X.A) (hgd : X.A.guards = some []) (hg : Gl X x) (hm : X.mg x = some (.ref f)) (hk : PySem.W.keepIn X.K (.ref f) = true) (hx : Passes CX X E)
    (ha : PA X (e :: es) t) (hdb : (x == ("__debug__" : Str)) = false := by decide) (he : starEach (e :: es) X.env = (false, eval e X.env) :: starEach es X.env := by rfl)
    (hpl : (backTo pos (starEach es X.env)).any (·.1) = false := by rfl) : PE X (.Call (.Name x p) (e :: es) [] pos) (fun σ H Q => t σ H fun vs H1 => sp vs H1 Q E) := by
  refine ⟨fun pins s σ H Q I h => wpAny_Call_Name_kw (ld_glob I hg hm (PySem.W.callWith_K (h₀ := X.base) I.ok.mod.kin hk (thn (ha.run pos pins s σ H _ I h) fun us s1 z => ?_) he hpl) hdb)⟩
  obtain ⟨vs, H1, I1, r, q⟩ := z
  refine ⟨I1.kIn, wpAny_call (codeAny_mono (F X.A X.stack s1 H1 us vs Q E hgd hr I1.env0 r q) fun rs s' hq => ?_)⟩
  match rs, hq with
  | .error e', hq => exact hx pins σ H1 s1 e' s' I1 hq
  | .ok (.ret u), hq => exact I1.after hq
  | .ok .next, hq => exact hq.elim
  | .ok .brk, hq => exact hq.elim
  | .ok .cont, hq => exact hq.elim
end
/-- the same rule for a def that lets no exception out -/
theorem ok0 {P : Program} {w : World} {K : PySem.W.Frag} {mg : Str → Option Value} {base : Heap} {k : Nat} {f : Addr} {fd : FuncData} {sp : Sp} {x qual : Str} {params : Arguments} {body : List Stmt} {scope : Scope} {N ps : List Str} {kws : List (Str × V)}
    (F : FunD K x qual params body scope [] kws f fd) (S : FnScope N ps scope)
    (hb : ∀ (s : Shared) (us : List Value), us.length = ps.length → BindsTo s fd ⟨us, []⟩ (ps.zip us)) (len : ∀ vs H Q E, sp vs H Q E → vs.length = ps.length)
    (hbody : ∀ (cdv : Value) (A : Around) (outer : List Env) (s : Shared) (H : Hp) (vs : List V) (Q : VK) (E : XK), A.guards = some [] → Room k (A.deeper (envOfC qual scope s.heap.objs.size f cdv)) → sp vs H Q E →
      ∃ t, PSs (cxOf CX0 P w K mg base N qual scope f cdv A outer s H E).nox body t ∧ t { nx := fun _ H' => Q .non H', rt := Q } (start N vs) H) : FnG P w K mg base CX0 (k + 1) f sp :=
  okG F S hb len fun cdv A outer s H vs Q E hg hr h => by
    obtain ⟨t, ht, q⟩ := hbody cdv A outer s H vs Q E hg hr h
    exact ⟨t, ht.nox, q⟩
section
variable {X : Cx} {CX : CXT} {k : Nat} {f C : Addr} {sp : Sp} {E : XK} {x m : Str} {p pos apos : Pos} {e o : Expr} {es : List Expr} {t : TA} {ta : TE} {pins : List (Addr × Obj)} {σ : L2.St} {H : Hp} {s : Shared} {Q : VK} {us : List Value} {vs : List V}
/-- the callee's run, seen by the caller -/
theorem runG (F : FnG X.prog X.w X.K X.mg X.base CX k f sp) (hr : Room k X.A) (hgd : X.A.guards = some []) (hx : Passes CX X E) (I : Inv X pins σ H s) (r : Vals vs us) (h : sp vs H Q E) :
    wpAny (model X.prog X.w) X.A (call (.ref f) us) (EP X pins σ Q) X.xe s :=
  wpAny_call (codeAny_mono (F X.A X.stack s H us vs Q E hgd hr I.env0 r h) fun rs s' hq => by
    match rs, hq with
    | .error e', hq => exact hx pins σ H s e' s' I hq
    | .ok (.ret u), hq => exact I.after hq
    | .ok .next, hq => exact hq.elim
    | .ok .brk, hq => exact hq.elim
    | .ok .cont, hq => exact hq.elim)
/-- f() -/
theorem pe_callG0 (F : FnG X.prog X.w X.K X.mg X.base CX k f sp) (hr : Room k X.A) (hgd : X.A.guards = some []) (hg : Gl X x) (hm : X.mg x = some (.ref f)) (hk : PySem.W.keepIn X.K (.ref f) = true) (hx : Passes CX X E)
    (hdb : (x == ("__debug__" : Str)) = false := by decide) : PE X (.Call (.Name x p) [] [] pos) (fun _ H Q => sp [] H Q E) :=
  ⟨fun pins s σ H Q I h => wpAny_Call_Name_kw (ld_glob I hg hm (PySem.W.callWith_K0 I.kIn hk (runG (us := []) F hr hgd hx I .nil h)) hdb)⟩
/-- o.m(e, ..) of an instance of the class at C or of any class that has the method at f -/
def tMethG (K : PySem.W.Frag) (m : Str) (f : Addr) (sp : Sp) (E : XK) (ta : TE) (t : TA) : TE := fun σ H Q => ta σ H fun x H1 => ∃ a C dx fs, x = .ref a ∧ H1 a = some (.ins C dx fs) ∧ Cls K C ∧ Meth K C m f ∧ fs.lookup m = none ∧
  t σ H1 fun vs H2 => sp (.ref a :: vs) H2 Q E
theorem pe_methG {pl : Sem Bool} (he : PE X o ta) (hk : PySem.W.keepIn X.K (.ref f) = true) (F : FnG X.prog X.w X.K X.mg X.base CX k f sp) (hr : Room k X.A) (hgd : X.A.guards = some []) (hx : Passes CX X E) (ha : PA X (e :: es) t)
    (hst : starEach (e :: es) X.env = (false, eval e X.env) :: starEach es X.env := by rfl) (hpl : (backTo pos (starEach es X.env)).any (·.1) = false := by rfl)
    (ht : eval (.Call (.Attribute o m apos) (e :: es) [] pos) X.env = (do
      let ov ← eval o X.env
      standAt apos.atName
      let (g, first) ← holding [ov] (getMethod ov m pl)
      callWith pos g first (backTo pos (starEach (e :: es) X.env)) (backToKw pos (keywordEach [] X.env))) := by rfl) :
    PE X (.Call (.Attribute o m apos) (e :: es) [] pos) (tMethG X.K m f sp E ta t) := by
  refine ⟨fun pins s σ H Q I h => PySem.W.methodCall_KW (pl := pl) (thn (he.run pins s σ H _ I h) fun u s1 z => ?_) ht⟩
  obtain ⟨x, H1, I1, rx, a, C, dx, fs, rfl, ea, c, hm, l, q⟩ := z
  cases (show u = Value.ref a from rx)
  refine getmeth_ok I1 ea c hm l (PySem.W.callWith_K (first := [.ref a]) (h₀ := X.base) I.ok.mod.kin hk (thn (ha.run pos pins s1 σ H1 _ I1 q) fun us s2 y => ?_) hst hpl)
  obtain ⟨vs, H2, I2, r, q2⟩ := y
  exact ⟨I2.kIn, runG (us := .ref a :: us) (vs := .ref a :: vs) F hr hgd hx I2 (.cons rfl r) q2⟩
/-- o.m() -/
theorem pe_methG0 {pl : Sem Bool} (he : PE X o ta) (hk : PySem.W.keepIn X.K (.ref f) = true) (F : FnG X.prog X.w X.K X.mg X.base CX k f sp) (hr : Room k X.A) (hgd : X.A.guards = some []) (hx : Passes CX X E)
    (ht : eval (.Call (.Attribute o m apos) [] [] pos) X.env = (do
      let ov ← eval o X.env
      standAt apos.atName
      let (g, first) ← holding [ov] (getMethod ov m pl)
      callWith pos g first (backTo pos (starEach [] X.env)) (backToKw pos (keywordEach [] X.env))) := by rfl) :
    PE X (.Call (.Attribute o m apos) [] [] pos) (tMethG X.K m f sp E ta tNil) := by
  refine ⟨fun pins s σ H Q I h => PySem.W.methodCall_KW (pl := pl) (thn (he.run pins s σ H _ I h) fun u s1 z => ?_) ht⟩
  obtain ⟨x, H1, I1, rx, a, C, dx, fs, rfl, ea, c, hm, l, q⟩ := z
  cases (show u = Value.ref a from rx)
  exact getmeth_ok I1 ea c hm l (PySem.W.callWith_K0 (first := [.ref a]) I1.kIn hk (runG (us := [.ref a]) (vs := [.ref a]) F hr hgd hx I1 (.cons rfl .nil) q))
theorem made_guards {A : Around} (h : A.guards = some []) (C : Addr) (us : List Value) : (A.under (.builtin "type.__call__" ⟨.ref C :: us, []⟩)).guards = some [] := by
  show pushGuards (Code.builtin "type.__call__" ⟨.ref C :: us, []⟩).guards A.guards = some []
  rw [h]
  first
    | rfl
    | decide +kernel
/-- C(e, ..) -/
theorem pe_makeG (M : Mk X.K C f) (F : FnG X.prog X.w X.K X.mg X.base CX k f sp) (hr : Room (k + 1) X.A) (hgd : X.A.guards = some []) (hg : Gl X x) (hm : X.mg x = some (.ref C)) (hx : Passes CX X E) (ha : PA X (e :: es) t)
    (hdb : (x == ("__debug__" : Str)) = false := by decide) (he : starEach (e :: es) X.env = (false, eval e X.env) :: starEach es X.env := by rfl)
    (hpl : (backTo pos (starEach es X.env)).any (·.1) = false := by rfl) : PE X (.Call (.Name x p) (e :: es) [] pos) (StX.tMakeR C sp E t) := by
  refine ⟨fun pins s σ H Q I h => wpAny_Call_Name_kw (ld_glob I hg hm (PySem.W.callWith_K (h₀ := X.base) I.ok.mod.kin M.kp (thn (ha.run pos pins s σ H _ I h) fun us s1 z => ?_) he hpl) hdb)⟩
  obtain ⟨vs, H1, I1, r, q⟩ := z
  refine ⟨I1.kIn, wpAny_call (make_map (f := f) I1.kIn M.makes M.init (beq_iff_eq.mp M.fn) ?_)⟩
  have q2 := q (s1.heap.objs.size + 1) s1.heap.objs.size (I1.hok.fresh (Nat.le_succ _)) (I1.hok.fresh (Nat.le_refl _)) (Nat.ne_of_lt (Nat.lt_succ_self _))
  have I2 := Inv.made (C := C) I1
  refine codeAny_mono (F _ X.stack _ _ (Value.ref (s1.heap.objs.size + 1) :: us) (V.ref (s1.heap.objs.size + 1) :: vs) _ E (made_guards hgd C us) (hr.make C us []) (I2.env0.make C us []) (.cons rfl r) q2) fun rs s' hq => ?_
  match rs, hq with
  | .error e', hq => exact hx pins σ _ _ e' s' I2 hq
  | .ok (.ret u), hq =>
    obtain ⟨v, H', I3, rv, ev, q3⟩ := I2.after hq
    subst ev
    exact ⟨rv, V.ref (s1.heap.objs.size + 1), H', I3, rfl, q3⟩
  | .ok .next, hq => exact hq.elim
  | .ok .brk, hq => exact hq.elim
  | .ok .cont, hq => exact hq.elim
end
/-! ### repr of data -/
section
variable {X : Cx}
/-- repr(x), x data: none, a bool, an int, a text, lists and tuples of such -/
def rRepr (K : PySem.W.Frag) : List V → Hp → VK → Prop := fun xs H Q => ∃ (x : V) (d : PyData), xs = [x] ∧ Dp K H x d ∧ d.showable = true ∧ d.shown.length ≤ sizeLine ∧ d.depth ≤ 60 ∧ Q (.str d.shown) H
mutual
theorem noD {K : PySem.W.Frag} {H : Hp} : ∀ (d : PyData) (v : V), Dp K H v d → d.hasDict = false
  | .none, _, _ => by simp only [PyData.hasDict]
  | .bool _, _, _ => by simp only [PyData.hasDict]
  | .int _, _, _ => by simp only [PyData.hasDict]
  | .str _, _, _ => by simp only [PyData.hasDict]
  | .list ds, _, h => by
    cases h with
    | lst _ ha =>
      simp only [PyData.hasDict]
      exact noDs ds _ ha
  | .tuple ds, _, h => by
    cases h with
    | tup _ ha =>
      simp only [PyData.hasDict]
      exact noDs ds _ ha
  | .dict _, _, h => by cases h
theorem noDs {K : PySem.W.Frag} {H : Hp} : ∀ (ds : List PyData) (vs : List V), DpAll K H vs ds → PyData.hasDictAll ds = false
  | [], _, _ => by simp only [PyData.hasDictAll]
  | d :: ds, _, h => by
    cases h with
    | cons h1 h2 =>
      simp only [PyData.hasDictAll, noD d _ h1, noDs ds _ h2, Bool.or_false]
end
theorem call_repr (hg : X.A.guards = some []) (hu : X.A.units + 64 < cLine) : CallR X (.builtin "repr") (rRepr X.K) := by
  intro pins s σ H xs us Q I r h
  obtain ⟨x, d, rfl, hd, hs, hz, hdp, q⟩ := h
  obtain ⟨u, rfl, rx⟩ := vals1 r
  obtain ⟨as, rd⟩ := Dp.reads I d x u hd rx
  have nd := noD d x hd
  cases rd with
  | none => exact PySem.P.repr_of_none ⟨.str _, H, I.tok _, ⟨_, rfl⟩, by simpa only [PyData.shown] using q⟩
  | bool b => exact PySem.P.repr_of_bool ⟨.str _, H, I.tok _, ⟨_, rfl⟩, by simpa only [PyData.shown] using q⟩
  | int i t => exact PySem.P.repr_of_int (by simpa [PyData.showable] using hs) ⟨.str _, H, I.tok _, ⟨_, rfl⟩, by simpa only [PyData.shown] using q⟩
  | str y t => exact PySem.P.repr_of_str ⟨.str _, H, I.tok _, ⟨_, rfl⟩, by simpa only [PyData.shown] using q⟩ (by simpa only [PyData.shown] using hz)
  | list h1 h2 h3 h4 =>
    exact repr_of_reads' (.list h1 h2 h3 h4) hs (fun z => by rw [nd] at z; cases z) hg (by omega) (fun _ _ z => z) (fun h' u tk hk => ⟨.str _, H, I.kept (t' := tk) hk, ⟨u, rfl⟩, q⟩) hz
  | tuple h1 h2 h3 h4 =>
    exact repr_of_reads' (.tuple h1 h2 h3 h4) hs (fun z => by rw [nd] at z; cases z) hg (by omega) (fun _ _ z => z) (fun h' u tk hk => ⟨.str _, H, I.kept (t' := tk) hk, ⟨u, rfl⟩, q⟩) hz
  | dict h1 h2 h3 h4 h5 => cases hd
end
/-! ### the law's end -/
section
variable {P : Program} {w : World} {K : PySem.W.Frag} {mg mb : Str → Option Value} {k : Nat} {fa a : Addr} {sp : Sp} {s₁ : Shared} {vs : List Value} {ns : List Int}
/-- the law's call over one abstract heap -/
theorem lawOn {H : Hp} (KX : K.In s₁.heap) (hns : s₁.heap.Ns mainGlobals mg) (hb : s₁.heap.Ns builtinsNs mb) (hbb : ∀ x : Str, x ≠ "__name__" → mb x = bootBuiltins x) (hlim : s₁.heap.NoLimit) (hg : s₁.gens = #[])
    (ha : s₁.heap.get? a = some { cls := .type "list", data := .seq vs.toArray }) (hr : Room k callerA)
    (F : ∀ base : Heap, K.In base → base.Ns mainGlobals mg → FnG P w K mg base CX0 k fa sp)
    (hO : Only H) (hsp : sp [.ref a] H (fun v _ => v = .bl true) fun _ _ _ => False) (hok : HOk P w H s₁.heap) (hA : ∀ b, H b ≠ none → b = a) (hK : H a ≠ none → K.lookup a = none) :
    codeAny (model P w) callerA (.call (.ref fa) ⟨[.ref a], []⟩) (fun r s' => r = .ok (.ret (.bool true)) ∧ OldK s₁.heap s'.heap ∧ s'.os = s₁.os ∧ AllBare s'.gens) s₁ := by
  have free : ∀ b o, s₁.heap.get? b = some o → (∀ w n, o.data ≠ Data.seq w n) → H b = none := fun b o e hd => Classical.byContradiction fun z => by
    have eb := hA b z
    rw [eb, ha] at e
    exact hd _ _ (congrArg Obj.data (Option.some.inj e)).symm
  have names : ∀ b m, s₁.heap.Ns b m → (hidT s₁.heap H).Ns b m := fun b m hn => by
    obtain ⟨o, es, ep, e, d, r⟩ := hn
    exact ⟨o, es, ep, hidT_get e (free b o e fun w n z => by rw [d] at z; cases z), d, r⟩
  have KB : K.In (hidT s₁.heap H) := fun b o e => hidT_get (KX b o e) (Classical.byContradiction fun z => by
    have eb := hA b z
    subst eb
    rw [hK z] at e
    cases e)
  have md : Mod K mg (hidT s₁.heap H) := ⟨KB, names _ _ hns, ⟨mb, names _ _ hb, hbb⟩, by obtain ⟨mc, h1, h2⟩ := hlim; exact ⟨mc, names _ _ h1, h2⟩⟩
  have nof : ∀ b, b ∉ frs ([] : List Env) := fun b z => by cases z
  have e0 : Env0 P w K mg (hidT s₁.heap H) callerA [] s₁ H := ⟨rfl, md, fun _ _ e => of_hidT e, Nat.le_of_eq (hidT_size _ _), True.intro, fun b z => absurd z (nof b), hok, .of_eq hg⟩
  refine codeAny_mono (F _ KB (names _ _ hns) callerA [] s₁ H [.ref a] [.ref a] _ _ rfl hr e0 (.cons rfl .nil) hsp) fun rs s' z => ?_
  match rs, z with
  | .error _, z => exact z.elim
  | .ok .next, z => exact z.elim
  | .ok .brk, z => exact z.elim
  | .ok .cont, z => exact z.elim
  | .ok (.ret u), z =>
    obtain ⟨v, H', os, bare, un, ok', rv, ev⟩ := z
    cases (show v = V.bl true from ev)
    cases (show u = Value.bool true from rv)
    refine ⟨rfl, OldK.of_keep fun b o e => ?_, os, bare⟩
    rcases hO b with n | ⟨ob, xs, n⟩
    · exact un.keep b o e n (nof b) (by simp)
    · have h1 := (hok b _ n).1
      have h2 := (ok' b _ (un.frzs b ob _ n)).1
      rw [e] at h1
      cases h1
      exact h2
theorem lawG (KX : K.In s₁.heap) (hns : s₁.heap.Ns mainGlobals mg) (hb : s₁.heap.Ns builtinsNs mb) (hbb : ∀ x : Str, x ≠ "__name__" → mb x = bootBuiltins x) (hlim : s₁.heap.NoLimit) (hg : s₁.gens = #[])
    (ha : s₁.heap.get? a = some { cls := .type "list", data := .seq vs.toArray }) (hi : IntsAre vs ns) (hl : ns.length ≤ sizeLine) (hr : Room k callerA)
    (F : ∀ base : Heap, K.In base → base.Ns mainGlobals mg → FnG P w K mg base CX0 k fa sp)
    (hsp : ∀ H : Hp, Only H → SqL K H a (ns.map V.int) → sp [.ref a] H (fun v _ => v = .bl true) fun _ _ _ => False) :
    codeAny (model P w) callerA (.call (.ref fa) ⟨[.ref a], []⟩) (fun r s' => r = .ok (.ret (.bool true)) ∧ OldK s₁.heap s'.heap ∧ s'.os = s₁.os ∧ AllBare s'.gens) s₁ := by
  have rv := vals_ints hi
  cases ek : K.lookup a with
  | some o =>
    have eo : o = _ := Option.some.inj ((KX a o ek).symm.trans ha)
    have O0 : Only (fun _ => none) := fun _ => .inl rfl
    have S0 : SqL K (fun _ => none) a (ns.map V.int) := .inr ⟨o, vs.toArray, _, ek, by rw [eo], by rw [eo], by rw [eo], by rw [List.size_toArray, ← rv.length, List.length_map]; exact hl, by simpa using rv⟩
    exact lawOn (H := fun _ => none) KX hns hb hbb hlim hg ha hr F O0 (hsp _ O0 S0) (fun b u z => by cases z) (fun b z => absurd rfl z) fun z => absurd rfl z
  | none =>
    let H1 : Hp := fun b => if b = a then some (.frz { cls := .type "list", data := .seq vs.toArray } (.lst (ns.map V.int))) else none
    have at_ : H1 a = some (.frz { cls := .type "list", data := .seq vs.toArray } (.lst (ns.map V.int))) := if_pos rfl
    have off : ∀ b, b ≠ a → H1 b = none := fun b z => if_neg z
    have O1 : Only H1 := fun b => by
      by_cases z : b = a
      · exact .inr ⟨_, _, by rw [z]; exact at_⟩
      · exact .inl (off b z)
    refine lawOn (H := H1) KX hns hb hbb hlim hg ha hr F O1 (hsp _ O1 (.inl (.inr ⟨_, at_⟩))) (fun b u z => ?_) (fun b z => Classical.byContradiction fun q => z (off b q)) fun _ => ek
    by_cases q : b = a
    · subst q
      rw [at_] at z
      cases z
      exact ⟨ha, by rw [List.length_map]; exact hl, vs, _, rv, ha⟩
    · rw [off b q] at z
      cases z
end
/-- the goal that the head leaves -/
theorem walkG {l : PySem.W.OpenLaw} {n k : Nat} {q : Program} {loose : List Str} {XP : (Str → Option Value) → Heap → Prop} {YP : World → Heap → Prop} {d : DefRec}
    (hn : l.most = some n) (hn2 : n ≤ sizeLine) (hdf : d.params.defaults = []) (hr : Room k callerA)
    (F : ∀ (w : World) (mg : Str → Option Value) (fa : Addr) (h : Heap), YP w h → h.Ns mainGlobals mg → mg d.name = some (.ref fa) → ∃ (K : PySem.W.Frag) (sp : Sp), K.In h ∧
      (∀ (H : Hp) (a : Addr) (ns : List Int), ns.length ≤ n → Only H → SqL K H a (ns.map V.int) → sp [.ref a] H (fun v _ => v = .bl true) fun _ _ _ => False) ∧
      ∀ base : Heap, K.In base → base.Ns mainGlobals mg → FnG l.prog w K mg base CX0 k fa sp) :
    PySem.W.WalkO q loose XP YP l.row.toRowW d [] (fun f vs => PySem.call f vs) :=
  Att.attach_call hn hdf fun w s₀ s₁ mg mb fa o pm cd doc a vs ns G Y ho hd hcd hmg hobj hints hlen hg => by
    obtain ⟨K, sp, KX, hsp, hF⟩ := F w mg fa _ Y G.T.g hmg
    exact lawG KX G.T.g G.T.b G.T.builtins G.T.nolimit hg hobj hints (Nat.le_trans hlen hn2) hr hF fun H hO hS => hsp H a ns hlen hO hS
end Ver

/-! The mathematics of the numbers modulo a prime: Euclid's way, trial division. -/
namespace Num
/-- trial division by odd divisors from 3 on, up to the root -/
def oddOk (v : Nat) (n : Nat) : Bool := (List.range n).all fun i => v % (3 + 2 * i) != 0
/-- is_prime's answer, for an int -/
def prB (r : Nat → Nat) (v : Int) : Bool :=
  decide (2 ≤ v) && decide (v ≤ 1000000000) && (if v % 2 = 0 then decide (v = 2) else oddOk v.toNat ((r v.toNat + 1 - 3 + 1) / 2))
/-- what the walk asks of a modulus -/
structure Md (p : Int) : Prop where
  lo : 2 ≤ p
  hi : p ≤ 1000000000
  pr : ∀ n : Int, 0 < n → n < p → Int.gcd n p = 1
theorem gcd_one {p b : Nat} (hb : p < b * b) (h : (List.range b).all (fun d => decide (d < 2) || p % d != 0) = true) (n : Nat) (h0 : 0 < n) (h1 : n < p) : Nat.gcd n p = 1 := by
  have small : ∀ d, 2 ≤ d → d < b → ¬ d ∣ p := fun d h2 h3 hd => by
    have q := List.all_eq_true.mp h d (List.mem_range.mpr h3)
    rw [Bool.or_eq_true] at q
    rcases q with q | q
    · have := of_decide_eq_true q
      omega
    · have e : p % d = 0 := Nat.mod_eq_zero_of_dvd hd
      rw [e] at q
      cases q
  have hg : Nat.gcd n p ∣ p := Nat.gcd_dvd_right n p
  have hn : Nat.gcd n p ∣ n := Nat.gcd_dvd_left n p
  have gpos : 0 < Nat.gcd n p := Nat.gcd_pos_of_pos_left _ h0
  have gle : Nat.gcd n p ≤ n := Nat.le_of_dvd h0 hn
  by_cases g1 : Nat.gcd n p = 1
  · exact g1
  · exfalso
    obtain ⟨m, hm⟩ := hg
    have m2 : 2 ≤ m := by
      cases m with
      | zero => omega
      | succ m =>
        cases m with
        | zero => omega
        | succ m => omega
    have hmd : m ∣ p := ⟨Nat.gcd n p, by rw [Nat.mul_comm]; exact hm⟩
    by_cases c : Nat.gcd n p < b
    · exact small _ (by omega) c (Nat.gcd_dvd_right n p)
    · by_cases c2 : m < b
      · exact small m m2 c2 hmd
      · have : b * b ≤ Nat.gcd n p * m := Nat.mul_le_mul (by omega) (by omega)
        omega
theorem md_of (p b : Nat) (h2 : 2 ≤ p) (h9 : p ≤ 1000000000) (hb : p < b * b) (h : (List.range b).all (fun d => decide (d < 2) || p % d != 0) = true) : Md (p : Int) :=
  ⟨by omega, by omega, fun n h0 h1 => by
    have e : n = ((n.toNat : Nat) : Int) := by omega
    rw [e]
    show Nat.gcd _ _ = 1
    exact gcd_one hb h n.toNat (by omega) (by omega)⟩
theorem md2 : Md 2 := md_of 2 2 (by decide) (by decide) (by decide) (by decide)
theorem md3 : Md 3 := md_of 3 2 (by decide) (by decide) (by decide) (by decide)
theorem md5 : Md 5 := md_of 5 3 (by decide) (by decide) (by decide) (by decide)
theorem md7 : Md 7 := md_of 7 3 (by decide) (by decide) (by decide) (by decide)
theorem md101 : Md 101 := md_of 101 11 (by decide) (by decide) (by decide) (by decide)
theorem md1000003 : Md 1000003 := md_of 1000003 1001 (by decide) (by decide) (by decide) (by decide +kernel)

/-! ### Euclid -/
/-- the state of the loop: past and now times the number are rest and left, modulo p -/
structure Eu (p n rest left past now : Int) : Prop where
  l0 : 0 ≤ left
  lp : left < p
  r0 : 0 < rest
  rp : rest ≤ p
  a : p ∣ past * n - rest
  b : p ∣ now * n - left
  g : Int.gcd rest left = 1
theorem Eu.start {p n : Int} (m : Md p) (h0 : 0 < n) (h1 : n < p) : Eu p n p (n % p) 0 1 := by
  have e : n % p = n := Int.emod_eq_of_lt (by omega) h1
  have hlo := m.lo
  refine ⟨by omega, by omega, by omega, Int.le_refl _, ⟨-1, by omega⟩, ⟨0, by omega⟩, ?_⟩
  rw [e, Int.gcd_comm]
  exact m.pr n h0 h1
theorem Eu.step {p n rest left past now : Int} (E : Eu p n rest left past now) (h : left ≠ 0) : Eu p n left (rest - rest / left * left) now (past - rest / left * now) := by
  have hl : 0 < left := by have := E.l0; omega
  have e : rest - rest / left * left = rest % left := by
    have := Int.emod_def rest left
    rw [Int.mul_comm] at this
    omega
  rw [e]
  have m0 : 0 ≤ rest % left := Int.emod_nonneg _ h
  have m1 : rest % left < left := Int.emod_lt_of_pos _ hl
  refine ⟨m0, by have := E.lp; omega, hl, by have := E.lp; omega, E.b, ?_, ?_⟩
  · obtain ⟨x, hx⟩ := E.a
    obtain ⟨y, hy⟩ := E.b
    refine ⟨x - rest / left * y, ?_⟩
    rw [← e]
    have h1 : (past - rest / left * now) * n - (rest - rest / left * left) = (past * n - rest) - rest / left * (now * n - left) := by
      rw [Int.sub_mul, Int.mul_sub, Int.mul_assoc]
      omega
    rw [h1, hx, hy, Int.mul_sub]
    congr 1
    rw [← Int.mul_assoc, ← Int.mul_assoc, Int.mul_comm (rest / left) p]
  · rw [Int.gcd_comm]
    have := E.g
    rw [Int.gcd_comm] at this
    rw [← this]
    show Nat.gcd _ _ = Nat.gcd _ _
    have a1 : (rest % left).natAbs = rest.natAbs % left.natAbs := by
      have hr := E.r0
      have q : ((rest.natAbs % left.natAbs : Nat) : Int) = rest % left := by
        rw [Int.natCast_emod]
        rw [Int.natAbs_of_nonneg (by omega), Int.natAbs_of_nonneg (by omega)]
      omega
    rw [a1, ← Nat.gcd_rec, Nat.gcd_comm]
theorem Eu.times {p n rest left past now : Int} (E : Eu p n rest left past now) (h : left ≠ 0) : 0 ≤ rest / left ∧ rest / left ≤ p := by
  have hl : 0 < left := by have := E.l0; omega
  have hr := E.r0
  have hp := E.rp
  refine ⟨Int.ediv_nonneg (by omega) (by omega), ?_⟩
  have : rest / left ≤ rest := Int.ediv_le_self _ (by omega)
  omega
/-- at the end: the inverse -/
theorem Eu.inv {p n rest past now : Int} (m : Md p) (E : Eu p n rest 0 past now) : 0 ≤ past % p ∧ past % p < p ∧ (past % p * n) % p = 1 := by
  have hlo := m.lo
  have r1 : rest = 1 := by
    have g := E.g
    have h0 := E.r0
    rw [Int.gcd_zero_right] at g
    omega
  have hm : (past * n) % p = 1 := by
    obtain ⟨x, hx⟩ := E.a
    have e : past * n = 1 + p * x := by omega
    rw [e, Int.add_mul_emod_self_left]
    exact Int.emod_eq_of_lt (by omega) (by omega)
  refine ⟨Int.emod_nonneg _ (by omega), Int.emod_lt_of_pos _ (by omega), ?_⟩
  rw [Int.mul_emod, Int.emod_emod, ← Int.mul_emod]
  exact hm
/-- what over tells, times what it divided by -/
theorem over_back {p a b i : Int} (ha : 0 ≤ a ∧ a < p) (hi : (i * b) % p = 1 % p) : (a * i % p * b) % p = a := by
  have e : (a * i % p * b) % p = (a * (i * b)) % p := by
    rw [Int.mul_emod, Int.emod_emod, ← Int.mul_emod, Int.mul_assoc]
  rw [e, Int.mul_emod, hi, ← Int.mul_emod, Int.mul_one]
  exact Int.emod_eq_of_lt ha.1 ha.2
end Num

namespace K00
open PySem PySem.Spec PyProof.Rows L2 Ver
def top (i : Nat) : Stmt := PySem.Challenge.pw_firstanswers_k00_errors.main.body.getD i (.Pass ⟨0, 0, 0, 0⟩)
abbrev s_InvalidPrime___init__ : Stmt := inClass (top 1) 0
abbrev n_InvalidPrime___init__ : List Str := ["self", "value"]
theorem sc_InvalidPrime___init__ : FnScope n_InvalidPrime___init__ ["self", "value"] (defScope s_InvalidPrime___init__) := ⟨rfl, rfl, rfl, by decide +kernel, rfl, by decide +kernel, by decide +kernel⟩
def d_InvalidPrime___init__ : He.DefD := ⟨("InvalidPrime", some "__init__"), "__init__", "InvalidPrime.__init__", defArgs s_InvalidPrime___init__, defBody s_InvalidPrime___init__, defScope s_InvalidPrime___init__, [], []⟩
abbrev s_InvalidNumber___init__ : Stmt := inClass (top 2) 0
abbrev n_InvalidNumber___init__ : List Str := ["self", "value"]
theorem sc_InvalidNumber___init__ : FnScope n_InvalidNumber___init__ ["self", "value"] (defScope s_InvalidNumber___init__) := ⟨rfl, rfl, rfl, by decide +kernel, rfl, by decide +kernel, by decide +kernel⟩
def d_InvalidNumber___init__ : He.DefD := ⟨("InvalidNumber", some "__init__"), "__init__", "InvalidNumber.__init__", defArgs s_InvalidNumber___init__, defBody s_InvalidNumber___init__, defScope s_InvalidNumber___init__, [], []⟩
abbrev s_InvalidLetters___init__ : Stmt := inClass (top 3) 0
abbrev n_InvalidLetters___init__ : List Str := ["self", "value"]
theorem sc_InvalidLetters___init__ : FnScope n_InvalidLetters___init__ ["self", "value"] (defScope s_InvalidLetters___init__) := ⟨rfl, rfl, rfl, by decide +kernel, rfl, by decide +kernel, by decide +kernel⟩
def d_InvalidLetters___init__ : He.DefD := ⟨("InvalidLetters", some "__init__"), "__init__", "InvalidLetters.__init__", defArgs s_InvalidLetters___init__, defBody s_InvalidLetters___init__, defScope s_InvalidLetters___init__, [], []⟩
abbrev s_InvalidCost___init__ : Stmt := inClass (top 4) 0
abbrev n_InvalidCost___init__ : List Str := ["self", "letter"]
theorem sc_InvalidCost___init__ : FnScope n_InvalidCost___init__ ["self", "letter"] (defScope s_InvalidCost___init__) := ⟨rfl, rfl, rfl, by decide +kernel, rfl, by decide +kernel, by decide +kernel⟩
def d_InvalidCost___init__ : He.DefD := ⟨("InvalidCost", some "__init__"), "__init__", "InvalidCost.__init__", defArgs s_InvalidCost___init__, defBody s_InvalidCost___init__, defScope s_InvalidCost___init__, [], []⟩
abbrev s_InvalidWord___init__ : Stmt := inClass (top 5) 0
abbrev n_InvalidWord___init__ : List Str := ["self", "value"]
theorem sc_InvalidWord___init__ : FnScope n_InvalidWord___init__ ["self", "value"] (defScope s_InvalidWord___init__) := ⟨rfl, rfl, rfl, by decide +kernel, rfl, by decide +kernel, by decide +kernel⟩
def d_InvalidWord___init__ : He.DefD := ⟨("InvalidWord", some "__init__"), "__init__", "InvalidWord.__init__", defArgs s_InvalidWord___init__, defBody s_InvalidWord___init__, defScope s_InvalidWord___init__, [], []⟩
abbrev s_InvalidCount___init__ : Stmt := inClass (top 6) 0
abbrev n_InvalidCount___init__ : List Str := ["self", "value"]
theorem sc_InvalidCount___init__ : FnScope n_InvalidCount___init__ ["self", "value"] (defScope s_InvalidCount___init__) := ⟨rfl, rfl, rfl, by decide +kernel, rfl, by decide +kernel, by decide +kernel⟩
def d_InvalidCount___init__ : He.DefD := ⟨("InvalidCount", some "__init__"), "__init__", "InvalidCount.__init__", defArgs s_InvalidCount___init__, defBody s_InvalidCount___init__, defScope s_InvalidCount___init__, [], []⟩
abbrev s_InvalidMachine___init__ : Stmt := inClass (top 7) 0
abbrev n_InvalidMachine___init__ : List Str := ["self", "part"]
theorem sc_InvalidMachine___init__ : FnScope n_InvalidMachine___init__ ["self", "part"] (defScope s_InvalidMachine___init__) := ⟨rfl, rfl, rfl, by decide +kernel, rfl, by decide +kernel, by decide +kernel⟩
def d_InvalidMachine___init__ : He.DefD := ⟨("InvalidMachine", some "__init__"), "__init__", "InvalidMachine.__init__", defArgs s_InvalidMachine___init__, defBody s_InvalidMachine___init__, defScope s_InvalidMachine___init__, [], []⟩
abbrev s_InvalidAnswer___init__ : Stmt := inClass (top 8) 0
abbrev n_InvalidAnswer___init__ : List Str := ["self", "number"]
theorem sc_InvalidAnswer___init__ : FnScope n_InvalidAnswer___init__ ["self", "number"] (defScope s_InvalidAnswer___init__) := ⟨rfl, rfl, rfl, by decide +kernel, rfl, by decide +kernel, by decide +kernel⟩
def d_InvalidAnswer___init__ : He.DefD := ⟨("InvalidAnswer", some "__init__"), "__init__", "InvalidAnswer.__init__", defArgs s_InvalidAnswer___init__, defBody s_InvalidAnswer___init__, defScope s_InvalidAnswer___init__, [], []⟩
abbrev s_InvalidCoordinates___init__ : Stmt := inClass (top 9) 0
abbrev n_InvalidCoordinates___init__ : List Str := ["self"]
theorem sc_InvalidCoordinates___init__ : FnScope n_InvalidCoordinates___init__ ["self"] (defScope s_InvalidCoordinates___init__) := ⟨rfl, rfl, rfl, by decide +kernel, rfl, by decide +kernel, by decide +kernel⟩
def d_InvalidCoordinates___init__ : He.DefD := ⟨("InvalidCoordinates", some "__init__"), "__init__", "InvalidCoordinates.__init__", defArgs s_InvalidCoordinates___init__, defBody s_InvalidCoordinates___init__, defScope s_InvalidCoordinates___init__, [], []⟩
abbrev s_InvalidText___init__ : Stmt := inClass (top 10) 0
abbrev n_InvalidText___init__ : List Str := ["self", "line"]
theorem sc_InvalidText___init__ : FnScope n_InvalidText___init__ ["self", "line"] (defScope s_InvalidText___init__) := ⟨rfl, rfl, rfl, by decide +kernel, rfl, by decide +kernel, by decide +kernel⟩
def d_InvalidText___init__ : He.DefD := ⟨("InvalidText", some "__init__"), "__init__", "InvalidText.__init__", defArgs s_InvalidText___init__, defBody s_InvalidText___init__, defScope s_InvalidText___init__, [], []⟩
abbrev s_InvalidRow___init__ : Stmt := inClass (top 11) 0
abbrev n_InvalidRow___init__ : List Str := ["self", "row"]
theorem sc_InvalidRow___init__ : FnScope n_InvalidRow___init__ ["self", "row"] (defScope s_InvalidRow___init__) := ⟨rfl, rfl, rfl, by decide +kernel, rfl, by decide +kernel, by decide +kernel⟩
def d_InvalidRow___init__ : He.DefD := ⟨("InvalidRow", some "__init__"), "__init__", "InvalidRow.__init__", defArgs s_InvalidRow___init__, defBody s_InvalidRow___init__, defScope s_InvalidRow___init__, [], []⟩
abbrev s_OtherField___init__ : Stmt := inClass (top 12) 0
abbrev n_OtherField___init__ : List Str := ["self"]
theorem sc_OtherField___init__ : FnScope n_OtherField___init__ ["self"] (defScope s_OtherField___init__) := ⟨rfl, rfl, rfl, by decide +kernel, rfl, by decide +kernel, by decide +kernel⟩
def d_OtherField___init__ : He.DefD := ⟨("OtherField", some "__init__"), "__init__", "OtherField.__init__", defArgs s_OtherField___init__, defBody s_OtherField___init__, defScope s_OtherField___init__, [], []⟩
abbrev s_OtherLetters___init__ : Stmt := inClass (top 13) 0
abbrev n_OtherLetters___init__ : List Str := ["self"]
theorem sc_OtherLetters___init__ : FnScope n_OtherLetters___init__ ["self"] (defScope s_OtherLetters___init__) := ⟨rfl, rfl, rfl, by decide +kernel, rfl, by decide +kernel, by decide +kernel⟩
def d_OtherLetters___init__ : He.DefD := ⟨("OtherLetters", some "__init__"), "__init__", "OtherLetters.__init__", defArgs s_OtherLetters___init__, defBody s_OtherLetters___init__, defScope s_OtherLetters___init__, [], []⟩
abbrev s_TooSmall___init__ : Stmt := inClass (top 14) 0
abbrev n_TooSmall___init__ : List Str := ["self", "least_size"]
theorem sc_TooSmall___init__ : FnScope n_TooSmall___init__ ["self", "least_size"] (defScope s_TooSmall___init__) := ⟨rfl, rfl, rfl, by decide +kernel, rfl, by decide +kernel, by decide +kernel⟩
def d_TooSmall___init__ : He.DefD := ⟨("TooSmall", some "__init__"), "__init__", "TooSmall.__init__", defArgs s_TooSmall___init__, defBody s_TooSmall___init__, defScope s_TooSmall___init__, [], []⟩
abbrev s_Contradiction___init__ : Stmt := inClass (top 15) 0
abbrev n_Contradiction___init__ : List Str := ["self", "word"]
theorem sc_Contradiction___init__ : FnScope n_Contradiction___init__ ["self", "word"] (defScope s_Contradiction___init__) := ⟨rfl, rfl, rfl, by decide +kernel, rfl, by decide +kernel, by decide +kernel⟩
def d_Contradiction___init__ : He.DefD := ⟨("Contradiction", some "__init__"), "__init__", "Contradiction.__init__", defArgs s_Contradiction___init__, defBody s_Contradiction___init__, defScope s_Contradiction___init__, [], []⟩
abbrev s_OutOfRange___init__ : Stmt := inClass (top 16) 0
abbrev n_OutOfRange___init__ : List Str := ["self", "value"]
theorem sc_OutOfRange___init__ : FnScope n_OutOfRange___init__ ["self", "value"] (defScope s_OutOfRange___init__) := ⟨rfl, rfl, rfl, by decide +kernel, rfl, by decide +kernel, by decide +kernel⟩
def d_OutOfRange___init__ : He.DefD := ⟨("OutOfRange", some "__init__"), "__init__", "OutOfRange.__init__", defArgs s_OutOfRange___init__, defBody s_OutOfRange___init__, defScope s_OutOfRange___init__, [], []⟩
abbrev s_NotKnown___init__ : Stmt := inClass (top 17) 0
abbrev n_NotKnown___init__ : List Str := ["self", "value"]
theorem sc_NotKnown___init__ : FnScope n_NotKnown___init__ ["self", "value"] (defScope s_NotKnown___init__) := ⟨rfl, rfl, rfl, by decide +kernel, rfl, by decide +kernel, by decide +kernel⟩
def d_NotKnown___init__ : He.DefD := ⟨("NotKnown", some "__init__"), "__init__", "NotKnown.__init__", defArgs s_NotKnown___init__, defBody s_NotKnown___init__, defScope s_NotKnown___init__, [], []⟩
abbrev s_NotNow___init__ : Stmt := inClass (top 18) 0
abbrev n_NotNow___init__ : List Str := ["self", "word"]
theorem sc_NotNow___init__ : FnScope n_NotNow___init__ ["self", "word"] (defScope s_NotNow___init__) := ⟨rfl, rfl, rfl, by decide +kernel, rfl, by decide +kernel, by decide +kernel⟩
def d_NotNow___init__ : He.DefD := ⟨("NotNow", some "__init__"), "__init__", "NotNow.__init__", defArgs s_NotNow___init__, defBody s_NotNow___init__, defScope s_NotNow___init__, [], []⟩
abbrev s_Nothing___init__ : Stmt := inClass (top 19) 0
abbrev n_Nothing___init__ : List Str := ["self"]
theorem sc_Nothing___init__ : FnScope n_Nothing___init__ ["self"] (defScope s_Nothing___init__) := ⟨rfl, rfl, rfl, by decide +kernel, rfl, by decide +kernel, by decide +kernel⟩
def d_Nothing___init__ : He.DefD := ⟨("Nothing", some "__init__"), "__init__", "Nothing.__init__", defArgs s_Nothing___init__, defBody s_Nothing___init__, defScope s_Nothing___init__, [], []⟩
abbrev s_Done___init__ : Stmt := inClass (top 20) 0
abbrev n_Done___init__ : List Str := ["self"]
theorem sc_Done___init__ : FnScope n_Done___init__ ["self"] (defScope s_Done___init__) := ⟨rfl, rfl, rfl, by decide +kernel, rfl, by decide +kernel, by decide +kernel⟩
def d_Done___init__ : He.DefD := ⟨("Done", some "__init__"), "__init__", "Done.__init__", defArgs s_Done___init__, defBody s_Done___init__, defScope s_Done___init__, [], []⟩
abbrev s_NoQuotient___init__ : Stmt := inClass (top 21) 0
abbrev n_NoQuotient___init__ : List Str := ["self"]
theorem sc_NoQuotient___init__ : FnScope n_NoQuotient___init__ ["self"] (defScope s_NoQuotient___init__) := ⟨rfl, rfl, rfl, by decide +kernel, rfl, by decide +kernel, by decide +kernel⟩
def d_NoQuotient___init__ : He.DefD := ⟨("NoQuotient", some "__init__"), "__init__", "NoQuotient.__init__", defArgs s_NoQuotient___init__, defBody s_NoQuotient___init__, defScope s_NoQuotient___init__, [], []⟩
abbrev s_NotFinite___init__ : Stmt := inClass (top 22) 0
abbrev n_NotFinite___init__ : List Str := ["self"]
theorem sc_NotFinite___init__ : FnScope n_NotFinite___init__ ["self"] (defScope s_NotFinite___init__) := ⟨rfl, rfl, rfl, by decide +kernel, rfl, by decide +kernel, by decide +kernel⟩
def d_NotFinite___init__ : He.DefD := ⟨("NotFinite", some "__init__"), "__init__", "NotFinite.__init__", defArgs s_NotFinite___init__, defBody s_NotFinite___init__, defScope s_NotFinite___init__, [], []⟩
abbrev s_TooMany___init__ : Stmt := inClass (top 23) 0
abbrev n_TooMany___init__ : List Str := ["self", "limit"]
theorem sc_TooMany___init__ : FnScope n_TooMany___init__ ["self", "limit"] (defScope s_TooMany___init__) := ⟨rfl, rfl, rfl, by decide +kernel, rfl, by decide +kernel, by decide +kernel⟩
def d_TooMany___init__ : He.DefD := ⟨("TooMany", some "__init__"), "__init__", "TooMany.__init__", defArgs s_TooMany___init__, defBody s_TooMany___init__, defScope s_TooMany___init__, [], []⟩
abbrev s_TooLong___init__ : Stmt := inClass (top 24) 0
abbrev n_TooLong___init__ : List Str := ["self"]
theorem sc_TooLong___init__ : FnScope n_TooLong___init__ ["self"] (defScope s_TooLong___init__) := ⟨rfl, rfl, rfl, by decide +kernel, rfl, by decide +kernel, by decide +kernel⟩
def d_TooLong___init__ : He.DefD := ⟨("TooLong", some "__init__"), "__init__", "TooLong.__init__", defArgs s_TooLong___init__, defBody s_TooLong___init__, defScope s_TooLong___init__, [], []⟩
abbrev s_LimitReached___init__ : Stmt := inClass (top 25) 0
abbrev n_LimitReached___init__ : List Str := ["self", "limit"]
theorem sc_LimitReached___init__ : FnScope n_LimitReached___init__ ["self", "limit"] (defScope s_LimitReached___init__) := ⟨rfl, rfl, rfl, by decide +kernel, rfl, by decide +kernel, by decide +kernel⟩
def d_LimitReached___init__ : He.DefD := ⟨("LimitReached", some "__init__"), "__init__", "LimitReached.__init__", defArgs s_LimitReached___init__, defBody s_LimitReached___init__, defScope s_LimitReached___init__, [], []⟩
abbrev s__law_pen : Stmt := top 27
abbrev n__law_pen : List Str := ["_law_script"]
theorem sc__law_pen : FnScope n__law_pen ["_law_script"] (defScope s__law_pen) := ⟨rfl, rfl, rfl, by decide +kernel, rfl, by decide +kernel, by decide +kernel⟩
def d__law_pen : He.DefD := ⟨("_law_pen", none), "_law_pen", "_law_pen", defArgs s__law_pen, defBody s__law_pen, defScope s__law_pen, [], []⟩
abbrev s__law_draw : Stmt := top 28
abbrev n__law_draw : List Str := ["_law_pen_here", "_law_many", "_law_digit", "_law_place", "_law_cell", "_law_mixed", "_law_drawn"]
theorem sc__law_draw : FnScope n__law_draw ["_law_pen_here", "_law_many"] (defScope s__law_draw) := ⟨rfl, rfl, rfl, by decide +kernel, rfl, by decide +kernel, by decide +kernel⟩
def d__law_draw : He.DefD := ⟨("_law_draw", none), "_law_draw", "_law_draw", defArgs s__law_draw, defBody s__law_draw, defScope s__law_draw, [], []⟩
abbrev s__law_pick : Stmt := top 29
abbrev n__law_pick : List Str := ["_law_pen_here", "_law_options"]
theorem sc__law_pick : FnScope n__law_pick ["_law_pen_here", "_law_options"] (defScope s__law_pick) := ⟨rfl, rfl, rfl, by decide +kernel, rfl, by decide +kernel, by decide +kernel⟩
def d__law_pick : He.DefD := ⟨("_law_pick", none), "_law_pick", "_law_pick", defArgs s__law_pick, defBody s__law_pick, defScope s__law_pick, [], []⟩
abbrev s__law_odd : Stmt := top 30
abbrev n__law_odd : List Str := ["_law_pen_here", "_law_some"]
theorem sc__law_odd : FnScope n__law_odd ["_law_pen_here"] (defScope s__law_odd) := ⟨rfl, rfl, rfl, by decide +kernel, rfl, by decide +kernel, by decide +kernel⟩
def d__law_odd : He.DefD := ⟨("_law_odd", none), "_law_odd", "_law_odd", defArgs s__law_odd, defBody s__law_odd, defScope s__law_odd, [], []⟩
abbrev s__law_filled : Stmt := top 31
abbrev n__law_filled : List Str := ["_law_thing", "_law_found"]
theorem sc__law_filled : FnScope n__law_filled ["_law_thing"] (defScope s__law_filled) := ⟨rfl, rfl, rfl, by decide +kernel, rfl, by decide +kernel, by decide +kernel⟩
def d__law_filled : He.DefD := ⟨("_law_filled", none), "_law_filled", "_law_filled", defArgs s__law_filled, defBody s__law_filled, defScope s__law_filled, [], []⟩
abbrev s__law_bare : Stmt := top 32
abbrev n__law_bare : List Str := ["_law_found"]
theorem sc__law_bare : FnScope n__law_bare [] (defScope s__law_bare) := ⟨rfl, rfl, rfl, by decide +kernel, rfl, by decide +kernel, by decide +kernel⟩
def d__law_bare : He.DefD := ⟨("_law_bare", none), "_law_bare", "_law_bare", defArgs s__law_bare, defBody s__law_bare, defScope s__law_bare, [], []⟩
abbrev s__law_kinds : Stmt := top 33
abbrev n__law_kinds : List Str := ["_law_error", "_law_flags", "_law_names", "_law_name", "_law_flag"]
theorem sc__law_kinds : FnScope n__law_kinds ["_law_error"] (defScope s__law_kinds) := ⟨rfl, rfl, rfl, by decide +kernel, rfl, by decide +kernel, by decide +kernel⟩
def d__law_kinds : He.DefD := ⟨("_law_kinds", none), "_law_kinds", "_law_kinds", defArgs s__law_kinds, defBody s__law_kinds, defScope s__law_kinds, [], []⟩
abbrev s__law_classes : Stmt := top 34
abbrev n__law_classes : List Str := ["_law_error", "_law_found"]
theorem sc__law_classes : FnScope n__law_classes ["_law_error"] (defScope s__law_classes) := ⟨rfl, rfl, rfl, by decide +kernel, rfl, by decide +kernel, by decide +kernel⟩
def d__law_classes : He.DefD := ⟨("_law_classes", none), "_law_classes", "_law_classes", defArgs s__law_classes, defBody s__law_classes, defScope s__law_classes, [], []⟩
abbrev s_law : Stmt := top 35
abbrev n_law : List Str := ["_law_script", "_law_pen_here", "_law_turn", "_law_thing", "_law_error", "_law_named", "_law_placed", "_law_kind"]
theorem sc_law : FnScope n_law ["_law_script"] (defScope s_law) := ⟨rfl, rfl, rfl, by decide +kernel, rfl, by decide +kernel, by decide +kernel⟩
def d_law : He.DefD := ⟨("law", none), "law", "law", defArgs s_law, defBody s_law, defScope s_law, [], []⟩
def fn : List He.DefD := [d_InvalidPrime___init__, d_InvalidNumber___init__, d_InvalidLetters___init__, d_InvalidCost___init__, d_InvalidWord___init__, d_InvalidCount___init__, d_InvalidMachine___init__, d_InvalidAnswer___init__, d_InvalidCoordinates___init__, d_InvalidText___init__, d_InvalidRow___init__, d_OtherField___init__, d_OtherLetters___init__, d_TooSmall___init__, d_Contradiction___init__, d_OutOfRange___init__, d_NotKnown___init__, d_NotNow___init__, d_Nothing___init__, d_Done___init__, d_NoQuotient___init__, d_NotFinite___init__, d_TooMany___init__, d_TooLong___init__, d_LimitReached___init__, d__law_pen, d__law_draw, d__law_pick, d__law_odd, d__law_filled, d__law_bare, d__law_kinds, d__law_classes, d_law]
section
variable {P : Program} {w : World} {K : PySem.W.Frag} {fa : List He.Fa} {mg : Str → Option Value} {base : Heap} {k : Nat} {sp : Sp}
theorem mk_InvalidPrime___init__ (S : He.SaysD fa fn K) (len : ∀ vs H Q E, sp vs H Q E → vs.length = 2)
    (hb : ∀ (cdv : Value) (A : Around) (outer : List Env) (s : Shared) (H : Hp) (vs : List V) (Q : VK) (E : XK), A.guards = some [] → Room k (A.deeper (envOfC "InvalidPrime.__init__" (defScope s_InvalidPrime___init__) s.heap.objs.size (He.ma K (He.ga K "InvalidPrime") "__init__") cdv)) → sp vs H Q E →
      ∃ t, PSs (cxOf CX0 P w K mg base n_InvalidPrime___init__ "InvalidPrime.__init__" (defScope s_InvalidPrime___init__) (He.ma K (He.ga K "InvalidPrime") "__init__") cdv A outer s H E).nox (defBody s_InvalidPrime___init__) t ∧ t { nx := fun _ H' => Q .non H', rt := Q } (start n_InvalidPrime___init__ vs) H) : FnG P w K mg base CX0 (k + 1) (He.ma K (He.ga K "InvalidPrime") "__init__") sp := by
  obtain ⟨fd, F⟩ := S.def_ 0 (d := d_InvalidPrime___init__) rfl
  exact ok0 F sc_InvalidPrime___init__ (F.bindsA fun _ _ _ _ _ _ us hl => match us, hl with | [_, _], _ => rfl) len hb
theorem kp_InvalidPrime___init__ (S : He.SaysD fa fn K) : PySem.W.keepIn K (.ref (He.ma K (He.ga K "InvalidPrime") "__init__")) = true := by
  obtain ⟨fd, F⟩ := S.def_ 0 (d := d_InvalidPrime___init__) rfl
  exact F.kp
theorem mk_InvalidNumber___init__ (S : He.SaysD fa fn K) (len : ∀ vs H Q E, sp vs H Q E → vs.length = 2)
    (hb : ∀ (cdv : Value) (A : Around) (outer : List Env) (s : Shared) (H : Hp) (vs : List V) (Q : VK) (E : XK), A.guards = some [] → Room k (A.deeper (envOfC "InvalidNumber.__init__" (defScope s_InvalidNumber___init__) s.heap.objs.size (He.ma K (He.ga K "InvalidNumber") "__init__") cdv)) → sp vs H Q E →
      ∃ t, PSs (cxOf CX0 P w K mg base n_InvalidNumber___init__ "InvalidNumber.__init__" (defScope s_InvalidNumber___init__) (He.ma K (He.ga K "InvalidNumber") "__init__") cdv A outer s H E).nox (defBody s_InvalidNumber___init__) t ∧ t { nx := fun _ H' => Q .non H', rt := Q } (start n_InvalidNumber___init__ vs) H) : FnG P w K mg base CX0 (k + 1) (He.ma K (He.ga K "InvalidNumber") "__init__") sp := by
  obtain ⟨fd, F⟩ := S.def_ 1 (d := d_InvalidNumber___init__) rfl
  exact ok0 F sc_InvalidNumber___init__ (F.bindsA fun _ _ _ _ _ _ us hl => match us, hl with | [_, _], _ => rfl) len hb
theorem kp_InvalidNumber___init__ (S : He.SaysD fa fn K) : PySem.W.keepIn K (.ref (He.ma K (He.ga K "InvalidNumber") "__init__")) = true := by
  obtain ⟨fd, F⟩ := S.def_ 1 (d := d_InvalidNumber___init__) rfl
  exact F.kp
theorem mk_InvalidLetters___init__ (S : He.SaysD fa fn K) (len : ∀ vs H Q E, sp vs H Q E → vs.length = 2)
    (hb : ∀ (cdv : Value) (A : Around) (outer : List Env) (s : Shared) (H : Hp) (vs : List V) (Q : VK) (E : XK), A.guards = some [] → Room k (A.deeper (envOfC "InvalidLetters.__init__" (defScope s_InvalidLetters___init__) s.heap.objs.size (He.ma K (He.ga K "InvalidLetters") "__init__") cdv)) → sp vs H Q E →
      ∃ t, PSs (cxOf CX0 P w K mg base n_InvalidLetters___init__ "InvalidLetters.__init__" (defScope s_InvalidLetters___init__) (He.ma K (He.ga K "InvalidLetters") "__init__") cdv A outer s H E).nox (defBody s_InvalidLetters___init__) t ∧ t { nx := fun _ H' => Q .non H', rt := Q } (start n_InvalidLetters___init__ vs) H) : FnG P w K mg base CX0 (k + 1) (He.ma K (He.ga K "InvalidLetters") "__init__") sp := by
  obtain ⟨fd, F⟩ := S.def_ 2 (d := d_InvalidLetters___init__) rfl
  exact ok0 F sc_InvalidLetters___init__ (F.bindsA fun _ _ _ _ _ _ us hl => match us, hl with | [_, _], _ => rfl) len hb
theorem kp_InvalidLetters___init__ (S : He.SaysD fa fn K) : PySem.W.keepIn K (.ref (He.ma K (He.ga K "InvalidLetters") "__init__")) = true := by
  obtain ⟨fd, F⟩ := S.def_ 2 (d := d_InvalidLetters___init__) rfl
  exact F.kp
theorem mk_InvalidCost___init__ (S : He.SaysD fa fn K) (len : ∀ vs H Q E, sp vs H Q E → vs.length = 2)
    (hb : ∀ (cdv : Value) (A : Around) (outer : List Env) (s : Shared) (H : Hp) (vs : List V) (Q : VK) (E : XK), A.guards = some [] → Room k (A.deeper (envOfC "InvalidCost.__init__" (defScope s_InvalidCost___init__) s.heap.objs.size (He.ma K (He.ga K "InvalidCost") "__init__") cdv)) → sp vs H Q E →
      ∃ t, PSs (cxOf CX0 P w K mg base n_InvalidCost___init__ "InvalidCost.__init__" (defScope s_InvalidCost___init__) (He.ma K (He.ga K "InvalidCost") "__init__") cdv A outer s H E).nox (defBody s_InvalidCost___init__) t ∧ t { nx := fun _ H' => Q .non H', rt := Q } (start n_InvalidCost___init__ vs) H) : FnG P w K mg base CX0 (k + 1) (He.ma K (He.ga K "InvalidCost") "__init__") sp := by
  obtain ⟨fd, F⟩ := S.def_ 3 (d := d_InvalidCost___init__) rfl
  exact ok0 F sc_InvalidCost___init__ (F.bindsA fun _ _ _ _ _ _ us hl => match us, hl with | [_, _], _ => rfl) len hb
theorem kp_InvalidCost___init__ (S : He.SaysD fa fn K) : PySem.W.keepIn K (.ref (He.ma K (He.ga K "InvalidCost") "__init__")) = true := by
  obtain ⟨fd, F⟩ := S.def_ 3 (d := d_InvalidCost___init__) rfl
  exact F.kp
theorem mk_InvalidWord___init__ (S : He.SaysD fa fn K) (len : ∀ vs H Q E, sp vs H Q E → vs.length = 2)
    (hb : ∀ (cdv : Value) (A : Around) (outer : List Env) (s : Shared) (H : Hp) (vs : List V) (Q : VK) (E : XK), A.guards = some [] → Room k (A.deeper (envOfC "InvalidWord.__init__" (defScope s_InvalidWord___init__) s.heap.objs.size (He.ma K (He.ga K "InvalidWord") "__init__") cdv)) → sp vs H Q E →
      ∃ t, PSs (cxOf CX0 P w K mg base n_InvalidWord___init__ "InvalidWord.__init__" (defScope s_InvalidWord___init__) (He.ma K (He.ga K "InvalidWord") "__init__") cdv A outer s H E).nox (defBody s_InvalidWord___init__) t ∧ t { nx := fun _ H' => Q .non H', rt := Q } (start n_InvalidWord___init__ vs) H) : FnG P w K mg base CX0 (k + 1) (He.ma K (He.ga K "InvalidWord") "__init__") sp := by
  obtain ⟨fd, F⟩ := S.def_ 4 (d := d_InvalidWord___init__) rfl
  exact ok0 F sc_InvalidWord___init__ (F.bindsA fun _ _ _ _ _ _ us hl => match us, hl with | [_, _], _ => rfl) len hb
theorem kp_InvalidWord___init__ (S : He.SaysD fa fn K) : PySem.W.keepIn K (.ref (He.ma K (He.ga K "InvalidWord") "__init__")) = true := by
  obtain ⟨fd, F⟩ := S.def_ 4 (d := d_InvalidWord___init__) rfl
  exact F.kp
theorem mk_InvalidCount___init__ (S : He.SaysD fa fn K) (len : ∀ vs H Q E, sp vs H Q E → vs.length = 2)
    (hb : ∀ (cdv : Value) (A : Around) (outer : List Env) (s : Shared) (H : Hp) (vs : List V) (Q : VK) (E : XK), A.guards = some [] → Room k (A.deeper (envOfC "InvalidCount.__init__" (defScope s_InvalidCount___init__) s.heap.objs.size (He.ma K (He.ga K "InvalidCount") "__init__") cdv)) → sp vs H Q E →
      ∃ t, PSs (cxOf CX0 P w K mg base n_InvalidCount___init__ "InvalidCount.__init__" (defScope s_InvalidCount___init__) (He.ma K (He.ga K "InvalidCount") "__init__") cdv A outer s H E).nox (defBody s_InvalidCount___init__) t ∧ t { nx := fun _ H' => Q .non H', rt := Q } (start n_InvalidCount___init__ vs) H) : FnG P w K mg base CX0 (k + 1) (He.ma K (He.ga K "InvalidCount") "__init__") sp := by
  obtain ⟨fd, F⟩ := S.def_ 5 (d := d_InvalidCount___init__) rfl
  exact ok0 F sc_InvalidCount___init__ (F.bindsA fun _ _ _ _ _ _ us hl => match us, hl with | [_, _], _ => rfl) len hb
theorem kp_InvalidCount___init__ (S : He.SaysD fa fn K) : PySem.W.keepIn K (.ref (He.ma K (He.ga K "InvalidCount") "__init__")) = true := by
  obtain ⟨fd, F⟩ := S.def_ 5 (d := d_InvalidCount___init__) rfl
  exact F.kp
theorem mk_InvalidMachine___init__ (S : He.SaysD fa fn K) (len : ∀ vs H Q E, sp vs H Q E → vs.length = 2)
    (hb : ∀ (cdv : Value) (A : Around) (outer : List Env) (s : Shared) (H : Hp) (vs : List V) (Q : VK) (E : XK), A.guards = some [] → Room k (A.deeper (envOfC "InvalidMachine.__init__" (defScope s_InvalidMachine___init__) s.heap.objs.size (He.ma K (He.ga K "InvalidMachine") "__init__") cdv)) → sp vs H Q E →
      ∃ t, PSs (cxOf CX0 P w K mg base n_InvalidMachine___init__ "InvalidMachine.__init__" (defScope s_InvalidMachine___init__) (He.ma K (He.ga K "InvalidMachine") "__init__") cdv A outer s H E).nox (defBody s_InvalidMachine___init__) t ∧ t { nx := fun _ H' => Q .non H', rt := Q } (start n_InvalidMachine___init__ vs) H) : FnG P w K mg base CX0 (k + 1) (He.ma K (He.ga K "InvalidMachine") "__init__") sp := by
  obtain ⟨fd, F⟩ := S.def_ 6 (d := d_InvalidMachine___init__) rfl
  exact ok0 F sc_InvalidMachine___init__ (F.bindsA fun _ _ _ _ _ _ us hl => match us, hl with | [_, _], _ => rfl) len hb
theorem kp_InvalidMachine___init__ (S : He.SaysD fa fn K) : PySem.W.keepIn K (.ref (He.ma K (He.ga K "InvalidMachine") "__init__")) = true := by
  obtain ⟨fd, F⟩ := S.def_ 6 (d := d_InvalidMachine___init__) rfl
  exact F.kp
theorem mk_InvalidAnswer___init__ (S : He.SaysD fa fn K) (len : ∀ vs H Q E, sp vs H Q E → vs.length = 2)
    (hb : ∀ (cdv : Value) (A : Around) (outer : List Env) (s : Shared) (H : Hp) (vs : List V) (Q : VK) (E : XK), A.guards = some [] → Room k (A.deeper (envOfC "InvalidAnswer.__init__" (defScope s_InvalidAnswer___init__) s.heap.objs.size (He.ma K (He.ga K "InvalidAnswer") "__init__") cdv)) → sp vs H Q E →
      ∃ t, PSs (cxOf CX0 P w K mg base n_InvalidAnswer___init__ "InvalidAnswer.__init__" (defScope s_InvalidAnswer___init__) (He.ma K (He.ga K "InvalidAnswer") "__init__") cdv A outer s H E).nox (defBody s_InvalidAnswer___init__) t ∧ t { nx := fun _ H' => Q .non H', rt := Q } (start n_InvalidAnswer___init__ vs) H) : FnG P w K mg base CX0 (k + 1) (He.ma K (He.ga K "InvalidAnswer") "__init__") sp := by
  obtain ⟨fd, F⟩ := S.def_ 7 (d := d_InvalidAnswer___init__) rfl
  exact ok0 F sc_InvalidAnswer___init__ (F.bindsA fun _ _ _ _ _ _ us hl => match us, hl with | [_, _], _ => rfl) len hb
theorem kp_InvalidAnswer___init__ (S : He.SaysD fa fn K) : PySem.W.keepIn K (.ref (He.ma K (He.ga K "InvalidAnswer") "__init__")) = true := by
  obtain ⟨fd, F⟩ := S.def_ 7 (d := d_InvalidAnswer___init__) rfl
  exact F.kp
theorem mk_InvalidCoordinates___init__ (S : He.SaysD fa fn K) (len : ∀ vs H Q E, sp vs H Q E → vs.length = 1)
    (hb : ∀ (cdv : Value) (A : Around) (outer : List Env) (s : Shared) (H : Hp) (vs : List V) (Q : VK) (E : XK), A.guards = some [] → Room k (A.deeper (envOfC "InvalidCoordinates.__init__" (defScope s_InvalidCoordinates___init__) s.heap.objs.size (He.ma K (He.ga K "InvalidCoordinates") "__init__") cdv)) → sp vs H Q E →
      ∃ t, PSs (cxOf CX0 P w K mg base n_InvalidCoordinates___init__ "InvalidCoordinates.__init__" (defScope s_InvalidCoordinates___init__) (He.ma K (He.ga K "InvalidCoordinates") "__init__") cdv A outer s H E).nox (defBody s_InvalidCoordinates___init__) t ∧ t { nx := fun _ H' => Q .non H', rt := Q } (start n_InvalidCoordinates___init__ vs) H) : FnG P w K mg base CX0 (k + 1) (He.ma K (He.ga K "InvalidCoordinates") "__init__") sp := by
  obtain ⟨fd, F⟩ := S.def_ 8 (d := d_InvalidCoordinates___init__) rfl
  exact ok0 F sc_InvalidCoordinates___init__ (F.bindsA fun _ _ _ _ _ _ us hl => match us, hl with | [_], _ => rfl) len hb
theorem kp_InvalidCoordinates___init__ (S : He.SaysD fa fn K) : PySem.W.keepIn K (.ref (He.ma K (He.ga K "InvalidCoordinates") "__init__")) = true := by
  obtain ⟨fd, F⟩ := S.def_ 8 (d := d_InvalidCoordinates___init__) rfl
  exact F.kp
theorem mk_InvalidText___init__ (S : He.SaysD fa fn K) (len : ∀ vs H Q E, sp vs H Q E → vs.length = 2)
    (hb : ∀ (cdv : Value) (A : Around) (outer : List Env) (s : Shared) (H : Hp) (vs : List V) (Q : VK) (E : XK), A.guards = some [] → Room k (A.deeper (envOfC "InvalidText.__init__" (defScope s_InvalidText___init__) s.heap.objs.size (He.ma K (He.ga K "InvalidText") "__init__") cdv)) → sp vs H Q E →
      ∃ t, PSs (cxOf CX0 P w K mg base n_InvalidText___init__ "InvalidText.__init__" (defScope s_InvalidText___init__) (He.ma K (He.ga K "InvalidText") "__init__") cdv A outer s H E).nox (defBody s_InvalidText___init__) t ∧ t { nx := fun _ H' => Q .non H', rt := Q } (start n_InvalidText___init__ vs) H) : FnG P w K mg base CX0 (k + 1) (He.ma K (He.ga K "InvalidText") "__init__") sp := by
  obtain ⟨fd, F⟩ := S.def_ 9 (d := d_InvalidText___init__) rfl
  exact ok0 F sc_InvalidText___init__ (F.bindsA fun _ _ _ _ _ _ us hl => match us, hl with | [_, _], _ => rfl) len hb
theorem kp_InvalidText___init__ (S : He.SaysD fa fn K) : PySem.W.keepIn K (.ref (He.ma K (He.ga K "InvalidText") "__init__")) = true := by
  obtain ⟨fd, F⟩ := S.def_ 9 (d := d_InvalidText___init__) rfl
  exact F.kp
theorem mk_InvalidRow___init__ (S : He.SaysD fa fn K) (len : ∀ vs H Q E, sp vs H Q E → vs.length = 2)
    (hb : ∀ (cdv : Value) (A : Around) (outer : List Env) (s : Shared) (H : Hp) (vs : List V) (Q : VK) (E : XK), A.guards = some [] → Room k (A.deeper (envOfC "InvalidRow.__init__" (defScope s_InvalidRow___init__) s.heap.objs.size (He.ma K (He.ga K "InvalidRow") "__init__") cdv)) → sp vs H Q E →
      ∃ t, PSs (cxOf CX0 P w K mg base n_InvalidRow___init__ "InvalidRow.__init__" (defScope s_InvalidRow___init__) (He.ma K (He.ga K "InvalidRow") "__init__") cdv A outer s H E).nox (defBody s_InvalidRow___init__) t ∧ t { nx := fun _ H' => Q .non H', rt := Q } (start n_InvalidRow___init__ vs) H) : FnG P w K mg base CX0 (k + 1) (He.ma K (He.ga K "InvalidRow") "__init__") sp := by
  obtain ⟨fd, F⟩ := S.def_ 10 (d := d_InvalidRow___init__) rfl
  exact ok0 F sc_InvalidRow___init__ (F.bindsA fun _ _ _ _ _ _ us hl => match us, hl with | [_, _], _ => rfl) len hb
theorem kp_InvalidRow___init__ (S : He.SaysD fa fn K) : PySem.W.keepIn K (.ref (He.ma K (He.ga K "InvalidRow") "__init__")) = true := by
  obtain ⟨fd, F⟩ := S.def_ 10 (d := d_InvalidRow___init__) rfl
  exact F.kp
theorem mk_OtherField___init__ (S : He.SaysD fa fn K) (len : ∀ vs H Q E, sp vs H Q E → vs.length = 1)
    (hb : ∀ (cdv : Value) (A : Around) (outer : List Env) (s : Shared) (H : Hp) (vs : List V) (Q : VK) (E : XK), A.guards = some [] → Room k (A.deeper (envOfC "OtherField.__init__" (defScope s_OtherField___init__) s.heap.objs.size (He.ma K (He.ga K "OtherField") "__init__") cdv)) → sp vs H Q E →
      ∃ t, PSs (cxOf CX0 P w K mg base n_OtherField___init__ "OtherField.__init__" (defScope s_OtherField___init__) (He.ma K (He.ga K "OtherField") "__init__") cdv A outer s H E).nox (defBody s_OtherField___init__) t ∧ t { nx := fun _ H' => Q .non H', rt := Q } (start n_OtherField___init__ vs) H) : FnG P w K mg base CX0 (k + 1) (He.ma K (He.ga K "OtherField") "__init__") sp := by
  obtain ⟨fd, F⟩ := S.def_ 11 (d := d_OtherField___init__) rfl
  exact ok0 F sc_OtherField___init__ (F.bindsA fun _ _ _ _ _ _ us hl => match us, hl with | [_], _ => rfl) len hb
theorem kp_OtherField___init__ (S : He.SaysD fa fn K) : PySem.W.keepIn K (.ref (He.ma K (He.ga K "OtherField") "__init__")) = true := by
  obtain ⟨fd, F⟩ := S.def_ 11 (d := d_OtherField___init__) rfl
  exact F.kp
theorem mk_OtherLetters___init__ (S : He.SaysD fa fn K) (len : ∀ vs H Q E, sp vs H Q E → vs.length = 1)
    (hb : ∀ (cdv : Value) (A : Around) (outer : List Env) (s : Shared) (H : Hp) (vs : List V) (Q : VK) (E : XK), A.guards = some [] → Room k (A.deeper (envOfC "OtherLetters.__init__" (defScope s_OtherLetters___init__) s.heap.objs.size (He.ma K (He.ga K "OtherLetters") "__init__") cdv)) → sp vs H Q E →
      ∃ t, PSs (cxOf CX0 P w K mg base n_OtherLetters___init__ "OtherLetters.__init__" (defScope s_OtherLetters___init__) (He.ma K (He.ga K "OtherLetters") "__init__") cdv A outer s H E).nox (defBody s_OtherLetters___init__) t ∧ t { nx := fun _ H' => Q .non H', rt := Q } (start n_OtherLetters___init__ vs) H) : FnG P w K mg base CX0 (k + 1) (He.ma K (He.ga K "OtherLetters") "__init__") sp := by
  obtain ⟨fd, F⟩ := S.def_ 12 (d := d_OtherLetters___init__) rfl
  exact ok0 F sc_OtherLetters___init__ (F.bindsA fun _ _ _ _ _ _ us hl => match us, hl with | [_], _ => rfl) len hb
theorem kp_OtherLetters___init__ (S : He.SaysD fa fn K) : PySem.W.keepIn K (.ref (He.ma K (He.ga K "OtherLetters") "__init__")) = true := by
  obtain ⟨fd, F⟩ := S.def_ 12 (d := d_OtherLetters___init__) rfl
  exact F.kp
theorem mk_TooSmall___init__ (S : He.SaysD fa fn K) (len : ∀ vs H Q E, sp vs H Q E → vs.length = 2)
    (hb : ∀ (cdv : Value) (A : Around) (outer : List Env) (s : Shared) (H : Hp) (vs : List V) (Q : VK) (E : XK), A.guards = some [] → Room k (A.deeper (envOfC "TooSmall.__init__" (defScope s_TooSmall___init__) s.heap.objs.size (He.ma K (He.ga K "TooSmall") "__init__") cdv)) → sp vs H Q E →
      ∃ t, PSs (cxOf CX0 P w K mg base n_TooSmall___init__ "TooSmall.__init__" (defScope s_TooSmall___init__) (He.ma K (He.ga K "TooSmall") "__init__") cdv A outer s H E).nox (defBody s_TooSmall___init__) t ∧ t { nx := fun _ H' => Q .non H', rt := Q } (start n_TooSmall___init__ vs) H) : FnG P w K mg base CX0 (k + 1) (He.ma K (He.ga K "TooSmall") "__init__") sp := by
  obtain ⟨fd, F⟩ := S.def_ 13 (d := d_TooSmall___init__) rfl
  exact ok0 F sc_TooSmall___init__ (F.bindsA fun _ _ _ _ _ _ us hl => match us, hl with | [_, _], _ => rfl) len hb
theorem kp_TooSmall___init__ (S : He.SaysD fa fn K) : PySem.W.keepIn K (.ref (He.ma K (He.ga K "TooSmall") "__init__")) = true := by
  obtain ⟨fd, F⟩ := S.def_ 13 (d := d_TooSmall___init__) rfl
  exact F.kp
theorem mk_Contradiction___init__ (S : He.SaysD fa fn K) (len : ∀ vs H Q E, sp vs H Q E → vs.length = 2)
    (hb : ∀ (cdv : Value) (A : Around) (outer : List Env) (s : Shared) (H : Hp) (vs : List V) (Q : VK) (E : XK), A.guards = some [] → Room k (A.deeper (envOfC "Contradiction.__init__" (defScope s_Contradiction___init__) s.heap.objs.size (He.ma K (He.ga K "Contradiction") "__init__") cdv)) → sp vs H Q E →
      ∃ t, PSs (cxOf CX0 P w K mg base n_Contradiction___init__ "Contradiction.__init__" (defScope s_Contradiction___init__) (He.ma K (He.ga K "Contradiction") "__init__") cdv A outer s H E).nox (defBody s_Contradiction___init__) t ∧ t { nx := fun _ H' => Q .non H', rt := Q } (start n_Contradiction___init__ vs) H) : FnG P w K mg base CX0 (k + 1) (He.ma K (He.ga K "Contradiction") "__init__") sp := by
  obtain ⟨fd, F⟩ := S.def_ 14 (d := d_Contradiction___init__) rfl
  exact ok0 F sc_Contradiction___init__ (F.bindsA fun _ _ _ _ _ _ us hl => match us, hl with | [_, _], _ => rfl) len hb
theorem kp_Contradiction___init__ (S : He.SaysD fa fn K) : PySem.W.keepIn K (.ref (He.ma K (He.ga K "Contradiction") "__init__")) = true := by
  obtain ⟨fd, F⟩ := S.def_ 14 (d := d_Contradiction___init__) rfl
  exact F.kp
theorem mk_OutOfRange___init__ (S : He.SaysD fa fn K) (len : ∀ vs H Q E, sp vs H Q E → vs.length = 2)
    (hb : ∀ (cdv : Value) (A : Around) (outer : List Env) (s : Shared) (H : Hp) (vs : List V) (Q : VK) (E : XK), A.guards = some [] → Room k (A.deeper (envOfC "OutOfRange.__init__" (defScope s_OutOfRange___init__) s.heap.objs.size (He.ma K (He.ga K "OutOfRange") "__init__") cdv)) → sp vs H Q E →
      ∃ t, PSs (cxOf CX0 P w K mg base n_OutOfRange___init__ "OutOfRange.__init__" (defScope s_OutOfRange___init__) (He.ma K (He.ga K "OutOfRange") "__init__") cdv A outer s H E).nox (defBody s_OutOfRange___init__) t ∧ t { nx := fun _ H' => Q .non H', rt := Q } (start n_OutOfRange___init__ vs) H) : FnG P w K mg base CX0 (k + 1) (He.ma K (He.ga K "OutOfRange") "__init__") sp := by
  obtain ⟨fd, F⟩ := S.def_ 15 (d := d_OutOfRange___init__) rfl
  exact ok0 F sc_OutOfRange___init__ (F.bindsA fun _ _ _ _ _ _ us hl => match us, hl with | [_, _], _ => rfl) len hb
theorem kp_OutOfRange___init__ (S : He.SaysD fa fn K) : PySem.W.keepIn K (.ref (He.ma K (He.ga K "OutOfRange") "__init__")) = true := by
  obtain ⟨fd, F⟩ := S.def_ 15 (d := d_OutOfRange___init__) rfl
  exact F.kp
theorem mk_NotKnown___init__ (S : He.SaysD fa fn K) (len : ∀ vs H Q E, sp vs H Q E → vs.length = 2)
    (hb : ∀ (cdv : Value) (A : Around) (outer : List Env) (s : Shared) (H : Hp) (vs : List V) (Q : VK) (E : XK), A.guards = some [] → Room k (A.deeper (envOfC "NotKnown.__init__" (defScope s_NotKnown___init__) s.heap.objs.size (He.ma K (He.ga K "NotKnown") "__init__") cdv)) → sp vs H Q E →
      ∃ t, PSs (cxOf CX0 P w K mg base n_NotKnown___init__ "NotKnown.__init__" (defScope s_NotKnown___init__) (He.ma K (He.ga K "NotKnown") "__init__") cdv A outer s H E).nox (defBody s_NotKnown___init__) t ∧ t { nx := fun _ H' => Q .non H', rt := Q } (start n_NotKnown___init__ vs) H) : FnG P w K mg base CX0 (k + 1) (He.ma K (He.ga K "NotKnown") "__init__") sp := by
  obtain ⟨fd, F⟩ := S.def_ 16 (d := d_NotKnown___init__) rfl
  exact ok0 F sc_NotKnown___init__ (F.bindsA fun _ _ _ _ _ _ us hl => match us, hl with | [_, _], _ => rfl) len hb
theorem kp_NotKnown___init__ (S : He.SaysD fa fn K) : PySem.W.keepIn K (.ref (He.ma K (He.ga K "NotKnown") "__init__")) = true := by
  obtain ⟨fd, F⟩ := S.def_ 16 (d := d_NotKnown___init__) rfl
  exact F.kp
theorem mk_NotNow___init__ (S : He.SaysD fa fn K) (len : ∀ vs H Q E, sp vs H Q E → vs.length = 2)
    (hb : ∀ (cdv : Value) (A : Around) (outer : List Env) (s : Shared) (H : Hp) (vs : List V) (Q : VK) (E : XK), A.guards = some [] → Room k (A.deeper (envOfC "NotNow.__init__" (defScope s_NotNow___init__) s.heap.objs.size (He.ma K (He.ga K "NotNow") "__init__") cdv)) → sp vs H Q E →
      ∃ t, PSs (cxOf CX0 P w K mg base n_NotNow___init__ "NotNow.__init__" (defScope s_NotNow___init__) (He.ma K (He.ga K "NotNow") "__init__") cdv A outer s H E).nox (defBody s_NotNow___init__) t ∧ t { nx := fun _ H' => Q .non H', rt := Q } (start n_NotNow___init__ vs) H) : FnG P w K mg base CX0 (k + 1) (He.ma K (He.ga K "NotNow") "__init__") sp := by
  obtain ⟨fd, F⟩ := S.def_ 17 (d := d_NotNow___init__) rfl
  exact ok0 F sc_NotNow___init__ (F.bindsA fun _ _ _ _ _ _ us hl => match us, hl with | [_, _], _ => rfl) len hb
theorem kp_NotNow___init__ (S : He.SaysD fa fn K) : PySem.W.keepIn K (.ref (He.ma K (He.ga K "NotNow") "__init__")) = true := by
  obtain ⟨fd, F⟩ := S.def_ 17 (d := d_NotNow___init__) rfl
  exact F.kp
theorem mk_Nothing___init__ (S : He.SaysD fa fn K) (len : ∀ vs H Q E, sp vs H Q E → vs.length = 1)
    (hb : ∀ (cdv : Value) (A : Around) (outer : List Env) (s : Shared) (H : Hp) (vs : List V) (Q : VK) (E : XK), A.guards = some [] → Room k (A.deeper (envOfC "Nothing.__init__" (defScope s_Nothing___init__) s.heap.objs.size (He.ma K (He.ga K "Nothing") "__init__") cdv)) → sp vs H Q E →
      ∃ t, PSs (cxOf CX0 P w K mg base n_Nothing___init__ "Nothing.__init__" (defScope s_Nothing___init__) (He.ma K (He.ga K "Nothing") "__init__") cdv A outer s H E).nox (defBody s_Nothing___init__) t ∧ t { nx := fun _ H' => Q .non H', rt := Q } (start n_Nothing___init__ vs) H) : FnG P w K mg base CX0 (k + 1) (He.ma K (He.ga K "Nothing") "__init__") sp := by
  obtain ⟨fd, F⟩ := S.def_ 18 (d := d_Nothing___init__) rfl
  exact ok0 F sc_Nothing___init__ (F.bindsA fun _ _ _ _ _ _ us hl => match us, hl with | [_], _ => rfl) len hb
theorem kp_Nothing___init__ (S : He.SaysD fa fn K) : PySem.W.keepIn K (.ref (He.ma K (He.ga K "Nothing") "__init__")) = true := by
  obtain ⟨fd, F⟩ := S.def_ 18 (d := d_Nothing___init__) rfl
  exact F.kp
theorem mk_Done___init__ (S : He.SaysD fa fn K) (len : ∀ vs H Q E, sp vs H Q E → vs.length = 1)
    (hb : ∀ (cdv : Value) (A : Around) (outer : List Env) (s : Shared) (H : Hp) (vs : List V) (Q : VK) (E : XK), A.guards = some [] → Room k (A.deeper (envOfC "Done.__init__" (defScope s_Done___init__) s.heap.objs.size (He.ma K (He.ga K "Done") "__init__") cdv)) → sp vs H Q E →
      ∃ t, PSs (cxOf CX0 P w K mg base n_Done___init__ "Done.__init__" (defScope s_Done___init__) (He.ma K (He.ga K "Done") "__init__") cdv A outer s H E).nox (defBody s_Done___init__) t ∧ t { nx := fun _ H' => Q .non H', rt := Q } (start n_Done___init__ vs) H) : FnG P w K mg base CX0 (k + 1) (He.ma K (He.ga K "Done") "__init__") sp := by
  obtain ⟨fd, F⟩ := S.def_ 19 (d := d_Done___init__) rfl
  exact ok0 F sc_Done___init__ (F.bindsA fun _ _ _ _ _ _ us hl => match us, hl with | [_], _ => rfl) len hb
theorem kp_Done___init__ (S : He.SaysD fa fn K) : PySem.W.keepIn K (.ref (He.ma K (He.ga K "Done") "__init__")) = true := by
  obtain ⟨fd, F⟩ := S.def_ 19 (d := d_Done___init__) rfl
  exact F.kp
theorem mk_NoQuotient___init__ (S : He.SaysD fa fn K) (len : ∀ vs H Q E, sp vs H Q E → vs.length = 1)
    (hb : ∀ (cdv : Value) (A : Around) (outer : List Env) (s : Shared) (H : Hp) (vs : List V) (Q : VK) (E : XK), A.guards = some [] → Room k (A.deeper (envOfC "NoQuotient.__init__" (defScope s_NoQuotient___init__) s.heap.objs.size (He.ma K (He.ga K "NoQuotient") "__init__") cdv)) → sp vs H Q E →
      ∃ t, PSs (cxOf CX0 P w K mg base n_NoQuotient___init__ "NoQuotient.__init__" (defScope s_NoQuotient___init__) (He.ma K (He.ga K "NoQuotient") "__init__") cdv A outer s H E).nox (defBody s_NoQuotient___init__) t ∧ t { nx := fun _ H' => Q .non H', rt := Q } (start n_NoQuotient___init__ vs) H) : FnG P w K mg base CX0 (k + 1) (He.ma K (He.ga K "NoQuotient") "__init__") sp := by
  obtain ⟨fd, F⟩ := S.def_ 20 (d := d_NoQuotient___init__) rfl
  exact ok0 F sc_NoQuotient___init__ (F.bindsA fun _ _ _ _ _ _ us hl => match us, hl with | [_], _ => rfl) len hb
theorem kp_NoQuotient___init__ (S : He.SaysD fa fn K) : PySem.W.keepIn K (.ref (He.ma K (He.ga K "NoQuotient") "__init__")) = true := by
  obtain ⟨fd, F⟩ := S.def_ 20 (d := d_NoQuotient___init__) rfl
  exact F.kp
theorem mk_NotFinite___init__ (S : He.SaysD fa fn K) (len : ∀ vs H Q E, sp vs H Q E → vs.length = 1)
    (hb : ∀ (cdv : Value) (A : Around) (outer : List Env) (s : Shared) (H : Hp) (vs : List V) (Q : VK) (E : XK), A.guards = some [] → Room k (A.deeper (envOfC "NotFinite.__init__" (defScope s_NotFinite___init__) s.heap.objs.size (He.ma K (He.ga K "NotFinite") "__init__") cdv)) → sp vs H Q E →
      ∃ t, PSs (cxOf CX0 P w K mg base n_NotFinite___init__ "NotFinite.__init__" (defScope s_NotFinite___init__) (He.ma K (He.ga K "NotFinite") "__init__") cdv A outer s H E).nox (defBody s_NotFinite___init__) t ∧ t { nx := fun _ H' => Q .non H', rt := Q } (start n_NotFinite___init__ vs) H) : FnG P w K mg base CX0 (k + 1) (He.ma K (He.ga K "NotFinite") "__init__") sp := by
  obtain ⟨fd, F⟩ := S.def_ 21 (d := d_NotFinite___init__) rfl
  exact ok0 F sc_NotFinite___init__ (F.bindsA fun _ _ _ _ _ _ us hl => match us, hl with | [_], _ => rfl) len hb
theorem kp_NotFinite___init__ (S : He.SaysD fa fn K) : PySem.W.keepIn K (.ref (He.ma K (He.ga K "NotFinite") "__init__")) = true := by
  obtain ⟨fd, F⟩ := S.def_ 21 (d := d_NotFinite___init__) rfl
  exact F.kp
theorem mk_TooMany___init__ (S : He.SaysD fa fn K) (len : ∀ vs H Q E, sp vs H Q E → vs.length = 2)
    (hb : ∀ (cdv : Value) (A : Around) (outer : List Env) (s : Shared) (H : Hp) (vs : List V) (Q : VK) (E : XK), A.guards = some [] → Room k (A.deeper (envOfC "TooMany.__init__" (defScope s_TooMany___init__) s.heap.objs.size (He.ma K (He.ga K "TooMany") "__init__") cdv)) → sp vs H Q E →
      ∃ t, PSs (cxOf CX0 P w K mg base n_TooMany___init__ "TooMany.__init__" (defScope s_TooMany___init__) (He.ma K (He.ga K "TooMany") "__init__") cdv A outer s H E).nox (defBody s_TooMany___init__) t ∧ t { nx := fun _ H' => Q .non H', rt := Q } (start n_TooMany___init__ vs) H) : FnG P w K mg base CX0 (k + 1) (He.ma K (He.ga K "TooMany") "__init__") sp := by
  obtain ⟨fd, F⟩ := S.def_ 22 (d := d_TooMany___init__) rfl
  exact ok0 F sc_TooMany___init__ (F.bindsA fun _ _ _ _ _ _ us hl => match us, hl with | [_, _], _ => rfl) len hb
theorem kp_TooMany___init__ (S : He.SaysD fa fn K) : PySem.W.keepIn K (.ref (He.ma K (He.ga K "TooMany") "__init__")) = true := by
  obtain ⟨fd, F⟩ := S.def_ 22 (d := d_TooMany___init__) rfl
  exact F.kp
theorem mk_TooLong___init__ (S : He.SaysD fa fn K) (len : ∀ vs H Q E, sp vs H Q E → vs.length = 1)
    (hb : ∀ (cdv : Value) (A : Around) (outer : List Env) (s : Shared) (H : Hp) (vs : List V) (Q : VK) (E : XK), A.guards = some [] → Room k (A.deeper (envOfC "TooLong.__init__" (defScope s_TooLong___init__) s.heap.objs.size (He.ma K (He.ga K "TooLong") "__init__") cdv)) → sp vs H Q E →
      ∃ t, PSs (cxOf CX0 P w K mg base n_TooLong___init__ "TooLong.__init__" (defScope s_TooLong___init__) (He.ma K (He.ga K "TooLong") "__init__") cdv A outer s H E).nox (defBody s_TooLong___init__) t ∧ t { nx := fun _ H' => Q .non H', rt := Q } (start n_TooLong___init__ vs) H) : FnG P w K mg base CX0 (k + 1) (He.ma K (He.ga K "TooLong") "__init__") sp := by
  obtain ⟨fd, F⟩ := S.def_ 23 (d := d_TooLong___init__) rfl
  exact ok0 F sc_TooLong___init__ (F.bindsA fun _ _ _ _ _ _ us hl => match us, hl with | [_], _ => rfl) len hb
theorem kp_TooLong___init__ (S : He.SaysD fa fn K) : PySem.W.keepIn K (.ref (He.ma K (He.ga K "TooLong") "__init__")) = true := by
  obtain ⟨fd, F⟩ := S.def_ 23 (d := d_TooLong___init__) rfl
  exact F.kp
theorem mk_LimitReached___init__ (S : He.SaysD fa fn K) (len : ∀ vs H Q E, sp vs H Q E → vs.length = 2)
    (hb : ∀ (cdv : Value) (A : Around) (outer : List Env) (s : Shared) (H : Hp) (vs : List V) (Q : VK) (E : XK), A.guards = some [] → Room k (A.deeper (envOfC "LimitReached.__init__" (defScope s_LimitReached___init__) s.heap.objs.size (He.ma K (He.ga K "LimitReached") "__init__") cdv)) → sp vs H Q E →
      ∃ t, PSs (cxOf CX0 P w K mg base n_LimitReached___init__ "LimitReached.__init__" (defScope s_LimitReached___init__) (He.ma K (He.ga K "LimitReached") "__init__") cdv A outer s H E).nox (defBody s_LimitReached___init__) t ∧ t { nx := fun _ H' => Q .non H', rt := Q } (start n_LimitReached___init__ vs) H) : FnG P w K mg base CX0 (k + 1) (He.ma K (He.ga K "LimitReached") "__init__") sp := by
  obtain ⟨fd, F⟩ := S.def_ 24 (d := d_LimitReached___init__) rfl
  exact ok0 F sc_LimitReached___init__ (F.bindsA fun _ _ _ _ _ _ us hl => match us, hl with | [_, _], _ => rfl) len hb
theorem kp_LimitReached___init__ (S : He.SaysD fa fn K) : PySem.W.keepIn K (.ref (He.ma K (He.ga K "LimitReached") "__init__")) = true := by
  obtain ⟨fd, F⟩ := S.def_ 24 (d := d_LimitReached___init__) rfl
  exact F.kp
theorem mk__law_pen (S : He.SaysD fa fn K) (len : ∀ vs H Q E, sp vs H Q E → vs.length = 1)
    (hb : ∀ (cdv : Value) (A : Around) (outer : List Env) (s : Shared) (H : Hp) (vs : List V) (Q : VK) (E : XK), A.guards = some [] → Room k (A.deeper (envOfC "_law_pen" (defScope s__law_pen) s.heap.objs.size (He.ga K "_law_pen") cdv)) → sp vs H Q E →
      ∃ t, PSs (cxOf CX0 P w K mg base n__law_pen "_law_pen" (defScope s__law_pen) (He.ga K "_law_pen") cdv A outer s H E).nox (defBody s__law_pen) t ∧ t { nx := fun _ H' => Q .non H', rt := Q } (start n__law_pen vs) H) : FnG P w K mg base CX0 (k + 1) (He.ga K "_law_pen") sp := by
  obtain ⟨fd, F⟩ := S.def_ 25 (d := d__law_pen) rfl
  exact ok0 F sc__law_pen (F.bindsA fun _ _ _ _ _ _ us hl => match us, hl with | [_], _ => rfl) len hb
theorem kp__law_pen (S : He.SaysD fa fn K) : PySem.W.keepIn K (.ref (He.ga K "_law_pen")) = true := by
  obtain ⟨fd, F⟩ := S.def_ 25 (d := d__law_pen) rfl
  exact F.kp
theorem mk__law_draw (S : He.SaysD fa fn K) (len : ∀ vs H Q E, sp vs H Q E → vs.length = 2)
    (hb : ∀ (cdv : Value) (A : Around) (outer : List Env) (s : Shared) (H : Hp) (vs : List V) (Q : VK) (E : XK), A.guards = some [] → Room k (A.deeper (envOfC "_law_draw" (defScope s__law_draw) s.heap.objs.size (He.ga K "_law_draw") cdv)) → sp vs H Q E →
      ∃ t, PSs (cxOf CX0 P w K mg base n__law_draw "_law_draw" (defScope s__law_draw) (He.ga K "_law_draw") cdv A outer s H E).nox (defBody s__law_draw) t ∧ t { nx := fun _ H' => Q .non H', rt := Q } (start n__law_draw vs) H) : FnG P w K mg base CX0 (k + 1) (He.ga K "_law_draw") sp := by
  obtain ⟨fd, F⟩ := S.def_ 26 (d := d__law_draw) rfl
  exact ok0 F sc__law_draw (F.bindsA fun _ _ _ _ _ _ us hl => match us, hl with | [_, _], _ => rfl) len hb
theorem kp__law_draw (S : He.SaysD fa fn K) : PySem.W.keepIn K (.ref (He.ga K "_law_draw")) = true := by
  obtain ⟨fd, F⟩ := S.def_ 26 (d := d__law_draw) rfl
  exact F.kp
theorem mk__law_pick (S : He.SaysD fa fn K) (len : ∀ vs H Q E, sp vs H Q E → vs.length = 2)
    (hb : ∀ (cdv : Value) (A : Around) (outer : List Env) (s : Shared) (H : Hp) (vs : List V) (Q : VK) (E : XK), A.guards = some [] → Room k (A.deeper (envOfC "_law_pick" (defScope s__law_pick) s.heap.objs.size (He.ga K "_law_pick") cdv)) → sp vs H Q E →
      ∃ t, PSs (cxOf CX0 P w K mg base n__law_pick "_law_pick" (defScope s__law_pick) (He.ga K "_law_pick") cdv A outer s H E).nox (defBody s__law_pick) t ∧ t { nx := fun _ H' => Q .non H', rt := Q } (start n__law_pick vs) H) : FnG P w K mg base CX0 (k + 1) (He.ga K "_law_pick") sp := by
  obtain ⟨fd, F⟩ := S.def_ 27 (d := d__law_pick) rfl
  exact ok0 F sc__law_pick (F.bindsA fun _ _ _ _ _ _ us hl => match us, hl with | [_, _], _ => rfl) len hb
theorem kp__law_pick (S : He.SaysD fa fn K) : PySem.W.keepIn K (.ref (He.ga K "_law_pick")) = true := by
  obtain ⟨fd, F⟩ := S.def_ 27 (d := d__law_pick) rfl
  exact F.kp
theorem mk__law_odd (S : He.SaysD fa fn K) (len : ∀ vs H Q E, sp vs H Q E → vs.length = 1)
    (hb : ∀ (cdv : Value) (A : Around) (outer : List Env) (s : Shared) (H : Hp) (vs : List V) (Q : VK) (E : XK), A.guards = some [] → Room k (A.deeper (envOfC "_law_odd" (defScope s__law_odd) s.heap.objs.size (He.ga K "_law_odd") cdv)) → sp vs H Q E →
      ∃ t, PSs (cxOf CX0 P w K mg base n__law_odd "_law_odd" (defScope s__law_odd) (He.ga K "_law_odd") cdv A outer s H E).nox (defBody s__law_odd) t ∧ t { nx := fun _ H' => Q .non H', rt := Q } (start n__law_odd vs) H) : FnG P w K mg base CX0 (k + 1) (He.ga K "_law_odd") sp := by
  obtain ⟨fd, F⟩ := S.def_ 28 (d := d__law_odd) rfl
  exact ok0 F sc__law_odd (F.bindsA fun _ _ _ _ _ _ us hl => match us, hl with | [_], _ => rfl) len hb
theorem kp__law_odd (S : He.SaysD fa fn K) : PySem.W.keepIn K (.ref (He.ga K "_law_odd")) = true := by
  obtain ⟨fd, F⟩ := S.def_ 28 (d := d__law_odd) rfl
  exact F.kp
theorem mk__law_filled (S : He.SaysD fa fn K) (len : ∀ vs H Q E, sp vs H Q E → vs.length = 1)
    (hb : ∀ (cdv : Value) (A : Around) (outer : List Env) (s : Shared) (H : Hp) (vs : List V) (Q : VK) (E : XK), A.guards = some [] → Room k (A.deeper (envOfC "_law_filled" (defScope s__law_filled) s.heap.objs.size (He.ga K "_law_filled") cdv)) → sp vs H Q E →
      ∃ t, PSs (cxOf CX0 P w K mg base n__law_filled "_law_filled" (defScope s__law_filled) (He.ga K "_law_filled") cdv A outer s H E).nox (defBody s__law_filled) t ∧ t { nx := fun _ H' => Q .non H', rt := Q } (start n__law_filled vs) H) : FnG P w K mg base CX0 (k + 1) (He.ga K "_law_filled") sp := by
  obtain ⟨fd, F⟩ := S.def_ 29 (d := d__law_filled) rfl
  exact ok0 F sc__law_filled (F.bindsA fun _ _ _ _ _ _ us hl => match us, hl with | [_], _ => rfl) len hb
theorem kp__law_filled (S : He.SaysD fa fn K) : PySem.W.keepIn K (.ref (He.ga K "_law_filled")) = true := by
  obtain ⟨fd, F⟩ := S.def_ 29 (d := d__law_filled) rfl
  exact F.kp
theorem mk__law_bare (S : He.SaysD fa fn K) (len : ∀ vs H Q E, sp vs H Q E → vs.length = 0)
    (hb : ∀ (cdv : Value) (A : Around) (outer : List Env) (s : Shared) (H : Hp) (vs : List V) (Q : VK) (E : XK), A.guards = some [] → Room k (A.deeper (envOfC "_law_bare" (defScope s__law_bare) s.heap.objs.size (He.ga K "_law_bare") cdv)) → sp vs H Q E →
      ∃ t, PSs (cxOf CX0 P w K mg base n__law_bare "_law_bare" (defScope s__law_bare) (He.ga K "_law_bare") cdv A outer s H E).nox (defBody s__law_bare) t ∧ t { nx := fun _ H' => Q .non H', rt := Q } (start n__law_bare vs) H) : FnG P w K mg base CX0 (k + 1) (He.ga K "_law_bare") sp := by
  obtain ⟨fd, F⟩ := S.def_ 30 (d := d__law_bare) rfl
  exact ok0 F sc__law_bare (F.bindsA fun _ _ _ _ _ _ us hl => match us, hl with | [], _ => rfl) len hb
theorem kp__law_bare (S : He.SaysD fa fn K) : PySem.W.keepIn K (.ref (He.ga K "_law_bare")) = true := by
  obtain ⟨fd, F⟩ := S.def_ 30 (d := d__law_bare) rfl
  exact F.kp
theorem mk__law_kinds (S : He.SaysD fa fn K) (len : ∀ vs H Q E, sp vs H Q E → vs.length = 1)
    (hb : ∀ (cdv : Value) (A : Around) (outer : List Env) (s : Shared) (H : Hp) (vs : List V) (Q : VK) (E : XK), A.guards = some [] → Room k (A.deeper (envOfC "_law_kinds" (defScope s__law_kinds) s.heap.objs.size (He.ga K "_law_kinds") cdv)) → sp vs H Q E →
      ∃ t, PSs (cxOf CX0 P w K mg base n__law_kinds "_law_kinds" (defScope s__law_kinds) (He.ga K "_law_kinds") cdv A outer s H E).nox (defBody s__law_kinds) t ∧ t { nx := fun _ H' => Q .non H', rt := Q } (start n__law_kinds vs) H) : FnG P w K mg base CX0 (k + 1) (He.ga K "_law_kinds") sp := by
  obtain ⟨fd, F⟩ := S.def_ 31 (d := d__law_kinds) rfl
  exact ok0 F sc__law_kinds (F.bindsA fun _ _ _ _ _ _ us hl => match us, hl with | [_], _ => rfl) len hb
theorem kp__law_kinds (S : He.SaysD fa fn K) : PySem.W.keepIn K (.ref (He.ga K "_law_kinds")) = true := by
  obtain ⟨fd, F⟩ := S.def_ 31 (d := d__law_kinds) rfl
  exact F.kp
theorem mk__law_classes (S : He.SaysD fa fn K) (len : ∀ vs H Q E, sp vs H Q E → vs.length = 1)
    (hb : ∀ (cdv : Value) (A : Around) (outer : List Env) (s : Shared) (H : Hp) (vs : List V) (Q : VK) (E : XK), A.guards = some [] → Room k (A.deeper (envOfC "_law_classes" (defScope s__law_classes) s.heap.objs.size (He.ga K "_law_classes") cdv)) → sp vs H Q E →
      ∃ t, PSs (cxOf CX0 P w K mg base n__law_classes "_law_classes" (defScope s__law_classes) (He.ga K "_law_classes") cdv A outer s H E).nox (defBody s__law_classes) t ∧ t { nx := fun _ H' => Q .non H', rt := Q } (start n__law_classes vs) H) : FnG P w K mg base CX0 (k + 1) (He.ga K "_law_classes") sp := by
  obtain ⟨fd, F⟩ := S.def_ 32 (d := d__law_classes) rfl
  exact ok0 F sc__law_classes (F.bindsA fun _ _ _ _ _ _ us hl => match us, hl with | [_], _ => rfl) len hb
theorem kp__law_classes (S : He.SaysD fa fn K) : PySem.W.keepIn K (.ref (He.ga K "_law_classes")) = true := by
  obtain ⟨fd, F⟩ := S.def_ 32 (d := d__law_classes) rfl
  exact F.kp
theorem mk_law (S : He.SaysD fa fn K) (len : ∀ vs H Q E, sp vs H Q E → vs.length = 1)
    (hb : ∀ (cdv : Value) (A : Around) (outer : List Env) (s : Shared) (H : Hp) (vs : List V) (Q : VK) (E : XK), A.guards = some [] → Room k (A.deeper (envOfC "law" (defScope s_law) s.heap.objs.size (He.ga K "law") cdv)) → sp vs H Q E →
      ∃ t, PSs (cxOf CX0 P w K mg base n_law "law" (defScope s_law) (He.ga K "law") cdv A outer s H E).nox (defBody s_law) t ∧ t { nx := fun _ H' => Q .non H', rt := Q } (start n_law vs) H) : FnG P w K mg base CX0 (k + 1) (He.ga K "law") sp := by
  obtain ⟨fd, F⟩ := S.def_ 33 (d := d_law) rfl
  exact ok0 F sc_law (F.bindsA fun _ _ _ _ _ _ us hl => match us, hl with | [_], _ => rfl) len hb
theorem kp_law (S : He.SaysD fa fn K) : PySem.W.keepIn K (.ref (He.ga K "law")) = true := by
  obtain ⟨fd, F⟩ := S.def_ 33 (d := d_law) rfl
  exact F.kp
end
end K00

/-! The mathematics of the fractions: the reduced pair, common bottoms. -/
namespace Num
open Rat
theorem den_pos' (q : Rat) : (0 : Int) < (q.den : Int) := Int.natCast_pos.mpr q.den_pos
/-- the divisor with the sign of the bottom -/
def dvs (t b : Int) : Int := if b < 0 then -((Nat.gcd t.natAbs b.natAbs : Nat) : Int) else ((Nat.gcd t.natAbs b.natAbs : Nat) : Int)
theorem dvs_ex {t b : Int} (hb : b ≠ 0) : ∃ (t' b' : Int), t = dvs t b * t' ∧ b = dvs t b * b' ∧ dvs t b ≠ 0 ∧ 0 < b' ∧ (t /. b).num = t' ∧ ((t /. b).den : Int) = b' := by
  have gpos : 0 < Nat.gcd t.natAbs b.natAbs := Nat.gcd_pos_of_pos_right _ (Int.natAbs_pos.mpr hb)
  have gt : ((Nat.gcd t.natAbs b.natAbs : Nat) : Int) ∣ t := Int.natAbs_dvd_natAbs.mp (Nat.gcd_dvd_left _ _)
  have gb : ((Nat.gcd t.natAbs b.natAbs : Nat) : Int) ∣ b := Int.natAbs_dvd_natAbs.mp (Nat.gcd_dvd_right _ _)
  have hn := Rat.num_divInt t b
  have hd := Rat.den_divInt t b
  have eg : Int.gcd b t = Nat.gcd t.natAbs b.natAbs := Nat.gcd_comm _ _
  rw [eg] at hn hd
  rw [if_neg hb] at hd
  unfold dvs
  generalize Nat.gcd t.natAbs b.natAbs = g at *
  obtain ⟨x, ex⟩ := gt
  obtain ⟨y, ey⟩ := gb
  have g0 : (0 : Int) < (g : Int) := Int.natCast_pos.mpr gpos
  by_cases h : b < 0
  · rw [if_pos h]
    have sg : b.sign = -1 := Int.sign_eq_neg_one_of_neg h
    have y0 : y < 0 := by
      by_cases c : y < 0
      · exact c
      · have := Int.mul_nonneg (Int.le_of_lt g0) (Int.not_lt.mp c)
        omega
    refine ⟨-x, -y, by rw [Int.neg_mul_neg]; exact ex, by rw [Int.neg_mul_neg]; exact ey, by omega, by omega, ?_, ?_⟩
    · rw [hn, sg, ex, ← Int.mul_assoc, Int.mul_comm (-1), Int.mul_assoc, Int.mul_ediv_cancel_left _ (by omega)]
      omega
    · rw [hd, Int.natCast_ediv, ey]
      have : (((g : Int) * y).natAbs : Int) = (g : Int) * (-y) := by
        rw [Int.mul_neg]
        have : (g : Int) * y < 0 := by rw [← ey]; exact h
        omega
      rw [this, Int.mul_ediv_cancel_left _ (by omega)]
  · rw [if_neg h]
    have bp : 0 < b := by omega
    have sg : b.sign = 1 := Int.sign_eq_one_of_pos bp
    have y0 : 0 < y := by
      by_cases c : 0 < y
      · exact c
      · have := Int.mul_nonpos_of_nonneg_of_nonpos (Int.le_of_lt g0) (Int.not_lt.mp c)
        omega
    refine ⟨x, y, ex, ey, by omega, y0, ?_, ?_⟩
    · rw [hn, sg, Int.one_mul, ex, Int.mul_ediv_cancel_left _ (by omega)]
    · rw [hd, Int.natCast_ediv, ey]
      have : (((g : Int) * y).natAbs : Int) = (g : Int) * y := by
        have : 0 < (g : Int) * y := by rw [← ey]; exact bp
        omega
      rw [this, Int.mul_ediv_cancel_left _ (by omega)]
theorem dvs_out {t b : Int} (hb : b ≠ 0) : dvs t b ≠ 0 ∧ t.fdiv (dvs t b) = (t /. b).num ∧ b.fdiv (dvs t b) = ((t /. b).den : Int) ∧ (b = dvs t b ↔ (t /. b).den = 1) ∧ (t /. b).num.natAbs ≤ t.natAbs ∧ (t /. b).den ≤ b.natAbs := by
  obtain ⟨t', b', h1, h2, h3, h4, h5, h6⟩ := dvs_ex (t := t) hb
  generalize dvs t b = d at *
  have hd1 : 1 ≤ d.natAbs := by omega
  refine ⟨h3, ?_, ?_, ⟨fun h => ?_, fun h => ?_⟩, ?_, ?_⟩
  · rw [h5]
    conv => lhs; rw [h1]
    exact Int.mul_fdiv_cancel_left _ h3
  · rw [h6]
    conv => lhs; rw [h2]
    exact Int.mul_fdiv_cancel_left _ h3
  · have e : d * b' = d * 1 := by rw [← h2, Int.mul_one]; exact h
    have := Int.eq_of_mul_eq_mul_left h3 e
    omega
  · have e : b' = 1 := by omega
    rw [e, Int.mul_one] at h2
    exact h2
  · rw [h5]
    conv => rhs; rw [h1, Int.natAbs_mul]
    exact Nat.le_mul_of_pos_left _ hd1
  · have e : (t /. b).den = b'.natAbs := by omega
    rw [e]
    conv => rhs; rw [h2, Int.natAbs_mul]
    exact Nat.le_mul_of_pos_left _ hd1
theorem gcd_low (q : Rat) : Nat.gcd q.num.natAbs (q.den : Int).natAbs = 1 := q.reduced
theorem dvs_one (t : Int) : (t /. 1).num = t ∧ (t /. 1).den = 1 := by
  obtain ⟨h1, h2, h3, h4, h5, h6⟩ := dvs_out (t := t) (b := 1) (by decide)
  have e : dvs t 1 = 1 := by
    unfold dvs
    rw [if_neg (by decide)]
    show ((Nat.gcd t.natAbs 1 : Nat) : Int) = 1
    rw [Nat.gcd_one_right]
    rfl
  rw [e, Int.fdiv_one] at h2
  exact ⟨h2.symm, h4.mp e.symm⟩
/-! ### the operations -/
theorem add_is (a b : Rat) : (a.num * b.den + b.num * a.den) /. ((a.den : Int) * b.den) = a + b := by
  rw [Rat.add_def', ← Rat.divInt_ofNat, Int.natCast_mul]
theorem sub_is (a b : Rat) : (a.num * b.den - b.num * a.den) /. ((a.den : Int) * b.den) = a - b := by
  rw [Rat.sub_def', ← Rat.divInt_ofNat, Int.natCast_mul]
theorem mul_is (a b : Rat) : (a.num * b.num) /. ((a.den : Int) * b.den) = a * b := by
  rw [Rat.mul_def', ← Rat.divInt_ofNat, Int.natCast_mul]
/-! ### a common bottom -/
theorem divInt_add_same (a b c : Int) (h : c ≠ 0) : (a + b) /. c = a /. c + b /. c := by
  rw [Rat.divInt_add_divInt _ _ h h, ← Int.add_mul, Rat.divInt_mul_right h]
theorem over_L {q : Rat} {L : Int} (hL : L ≠ 0) (h : (q.den : Int) ∣ L) : (q.num * (L / q.den)) /. L = q := by
  obtain ⟨x, ex⟩ := h
  have d0 := den_pos' q
  have x0 : x ≠ 0 := by
    intro z
    rw [z, Int.mul_zero] at ex
    exact hL ex
  have e : L / (q.den : Int) = x := by
    rw [ex]
    exact Int.mul_ediv_cancel_left _ (by omega)
  rw [e, ex, Rat.divInt_mul_right x0, Rat.num_divInt_den]
theorem sum_L {L : Int} (hL : L ≠ 0) : ∀ qs : List Rat, (∀ q ∈ qs, (q.den : Int) ∣ L) → (qs.map fun q => q.num * (L / q.den)).sum /. L = qs.sum
  | [], _ => by
    show (0 : Int) /. L = (0 : Rat)
    exact Rat.zero_divInt L
  | q :: qs, h => by
    rw [List.map_cons, List.sum_cons, List.sum_cons, divInt_add_same _ _ _ hL, over_L hL (h q List.mem_cons_self), sum_L hL qs fun x hx => h x (List.mem_cons_of_mem _ hx)]
/-! ### sizes -/
def Bq (n : Nat) (q : Rat) : Prop := q.num.natAbs < 2 ^ n ∧ q.den < 2 ^ n
theorem Bq.mono {m n : Nat} {q : Rat} (h : Bq m q) (hl : m ≤ n) : Bq n q := ⟨Nat.lt_of_lt_of_le h.1 (Nat.pow_le_pow_right (by decide) hl), Nat.lt_of_lt_of_le h.2 (Nat.pow_le_pow_right (by decide) hl)⟩
theorem bq_div {t b : Int} {n : Nat} (hb : b ≠ 0) (h1 : t.natAbs < 2 ^ n) (h2 : b.natAbs < 2 ^ n) : Bq n (t /. b) := by
  obtain ⟨_, _, _, _, h5, h6⟩ := dvs_out (t := t) hb
  exact ⟨Nat.lt_of_le_of_lt h5 h1, Nat.lt_of_le_of_lt h6 h2⟩
theorem add_lt {i j : Int} {n : Nat} (h1 : i.natAbs < 2 ^ n) (h2 : j.natAbs < 2 ^ n) : (i + j).natAbs < 2 ^ (n + 1) := by
  rw [Nat.pow_succ]
  omega
theorem sub_lt {i j : Int} {n : Nat} (h1 : i.natAbs < 2 ^ n) (h2 : j.natAbs < 2 ^ n) : (i - j).natAbs < 2 ^ (n + 1) := by
  rw [Nat.pow_succ]
  omega
end Num

/-! Both kinds of fields over Rat: their operations, the rules of numbers, remainders of fractions. -/
namespace Num
open Rat
inductive Fk where
  | fr
  | md (p : Int)
def Fk.code : Fk → Int
  | .fr => 0
  | .md p => p
def Fk.ok : Fk → Prop
  | .fr => True
  | .md p => Md p
def iq (i : Int) : Rat := ((i : Int) : Rat)
theorem iq_num (i : Int) : (iq i).num = i := rfl
theorem iq_den (i : Int) : (iq i).den = 1 := rfl
theorem iq_eq {q : Rat} (h : q.den = 1) : q = iq q.num := by
  apply Rat.ext
  · rfl
  · exact h
def addG : Fk → Rat → Rat → Rat
  | .fr, a, b => a + b
  | .md p, a, b => iq ((a.num + b.num) % p)
def subG : Fk → Rat → Rat → Rat
  | .fr, a, b => a - b
  | .md p, a, b => iq ((a.num - b.num) % p)
def mulG : Fk → Rat → Rat → Rat
  | .fr, a, b => a * b
  | .md p, a, b => iq ((a.num * b.num) % p)
def Sz : Fk → Nat → Rat → Prop
  | .fr, n, q => Bq n q
  | .md p, _, q => q.den = 1 ∧ 0 ≤ q.num ∧ q.num < p
theorem Sz.mono {φ : Fk} {m n : Nat} {q : Rat} (h : Sz φ m q) (hl : m ≤ n) : Sz φ n q := by
  cases φ with
  | fr => exact Bq.mono h hl
  | md p => exact h
theorem emod_r (a b n : Int) : (a * (b % n)) % n = (a * b) % n := by
  rw [Int.mul_emod, Int.emod_emod, ← Int.mul_emod]
theorem emod_l (a b n : Int) : (a % n * b) % n = (a * b) % n := by
  rw [Int.mul_emod, Int.emod_emod, ← Int.mul_emod]
theorem sz_md {p i : Int} {n : Nat} (h : Md p) : Sz (.md p) n (iq (i % p)) := by
  have := h.lo
  exact ⟨rfl, Int.emod_nonneg _ (by omega), Int.emod_lt_of_pos _ (by omega)⟩
theorem md_self {p : Int} {n : Nat} {a : Rat} (h : Sz (.md p) n a) : iq (a.num % p) = a := by
  obtain ⟨h1, h2, h3⟩ := h
  rw [Int.emod_eq_of_lt h2 h3]
  exact (iq_eq h1).symm
theorem addG_comm (φ : Fk) (a b : Rat) : addG φ a b = addG φ b a := by
  cases φ with
  | fr => exact Rat.add_comm a b
  | md p => simp only [addG, Int.add_comm]
theorem mulG_comm (φ : Fk) (a b : Rat) : mulG φ a b = mulG φ b a := by
  cases φ with
  | fr => exact Rat.mul_comm a b
  | md p => simp only [mulG, Int.mul_comm]
theorem addG_assoc (φ : Fk) (a b c : Rat) : addG φ (addG φ a b) c = addG φ a (addG φ b c) := by
  cases φ with
  | fr => exact Rat.add_assoc a b c
  | md p => simp only [addG, iq_num, Int.emod_add_emod, Int.add_emod_emod, Int.add_assoc]
theorem mulG_assoc (φ : Fk) (a b c : Rat) : mulG φ (mulG φ a b) c = mulG φ a (mulG φ b c) := by
  cases φ with
  | fr => exact Rat.mul_assoc a b c
  | md p => simp only [mulG, iq_num, emod_l, emod_r, Int.mul_assoc]
theorem mulG_add (φ : Fk) (a b c : Rat) : mulG φ a (addG φ b c) = addG φ (mulG φ a b) (mulG φ a c) := by
  cases φ with
  | fr => exact Rat.mul_add a b c
  | md p => simp only [mulG, addG, iq_num, emod_r, Int.emod_add_emod, Int.add_emod_emod, Int.mul_add]
theorem subG_add {φ : Fk} {n : Nat} {a b : Rat} (h : Sz φ n a) : addG φ (subG φ a b) b = a := by
  cases φ with
  | fr => exact Rat.sub_add_cancel
  | md p =>
    simp only [addG, subG, iq_num, Int.emod_add_emod, Int.sub_add_cancel]
    exact md_self h
theorem subG_self (φ : Fk) (a : Rat) : subG φ a a = 0 := by
  cases φ with
  | fr => exact Rat.sub_self
  | md p =>
    simp only [subG, Int.sub_self, Int.zero_emod]
    rfl
theorem addG_zero {φ : Fk} {n : Nat} {a : Rat} (h : Sz φ n a) : addG φ a 0 = a := by
  cases φ with
  | fr => exact Rat.add_zero a
  | md p =>
    have e : (0 : Rat).num = 0 := rfl
    simp only [addG, e, Int.add_zero]
    exact md_self h
theorem mulG_one {φ : Fk} {n : Nat} {a : Rat} (h : Sz φ n a) : mulG φ a 1 = a := by
  cases φ with
  | fr => exact Rat.mul_one a
  | md p =>
    have e : (1 : Rat).num = 1 := rfl
    simp only [mulG, e, Int.mul_one]
    exact md_self h
theorem mulG_zero (φ : Fk) (a : Rat) : mulG φ a 0 = 0 := by
  cases φ with
  | fr => exact Rat.mul_zero a
  | md p =>
    have e : (0 : Rat).num = 0 := rfl
    simp only [mulG, e, Int.mul_zero, Int.zero_emod]
    rfl
theorem sub_sub {φ : Fk} {n : Nat} {a : Rat} (h : Sz φ n a) : subG φ 0 (subG φ 0 a) = a := by
  cases φ with
  | fr =>
    show (0 : Rat) - (0 - a) = a
    rw [Rat.sub_eq_add_neg, Rat.sub_eq_add_neg, Rat.zero_add, Rat.zero_add, Rat.neg_neg]
  | md p =>
    have e : (0 : Rat).num = 0 := rfl
    simp only [subG, e, iq_num, Int.sub_emod_emod]
    have e2 : (0 : Int) - (0 - a.num) = a.num := by omega
    rw [e2]
    exact md_self h
/-! ### coprime to the modulus -/
theorem cop {p x : Int} (m : Md p) (h : ¬ p ∣ x) : Nat.gcd p.natAbs x.natAbs = 1 := by
  have hlo := m.lo
  have h0 := Int.emod_nonneg x (show p ≠ 0 by omega)
  have h1 := Int.emod_lt_of_pos x (show 0 < p by omega)
  have hz : x % p ≠ 0 := fun z => h (Int.dvd_of_emod_eq_zero z)
  have g := m.pr (x % p) (by omega) h1
  have e : Int.gcd (x % p) p = Int.gcd x p := by
    rw [Int.emod_def, Int.gcd_sub_mul_left_left]
  rw [e] at g
  rw [Nat.gcd_comm]
  exact g
theorem dvd_mul_cop {p x y : Int} (m : Md p) (hy : ¬ p ∣ y) (h : p ∣ x * y) : p ∣ x := by
  have c := cop m hy
  rw [← Int.natAbs_dvd_natAbs] at h ⊢
  rw [Int.natAbs_mul] at h
  exact Nat.Coprime.dvd_of_dvd_mul_right c h
theorem not_dvd_mul {p x y : Int} (m : Md p) (hx : ¬ p ∣ x) (hy : ¬ p ∣ y) : ¬ p ∣ x * y := fun h => hx (dvd_mul_cop m hy h)
theorem eq_of_dvd {p a b : Int} (a0 : 0 ≤ a) (ap : a < p) (b0 : 0 ≤ b) (bp : b < p) (h : p ∣ a - b) : a = b := by
  have e : (a - b) % p = 0 := Int.emod_eq_zero_of_dvd h
  have e2 : a % p = b % p := Int.emod_eq_emod_iff_emod_sub_eq_zero.mpr e
  rw [Int.emod_eq_of_lt a0 ap, Int.emod_eq_of_lt b0 bp] at e2
  exact e2
theorem dvd_of_emod {p a b : Int} (h : a % p = b % p) : p ∣ a - b := Int.dvd_of_emod_eq_zero (Int.emod_eq_emod_iff_emod_sub_eq_zero.mp h)
/-! ### quotients -/
theorem mulG_cancel {φ : Fk} {n m : Nat} {a b c : Rat} (ok : φ.ok) (ha : Sz φ n a) (hc : Sz φ m c) (hb : Sz φ n b) (b0 : b ≠ 0) (h : mulG φ c b = mulG φ a b) : c = a := by
  cases φ with
  | fr =>
    have h2 : c * b = a * b := h
    have e : c * b * b⁻¹ = a * b * b⁻¹ := by rw [h2]
    rwa [Rat.mul_assoc, Rat.mul_assoc, Rat.mul_inv_cancel b b0, Rat.mul_one, Rat.mul_one] at e
  | md p =>
    have ok : Md p := ok
    obtain ⟨a1, a2, a3⟩ := ha
    obtain ⟨b1, b2, b3⟩ := hb
    obtain ⟨c1, c2, c3⟩ := hc
    have h2 : (c.num * b.num) % p = (a.num * b.num) % p := congrArg Rat.num h
    have nb : ¬ p ∣ b.num := fun z => by
      have z2 := Int.emod_eq_zero_of_dvd z
      rw [Int.emod_eq_of_lt b2 b3] at z2
      exact b0 (Rat.num_eq_zero.mp z2)
    have d := dvd_of_emod h2
    rw [← Int.sub_mul] at d
    have e := eq_of_dvd c2 c3 a2 a3 (dvd_mul_cop ok nb d)
    rw [iq_eq c1, iq_eq a1, e]
theorem div_mul {a b : Rat} (b0 : b ≠ 0) : (a.num * b.den) /. ((a.den : Int) * b.num) * b = a := by
  have bn : b.num ≠ 0 := fun z => b0 (Rat.num_eq_zero.mp z)
  have bd : (b.den : Int) ≠ 0 := by have := den_pos' b; omega
  conv => lhs; rhs; rw [← Rat.num_divInt_den b]
  rw [Rat.divInt_mul_divInt]
  have e1 : a.num * (b.den : Int) * b.num = a.num * ((b.den : Int) * b.num) := Int.mul_assoc _ _ _
  have e2 : (a.den : Int) * b.num * (b.den : Int) = a.den * ((b.den : Int) * b.num) := by rw [Int.mul_assoc, Int.mul_comm b.num]
  rw [e1, e2, Rat.divInt_mul_right (Int.mul_ne_zero bd bn), Rat.num_divInt_den]
/-! ### remainders of fractions -/
/-- c is the remainder of q modulo p -/
def Rem (p : Int) (q : Rat) (c : Int) : Prop := ¬ p ∣ (q.den : Int) ∧ 0 ≤ c ∧ c < p ∧ (c * q.den) % p = q.num % p
theorem cross {N D : Int} (hD : D ≠ 0) : N * ((N /. D).den : Int) = (N /. D).num * D := by
  obtain ⟨t', b', h1, h2, h3, h4, h5, h6⟩ := dvs_ex (t := N) hD
  rw [h5, h6]
  generalize dvs N D = d at *
  rw [h1, h2, Int.mul_assoc, ← Int.mul_assoc t' d b', Int.mul_comm t' d, Int.mul_assoc]
theorem den_dvd {N D : Int} (hD : D ≠ 0) : ((N /. D).den : Int) ∣ D := by
  obtain ⟨t', b', h1, h2, h3, h4, h5, h6⟩ := dvs_ex (t := N) hD
  rw [h6]
  exact ⟨dvs N D, by rw [Int.mul_comm]; exact h2⟩
theorem rem_nd {p N D : Int} (hD : D ≠ 0) (h : ¬ p ∣ D) : ¬ p ∣ ((N /. D).den : Int) := fun z => h (Int.dvd_trans z (den_dvd hD))
theorem rem_is {p N D c c' : Int} (m : Md p) (hD : D ≠ 0) (nD : ¬ p ∣ D) (c0 : 0 ≤ c) (cp : c < p) (h : (c * D) % p = N % p) (r : Rem p (N /. D) c') : c' = c := by
  obtain ⟨r1, r2, r3, r4⟩ := r
  have x := cross (N := N) hD
  generalize (N /. D).num = n at *
  generalize ((N /. D).den : Int) = d at *
  refine eq_of_dvd r2 r3 c0 cp (dvd_mul_cop m (not_dvd_mul m r1 nD) ?_)
  obtain ⟨u, hu⟩ := dvd_of_emod r4
  obtain ⟨v, hv⟩ := dvd_of_emod h
  have e1 : c' * d = n + p * u := by omega
  have e2 : c * D = N + p * v := by omega
  refine ⟨u * D - v * d, ?_⟩
  have e3 : (c' - c) * (d * D) = c' * d * D - c * D * d := by
    rw [Int.sub_mul, Int.mul_assoc c' d D, Int.mul_assoc c D d, Int.mul_comm D d]
  rw [e3, e1, e2, Int.add_mul, Int.add_mul, x, Int.mul_sub, Int.mul_assoc, Int.mul_assoc]
  omega
theorem dd_ne0 (a b : Rat) : (a.den : Int) * b.den ≠ 0 := Int.mul_ne_zero (by have := den_pos' a; omega) (by have := den_pos' b; omega)
theorem rem_add {p : Int} {a b : Rat} {c e f : Int} (m : Md p) (ha : Rem p a c) (hb : Rem p b e) (h : Rem p (a + b) f) : f = (c + e) % p := by
  obtain ⟨a1, a2, a3, a4⟩ := ha
  obtain ⟨b1, b2, b3, b4⟩ := hb
  have hlo := m.lo
  rw [← add_is] at h
  refine rem_is m (dd_ne0 a b) (not_dvd_mul m a1 b1) (Int.emod_nonneg _ (by omega)) (Int.emod_lt_of_pos _ (by omega)) ?_ h
  rw [emod_l, Int.add_mul, Int.add_emod, ← Int.mul_assoc, Int.mul_comm (a.den : Int), ← Int.mul_assoc, Int.mul_emod (c * (a.den : Int)), a4, ← Int.mul_emod, Int.mul_emod (e * (b.den : Int)), b4, ← Int.mul_emod, ← Int.add_emod]
theorem rem_mul {p : Int} {a b : Rat} {c e f : Int} (m : Md p) (ha : Rem p a c) (hb : Rem p b e) (h : Rem p (a * b) f) : f = (c * e) % p := by
  obtain ⟨a1, a2, a3, a4⟩ := ha
  obtain ⟨b1, b2, b3, b4⟩ := hb
  have hlo := m.lo
  rw [← mul_is] at h
  refine rem_is m (dd_ne0 a b) (not_dvd_mul m a1 b1) (Int.emod_nonneg _ (by omega)) (Int.emod_lt_of_pos _ (by omega)) ?_ h
  have e1 : c * e * ((a.den : Int) * b.den) = c * a.den * (e * b.den) := by
    rw [Int.mul_assoc, Int.mul_assoc, ← Int.mul_assoc e, Int.mul_comm e (a.den : Int), Int.mul_assoc (a.den : Int)]
  rw [emod_l, e1, Int.mul_emod (c * (a.den : Int)), a4, b4, ← Int.mul_emod]
theorem num_nd {p : Int} {b : Rat} {e : Int} (m : Md p) (hb : Rem p b e) (e0 : e ≠ 0) : ¬ p ∣ b.num := fun z => by
  obtain ⟨b1, b2, b3, b4⟩ := hb
  rw [Int.emod_eq_zero_of_dvd z] at b4
  have d := dvd_mul_cop m b1 (Int.dvd_of_emod_eq_zero b4)
  have := Int.le_of_dvd (by omega) d
  omega
theorem rem_div {p : Int} {a b : Rat} {c e f g : Int} (m : Md p) (ha : Rem p a c) (hb : Rem p b e) (e0 : e ≠ 0) (g0 : 0 ≤ g) (gp : g < p) (hg : (g * e) % p = c) (h : Rem p ((a.num * b.den) /. ((a.den : Int) * b.num)) f) : f = g := by
  have nb := num_nd m hb e0
  obtain ⟨a1, a2, a3, a4⟩ := ha
  obtain ⟨b1, b2, b3, b4⟩ := hb
  have bn : b.num ≠ 0 := fun z => nb (by rw [z]; exact Int.dvd_zero p)
  refine rem_is m (Int.mul_ne_zero (by have := den_pos' a; omega) bn) (not_dvd_mul m a1 nb) g0 gp ?_ h
  have x1 : (g * ((a.den : Int) * b.num)) % p = (g * ((a.den : Int) * (e * b.den))) % p := by
    rw [Int.mul_emod g, Int.mul_emod (a.den : Int) b.num, ← b4, ← Int.mul_emod (a.den : Int), ← Int.mul_emod g]
  have x2 : g * ((a.den : Int) * (e * b.den)) = g * e * (a.den * b.den) := by
    rw [Int.mul_assoc g e, ← Int.mul_assoc e (a.den : Int), Int.mul_comm e (a.den : Int), Int.mul_assoc (a.den : Int)]
  have x3 : (g * e * ((a.den : Int) * b.den)) % p = (c * (a.den * b.den)) % p := by
    rw [Int.mul_emod (g * e), hg]
    exact emod_r c _ p
  rw [x1, x2, x3, ← Int.mul_assoc, Int.mul_emod (c * (a.den : Int)), a4, ← Int.mul_emod]
end Num

/-! An own exception class directly over a built-in one, whose __init__ hands on to it and stores nothing. -/
namespace Ver
open PySem PySem.Spec PyProof.Rows L2
/-- what the written part tells of such a class -/
structure ExN (K : PySem.W.Frag) (C fI : Addr) (bmB : List Value) (newId : String) : Prop where
  q : PySem.W.excInitIn K C bmB newId = true
  iC : PySem.W.findIn K (.ref C) "__init__" = some (some (.ref fI))
  tI : PySem.W.typeIn K (.ref fI) = some (.type "function")
  exC : PySem.W.subIn K (.ref C) (.type "BaseException") = some true
  tyC : PySem.W.typeIn K (.ref C) = some (.type "type")
  kC : PySem.W.keepIn K (.ref C) = true
section
variable {X : Cx} {pins : List (Addr × Obj)} {σ : L2.St} {H : Hp} {s : Shared} {a C fI : Addr} {bmB : List Value} {B newId initId : String}
theorem binit_ok {A : Around} {E : Value → Shared → Prop} {us : List Value} {Q : Value → Shared → Prop} (F : ExcBaseFacts B newId initId bmB) (q : PySem.W.excInitIn X.K C bmB newId = true) (I : Inv X pins σ H s) (e : H a = some (exo a C none))
    (hl : us.length ≤ sizeLine) (h : ∀ s', Inv X pins σ H s' → Q .none s') : wpAny (model X.prog X.w) A (call (.builtin initId) (.ref a :: us)) Q E s := by
  obtain ⟨nm, N, qn, bs, bm, hd, sn, sub, ab, col, dd, k0, k1, k2, k3, k5, hC, hT⟩ := PySem.W.excInit_of I.kIn q
  obtain ⟨t1, ho⟩ := exo_at I.hok e
  obtain ⟨hp, g, d, t, os⟩ := s
  refine wpAny_call (PySem.HandSPX.init_base F hT hC ho hl fun h' t2 k hx => h _ ?_)
  have J := I.write (t' := t) (x := a) (e := a) (o := exo a C none) (by rw [e]; exact True.intro) (.inl rfl) k ⟨_, hx⟩ (exo_ok hx)
  have same : upd H a (exo a C none) = H := funext fun b => by
    by_cases z : b = a
    · rw [z, upd_same, e]
    · exact upd_ne z
  rwa [same] at J
variable {x : Str} {e : Expr} {es : List Expr} {ta : TA} {p p1 p2 pos : Pos}
/-- its reading: self is an exception that is being made, without a dict as yet -/
def tBi (K : PySem.W.Frag) (bmB : List Value) (newId : String) (ta : TA) : TE := fun σ H Q => ta σ H fun vs H1 => ∃ (a C : Addr) (ws : List V), vs = .ref a :: ws ∧ ws.length ≤ 1000 ∧ PySem.W.excInitIn K C bmB newId = true ∧ H1 a = some (exo a C none) ∧ Q .non H1
/-- B.__init__(self, ..), B a built-in class of errors -/
theorem pe_binit {pl : Sem Bool} (F : ExcBaseFacts B newId initId bmB) (hg : Gl X x) (hm : X.mg x = none) (hv : bootBuiltins x = some (.type B)) (hty : typeOf (.type B) = pure (.type "type")) (hst : Manifest.isStub B = false) (hh : PySem.W.handedIn (.builtin initId) = true)
    (hsp : PySem.W.findCls X.K (.type B) (.type "type") "__init__" = some (.val (.builtin initId))) (ha : PA X (e :: es) ta)
    (hc : eval (.Call (.Attribute (.Name x p1) "__init__" p2) (e :: es) [] pos) X.env = (do
      let ov ← eval (.Name x p1) X.env
      standAt p2.atName
      let (f, first) ← holding [ov] (getMethod ov "__init__" pl)
      callWith pos f first (backTo pos (starEach (e :: es) X.env)) (backToKw pos (keywordEach [] X.env))) := by rfl)
    (he : starEach (e :: es) X.env = (false, eval e X.env) :: starEach es X.env := by rfl) (hpl : (backTo pos (starEach es X.env)).any (·.1) = false := by rfl) (hn : x ≠ "__name__" := by decide) (hd : (x == ("__debug__" : Str)) = false := by decide) :
    PE X (.Call (.Attribute (.Name x p1) "__init__" p2) (e :: es) [] pos) (tBi X.K bmB newId ta) := by
  refine ⟨fun pins s σ H Q I h => PySem.W.methodCall_KW (ld_blt I hg hm hv ?_ hn hd) hc⟩
  obtain ⟨m, fr⟩ := I.fr
  refine PySem.W.method_type fr I.ok.mod.kin hty hst hsp hh ?_
  show wpAny _ _ (callWith pos (Value.builtin initId) [] (backTo pos (starEach (e :: es) X.env)) []) _ _ _
  refine PyProof.Rows.callWith_method1 (thn (ha.run pos pins _ σ H _ (I.tok _) h) fun us s1 z => ?_) he hpl
  obtain ⟨vs, H1, I1, r1, a, C, ws, rfl, hl, q, ea, qq⟩ := z
  match us, r1 with
  | u0 :: ur, .cons ra rw' =>
    cases (show u0 = Value.ref a from ra)
    exact binit_ok F q I1 ea (by rw [← Paired.length rw', sizeLine_eq]; omega) fun s' J => ⟨.non, H1, J, rfl, qq⟩
/-- the exception is let go: what stood ahead stands, and it is known no more -/
theorem let_go {H1 H2 : Hp} {hp hp2 h2 : Heap} {g1 g2 : Array GenState} {d1 d2 : Drawn} {t1 t2 : Nat} {os1 os2 : OsState} (I1 : Inv X pins σ H1 ⟨hp, g1, d1, t1, os1⟩) (ha : hp.objs.size ≤ a) (k : ∀ b o, hp.get? b = some o → hp2.get? b = some o)
    (un : Un (frs X.stack) [] (upd H1 a (exo a C none)) H2 hp2 h2) (hok : HOk X.prog X.w H2 h2) (ho : os2 = os1) (hb : AllBare g2) (ea : H2 a = some (exo a C none)) :
    ∃ (t0 : Addr) (G : Heap), Inv X pins σ (del H2 a) ⟨G, g2, d2, t2, os2⟩ ∧ (∀ b o, G.get? b = some o → h2.get? b = some o) ∧ G.get? a = none ∧
      h2.get? a = some ({ cls := .ref C, dict := none, data := .fields #[.ref t0, .none, .none, .none, .bool false, .none] } : Obj) := by
  obtain ⟨t0, hoe⟩ := exo_at hok ea
  have na : H1 a = none := I1.hok.fresh ha
  obtain ⟨G, in_, out⟩ := restrict h2 fun b => decide (b ≠ a)
  have gk : ∀ b, b ≠ a → G.get? b = h2.get? b := fun b hb => in_ b (decide_eq_true hb)
  have ge : G.get? a = none := out a (by simp)
  have old : ∀ {b : Addr} {o : Obj}, hp.get? b = some o → b ≠ a := fun z => Nat.ne_of_lt (Nat.lt_of_lt_of_le (Heap.lt_size z) ha)
  have up : ∀ {b : Addr}, b ≠ a → H1 b = none → upd H1 a (exo a C none) b = none := fun hb n => by rw [upd_ne hb]; exact n
  have U : Un (frs X.stack) [] H1 (del H2 a) hp G := {
    keep := fun b o z n hf hx => (gk b (old z)).trans (un.keep b o (k b o z) (up (old z) n) hf hx)
    slot := fun b o z n hf hx => by
      obtain ⟨sl, y⟩ := un.slot b o (k b o z) (up (old z) n) hf hx
      exact ⟨sl, (gk b (old z)).trans y⟩
    free := fun b o z n hx => (del_ne (old z)).trans (un.free b o (k b o z) (up (old z) n) hx)
    there := fun b o z hx => by
      obtain ⟨o', y⟩ := un.there b o (k b o z) hx
      exact ⟨o', (gk b (old z)).trans y⟩
    tups := fun b xs z => (del_ne (ne_of_none z na)).trans (un.tups b xs ((upd_ne (ne_of_none z na)).trans z))
    frzs := fun b o v z => (del_ne (ne_of_none z na)).trans (un.frzs b o v ((upd_ne (ne_of_none z na)).trans z))
    tbls := fun b ps z => by
      obtain ⟨more, y⟩ := un.tbls b ps ((upd_ne (ne_of_none z na)).trans z)
      exact ⟨more, (del_ne (ne_of_none z na)).trans y⟩ }
  have ok3 : HOk X.prog X.w (del H2 a) G := fun b o z => by
    have hba : b ≠ a := fun e => by
      rw [e, del_same] at z
      cases z
    rw [del_ne hba] at z
    have noa : ∀ {c : Addr}, H2 c = some (.own b) → c ≠ a := fun hc => at_ne ea hc exo_own
    refine (hok b o z).stay (fun c v hc y => (gk c ?_).trans y) (fun c hc => (del_ne (noa hc)).trans hc) fun c xs hc => (del_ne (at_ne ea hc exo_tup)).trans hc
    rcases hc with hc | hc
    · rw [hc]
      exact hba
    · exact noa hc
  refine ⟨t0, G, I1.call' (ch := []) ho U ok3 hb (fun b z => absurd z (by simp)), fun b o z => ?_, ge, hoe⟩
  by_cases e : b = a
  · rw [e, ge] at z
    cases z
  · exact (gk b e).symm.trans z
/-- the promise of an __init__ that stores nothing -/
def spInitN (C : Addr) : Sp := fun vs H Q _ => ∃ a : Addr, vs = [.ref a] ∧ H a = some (exo a C none) ∧ Q .non H
theorem pmk_n {CX : CXT} {k : Nat} (F : ExcBaseFacts B newId initId bmB) (T : ExN X.K C fI bmB newId) (F1 : FnG X.prog X.w X.K X.mg X.base CX k fI (spInitN C)) (hr : Room (k + 1) X.A) (hgd : X.A.guards = some []) (hx : Passes CX X (fun _ _ _ => False)) (hg : Gl X x) (hm : X.mg x = some (.ref C))
    (hdb : (x == ("__debug__" : Str)) = false := by decide) : PMk X (.Call (.Name x p) [] [] pos) (fun _ H Q => Q (.ref C) none H) := by
  intro pins s σ H Q I h
  refine wpAny_Call_Name_kw (ld_glob I hg hm (PySem.W.callWith_K0 I.kIn T.kC ?_) hdb)
  show wpAny _ _ (call (.ref C) []) _ _ _
  obtain ⟨nm, N, qn, bs, bm, hd, sn, sub, ab, col, dd, k0, k1, k2, k3, k5, hC, hT⟩ := PySem.W.excInit_of I.kIn T.q
  obtain ⟨hp, g, dr, tk, os⟩ := s
  have big : hp.objs.size ≤ hp.objs.size + 1 := Nat.le_succ _
  have hn : H (hp.objs.size + 1) = none := I.hok.fresh big
  have kk : ∀ b o, hp.get? b = some o → ((hp.push (PySem.W.kdv_tup [])).push (PySem.HandSPX.excO C hp.objs.size)).get? b = some o := fun b o z => Heap.get?_push_of_some _ (Heap.get?_push_of_some _ z)
  have made : ((hp.push (PySem.W.kdv_tup [])).push (PySem.HandSPX.excO C hp.objs.size)).get? (hp.objs.size + 1) = some (PySem.HandSPX.excO C hp.objs.size) := by heap_get
  have I2 : Inv X pins σ (upd H (hp.objs.size + 1) (exo (hp.objs.size + 1) C none)) ⟨(hp.push (PySem.W.kdv_tup [])).push (PySem.HandSPX.excO C hp.objs.size), g, dr, tk, os⟩ :=
    I.laid (t' := tk) (a := hp.objs.size + 1) (o := exo (hp.objs.size + 1) C none) (h' := (hp.push (PySem.W.kdv_tup [])).push (PySem.HandSPX.excO C hp.objs.size)) kk big (exo_ok made)
  have q2 : spInitN C [V.ref (hp.objs.size + 1)] (upd H (hp.objs.size + 1) (exo (hp.objs.size + 1) C none)) (fun v H2 => v = .non ∧ H2 = upd H (hp.objs.size + 1) (exo (hp.objs.size + 1) C none)) (fun _ _ _ => False) := ⟨_, rfl, upd_same, rfl, rfl⟩
  refine wpAny_call (PySem.HandSPX.call_own F hT hC (PySem.W.looks_findIn I.kIn T.iC) (fun self => PySem.W.bind_fn I.kIn self T.tI) (Nat.zero_le _)
    (codeAny_mono (F1 _ X.stack _ _ [Value.ref (hp.objs.size + 1)] [V.ref (hp.objs.size + 1)] _ (fun _ _ _ => False) (made_guards hgd C []) (hr.make C [] []) (I2.env0.make C [] []) (.cons rfl .nil) q2) fun rs s' hq => ?_))
  match rs, hq with
  | .error er, hq => exact hx pins σ _ _ er s' I2 hq
  | .ok .next, hq => exact hq.elim
  | .ok .brk, hq => exact hq.elim
  | .ok .cont, hq => exact hq.elim
  | .ok (.ret u), hq =>
    obtain ⟨v, H2, os2, bare2, un2, ok2, rv, rfl, rfl⟩ := hq
    obtain ⟨h2, g2, d2, t2, os'⟩ := s'
    obtain ⟨t0, G, J, kG, ge, hoe⟩ := let_go (a := hp.objs.size + 1) (C := C) (d2 := d2) (t2 := t2) I big kk un2 ok2 os2 bare2 upd_same
    have eH : del (upd H (hp.objs.size + 1) (exo (hp.objs.size + 1) C none)) (hp.objs.size + 1) = H := funext fun b => by
      by_cases z : b = hp.objs.size + 1
      · rw [z, del_same, hn]
      · rw [del_ne z, upd_ne z]
    rw [eH] at J
    exact ⟨rv, hp.objs.size + 1, _, _, ⟨G, g2, d2, t2, os'⟩, H, .ref C, none, rfl, J, kG, ge, hoe, ⟨rfl, rfl⟩, rfl, rfl, hn, rfl, bare2, raises_own T.exC T.tyC, h⟩
end
end Ver

namespace Num
theorem fmod_lt {a b : Int} (h : b ≠ 0) : (a.fmod b).natAbs < b.natAbs := by
  rw [Int.fmod_eq_emod]
  have h0 := Int.emod_nonneg a h
  by_cases c : 0 ≤ b
  · have h1 := Int.emod_lt_of_pos a (show 0 < b by omega)
    rw [if_pos (.inl c)]
    omega
  · have h1 := Int.emod_lt_of_neg a (show b < 0 by omega)
    by_cases d : b ∣ a
    · rw [if_pos (.inr d), Int.emod_eq_zero_of_dvd d]
      omega
    · have h2 : a % b ≠ 0 := fun z => d (Int.dvd_of_emod_eq_zero z)
      rw [if_neg (by rintro (z | z); exact c z; exact d z)]
      omega
theorem gcd_fmod (a b : Int) : Int.gcd b (a.fmod b) = Int.gcd a b := by
  rw [Int.fmod_def, Int.gcd_sub_mul_left_right, Int.gcd_comm]
end Num
namespace Ver
open PySem PySem.Spec PyProof.Rows L2
/-- a part that is not run -/
theorem pe_dead {X : Cx} {e : Expr} : PE X e (fun _ _ _ => False) := ⟨fun _ _ _ _ _ _ h => h.elim⟩
/-- C.m(e, ..), m a plain def of the class C itself or above it -/
theorem pe_clsG {X : Cx} {CX : CXT} {k : Nat} {f C : Addr} {sp : Sp} {E : XK} {x m : Str} {p pos apos : Pos} {e : Expr} {es : List Expr} {t : TA} {pl : Sem Bool} (hg : Gl X x) (hm : X.mg x = some (.ref C)) (rd : PySem.W.readsIn X.K C (.type "type") = true)
    (ga : PySem.W.specialIn X.K (.ref C) "__getattribute__" = some (some (.builtin "type.__getattribute__"))) (fi : PySem.W.findCls X.K (.ref C) (.type "type") m = some (.val (.ref f))) (hk : PySem.W.keepIn X.K (.ref f) = true)
    (F : FnG X.prog X.w X.K X.mg X.base CX k f sp) (hr : Room k X.A) (hgd : X.A.guards = some []) (hx : Passes CX X E) (ha : PA X (e :: es) t)
    (hst : starEach (e :: es) X.env = (false, eval e X.env) :: starEach es X.env := by rfl) (hpl : (backTo pos (starEach es X.env)).any (·.1) = false := by rfl)
    (ht : eval (.Call (.Attribute (.Name x p) m apos) (e :: es) [] pos) X.env = (do
      let ov ← eval (.Name x p) X.env
      standAt apos.atName
      let (g, first) ← holding [ov] (getMethod ov m pl)
      callWith pos g first (backTo pos (starEach (e :: es) X.env)) (backToKw pos (keywordEach [] X.env))) := by rfl) (hdb : (x == ("__debug__" : Str)) = false := by decide) :
    PE X (.Call (.Attribute (.Name x p) m apos) (e :: es) [] pos) (fun σ H Q => t σ H fun vs H1 => sp vs H1 Q E) := by
  refine ⟨fun pins s σ H Q I h => PySem.W.methodCall_KW (pl := pl) (ld_glob I hg hm ?_ hdb) ht⟩
  refine PySem.W.method_cls I.kIn ga (PySem.W.cls_value I.kIn rd fi rfl ?_)
  have J := I.tok (s.toks + 1)
  refine PySem.W.callWith_K (first := []) (h₀ := X.base) I.ok.mod.kin hk (thn (ha.run pos pins _ σ H _ J h) fun us s1 z => ?_) hst hpl
  obtain ⟨vs, H1, I1, r, q⟩ := z
  exact ⟨I1.kIn, runG F hr hgd hx I1 r q⟩
/-- lcm of two ints, great ones too -/
theorem cr_lcm {X : Cx} : CallR X (.builtin "math.lcm") (fun vs H Q => ∃ a b : Int, vs = [.int a, .int b] ∧ a.natAbs < 2 ^ 8000 ∧ b.natAbs < 2 ^ 8000 ∧ Q (.int ((Nat.lcm a.natAbs b.natAbs : Nat) : Int)) H) := by
  intro pins s σ H vs us Q I r h
  obtain ⟨a, b, rfl, ha, hb, q⟩ := h
  obtain ⟨t, u, rfl⟩ := Vals.int2 r
  have la := PySem.Flt.log2_lt_of (by decide) ha
  have lb := PySem.Flt.log2_lt_of (by decide) hb
  have h1 : (max 1 a.natAbs).log2 ≤ 8000 := by
    rcases Nat.le_total 1 a.natAbs with z | z
    · rw [Nat.max_eq_right z]; omega
    · rw [Nat.max_eq_left z]; decide
  have h2 : (max a.natAbs b.natAbs).log2 ≤ 8000 := by
    rcases Nat.le_total a.natAbs b.natAbs with z | z
    · rw [Nat.max_eq_right z]; omega
    · rw [Nat.max_eq_left z]; omega
  have e1 : Nat.lcm 1 a.natAbs = a.natAbs := Nat.lcm_one_left _
  have hs : ((((Nat.lcm 1 a.natAbs).lcm b.natAbs : Nat) : Int)).natAbs.log2 < bitsLine := by
    rw [e1]
    have l1 : Nat.lcm a.natAbs b.natAbs ≤ a.natAbs * b.natAbs := by
      rw [Nat.lcm]
      exact Nat.div_le_self _ _
    have l2 : a.natAbs * b.natAbs < 2 ^ (8000 + 8000) := by
      rw [Nat.pow_add]
      exact Nat.mul_lt_mul'' ha hb
    have l3 : (((Nat.lcm a.natAbs b.natAbs : Nat) : Int)).natAbs < 2 ^ (8000 + 8000) := Nat.lt_of_le_of_lt l1 l2
    have l4 := PySem.Flt.log2_lt_of (by decide) l3
    have e : bitsLine = 134217728 := by decide
    omega
  have g := PySem.W.mg_run_lcm a t b u (by omega) (by omega) hs
  rw [e1] at g
  exact PySem.call_function_meets PySem.W.MGF.kind_lcm PySem.W.MGF.plain_lcm PySem.W.MGF.entry_lcm (PySem.W.MGF.args_lcm _ _) g.meets ⟨.int _, H, I.tok _, ⟨_, rfl⟩, q⟩
section
variable {P : Program} {w : World} {K : PySem.W.Frag} {mg : Str → Option Value} {base : Heap} {CX : CXT} {k : Nat} {f : Addr} {sp sp1 sp2 : Sp}
theorem FnG.either (F1 : FnG P w K mg base CX k f sp1) (F2 : FnG P w K mg base CX k f sp2) (h : ∀ vs H Q E, sp vs H Q E → sp1 vs H Q E ∨ sp2 vs H Q E) : FnG P w K mg base CX k f sp := fun A outer s H us vs Q E g hr e0 r q =>
  (h vs H Q E q).elim (F1 A outer s H us vs Q E g hr e0 r) (F2 A outer s H us vs Q E g hr e0 r)
end
section
variable {X : Cx} {CX : CXT} {k : Nat} {f C : Addr} {sp : Sp} {E : XK} {x : Str} {p pos : Pos}
/-- C() -/
theorem pe_makeG0 (M : Mk X.K C f) (F : FnG X.prog X.w X.K X.mg X.base CX k f sp) (hr : Room (k + 1) X.A) (hgd : X.A.guards = some []) (hg : Gl X x) (hm : X.mg x = some (.ref C)) (hx : Passes CX X E)
    (hdb : (x == ("__debug__" : Str)) = false := by decide) : PE X (.Call (.Name x p) [] [] pos) (StX.tMakeR C sp E tNil) := by
  refine ⟨fun pins s σ H Q I q => wpAny_Call_Name_kw (ld_glob I hg hm (PySem.W.callWith_K0 I.kIn M.kp ?_) hdb)⟩
  show wpAny _ _ (call (.ref C) []) _ _ _
  refine wpAny_call (make_map (f := f) I.kIn M.makes M.init (beq_iff_eq.mp M.fn) ?_)
  have q2 := q (s.heap.objs.size + 1) s.heap.objs.size (I.hok.fresh (Nat.le_succ _)) (I.hok.fresh (Nat.le_refl _)) (Nat.ne_of_lt (Nat.lt_succ_self _))
  have I2 := Inv.made (C := C) I
  refine codeAny_mono (F _ X.stack _ _ (Value.ref (s.heap.objs.size + 1) :: []) (V.ref (s.heap.objs.size + 1) :: []) _ E (made_guards hgd C []) (hr.make C [] []) (I2.env0.make C [] []) (.cons rfl .nil) q2) fun rs s' hq => ?_
  match rs, hq with
  | .error e', hq => exact hx pins σ _ _ e' s' I2 hq
  | .ok (.ret u), hq =>
    obtain ⟨v, H', I3, rv, ev, q3⟩ := I2.after hq
    subst ev
    exact ⟨rv, V.ref (s.heap.objs.size + 1), H', I3, rfl, q3⟩
  | .ok .next, hq => exact hq.elim
  | .ok .brk, hq => exact hq.elim
  | .ok .cont, hq => exact hq.elim
end
end Ver

namespace Ver
open PySem PySem.Spec PyProof.Rows L2
section
variable {X : Cx} {CX : CXT} {k : Nat} {f : Addr} {sp : Sp} {E : L2.St → XK} {m : Str} {pos apos : Pos} {e o : Expr} {es : List Expr} {t : TA} {ta : TE}
/-- o.m(e, ..), what it lets out is caught here -/
def tMethGS (K : PySem.W.Frag) (m : Str) (f : Addr) (sp : Sp) (E : L2.St → XK) (ta : TE) (t : TA) : TE := fun σ H Q => ta σ H fun x H1 => ∃ a C dx fs, x = .ref a ∧ H1 a = some (.ins C dx fs) ∧ Cls K C ∧ Meth K C m f ∧ fs.lookup m = none ∧
  t σ H1 fun vs H2 => sp (.ref a :: vs) H2 Q (E σ)
theorem pe_methGS {pl : Sem Bool} (K' : PySem.W.Frag) (hK : X.K = K') (he : PE X o ta) (hk : PySem.W.keepIn X.K (.ref f) = true) (F : FnG X.prog X.w X.K X.mg X.base CX k f sp) (hr : Room k X.A) (hgd : X.A.guards = some []) (hx : ∀ σ, PassesAt CX X σ (E σ)) (ha : PA X (e :: es) t)
    (hst : starEach (e :: es) X.env = (false, eval e X.env) :: starEach es X.env := by rfl) (hpl : (backTo pos (starEach es X.env)).any (·.1) = false := by rfl)
    (ht : eval (.Call (.Attribute o m apos) (e :: es) [] pos) X.env = (do
      let ov ← eval o X.env
      standAt apos.atName
      let (g, first) ← holding [ov] (getMethod ov m pl)
      callWith pos g first (backTo pos (starEach (e :: es) X.env)) (backToKw pos (keywordEach [] X.env))) := by rfl) :
    PE X (.Call (.Attribute o m apos) (e :: es) [] pos) (tMethGS K' m f sp E ta t) := by
  subst hK
  refine ⟨fun pins s σ H Q I h => PySem.W.methodCall_KW (pl := pl) (thn (he.run pins s σ H _ I h) fun u s1 z => ?_) ht⟩
  obtain ⟨x, H1, I1, rx, a, C, dx, fs, rfl, ea, c, hm, l, q⟩ := z
  cases (show u = Value.ref a from rx)
  refine getmeth_ok I1 ea c hm l (PySem.W.callWith_K (first := [.ref a]) (h₀ := X.base) I.ok.mod.kin hk (thn (ha.run pos pins s1 σ H1 _ I1 q) fun us s2 y => ?_) hst hpl)
  obtain ⟨vs, H2, I2, r, q2⟩ := y
  refine ⟨I2.kIn, ?_⟩
  exact wpAny_call (codeAny_mono (F X.A X.stack s2 H2 (.ref a :: us) (.ref a :: vs) Q (E σ) hgd hr I2.env0 (.cons rfl r) q2) fun rs s' hq => by
    match rs, hq with
    | .error e', hq => exact hx σ pins H2 s2 e' s' I2 hq
    | .ok (.ret u), hq => exact I2.after hq
    | .ok .next, hq => exact hq.elim
    | .ok .brk, hq => exact hq.elim
    | .ok .cont, hq => exact hq.elim)
end
/-! ### lists, shown -/
theorem textFrom_up : ∀ (ts : List Str) (k : Nat) (acc : Str), (textFrom k acc ts).length ≤ acc.length + piled ts
  | [], _, acc => by show acc.length ≤ acc.length + 0; omega
  | t :: r, k, acc => by
    have ih := textFrom_up r (k + 1) (acc ++ (if k > 0 then ", " else "" : String) ++ t)
    have e : (acc ++ (if k > 0 then ", " else "" : String) ++ t).length ≤ acc.length + 2 + t.length := by
      rw [strLen_append, strLen_append]
      by_cases h : k > 0
      · rw [if_pos h]
        exact Nat.le_refl _
      · rw [if_neg h]
        show acc.length + 0 + t.length ≤ _
        omega
    show (textFrom (k + 1) _ r).length ≤ _
    rw [piled_cons]
    omega
end Ver

/-! Data with dicts in it, and its show. -/
namespace Ver
open PySem PySem.Spec PyProof.Rows L2
def kdat : Key → PyData
  | .inl i => .int i
  | .inr x => .str x
mutual
inductive Do (K : PySem.W.Frag) (H : Hp) : V → PyData → Prop
  | non : Do K H .non .none
  | bl (b : Bool) : Do K H (.bl b) (.bool b)
  | int (i : Int) : Do K H (.int i) (.int i)
  | str (x : Str) : Do K H (.str x) (.str x)
  | lst {a : Addr} {xs : List V} {ds : List PyData} : SqL K H a xs → DoAll K H xs ds → Do K H (.ref a) (.list ds)
  | tup {a : Addr} {xs : List V} {ds : List PyData} : SqT K H a xs → DoAll K H xs ds → Do K H (.ref a) (.tuple ds)
  | dic {a : Addr} {kvs : List (Key × V)} {kds : List (PyData × PyData)} : H a = some (.dK kvs) → DoKv K H kvs kds → Do K H (.ref a) (.dict kds)
inductive DoAll (K : PySem.W.Frag) (H : Hp) : List V → List PyData → Prop
  | nil : DoAll K H [] []
  | cons {v : V} {vs : List V} {d : PyData} {ds : List PyData} : Do K H v d → DoAll K H vs ds → DoAll K H (v :: vs) (d :: ds)
inductive DoKv (K : PySem.W.Frag) (H : Hp) : List (Key × V) → List (PyData × PyData) → Prop
  | nil : DoKv K H [] []
  | cons {k : Key} {v : V} {kvs : List (Key × V)} {d : PyData} {kds : List (PyData × PyData)} : Do K H v d → DoKv K H kvs kds → DoKv K H ((k, v) :: kvs) ((kdat k, d) :: kds)
end
theorem reads_key {h : Heap} {k : Key} {v : Value} (e : keyIs k v = true) : Reads h v (kdat k) [] := by
  rcases keyIs_shape e with ⟨i, t, rfl, rfl⟩ | ⟨x, t, rfl, rfl⟩
  · exact .int i t
  · exact .str x t
/-- the module table is a dict of the written part -/
def Sm (K : PySem.W.Frag) : Prop := ∃ o, K.lookup sysModules = some o ∧ o.cls = .type "dict"
section
variable {X : Cx} {pins : List (Addr × Obj)} {σ : L2.St} {H : Hp} {s : Shared}
mutual
theorem Do.reads (sm : Sm X.K) (I : Inv X pins σ H s) : ∀ (d : PyData) (v : V) (u : Value), Do X.K H v d → RelV v u → ∃ as, Reads s.heap u d as ∧ sysModules ∉ as
  | .none, _, _, h, r => by
    cases h
    cases r
    exact ⟨_, Reads.none, by simp⟩
  | .bool b, _, _, h, r => by
    cases h
    cases r
    exact ⟨_, Reads.bool b, by simp⟩
  | .int i, _, _, h, r => by
    cases h
    obtain ⟨t, rfl⟩ := r
    exact ⟨_, Reads.int i t, by simp⟩
  | .str x, _, _, h, r => by
    cases h
    obtain ⟨t, rfl⟩ := r
    exact ⟨_, Reads.str x t, by simp⟩
  | .list ds, _, _, h, r => by
    cases h with
    | lst hs ha =>
      cases r
      obtain ⟨its, rv, ⟨o, n, ho, hc, _, hd⟩, _⟩ := I.list hs
      obtain ⟨as, hr, hn⟩ := Do.readsAll sm I ds _ its ha rv
      refine ⟨_, Reads.list ho hc hd hr, fun z => ?_⟩
      rcases List.mem_cons.mp z with e | z
      · obtain ⟨o2, lk, c2⟩ := sm
        have g := I.kIn _ _ lk
        rw [e] at g
        rw [ho] at g
        cases g
        rw [hc] at c2
        exact absurd c2 (by decide)
      · exact hn z
  | .tuple ds, _, _, h, r => by
    cases h with
    | tup hs ha =>
      cases r
      obtain ⟨its, rv, ⟨o, ho, hc, n, hd⟩, _⟩ := I.tuple hs
      obtain ⟨as, hr, hn⟩ := Do.readsAll sm I ds _ its ha rv
      exact ⟨_, Reads.tuple ho hc hd hr, hn⟩
  | .dict kds, _, _, h, r => by
    cases h with
    | dic ha hk =>
      cases r
      obtain ⟨_, ne, vs, kv, o, es, ep, ho, he, hd, _, hp, _⟩ := dk_of I.hok ha
      obtain ⟨as, bs, h1, h2, n1, n2⟩ := Do.readsKv sm I kds _ vs es.toList hk kv hp
      refine ⟨_, Reads.dict ho he.1 hd h1 h2, fun z => ?_⟩
      rcases List.mem_append.mp z with z | z
      · rcases List.mem_cons.mp z with e | z
        · rw [e] at ne
          rw [beq_self_eq_true] at ne
          cases ne
        · exact n1 z
      · exact n2 z
theorem Do.readsAll (sm : Sm X.K) (I : Inv X pins σ H s) : ∀ (ds : List PyData) (vs : List V) (us : List Value), DoAll X.K H vs ds → Vals vs us → ∃ as, ReadsAll s.heap us ds as ∧ sysModules ∉ as
  | [], _, _, h, r => by
    cases h
    cases r
    exact ⟨_, ReadsAll.nil, by simp⟩
  | d :: ds, _, _, h, r => by
    cases h with
    | cons h1 h2 =>
      cases r with
      | cons r1 r2 =>
        obtain ⟨as, q1, n1⟩ := Do.reads sm I d _ _ h1 r1
        obtain ⟨bs, q2, n2⟩ := Do.readsAll sm I ds _ _ h2 r2
        exact ⟨_, ReadsAll.cons q1 q2, fun z => (List.mem_append.mp z).elim n1 n2⟩
theorem Do.readsKv (sm : Sm X.K) (I : Inv X pins σ H s) : ∀ (kds : List (PyData × PyData)) (kvs : List (Key × V)) (vs : List (Key × Value)) (es : List DictEntry), DoKv X.K H kvs kds → KV kvs vs → Pairs (mixKind X.prog X.w) es vs →
    ∃ as bs, ReadsAll s.heap (es.map (·.key)) (kds.map (·.1)) as ∧ ReadsAll s.heap (es.map (·.val)) (kds.map (·.2)) bs ∧ sysModules ∉ as ∧ sysModules ∉ bs
  | [], _, _, _, h, k, p => by
    cases h
    cases k
    cases p
    exact ⟨_, _, ReadsAll.nil, ReadsAll.nil, by simp, by simp⟩
  | (dk, d) :: kds, _, _, _, h, k, p => by
    cases h with
    | cons h1 h2 =>
      cases k with
      | cons k1 k2 =>
        cases p with
        | cons p1 p2 p3 =>
          rename_i k v kvs b l2 en es
          obtain ⟨e1, e2⟩ := k1
          have e1 : k = b.1 := e1
          have e2 : RelV v en.val := by
            rw [p2]
            exact e2
          have p1 : keyIs k en.key = true := by
            rw [e1]
            exact p1
          obtain ⟨bs0, q1, n1⟩ := Do.reads sm I d _ _ h1 e2
          obtain ⟨as, bs, r1, r2, m1, m2⟩ := Do.readsKv sm I kds _ _ _ h2 k2 p3
          refine ⟨_, _, ReadsAll.cons (reads_key p1) r1, ReadsAll.cons q1 r2, ?_, fun z => (List.mem_append.mp z).elim n1 m2⟩
          simpa using m1
end
/-- repr(x), x any data -/
def rReprO (K : PySem.W.Frag) : List V → Hp → VK → Prop := fun xs H Q => ∃ (x : V) (d : PyData), xs = [x] ∧ Do K H x d ∧ d.showable = true ∧ d.shown.length ≤ sizeLine ∧ d.depth ≤ 60 ∧ Q (.str d.shown) H
theorem call_reprO (sm : Sm X.K) (hg : X.A.guards = some []) (hu : X.A.units + 64 < cLine) : CallR X (.builtin "repr") (rReprO X.K) := by
  intro pins s σ H xs us Q I r h
  obtain ⟨x, d, rfl, hd, hs, hz, hdp, q⟩ := h
  obtain ⟨u, rfl, rx⟩ := vals1 r
  obtain ⟨as, rd, na⟩ := Do.reads sm I d x u hd rx
  cases rd with
  | none => exact PySem.P.repr_of_none ⟨.str _, H, I.tok _, ⟨_, rfl⟩, by simpa only [PyData.shown] using q⟩
  | bool b => exact PySem.P.repr_of_bool ⟨.str _, H, I.tok _, ⟨_, rfl⟩, by simpa only [PyData.shown] using q⟩
  | int i t => exact PySem.P.repr_of_int (by simpa [PyData.showable] using hs) ⟨.str _, H, I.tok _, ⟨_, rfl⟩, by simpa only [PyData.shown] using q⟩
  | str y t => exact PySem.P.repr_of_str ⟨.str _, H, I.tok _, ⟨_, rfl⟩, by simpa only [PyData.shown] using q⟩ (by simpa only [PyData.shown] using hz)
  | list h1 h2 h3 h4 =>
    exact repr_of_reads' (.list h1 h2 h3 h4) hs (fun _ => na) hg (by omega) (fun _ _ z => z) (fun h' u tk hk => ⟨.str _, H, I.kept (t' := tk) hk, ⟨u, rfl⟩, q⟩) hz
  | tuple h1 h2 h3 h4 =>
    exact repr_of_reads' (.tuple h1 h2 h3 h4) hs (fun _ => na) hg (by omega) (fun _ _ z => z) (fun h' u tk hk => ⟨.str _, H, I.kept (t' := tk) hk, ⟨u, rfl⟩, q⟩) hz
  | dict h1 h2 h3 h4 h5 =>
    exact repr_of_reads' (.dict h1 h2 h3 h4 h5) hs (fun _ => na) hg (by omega) (fun _ _ z => z) (fun h' u tk hk => ⟨.str _, H, I.kept (t' := tk) hk, ⟨u, rfl⟩, q⟩) hz
end
end Ver

namespace Ver
open PySem PySem.Spec PyProof.Rows L2
def tyD : PyData → String
  | .none => "NoneType"
  | .bool _ => "bool"
  | .int _ => "int"
  | .str _ => "str"
  | .list _ => "list"
  | .tuple _ => "tuple"
  | .dict _ => "dict"
section
variable {K : PySem.W.Frag} {H H' : Hp}
theorem Do.ty {x : V} {d : PyData} (h : Do K H x d) : TyX K H x (.type (tyD d)) := by
  cases h with
  | non => exact .base .non
  | bl b => exact .base (.bl b)
  | int i => exact .base (.int i)
  | str s => exact .base (.str s)
  | lst hs ha =>
    rcases hs with (e | ⟨o, e⟩) | ⟨o, its, n, lk, c, _⟩
    · exact .base (.lst e)
    · exact .base (.frz e)
    · exact .kList lk c
  | tup hs ha =>
    rcases hs with (e | ⟨o, e⟩) | ⟨o, its, n, lk, c, _⟩
    · exact .base (.tup e)
    · exact .fTuple e
    · exact .kTuple lk c
  | dic e hk => exact .base (.dK e)
theorem sqt_keep {a : Addr} {xs : List V} (s : Same H H') (h : SqT K H a xs) : SqT K H' a xs := by
  rcases h with (h | ⟨o, h⟩) | h
  · exact .inl (.inl (s _ _ h))
  · exact .inl (.inr ⟨o, s _ _ h⟩)
  · exact .inr h
mutual
theorem Do.same (s : Same H H') : ∀ (d : PyData) (x : V), Do K H x d → Do K H' x d
  | .none, _, h => by cases h; exact .non
  | .bool b, _, h => by cases h; exact .bl b
  | .int i, _, h => by cases h; exact .int i
  | .str y, _, h => by cases h; exact .str y
  | .list ds, _, h => by
    cases h with
    | lst hs ha => exact .lst (s.seq hs) (DoAll.same s ds _ ha)
  | .tuple ds, _, h => by
    cases h with
    | tup hs ha => exact .tup (sqt_keep s hs) (DoAll.same s ds _ ha)
  | .dict kds, _, h => by
    cases h with
    | dic e hk => exact .dic (s _ _ e) (DoKv.same s kds _ hk)
theorem DoAll.same (s : Same H H') : ∀ (ds : List PyData) (xs : List V), DoAll K H xs ds → DoAll K H' xs ds
  | [], _, h => by cases h; exact .nil
  | d :: ds, _, h => by
    cases h with
    | cons h1 h2 => exact .cons (Do.same s d _ h1) (DoAll.same s ds _ h2)
theorem DoKv.same (s : Same H H') : ∀ (kds : List (PyData × PyData)) (kvs : List (Key × V)), DoKv K H kvs kds → DoKv K H' kvs kds
  | [], _, h => by cases h; exact .nil
  | (dk, d) :: kds, _, h => by
    cases h with
    | cons h1 h2 => exact .cons (Do.same s d _ h1) (DoKv.same s kds _ h2)
end
/-- isinstance(x, a built-in type), x any data -/
def is_int (d : PyData) : Bool := match d with | .int _ => true | .bool _ => true | _ => false
theorem kit_int : ∀ d : PyData, PySem.W.kitOne K (.type (tyD d)) (.type "int") = some (is_int d)
  | .none => show PySem.W.kitOne K (.type "NoneType") (.type "int") = some false from kit_ty (by decide +kernel)
  | .bool _ => show PySem.W.kitOne K (.type "bool") (.type "int") = some true from kit_ty (by decide +kernel)
  | .int _ => show PySem.W.kitOne K (.type "int") (.type "int") = some true from kit_ty (by decide +kernel)
  | .str _ => show PySem.W.kitOne K (.type "str") (.type "int") = some false from kit_ty (by decide +kernel)
  | .list _ => show PySem.W.kitOne K (.type "list") (.type "int") = some false from kit_ty (by decide +kernel)
  | .tuple _ => show PySem.W.kitOne K (.type "tuple") (.type "int") = some false from kit_ty (by decide +kernel)
  | .dict _ => show PySem.W.kitOne K (.type "dict") (.type "int") = some false from kit_ty (by decide +kernel)
def is_bool (d : PyData) : Bool := match d with | .bool _ => true | _ => false
theorem kit_bool : ∀ d : PyData, PySem.W.kitOne K (.type (tyD d)) (.type "bool") = some (is_bool d)
  | .none => show PySem.W.kitOne K (.type "NoneType") (.type "bool") = some false from kit_ty (by decide +kernel)
  | .bool _ => show PySem.W.kitOne K (.type "bool") (.type "bool") = some true from kit_ty (by decide +kernel)
  | .int _ => show PySem.W.kitOne K (.type "int") (.type "bool") = some false from kit_ty (by decide +kernel)
  | .str _ => show PySem.W.kitOne K (.type "str") (.type "bool") = some false from kit_ty (by decide +kernel)
  | .list _ => show PySem.W.kitOne K (.type "list") (.type "bool") = some false from kit_ty (by decide +kernel)
  | .tuple _ => show PySem.W.kitOne K (.type "tuple") (.type "bool") = some false from kit_ty (by decide +kernel)
  | .dict _ => show PySem.W.kitOne K (.type "dict") (.type "bool") = some false from kit_ty (by decide +kernel)
def is_tuple (d : PyData) : Bool := match d with | .tuple _ => true | _ => false
theorem kit_tuple : ∀ d : PyData, PySem.W.kitOne K (.type (tyD d)) (.type "tuple") = some (is_tuple d)
  | .none => show PySem.W.kitOne K (.type "NoneType") (.type "tuple") = some false from kit_ty (by decide +kernel)
  | .bool _ => show PySem.W.kitOne K (.type "bool") (.type "tuple") = some false from kit_ty (by decide +kernel)
  | .int _ => show PySem.W.kitOne K (.type "int") (.type "tuple") = some false from kit_ty (by decide +kernel)
  | .str _ => show PySem.W.kitOne K (.type "str") (.type "tuple") = some false from kit_ty (by decide +kernel)
  | .list _ => show PySem.W.kitOne K (.type "list") (.type "tuple") = some false from kit_ty (by decide +kernel)
  | .tuple _ => show PySem.W.kitOne K (.type "tuple") (.type "tuple") = some true from kit_ty (by decide +kernel)
  | .dict _ => show PySem.W.kitOne K (.type "dict") (.type "tuple") = some false from kit_ty (by decide +kernel)
def is_str (d : PyData) : Bool := match d with | .str _ => true | _ => false
theorem kit_str : ∀ d : PyData, PySem.W.kitOne K (.type (tyD d)) (.type "str") = some (is_str d)
  | .none => show PySem.W.kitOne K (.type "NoneType") (.type "str") = some false from kit_ty (by decide +kernel)
  | .bool _ => show PySem.W.kitOne K (.type "bool") (.type "str") = some false from kit_ty (by decide +kernel)
  | .int _ => show PySem.W.kitOne K (.type "int") (.type "str") = some false from kit_ty (by decide +kernel)
  | .str _ => show PySem.W.kitOne K (.type "str") (.type "str") = some true from kit_ty (by decide +kernel)
  | .list _ => show PySem.W.kitOne K (.type "list") (.type "str") = some false from kit_ty (by decide +kernel)
  | .tuple _ => show PySem.W.kitOne K (.type "tuple") (.type "str") = some false from kit_ty (by decide +kernel)
  | .dict _ => show PySem.W.kitOne K (.type "dict") (.type "str") = some false from kit_ty (by decide +kernel)
def is_list (d : PyData) : Bool := match d with | .list _ => true | _ => false
theorem kit_list : ∀ d : PyData, PySem.W.kitOne K (.type (tyD d)) (.type "list") = some (is_list d)
  | .none => show PySem.W.kitOne K (.type "NoneType") (.type "list") = some false from kit_ty (by decide +kernel)
  | .bool _ => show PySem.W.kitOne K (.type "bool") (.type "list") = some false from kit_ty (by decide +kernel)
  | .int _ => show PySem.W.kitOne K (.type "int") (.type "list") = some false from kit_ty (by decide +kernel)
  | .str _ => show PySem.W.kitOne K (.type "str") (.type "list") = some false from kit_ty (by decide +kernel)
  | .list _ => show PySem.W.kitOne K (.type "list") (.type "list") = some true from kit_ty (by decide +kernel)
  | .tuple _ => show PySem.W.kitOne K (.type "tuple") (.type "list") = some false from kit_ty (by decide +kernel)
  | .dict _ => show PySem.W.kitOne K (.type "dict") (.type "list") = some false from kit_ty (by decide +kernel)
def is_dict (d : PyData) : Bool := match d with | .dict _ => true | _ => false
theorem kit_dict : ∀ d : PyData, PySem.W.kitOne K (.type (tyD d)) (.type "dict") = some (is_dict d)
  | .none => show PySem.W.kitOne K (.type "NoneType") (.type "dict") = some false from kit_ty (by decide +kernel)
  | .bool _ => show PySem.W.kitOne K (.type "bool") (.type "dict") = some false from kit_ty (by decide +kernel)
  | .int _ => show PySem.W.kitOne K (.type "int") (.type "dict") = some false from kit_ty (by decide +kernel)
  | .str _ => show PySem.W.kitOne K (.type "str") (.type "dict") = some false from kit_ty (by decide +kernel)
  | .list _ => show PySem.W.kitOne K (.type "list") (.type "dict") = some false from kit_ty (by decide +kernel)
  | .tuple _ => show PySem.W.kitOne K (.type "tuple") (.type "dict") = some false from kit_ty (by decide +kernel)
  | .dict _ => show PySem.W.kitOne K (.type "dict") (.type "dict") = some true from kit_ty (by decide +kernel)
end
end Ver

namespace Ver
open PySem PySem.Spec PyProof.Rows L2
/-! ### == and != of any data -/
section
variable {X : Cx}
def rEqO (K : PySem.W.Frag) : R2 := fun x y H Q => ∃ d e, Do K H x d ∧ Do K H y e ∧ SeqAt.shaped d = true ∧ SeqAt.shaped e = true ∧ Q (.bl (PyData.eqv d e)) H
def rNeO (K : PySem.W.Frag) : R2 := fun x y H Q => ∃ d e, Do K H x d ∧ Do K H y e ∧ SeqAt.shaped d = true ∧ SeqAt.shaped e = true ∧ Q (.bl (!PyData.eqv d e)) H
def rNotInO (K : PySem.W.Frag) : R2 := fun x y H Q => ∃ d ds, Do K H x d ∧ Do K H y (.list ds) ∧ SeqAt.shaped d = true ∧ SeqAt.shaped (.list ds) = true ∧ Q (.bl (!(ds.any fun z => PyData.eqv z d))) H
theorem op_eqO (sm : Sm X.K) (hu : X.A.units + 64 < cLine) : OpR X (compareOp .Eq) (rEqO X.K) := by
  intro pins s σ H x y v u Q I rx ry h
  obtain ⟨d, e, hd, he, sd, se, q⟩ := h
  obtain ⟨as, r1, _⟩ := Do.reads sm I d x v hd rx
  obtain ⟨bs, r2, _⟩ := Do.reads sm I e y u he ry
  exact SeqAt.compareEq_shaped r1 r2 sd se hu ⟨.bl _, H, I, rfl, q⟩
theorem op_neO (sm : Sm X.K) (hu : X.A.units + 64 < cLine) : OpR X (compareOp .NotEq) (rNeO X.K) := by
  intro pins s σ H x y v u Q I rx ry h
  obtain ⟨d, e, hd, he, sd, se, q⟩ := h
  obtain ⟨as, r1, _⟩ := Do.reads sm I d x v hd rx
  obtain ⟨bs, r2, _⟩ := Do.reads sm I e y u he ry
  exact SeqAt.compareNe_shaped r1 r2 sd se hu ⟨.bl _, H, I, rfl, q⟩
theorem op_notInO (sm : Sm X.K) (hu : X.A.units + 65 < cLine) : OpR X (compareOp .NotIn) (rNotInO X.K) := by
  intro pins s σ H x y v u Q I rx ry h
  obtain ⟨d, ds, hd, he, sd, se, q⟩ := h
  obtain ⟨as, r1, _⟩ := Do.reads sm I d x v hd rx
  obtain ⟨bs, r2, _⟩ := Do.reads sm I (.list ds) y u he ry
  exact SeqAt.notIn_list_reads r2 r1 (SeqAt.canLay_of_shaped se) (SeqAt.canLay_of_shaped sd) (room_in_shaped sd hu) ⟨.bl _, H, I, rfl, q⟩
/-- a text, many times -/
theorem op_strMul : OpR X (binaryOp .Mult) (fun x y H Q => ∃ (a : Str) (n : Int), x = .str a ∧ y = .int n ∧ a.length ≤ 1000 ∧ 0 < a.length ∧ 2 ≤ n ∧ n ≤ 10000 ∧ (⟨(List.replicate n.toNat a.cps).foldl (· ++ ·) #[]⟩ : Str).length ≤ sizeLine ∧ Q (.str ⟨(List.replicate n.toNat a.cps).foldl (· ++ ·) #[]⟩) H) := by
  intro pins s σ H x y v u Q I rx ry h
  obtain ⟨a, n, rfl, rfl, h1, h0, h2, h3, hz, q⟩ := h
  obtain ⟨t, rfl⟩ := rx
  obtain ⟨t2, rfl⟩ := ry
  have e1 : ¬ n < 1 := by omega
  have e2 : ¬ (n == 1 || a.length == 0) = true := by
    rw [Bool.or_eq_true, not_or]
    refine ⟨fun z => ?_, fun z => ?_⟩
    · have := beq_iff_eq.mp z
      omega
    · have := beq_iff_eq.mp z
      omega
  refine PySem.P.mul_str ?_ (fun _ _ => ?_) (fun _ _ => ?_) ?_
  · rw [decide_eq_false (by omega), decide_eq_false (by omega)]
    rfl
  · have : (2 ^ 63 - 1) / n ≥ 1000 := Int.le_ediv_of_mul_le (by omega) (by omega)
    omega
  · have hm : a.length * n.toNat ≤ 1000 * 10000 := Nat.mul_le_mul h1 (by omega)
    exact decide_eq_false (by rw [sizeLine_eq]; omega)
  · rw [if_neg e1, if_neg e2]
    exact ⟨hz, .str _, H, I.tok _, ⟨_, rfl⟩, q⟩
end
/-! ### an own __eq__ -/
section
variable {M : Model} {prog : Program} {w : World} {A : Around} {E : Value → Shared → Prop} {s : Shared} {K : PySem.W.Frag} {x C L f : Addr} {h₀ : Heap} {m : Str → Option Value} {ox : Obj} {od : Option Obj} {name : Str} {b tb : Value}
theorem ifBound_B {id B : String} {args : List Value} {Q : Option Value → Shared → Prop} (S : PySem.Slot B name id) (X : K.In s.heap) (I : PySem.W.InstAt s.heap x ox C od) (hs : PySem.W.findIn K (.ref C) name = some (some (.builtin id)))
    (h : wpAny M A (call (.builtin id) (.ref x :: args)) (fun v => Q (some v)) E s) : wpAny M A (callSpecialIfBound? (.ref x) name args) Q E s := by
  simp only [callSpecialIfBound?, bindSpecialIfBound?]
  refine wpAny_holding (wpAny_bind (wpAny_bind (wpAny_bind (I.type.here ((PySem.W.looks_findIn X hs).here ?_)))))
  simp only [S.bind]
  refine wpAny_bind (wpAny_askSetting (wpAny_ite ?_))
  have fin : wpAny M A (call (.builtin id) ([.ref x] ++ args) >>= fun v => pure (some v)) Q E s := wpAny_bind (wpAny_mono h (fun v s' h' => wpAny_pure h') fun _ _ h' => h')
  split
  · exact wpAny_bind (wpAny_pure (wpAny_pure fin))
  · exact wpAny_tryCatch (wpAny_bind (wpAny_pure (wpAny_pure fin)))
theorem objNe_K (X : K.In s.heap) (I : PySem.W.InstAt s.heap x ox C od) (hs : PySem.W.findIn K (.ref C) "__eq__" = some (some (.ref f))) (hf : PySem.W.isFn K (.ref f) = true) (hu : A.units < cLine) {Q : Fin → Shared → Prop}
    (hcall : wpAny (model prog w) A (call (.ref f) [.ref x, b]) (fun v s' => ∃ k, v = .bool k ∧ Q (.done (.ret (.bool (!k)))) s') E s) :
    wpAny (model prog w) A (Builtin.«object.__ne__» ⟨[.ref x, b], []⟩) Q E s := by
  obtain ⟨hp, g, d, t, os⟩ := s
  unfold Builtin.«object.__ne__»
  repeat (first
    | with_reducible refine wpAny_cRoomFor hu ?_
    | (refine wpAny_bind (m := callSpecialIfBound? (.ref x) (Str.ofString "__eq__") [b])
        (PySem.W.ifBound_K X I hs hf (wpAny_mono hcall (fun r s' hr => by
          obtain ⟨b, rfl, hq⟩ := hr
          repeat (first | exact hq | exact wpAny_pure hq | exact wpAny_truthy_bool hq | (refine wpAny_bind (m := truthy (.bool _)) (wpAny_truthy_bool ?_)) | wp_step)) fun _ _ e => e)))
    | wp_step)
theorem ne_K {Q : Value → Shared → Prop} (hu : A.units + 1 < cLine) (X : K.In s.heap) (I : PySem.W.InstAt s.heap x ox C od) (hb : PySem.W.Looks (model prog w) s.heap (typeOf b) tb) (hn : PySem.W.notFirst K C tb = true)
    (hs : PySem.W.findIn K (.ref C) "__eq__" = some (some (.ref f))) (hf : PySem.W.isFn K (.ref f) = true) (hne : PySem.W.findIn K (.ref C) "__ne__" = some (some (.builtin "object.__ne__"))) (hob : PySem.W.subIn K (.ref C) (.type "object") = some true)
    (h : wpAny (model prog w) A.in1 (call (.ref f) [.ref x, b]) (fun v s' => ∃ k, v = .bool k ∧ Q (.bool (!k)) s') E s) : wpAny (model prog w) A (richCompare .NotEq (.ref x) b) Q E s := by
  have isO : PySem.W.Looks (model prog w) s.heap (isInstance (.ref x) (.type "object")) true := I.type.andThen (PySem.W.looks_subIn X hob)
  have one : wpAny (model prog w) A (tryCompare (.ref x) (cmpInfo .NotEq).2.1 b) (fun r s' => ∃ v, r = some v ∧ Q v s') E s := by
    unfold tryCompare
    refine wpAny_bind (ifBound_B PySem.F.cmp_object.ne X I hne (wpAny_call (codeAny_call_builtin PySem.F.cmp_object.ne.plain PySem.F.cmpEntry_ne
      (PySem.W.check_slot PySem.F.cmpKind_ne PySem.F.cmpSplit_ne isO (PySem.F.cmpArgs_ne _ _) (objNe_K (A := A.in1) X I hs hf hu (wpAny_mono h (fun v s' hv => ?_) fun _ _ e => e))))))
    obtain ⟨k, rfl, hq⟩ := hv
    first | exact ⟨k, rfl, wpAny_pure ⟨_, rfl, hq⟩⟩ | exact ⟨k, rfl, wpAny_pure (wpAny_pure ⟨_, rfl, hq⟩)⟩
  unfold richCompare
  simp only [oneThing_ref]
  refine wpAny_holding (wpAny_bind (wpAny_cRoomFor (Nat.lt_of_succ_lt hu) ?_))
  refine wpAny_bind (I.type.here (wpAny_bind (hb.here ?_)))
  split
  · rename_i q
    have e : PySem.W.subIn K tb (.ref C) = some false := by
      rcases Bool.or_eq_true_iff.mp hn with e | e
      · rw [beq_iff_eq.mp e] at q; simp at q
      · exact beq_iff_eq.mp e
    refine wpAny_bind ((PySem.W.looks_subIn X e).here ?_)
    simp only [Bool.false_eq_true, if_false]
    refine wpAny_bind (wpAny_mono one (fun r s' z => ?_) fun _ _ e => e)
    obtain ⟨v, rfl, hq⟩ := z
    exact wpAny_pure hq
  · refine wpAny_bind (wpAny_pure ?_)
    simp only [Bool.false_eq_true, if_false]
    refine wpAny_bind (wpAny_mono one (fun r s' z => ?_) fun _ _ e => e)
    obtain ⟨v, rfl, hq⟩ := z
    exact wpAny_pure hq
end
end Ver

namespace Ver
open PySem PySem.Spec PyProof.Rows L2
/-- what the written part tells of the class at C whose == is the def at f, against a value of the type t -/
structure OwnQ (K : PySem.W.Frag) (C f : Addr) (t : Value) : Prop where
  nf : PySem.W.notFirst K C t = true
  eq : PySem.W.findIn K (.ref C) "__eq__" = some (some (.ref f))
  fn : PySem.W.isFn K (.ref f) = true
  ne : PySem.W.findIn K (.ref C) "__ne__" = some (some (.builtin "object.__ne__"))
  ob : PySem.W.subIn K (.ref C) (.type "object") = some true
section
variable {X : Cx} {CX : CXT} {k : Nat} {f C : Addr} {sp : Sp} {E : XK} {pins : List (Addr × Obj)} {σ : L2.St} {H : Hp} {s : Shared} {Q : VK} {us : List Value} {vs : List V}
/-- the callee's run, one call further in -/
theorem runG1 (F : FnG X.prog X.w X.K X.mg X.base CX k f sp) (hr : Room (k + 1) X.A) (hgd : X.A.guards = some []) (hx : Passes CX X E) (I : Inv X pins σ H s) (r : Vals vs us) (h : sp vs H Q E) :
    wpAny (model X.prog X.w) X.A.in1 (call (.ref f) us) (EP X pins σ Q) X.xe s :=
  wpAny_call (codeAny_mono (F X.A.in1 X.stack s H us vs Q E hgd hr.in1 I.env0.in1 r h) fun rs s' hq => by
    match rs, hq with
    | .error e', hq => exact hx pins σ H s e' s' I hq
    | .ok (.ret u), hq => exact I.after hq
    | .ok .next, hq => exact hq.elim
    | .ok .brk, hq => exact hq.elim
    | .ok .cont, hq => exact hq.elim)
def rOwnQ (K : PySem.W.Frag) (f : Addr) (sp : Sp) (E : XK) (g : Bool → Bool) : R2 := fun x y H Q => ∃ (a C dx : Addr) (fs : List (Str × V)) (t : Value), x = .ref a ∧ H a = some (.ins C dx fs) ∧ TyX K H y t ∧ OwnQ K C f t ∧
  sp [x, y] H (fun z H' => ∃ b : Bool, z = .bl b ∧ Q (.bl (g b)) H') E
theorem op_eqOwn (F : FnG X.prog X.w X.K X.mg X.base CX k f sp) (hr : Room (k + 1) X.A) (hgd : X.A.guards = some []) (hx : Passes CX X E) : OpR X (compareOp .Eq) (rOwnQ X.K f sp E fun b => b) := by
  intro pins s σ H x y v u Q I rx ry h
  obtain ⟨a, C, dx, fs, t, rfl, ea, ty, O, q⟩ := h
  cases (show v = Value.ref a from rx)
  obtain ⟨mA, ob, r, wi, _, ho⟩ := ins_get I.hok ea
  obtain ⟨od, J, _⟩ := ob.look
  obtain ⟨P, kx, hp, _⟩ := kit_of I ry ty
  obtain ⟨m, hF⟩ := I.fr
  show wpAny _ _ (richCompare .Eq (.ref a) u) _ _ _
  refine PySem.W.cmp_K (op := .Eq) (tb := t) (Nat.lt_of_lt_of_le (Nat.lt_of_le_of_lt (Nat.le_add_right _ 64) hr.units) (Nat.le_refl _)) hF I.ok.mod.kin J (kx.ty _ _ I.kIn hp) O.nf O.eq O.fn ?_
  refine wpAny_mono (runG (us := [.ref a, u]) (vs := [.ref a, y]) F (hr.mono (Nat.le_succ k)) hgd hx I (.cons rfl (.cons ry .nil)) q) (fun w s' z => ?_) fun _ _ x => x
  obtain ⟨z', H', I', rz, b, rfl, qz⟩ := z
  cases (show w = Value.bool b from rz)
  exact ⟨.bl b, H', I', rfl, qz⟩
theorem op_neOwn (F : FnG X.prog X.w X.K X.mg X.base CX k f sp) (hr : Room (k + 1) X.A) (hgd : X.A.guards = some []) (hx : Passes CX X E) : OpR X (compareOp .NotEq) (rOwnQ X.K f sp E fun b => !b) := by
  intro pins s σ H x y v u Q I rx ry h
  obtain ⟨a, C, dx, fs, t, rfl, ea, ty, O, q⟩ := h
  cases (show v = Value.ref a from rx)
  obtain ⟨mA, ob, r, wi, _, ho⟩ := ins_get I.hok ea
  obtain ⟨od, J, _⟩ := ob.look
  obtain ⟨P, kx, hp, _⟩ := kit_of I ry ty
  show wpAny _ _ (richCompare .NotEq (.ref a) u) _ _ _
  refine ne_K (tb := t) (Nat.lt_of_le_of_lt (Nat.add_le_add_left (by decide) _) hr.units) I.kIn J (kx.ty _ _ I.kIn hp) O.nf O.eq O.fn O.ne O.ob ?_
  refine wpAny_mono (runG1 (us := [.ref a, u]) (vs := [.ref a, y]) F hr hgd hx I (.cons rfl (.cons ry .nil)) q) (fun w s' z => ?_) fun _ _ x => x
  obtain ⟨z', H', I', rz, b, rfl, qz⟩ := z
  cases (show w = Value.bool b from rz)
  exact ⟨b, rfl, .bl (!b), H', I', rfl, qz⟩
end
/-! ### a static method, read off its class; what is raised is caught here -/
/-- what the written part tells of a static method -/
structure StM (K : PySem.W.Frag) (C : Addr) (m : Str) (f : Addr) : Prop where
  ga : PySem.W.specialIn K (.ref C) "__getattribute__" = some (some (.builtin "type.__getattribute__"))
  ty : PySem.W.typeIn K (.ref C) = some (.type "type")
  rd : PySem.W.readsIn K C (.type "type") = true
  at_ : ∃ p, PySem.W.findCls K (.ref C) (.type "type") m = some (.get (.builtin "staticmethod.__get__") (.ref p) .none (.ref C)) ∧ ∃ rest, PySem.W.recIn K p "staticmethod" = some (.ref f :: rest)
  kp : PySem.W.keepIn K (.ref f) = true
section
variable {X : Cx} {CX : CXT} {k : Nat} {f C : Addr} {sp : Sp} {x m : Str} {p pos apos : Pos} {e : Expr} {es : List Expr} {t : TA}
/-- C.m(e, ..), what it raises is wished for at the slots -/
theorem pe_stcGS {E : L2.St → XK} {pl : Sem Bool} (S : StM X.K C m f) (hg : Gl X x) (hm : X.mg x = some (.ref C)) (F : FnG X.prog X.w X.K X.mg X.base CX k f sp) (hr : Room k X.A) (hgd : X.A.guards = some []) (hx : ∀ σ, PassesAt CX X σ (E σ)) (ha : PA X (e :: es) t)
    (hst : starEach (e :: es) X.env = (false, eval e X.env) :: starEach es X.env := by rfl) (hpl : (backTo pos (starEach es X.env)).any (·.1) = false := by rfl)
    (ht : eval (.Call (.Attribute (.Name x p) m apos) (e :: es) [] pos) X.env = (do
      let ov ← eval (.Name x p) X.env
      standAt apos.atName
      let (g, first) ← holding [ov] (getMethod ov m pl)
      callWith pos g first (backTo pos (starEach (e :: es) X.env)) (backToKw pos (keywordEach [] X.env))) := by rfl) (hdb : (x == ("__debug__" : Str)) = false := by decide) :
    PE X (.Call (.Attribute (.Name x p) m apos) (e :: es) [] pos) (fun σ H Q => t σ H fun vs H1 => sp vs H1 Q (E σ)) := by
  obtain ⟨pa, fc, rest, hp⟩ := S.at_
  refine ⟨fun pins s σ H Q I h => PySem.W.methodCall_KW (pl := pl) (ld_glob I hg hm ?_ hdb) ht⟩
  obtain ⟨mm, fr⟩ := I.fr
  refine PySem.W.method_of_cls fr I.ok.mod.kin S.ga (PySem.W.cls_sm fr I.ok.mod.kin S.ty S.rd fc hp (by rfl) ?_)
  have J := I.tok (s.toks + 1)
  refine PySem.W.callWith_K (first := []) (h₀ := X.base) I.ok.mod.kin S.kp (thn (ha.run pos pins _ σ H _ J h) fun us s1 z => ?_) hst hpl
  obtain ⟨vs, H1, I1, r, q⟩ := z
  refine ⟨I1.kIn, ?_⟩
  exact wpAny_call (codeAny_mono (F X.A X.stack s1 H1 us vs Q (E σ) hgd hr I1.env0 r q) fun rs s' hq => by
    match rs, hq with
    | .error e', hq => exact hx σ pins H1 s1 e' s' I1 hq
    | .ok (.ret u), hq => exact I1.after hq
    | .ok .next, hq => exact hq.elim
    | .ok .brk, hq => exact hq.elim
    | .ok .cont, hq => exact hq.elim)
/-- C(e, ..), what __init__ raises is wished for at the slots -/
def tMakeGS (C : Addr) (sp : Sp) (E : L2.St → XK) (t : TA) : TE := fun σ H Q => StX.tMakeR C sp (E σ) t σ H Q
theorem pe_makeGS {E : L2.St → XK} (M : Mk X.K C f) (F : FnG X.prog X.w X.K X.mg X.base CX k f sp) (hr : Room (k + 1) X.A) (hgd : X.A.guards = some []) (hg : Gl X x) (hm : X.mg x = some (.ref C)) (hx : ∀ σ, PassesAt CX X σ (E σ)) (ha : PA X (e :: es) t)
    (hdb : (x == ("__debug__" : Str)) = false := by decide) (he : starEach (e :: es) X.env = (false, eval e X.env) :: starEach es X.env := by rfl)
    (hpl : (backTo pos (starEach es X.env)).any (·.1) = false := by rfl) : PE X (.Call (.Name x p) (e :: es) [] pos) (tMakeGS C sp E t) := by
  refine ⟨fun pins s σ H Q I h => wpAny_Call_Name_kw (ld_glob I hg hm (PySem.W.callWith_K (h₀ := X.base) I.ok.mod.kin M.kp (thn (ha.run pos pins s σ H _ I h) fun us s1 z => ?_) he hpl) hdb)⟩
  obtain ⟨vs, H1, I1, r, q⟩ := z
  refine ⟨I1.kIn, wpAny_call (make_map (f := f) I1.kIn M.makes M.init (beq_iff_eq.mp M.fn) ?_)⟩
  have q2 := q (s1.heap.objs.size + 1) s1.heap.objs.size (I1.hok.fresh (Nat.le_succ _)) (I1.hok.fresh (Nat.le_refl _)) (Nat.ne_of_lt (Nat.lt_succ_self _))
  have I2 := Inv.made (C := C) I1
  refine codeAny_mono (F _ X.stack _ _ (Value.ref (s1.heap.objs.size + 1) :: us) (V.ref (s1.heap.objs.size + 1) :: vs) _ (E σ) (made_guards hgd C us) (hr.make C us []) (I2.env0.make C us []) (.cons rfl r) q2) fun rs s' hq => ?_
  match rs, hq with
  | .error e', hq => exact hx σ pins _ _ e' s' I2 hq
  | .ok (.ret u), hq =>
    obtain ⟨v, H', I3, rv, ev, q3⟩ := I2.after hq
    subst ev
    exact ⟨rv, V.ref (s1.heap.objs.size + 1), H', I3, rfl, q3⟩
  | .ok .next, hq => exact hq.elim
  | .ok .brk, hq => exact hq.elim
  | .ok .cont, hq => exact hq.elim
end
end Ver

namespace Ver
open PySem PySem.Spec PyProof.Rows L2
/-- isinstance(e, c), e the exception that the suite holds, its dict at dd -/
def rIsED (K : PySem.W.Frag) (D a dd : Addr) : List V → Hp → VK → Prop := fun xs H Q => ∃ (c : V) (cv : Value) (b : Bool) (fs : List (Str × V)), xs = [.ref a, c] ∧ (∀ u, RelV c u → u = cv) ∧ PySem.W.kitOne K (.ref D) cv = some b ∧ H dd = some (.xd fs) ∧ Q (.bl b) H
theorem call_isED {X : Cx} {a D dd : Addr} {oe : Obj} {pn : List (Addr × Obj)} (C : ExcC X.K D) (hz : Zc (.ref D) (some dd) oe) (hf : ∃ vs, oe.data = .fields vs) : CallR (X.suite a ((a, oe) :: pn)) (.builtin "isinstance") (rIsED X.K D a dd) := by
  intro pins s σ H xs us Q I r h
  obtain ⟨c, cv, b, fs, rfl, hcv, e, ea, q⟩ := h
  match us, r with
  | [_, _], .cons rx (.cons rt .nil) =>
    cases rx
    cases hcv _ rt
    obtain ⟨g, _⟩ := I.pin (a, oe) (List.mem_append_left _ List.mem_cons_self)
    obtain ⟨vs, hv⟩ := hf
    obtain ⟨mA, hns, _⟩ := show ObjOk X.prog X.w H s.heap dd (.xd fs) from I.hok dd _ ea
    obtain ⟨od, ho, _⟩ := lookIn_ns hns
    obtain ⟨cd, hc, _⟩ := PySem.W.any_some C.hd
    have J : PySem.W.InstAt s.heap a oe D (some od) := ⟨g, hz.1, by unfold PySem.W.notCls; rw [hv] <;> rfl, by rw [hz.2]; exact ho⟩
    exact PySem.W.kia_one (PySem.W.kitx_exc (by rw [hc]; rfl) C.hg C.hk C.hs C.ha C.hn C.ht C.hm) I.kIn J e (fun z => nomatch z) fun tk => ⟨.bl b, H, I.kept (t' := tk) fun _ _ z => z, rfl, q⟩
end Ver

namespace Ver
open PySem PySem.Spec PyProof.Rows L2 SeqAt
open AutoSeq1 (wpAny_loadPart')
/-! ### a dict and a text are never equal -/
theorem dict_no_str (l : Addr) (o : Obj) (b : Str) (u : Tok) :
    PySem.Meets (Builtin.«dict.__eq__» ⟨[.ref l, .str b u], []⟩) (fun _ R s => s.heap.get? l = some o ∧ R (.ok (.ret .notImplemented)) s) := .of_wp fun prog w A R s h => by
  obtain ⟨hp, g, d, tk, os⟩ := s
  have f1 := PySem.F.sub_str_dict
  wp_walk using wpAny_loadPart' h.1
  exact ⟨_, rfl, h.2⟩
theorem str_no_dict (l : Addr) (o : Obj) (b : Str) (u : Tok) (es : Array DictEntry) (ep : Nat) (hd : o.data = .dict es ep) :
    PySem.Meets (Builtin.«str.__eq__» ⟨[.str b u, .ref l], []⟩) (fun _ R s => s.heap.get? l = some o ∧ R (.ok (.ret .notImplemented)) s) := .of_wp fun prog w A R s h => by
  obtain ⟨hp, g, d, tk, os⟩ := s
  wp_walk using wpAny_loadPart' h.1, wpAny_load h.1
  rw [hd]
  wp_walk using wpAny_loadPart' h.1, wpAny_load h.1
  exact ⟨_, rfl, h.2⟩
section
variable {A : Around} {s : Shared} {l : Addr} {o : Obj} {es : Array DictEntry} {ep : Nat}
theorem rc_str_dict (b : Str) (u : Tok) (ho : s.heap.get? l = some o) (hc : o.cls = .type "dict") (hd : o.data = .dict es ep) (hu : A.units < cLine) : RcAt A s (.str b u) (.ref l) false := fun prog w E Q h =>
  rc_eq_decline_or (k := false) (typeIs_str s b u) ⟨_, ho, hc⟩ (by decide) PySem.F.sub_dict_str PySem.F.slot_str_eq PySem.F.slot_dict_eq_refl
    (fun _ q => call_meets PySem.F.slot_str_eq (typeIs_str s b u) PySem.F.entry_str_eq (PySem.F.args_str_eq_2 _ _) (str_no_dict l o b u es ep hd) ⟨ho, q⟩)
    (fun _ q => call_meets PySem.F.slot_dict_eq_refl ⟨_, ho, hc⟩ PySem.F.entry_dict_eq (PySem.F.args_dict_eq_2 _ _) (dict_no_str l o b u) ⟨ho, q⟩)
    (fun _ q => wpAny_of_eq (rfl : isSame (.str b u) (.ref l) = pure false) q) (.inr hu) h
theorem rc_dict_str (b : Str) (u : Tok) (ho : s.heap.get? l = some o) (hc : o.cls = .type "dict") (hd : o.data = .dict es ep) (hu : A.units < cLine) : RcAt A s (.ref l) (.str b u) false := fun prog w E Q h =>
  rc_eq_decline_or (k := false) ⟨_, ho, hc⟩ (typeIs_str s b u) (by decide) PySem.F.sub_str_dict PySem.F.slot_dict_eq PySem.F.slot_str_eq_refl
    (fun _ q => call_meets PySem.F.slot_dict_eq ⟨_, ho, hc⟩ PySem.F.entry_dict_eq (PySem.F.args_dict_eq_2 _ _) (dict_no_str l o b u) ⟨ho, q⟩)
    (fun _ q => call_meets PySem.F.slot_str_eq_refl (typeIs_str s b u) PySem.F.entry_str_eq (PySem.F.args_str_eq_2 _ _) (str_no_dict l o b u es ep hd) ⟨ho, q⟩)
    (fun _ q => wpAny_of_eq (rfl : isSame (.ref l) (.str b u) = pure false) q) (.inr hu) h
theorem ea_str_dict (b : Str) (u : Tok) (ho : s.heap.get? l = some o) (hc : o.cls = .type "dict") (hd : o.data = .dict es ep) (hu : A.units < cLine) : EqAt A s (.str b u) (.ref l) false := fun prog w E Q h => by
  unfold eqBool
  exact wpAny_holding (wpAny_ite_split (fun z => absurd (eq_of_beq z) nofun) fun _ => wpAny_bind (rc_str_dict b u ho hc hd hu prog w E _ (wpAny_truthy_bool h)))
end
section
variable {X : Cx}
/-- a dict == a text; a dict that is sought among texts -/
def rEqDS : R2 := fun x y H Q => ∃ (a : Addr) (kvs : List (Key × V)) (t : Str), x = .ref a ∧ y = .str t ∧ H a = some (.dK kvs) ∧ Q (.bl false) H
theorem op_eqDS (hu : X.A.units < cLine) : OpR X (compareOp .Eq) rEqDS := by
  intro pins s σ H x y v u Q I rx ry h
  obtain ⟨a, kvs, t, rfl, rfl, ea, q⟩ := h
  cases (show v = Value.ref a from rx)
  obtain ⟨tk, rfl⟩ := ry
  obtain ⟨_, _, vs, _, o, es, ep, ho, he, hd, _⟩ := dk_of I.hok ea
  show wpAny _ _ (richCompare .Eq (.ref a) (.str t tk)) _ _ _
  exact rc_dict_str t tk ho he.1 hd hu X.prog X.w _ _ ⟨.bl false, H, I, rfl, q⟩
def rNotInDS (K : PySem.W.Frag) : R2 := fun x y H Q => ∃ (a b : Addr) (kvs : List (Key × V)) (ts : List Str), x = .ref a ∧ y = .ref b ∧ H a = some (.dK kvs) ∧ SqL K H b (ts.map V.str) ∧ Q (.bl true) H
theorem op_notInDS (hu : X.A.units + 1 < cLine) : OpR X (compareOp .NotIn) (rNotInDS X.K) := by
  intro pins s σ H x y v u Q I rx ry h
  obtain ⟨a, b, kvs, ts, rfl, rfl, ea, hl, q⟩ := h
  cases (show v = Value.ref a from rx)
  cases (show u = Value.ref b from ry)
  obtain ⟨_, _, vs, _, o, es, ep, ho, he, hd, _⟩ := dk_of I.hok ea
  obtain ⟨its, rv, ⟨ob, n, hob, hoc, hdn, hdd⟩, _⟩ := I.list hl
  refine notIn_listAt (fun _ => false) ⟨ob, hob, hoc, n, hdd⟩ (fun z hz => ?_) ?_
  · obtain ⟨i, hi, e⟩ := Array.mem_iff_getElem.mp hz
    have hi2 : i < its.length := by simpa using hi
    have e2 : its[i] = z := by simpa using e
    have hlen := rv.length
    rw [List.length_map] at hlen
    obtain ⟨w2, hw, rw_⟩ := rv.get (i := i) (x := V.str ts[i]) (by rw [List.getElem?_map, List.getElem?_eq_getElem (by omega)]; rfl)
    rw [List.getElem?_eq_getElem hi2, e2] at hw
    cases hw
    obtain ⟨tk, rfl⟩ := rw_
    exact ea_str_dict ts[i] tk ho he.1 hd hu
  · have e : its.toArray.any (fun _ => false) = false := by simp
    rw [e]
    exact ⟨.bl true, H, I, rfl, q⟩
end
end Ver

/-! errors of one's own over any of Python's errors: made, by place and by name, as values -/
namespace PySem
namespace HandSPX
open Builtin Builtin.ObjectAttr
structure EB where
  B : String
  nw : String
  it : String
  bm : List Value
structure EBF (b : EB) : Prop where
  F : ExcBaseFacts b.B b.nw b.it b.bm
  pass : ∀ self, refuseLoop self "__setattr__" b.bm = pure ()
  ob : b.bm.contains (.type "object") = true
  ty : typeOf (.type b.B) = pure (.type "type")
def bVal : EB := ⟨"ValueError", "ValueError.__new__", "ValueError.__init__", [.type "ValueError", .type "Exception", .type "BaseException", .type "object"]⟩
def bLook : EB := ⟨"LookupError", "LookupError.__new__", "LookupError.__init__", [.type "LookupError", .type "Exception", .type "BaseException", .type "object"]⟩
def bAri : EB := ⟨"ArithmeticError", "ArithmeticError.__new__", "ArithmeticError.__init__", [.type "ArithmeticError", .type "Exception", .type "BaseException", .type "object"]⟩
def bOver : EB := ⟨"OverflowError", "OverflowError.__new__", "OverflowError.__init__", [.type "OverflowError", .type "ArithmeticError", .type "Exception", .type "BaseException", .type "object"]⟩
def bRun : EB := ⟨"RuntimeError", "RuntimeError.__new__", "RuntimeError.__init__", [.type "RuntimeError", .type "Exception", .type "BaseException", .type "object"]⟩
theorem ebVal : EBF bVal := ⟨F.excBase_ValueError, fun self => by kernel_rfl, by decide +kernel, by kernel_rfl⟩
theorem ebLook : EBF bLook := ⟨F.excBase_LookupError, fun self => by kernel_rfl, by decide +kernel, by kernel_rfl⟩
theorem ebAri : EBF bAri := ⟨F.excBase_ArithmeticError, fun self => by kernel_rfl, by decide +kernel, by kernel_rfl⟩
theorem ebOver : EBF bOver := ⟨F.excBase_OverflowError, fun self => by kernel_rfl, by decide +kernel, by kernel_rfl⟩
theorem ebRun : EBF bRun := ⟨F.excBase_RuntimeError, fun self => by kernel_rfl, by decide +kernel, by kernel_rfl⟩
section
variable {prog : Program} {w : World} {A : Around} {E : Value → Shared → Prop} {R : Result → Shared → Prop} {hp : Heap} {g : Array GenState} {d : Drawn} {t : Nat} {os : OsState}
theorem gosa {K : W.Frag} {b : EB} (BF : EBF b) {name : Str} {tk : Tok} {v : Value} {x C : Addr} {fv : Array Value} {cd : ClassData}
    (X : K.In hp) (hat : hp.get? x = some { cls := .ref C, data := .fields fv }) (hdat : W.clsIn K C = some cd) (hmro : cd.mro = .ref C :: b.bm) (hdic : cd.hasDict = true) (ha : W.findIn K (.ref C) name = some none)
    (post : ∀ h' tk' dx, (∀ b o, b ≠ x → hp.get? b = some o → h'.get? b = some o) → hp.objs.size ≤ dx → dx ≠ x → h'.get? x = some { cls := .ref C, dict := some dx, data := .fields fv } →
      h'.Ns1 dx (fun y => if y = name then some v else none) → R (.ok (.ret .none)) ⟨h', g, d, tk', os⟩) :
    codeAny (model prog w) A (.call (.builtin "object.__setattr__") ⟨[.ref x, .str name tk, v], []⟩) R ⟨hp, g, d, t, os⟩ := by
  have I : W.InstAt hp x { cls := .ref C, data := .fields fv } C none := ⟨hat, rfl, rfl, trivial⟩
  have sto := F.store_object
  have ne : cd.mro.isEmpty = false := by rw [hmro] <;> rfl
  have hobt : cd.mro.contains (.type "object") = true := by
    rw [hmro, List.contains_cons, BF.ob, Bool.or_true]
  have xnew : x ≠ hp.objs.size := Nat.ne_of_lt (Heap.lt_size hat)
  have sbs : W.Looks (model prog w) hp (isInstance (.ref x) (.type "object")) true := I.type.andThen (W.looks_mroIn X (by unfold W.mroIn; rw [hdat, Option.bind_some, if_neg (by rw [ne]; decide), hobt]))
  refine codeAny_call_builtin sto.slot.plain sto.entry (@W.check_slot (model prog w) _ _ ⟨hp, g, d, t, os⟩ "object.__setattr__" "object" "__setattr__" (.ref x) [.str name tk, v] [] _ sto.kind sto.split sbs (sto.args (.ref x) (.str name tk) v) ?_)
  have lmro : W.Looks (model prog w) hp (mroOf (.ref C)) cd.mro := (W.looks_clsIn X hdat).andThen .now
  have ltk : W.Looks (model prog w) hp (storeTaker? none) none := .now
  have ldat : W.Looks (model prog w) hp (classData C) cd := W.looks_clsIn X hdat
  rw [W.osa_eq, refuse_eq]
  refine wpAny_bind (wpAny_bind (I.type.at (wpAny_bind (lmro.at ?_))))
  rw [show refuseLoop (.ref x) "__setattr__" cd.mro = pure () from by rw [hmro, refuseLoop_ref]; exact BF.pass _]
  refine wpAny_pure (wpAny_bind (I.type.at (wpAny_bind ((W.looks_findIn X ha).at (wpAny_bind (ltk.at ?_))))))
  show wpAny _ _ (storeInOwnDict (.ref x) (.ref C) (.str name tk) name v false) _ _ _
  obtain ⟨nm, bs, mro, ns, qn, hd, sn, sb, ab, col, del⟩ := cd
  dsimp only at hdic
  subst hdic
  unfold storeInOwnDict ownDictForStores
  repeat (first | with_reducible refine store_in_new ?_ ?_ | with_reducible refine wpAny_loadPart_at hat ?_ | with_reducible refine ldat.at ?_ | wp_step)
  · exact ⟨_, #[], _, (Heap.get?_update_ne _ _ _ _ xnew.symm).trans (Heap.get?_push_at rfl rfl), rfl, fun e he => absurd he (by simp), fun _ => rfl⟩
  · intro h' tk' hn' hs
    have hat1 : (hp.push { cls := .type "dict", data := .dict #[] }).get? x = some { cls := .ref C, data := .fields fv } := Heap.get?_push_of_some _ hat
    refine post h' tk' hp.objs.size (fun b o hbnd ho => ?_) (Nat.le_refl _) xnew.symm ?_ hn'
    · exact (hs.2 b (Nat.ne_of_lt (Heap.lt_size ho))).trans ((Heap.get?_update_ne _ _ _ _ hbnd).trans (Heap.get?_push_of_some _ ho))
    · exact (hs.2 x xnew).trans (Heap.get?_update_self _ hat1 rfl)
end
section
variable {M : Model} {A : Around} {E : Value → Shared → Prop} {h : Heap} {g : Array GenState} {d : Drawn} {t : Nat} {os : OsState}
variable {nm q : Str} {C N : Addr} {bs bm bmB : List Value} {hdct : Bool} {sn : List Str} {sbs : List Value} {ab : Bool} {col : Option Bool} {dd : Option Addr} {k0 k1 k2 k3 k5 : Option Value} {B newId initId : String}
theorem check_newKw (F : ExcBaseFacts B newId initId bmB) (htail : ∀ X : String, bm.contains (.type X) = bmB.contains (.type X)) {vals : List Value} {kw : List (Str × Value)} {Q : Unit → Shared → Prop}
    (hcl : h.get? C = some (excClassObj nm q C N bs bm hdct sn sbs ab col dd k0 k1 k2 k3 k5 newId)) (post : Q () ⟨h, g, d, t, os⟩) : wpAny M A (checkBuiltinCall newId ⟨.ref C :: vals, kw⟩) Q E ⟨h, g, d, t, os⟩ := by
  have cB : (Value.ref C :: bm).contains (.type B) = true := by rw [List.contains_cons, htail, F.hasB, Bool.or_true]
  have nst := F.noStar
  simp only [checkBuiltinCall, F.newKind, F.newSplit, F.newRow]
  repeat (first | refine wpAny_loadPart_at hcl ?_ | (refine wpAny_isSubtype_exc hcl ?_; rw [cB]) | refine wpAny_staticBase_exc hcl ?_ | refine wpAny_madeBy_exc hcl ?_ | simp only [bne_self_eq_false, Bool.false_eq_true, if_false] | wp_step)
  exact post
end
section
variable {prog : Program} {w : World} {A : Around} {E : Value → Shared → Prop} {R : Result → Shared → Prop} {h : Heap} {g : Array GenState} {d : Drawn} {t : Nat} {os : OsState}
variable {nm q : Str} {C N : Addr} {bs bm bmB : List Value} {hdct : Bool} {sn : List Str} {sbs : List Value} {ab : Bool} {col : Option Bool} {dd : Option Addr} {k0 k1 k2 k3 k5 : Option Value} {B newId initId : String}
theorem newKw (F : ExcBaseFacts B newId initId bmB) (htail : ∀ X : String, bm.contains (.type X) = bmB.contains (.type X)) {vals : List Value} {kw : List (Str × Value)}
    (hcl : h.get? C = some (excClassObj nm q C N bs bm hdct sn sbs ab col dd k0 k1 k2 k3 k5 newId))
    (post : R (.ok (.ret (.ref (h.objs.size + 1)))) ⟨(h.push { cls := .type "tuple", data := .seq vals.toArray }).push
      { cls := .ref C, data := .fields #[.ref h.objs.size, .none, .none, .none, .bool false, .none] }, g, d, t, os⟩) (hlen : vals.length ≤ sizeLine) :
    codeAny (model prog w) A (.builtin newId ⟨.ref C :: vals, kw⟩) R ⟨h, g, d, t, os⟩ := by
  have fends := F.ends
  have cB : (Value.ref C :: bm).contains (.type B) = true := by rw [List.contains_cons, htail, F.hasB, Bool.or_true]
  have cA : (Value.ref C :: bm).contains (.type "AttributeError") = false := by rw [List.contains_cons, htail, F.noAttr]; rfl
  have cN : (Value.ref C :: bm).contains (.type "NameError") = false := by rw [List.contains_cons, htail, F.noName]; rfl
  refine codeAny_builtinAt F.entry ?_
  unfold Builtin.«BaseException.__new__»
  refine wpAt_bind ?_
  show wpAt _ _ _ (stack >>= _) _ _ _
  refine wpAt_bind (wpAt_stack fun p below => wpAt_of_wpAny ?_)
  wp_walk
  refine wpAt_of_wpAny ?_
  rw [F.owner]
  repeat (first | with_reducible refine wpAny_madeHere_exc F.canon hcl ?_ | with_reducible refine wpAny_loadPart_at hcl ?_ | (with_reducible refine wpAny_isSubtype_exc hcl ?_; first | rw [cB] | rw [cA] | rw [cN]) | wp_step)
  show R _ _
  rw [Heap.size_push]
  exact post
theorem type_callKw (F : ExcBaseFacts B newId initId bmB) (htail : ∀ X : String, bm.contains (.type X) = bmB.contains (.type X)) {vals : List Value} {kw : List (Str × Value)} {fI : Addr} {Q : Fin → Shared → Prop}
    (hcl : h.get? C = some (excClassObj nm q C N bs bm hdct sn sbs ab col dd k0 k1 k2 k3 k5 newId))
    (hini : W.Looks (model prog w) h (typeLookup (.ref C) "__init__") (some (.ref fI))) (hbnd : ∀ self, W.Looks (model prog w) h (bindSpecial (.ref fI) self) (.ref fI, [self])) (hlen : vals.length ≤ sizeLine)
    (post : codeAny (model prog w) A (.call (.ref fI) ⟨.ref (h.objs.size + 1) :: vals, kw⟩)
      (fun r s' => match r with | .ok (.ret v) => v = .none ∧ Q (.done (.ret (.ref (h.objs.size + 1)))) s' | .ok _ => False | .error e => E e s')
      ⟨(h.push (W.kdv_tup vals)).push (excO C h.objs.size), g, d, t, os⟩) :
    wpAny (model prog w) A (Builtin.«type.__call__» ⟨.ref C :: vals, kw⟩) Q E ⟨h, g, d, t, os⟩ := by
  repeat (first | with_reducible refine wpAny_loadPart_at hcl ?_ | with_reducible refine wpAny_madeBy_exc hcl ?_ | wp_step)
  refine codeAny_call_builtin_code (Code.quiet_builtin _ F.quiet) (check_newKw F htail hcl ?_)
  refine newKw F htail hcl ?_ hlen
  show wpAny _ _ _ _ _ _
  have grw : ∀ b o, h.get? b = some o → ((h.push (W.kdv_tup vals)).push (excO C h.objs.size)).get? b = some o := fun b o e => Heap.get?_push_of_some _ (Heap.get?_push_of_some _ e)
  have hcl1 := grw _ _ hcl
  have hobj : ((h.push (W.kdv_tup vals)).push (excO C h.objs.size)).get? (h.objs.size + 1) = some (excO C h.objs.size) := by heap_get
  have cC : (Value.ref C :: bm).contains (.ref C) = true := by simp
  have ini1 := hini.keeps grw
  have bnd1 := (hbnd (.ref (h.objs.size + 1))).keeps grw
  unfold isInstance
  repeat (first | with_reducible refine wpAny_loadPart_at hobj ?_ | (with_reducible refine wpAny_isSubtype_exc hcl1 ?_; rw [cC]) | wp_step)
  show wpAny _ _ (typeLookup (.ref C) _) _ _ _
  refine ini1.at ?_
  refine wpAny_holding (wpAny_bind (bnd1.at ?_))
  refine wpAny_bind (wpAny_call (codeAny_mono post fun r s' z => ?_))
  rcases r with e | (v | _ | _ | _) <;> first | exact z | exact z.elim | skip
  obtain ⟨rfl, z⟩ := z
  first
    | exact wpAny_pure (wpAny_pure z)
    | (wp_walk; exact z)
theorem callKw (F : ExcBaseFacts B newId initId bmB) (htail : ∀ X : String, bm.contains (.type X) = bmB.contains (.type X)) {vals : List Value} {kw : List (Str × Value)} {fI : Addr}
    (hcl : h.get? C = some (excClassObj nm q C N bs bm hdct sn sbs ab col dd k0 k1 k2 k3 k5 newId))
    (hini : W.Looks (model prog w) h (typeLookup (.ref C) "__init__") (some (.ref fI))) (hbnd : ∀ self, W.Looks (model prog w) h (bindSpecial (.ref fI) self) (.ref fI, [self])) (hlen : vals.length ≤ sizeLine)
    (post : codeAny (model prog w) (A.under (.builtin "type.__call__" ⟨.ref C :: vals, kw⟩)) (.call (.ref fI) ⟨.ref (h.objs.size + 1) :: vals, kw⟩) (W.InitBack (h.objs.size + 1) R)
      ⟨(h.push (W.kdv_tup vals)).push (excO C h.objs.size), g, d, t, os⟩) :
    codeAny (model prog w) A (.call (.ref C) ⟨vals, kw⟩) R ⟨h, g, d, t, os⟩ := by
  have tlk := tc_lookup
  have tbd := tc_bind (.ref C)
  have tyC : (⟨h, g, d, t, os⟩ : Shared).TypeIs (.ref C) "type" := ⟨_, hcl, rfl⟩
  refine codeAny_of_tree ?_
  show wpAny _ _ (callAny (.ref C) _) _ _ _
  repeat (any_goals (first | assumption | with_reducible refine wpAny_loadPart_at hcl ?_ | wp_step))
  refine ⟨rfl, ?_⟩
  refine codeAny_call_builtin_at (Code.quiet_builtin _ (by decide +kernel)) entry_typeCall (wpAny_check_type_call_sub hcl (type_callKw F htail hcl hini hbnd hlen ?_))
  refine codeAny_mono post fun r s' z => ?_
  rcases r with e | (v | _ | _ | _) <;> exact z
end
end HandSPX
end PySem

namespace L2
open PySem PySem.Spec PyProof.Rows PySem.HandSPX
/-- what the written part says of an own error over the base b -/
structure OexG (K : PySem.W.Frag) (b : EB) (C : Addr) : Prop where
  cls : ∃ nm q N bs sn sub ab col dd k0 k1 k2 k3 k5, K.lookup C = some (excClassObj nm q C N bs b.bm true sn sub ab col dd k0 k1 k2 k3 k5 b.nw)
  sa : PySem.W.findIn K (.ref C) "__setattr__" = some (some (.builtin "object.__setattr__"))
  kC : PySem.W.keepIn K (.ref C) = true
section
variable {X : Cx} {pins : List (Addr × Obj)} {σ : St} {H : Hp} {s : Shared} {a C dx : Addr} {f : Str} {y : V} {u : Value} {fs : List (Str × V)} {Q : Unit → Shared → Prop} {E : Value → Shared → Prop} {A : Around} {b : EB}
/-- self.f = y, the first one -/
theorem gost_new (BF : EBF b) (T : OexG X.K b C) (I : Inv X pins σ H s) (e : H a = some (exo a C none)) (hno : PySem.W.findIn X.K (.ref C) f = some none) (ry : RelV y u)
    (h : ∀ dx s', H dx = none → dx ≠ a → Inv X pins σ (upd (upd H dx (exd dx [(f, y)])) a (exo a C (some dx))) s' → Q () s') : wpAny (model X.prog X.w) A (setAttr (.ref a) f u) Q E s := by
  obtain ⟨nm, q, N, bs, sn, sub, ab, col, dd, k0, k1, k2, k3, k5, hC⟩ := T.cls
  have hdat : PySem.W.clsIn X.K C = some { name := nm, bases := bs, mro := .ref C :: b.bm, ns := N, qualname := q, hasDict := true, slotNames := sn, subclasses := sub, abstract := ab, collection := col, hasDel := false } := by unfold PySem.W.clsIn; rw [hC] <;> rfl
  obtain ⟨tup, hat⟩ := exo_at I.hok e
  obtain ⟨hp, g, d, t, os⟩ := s
  refine PySem.W.set_plain I.kIn (ox := { cls := .ref C, dict := none, data := .fields #[.ref tup, .none, .none, .none, .bool false, .none] }) (od := none) ⟨hat, rfl, rfl, trivial⟩ T.sa ?_
  refine PySem.HandSPX.gosa BF I.kIn hat hdat rfl rfl hno (fun h' tk' dx k dn dne hx hn => ?_)
  have dn0 : H dx = none := I.hok.fresh dn
  have dfar : ∀ {b : Addr} {o : Obj}, hp.get? b = some o → b ≠ dx := fun {b o} q => Nat.ne_of_lt (Nat.lt_of_lt_of_le (Heap.lt_size q) dn)
  have afar : ∀ {b : Addr}, H b = none → b ≠ a := fun {b} n z => by
    rw [z, e] at n
    cases n
  have una : Un X.fs [] H (upd (upd H dx (exd dx [(f, y)])) a (exo a C (some dx))) hp h' := {
    keep := fun b o q n _ _ => k b o (afar n) q
    slot := fun b o q n _ _ => ⟨o.slots, k b o (afar n) q⟩
    free := fun b o q n _ => by rw [upd_ne (afar n), upd_ne (dfar q)]; exact n
    there := fun b o q _ => by
      by_cases hba : b = a
      · exact ⟨_, by rw [hba]; exact hx⟩
      · exact ⟨o, k b o hba q⟩
    tups := fun b xs q => by rw [upd_ne (at_ne e q exo_tup), upd_ne (ne_of_none q dn0)]; exact q
    frzs := fun b o v q => by rw [upd_ne (at_ne e q exo_frz), upd_ne (ne_of_none q dn0)]; exact q
    tbls := fun b ps q => ⟨#[], by rw [upd_ne (at_ne e q exo_tbl), upd_ne (ne_of_none q dn0), q]; simp⟩ }
  refine h dx _ dn0 dne (I.un (t' := tk') una fun b o q => ?_)
  by_cases hba : b = a
  · subst hba
    rw [upd_same] at q
    cases q
    exact exo_ok hx
  · rw [upd_ne hba] at q
    by_cases hbd : b = dx
    · subst hbd
      rw [upd_same] at q
      cases q
      exact exd_ok hn (relO_put (fs := []) ry fun g => True.intro)
    · rw [upd_ne hbd] at q
      exact (I.hok b o q).stay (fun c v hc z => k c v (by
          rcases hc with hc | hc
          · rw [hc]
            exact hba
          · exact at_ne e hc exo_own) z)
        (fun c hc => by rw [upd_ne (at_ne e hc exo_own), upd_ne (ne_of_none hc dn0)]; exact hc) (fun c xs hc => by rw [upd_ne (at_ne e hc exo_tup), upd_ne (ne_of_none hc dn0)]; exact hc)
/-- B.__init__(self, ..): nothing of it is told -/
theorem ginit_ok {us : List Value} {Q : Value → Shared → Prop} (BF : EBF b) (T : OexG X.K b C) (I : Inv X pins σ H s) (e : H a = some (exo a C none)) (hl : us.length ≤ sizeLine) (h : ∀ s', Inv X pins σ H s' → Q .none s') :
    wpAny (model X.prog X.w) A (call (.builtin b.it) (.ref a :: us)) Q E s := by
  obtain ⟨nm, q, N, bs, sn, sub, ab, col, dd, k0, k1, k2, k3, k5, hC⟩ := T.cls
  obtain ⟨t1, ho⟩ := exo_at I.hok e
  obtain ⟨hp, g, d, t, os⟩ := s
  refine wpAny_call (PySem.HandSPX.init_base BF.F (fun Y => rfl) (I.kIn _ _ hC) ho hl fun h' t2 k hx => ?_)
  have J := I.write (t' := t) (x := a) (e := a) (o := exo a C none) (by rw [e]; exact True.intro) (.inl rfl) k ⟨_, hx⟩ (exo_ok hx)
  have eu : upd H a (exo a C none) = H := by
    funext b
    by_cases hb : b = a
    · rw [hb, upd_same, e]
    · rw [upd_ne hb]
  rw [eu] at J
  exact h _ J
end
/-- B.__init__(self, ..) -/
def tGI (K : PySem.W.Frag) (b : EB) (ta : TA) : TE := fun σ H Q => ta σ H fun vs H1 => ∃ (a C : Addr) (ws : List V), vs = .ref a :: ws ∧ ws.length ≤ 1000 ∧ OexG K b C ∧ H1 a = some (exo a C none) ∧ Q .non H1
/-- self.f = e -/
def tGS (K : PySem.W.Frag) (b : EB) (f : Str) (to te : TE) : TS := fun D σ H => te σ H fun y H1 => to σ H1 fun x H2 => ∃ a C : Addr, x = .ref a ∧ OexG K b C ∧ PySem.W.findIn K (.ref C) f = some none ∧
  H2 a = some (exo a C none) ∧ ∀ dx, H2 dx = none → dx ≠ a → D.nx σ (upd (upd H2 dx (exd dx [(f, y)])) a (exo a C (some dx)))
/-- C(e, ..), C's own __init__ keeping sp -/
def tGM (C : Addr) (sp : Sp) (ta : TA) : TE := fun σ H Q => ta σ H fun vs H1 => vs.length ≤ 1000 ∧ ∀ a, H1 a = none → sp (.ref a :: vs) (upd H1 a (exo a C none)) (fun v H2 => v = .non ∧ Q (.ref a) H2) (fun _ _ _ => False)
/-- e.f, e an own error that stands in H -/
def tGF (K : PySem.W.Frag) (f : Str) (te : TE) : TE := fun σ H Q => te σ H fun x H1 => ∃ (a C dd : Addr) (fs : List (Str × V)) (v : V), x = .ref a ∧ XfC K C ∧ PySem.W.findIn K (.ref C) f = some none ∧ H1 a = some (exo a C (some dd)) ∧ H1 dd = some (exd dd fs) ∧ fs.lookup f = some v ∧ Q v H1
section
variable {X : Cx} {o e : Expr} {es : List Expr} {to te : TE} {ta : TA} {f : Str} {p p' p1 p2 pos : Pos} {b : EB}
theorem pe_ginit {x : Str} {pl : Sem Bool} (BF : EBF b) (hg : Gl X x) (hm : X.mg x = none) (hb : bootBuiltins x = some (.type b.B)) (hst : Manifest.isStub b.B = false) (vV : PySem.W.findCls X.K (.type b.B) (.type "type") "__init__" = some (.val (.builtin b.it))) (hh : PySem.W.handedIn (.builtin b.it) = true) (ha : PA X (e :: es) ta)
    (hc : eval (.Call (.Attribute (.Name x p1) "__init__" p2) (e :: es) [] pos) X.env = (do
      let ov ← eval (.Name x p1) X.env
      standAt p2.atName
      let (f, first) ← holding [ov] (getMethod ov "__init__" pl)
      callWith pos f first (backTo pos (starEach (e :: es) X.env)) (backToKw pos (keywordEach [] X.env))) := by rfl)
    (he : starEach (e :: es) X.env = (false, eval e X.env) :: starEach es X.env := by rfl) (hpl : (backTo pos (starEach es X.env)).any (·.1) = false := by rfl)
    (hn : x ≠ "__name__" := by decide) (hd : (x == ("__debug__" : Str)) = false := by decide) :
    PE X (.Call (.Attribute (.Name x p1) "__init__" p2) (e :: es) [] pos) (tGI X.K b ta) := by
  refine ⟨fun pins s σ H Q I h => ?_⟩
  refine PySem.W.methodCall_KW (ld_blt I hg hm hb ?_ hn hd) hc
  obtain ⟨m, fr⟩ := I.fr
  refine PySem.W.method_type fr I.ok.mod.kin BF.ty hst vV hh ?_
  show wpAny _ _ (callWith pos (Value.builtin b.it) [] (backTo pos (starEach (e :: es) X.env)) []) _ _ _
  refine PyProof.Rows.callWith_method1 (thn (ha.run pos pins _ σ H _ (I.tok _) h) fun us s1 ⟨vs, H1, I1, r1, a, C, ws, ev, hl, T, ea, q⟩ => ?_) he hpl
  subst ev
  cases r1 with
  | @cons _ u0 _ ur ra rw' =>
    obtain rfl : u0 = Value.ref a := ra
    have hlen : ur.length ≤ sizeLine := by
      rw [← Paired.length rw', sizeLine_eq]
      omega
    exact ginit_ok BF T I1 ea hlen fun s' J => ⟨.non, H1, J, rfl, q⟩
theorem ps_gost (BF : EBF b) (ho : PE X o to) (he : PE X e te) (hs : swapsWith e (some (.Attribute o f p')) pos.line X.env = pure false := by rfl) : PS X (.Assign [.Attribute o f p'] e pos) (tGS X.K b f to te) := by
  refine ⟨fun pins s σ H D I h => ?_⟩
  refine plainObj_wpAny_Assign_Attribute (thn (he.run pins s σ H _ I h) fun v s1 ⟨y, H1, I1, r1, q1⟩ => thn (ho.run pins s1 σ H1 _ I1 q1) fun u s2 ⟨x, H2, I2, r2, a, C, ex, T, hno, ea, q⟩ => ?_) hs
  subst ex
  obtain rfl : u = Value.ref a := r2
  exact gost_new BF T I2 ea hno r1 fun dx s' n ne J => ⟨σ, _, J, q dx n ne⟩
theorem pe_gf {n : Str} (he : PE X e te) (hb : attributeBase e n X.env (eval e X.env) = eval e X.env := by rfl) : PE X (.Attribute e n pos) (tGF X.K n te) := by
  refine ⟨fun pins s σ H Q I h => ?_⟩
  refine attr_of hb (thn (he.run pins s σ H _ I h) fun u s1 hh => ?_)
  obtain ⟨x, H1, I1, rx, a, C, dd, fs, v, ex, T, hno, ea, ed, l, q⟩ := hh
  subst ex
  obtain rfl : u = Value.ref a := rx
  obtain ⟨t1, ha⟩ := exo_at I1.hok ea
  obtain ⟨mA, hns, hr⟩ := exd_at I1.hok ed
  obtain ⟨od, ho, hl⟩ := lookIn_ns hns
  obtain ⟨u, hu, ru⟩ := RelO.some_of (v := v) (o := mA n) (by rw [← l]; exact hr n)
  have J : PySem.W.InstAt s1.heap a { cls := .ref C, dict := some dd, data := .fields #[.ref t1, .none, .none, .none, .bool false, .none] } C (some od) := ⟨ha, rfl, rfl, ho⟩
  exact HandSPX.exc_get I1.kIn J T.ga T.gg T.exC (PySem.W.findObj_own T.hdC hno rfl (by rw [hl, hu])) (handed_of ru) ⟨v, H1, I1.tok _, ru, q⟩
/-- isinstance(e, c), e an own error that stands in H -/
def rIsG (K : PySem.W.Frag) : List V → Hp → VK → Prop := fun xs H Q => ∃ (a C : Addr) (d : Option Addr) (c : V) (u : Value) (b : Bool), xs = [.ref a, c] ∧ ClsV c u ∧ ExcC K C ∧ H a = some (exo a C d) ∧ (∀ dd, d = some dd → ∃ fs, H dd = some (exd dd fs)) ∧ PySem.W.kitOne K (.ref C) u = some b ∧ Q (.bl b) H
theorem call_isG : CallR X (.builtin "isinstance") (rIsG X.K) := by
  intro pins s σ H xs us Q I r h
  obtain ⟨a, D, d, c, cv, b, rfl, hcv, C, ea, ed, e, q⟩ := h
  obtain ⟨u1, u2, rfl, r1, r2⟩ := vals2 r
  have e2 := hcv.eq r2
  subst e2
  obtain rfl : u1 = Value.ref a := r1
  obtain ⟨t1, ha⟩ := exo_at I.hok ea
  obtain ⟨cd, hc, _⟩ := PySem.W.any_some C.hd
  cases d with
  | none =>
    have J : PySem.W.InstAt s.heap a { cls := .ref D, dict := none, data := .fields #[.ref t1, .none, .none, .none, .bool false, .none] } D none := ⟨ha, rfl, rfl, trivial⟩
    exact PySem.W.kia_one (PySem.W.handS_kitx_exc C.hg C.hk C.hs C.hd C.ha C.hn C.ht C.hm) I.kIn J e (fun z => nomatch z) fun tk => ⟨.bl b, H, I.kept (t' := tk) fun _ _ z => z, rfl, q⟩
  | some dd =>
    obtain ⟨fs, ef⟩ := ed dd rfl
    obtain ⟨mA, hns, _⟩ := exd_at I.hok ef
    obtain ⟨od, ho, _⟩ := lookIn_ns hns
    have J : PySem.W.InstAt s.heap a { cls := .ref D, dict := some dd, data := .fields #[.ref t1, .none, .none, .none, .bool false, .none] } D (some od) := ⟨ha, rfl, rfl, ho⟩
    exact PySem.W.kia_one (PySem.W.kitx_exc (by rw [hc]; rfl) C.hg C.hk C.hs C.ha C.hn C.ht C.hm) I.kIn J e (fun z => nomatch z) fun tk => ⟨.bl b, H, I.kept (t' := tk) fun _ _ z => z, rfl, q⟩
end
/-! ### C(..) -/
section
variable {X : Cx} {CX : CXT} {k : Nat} {fI C : Addr} {fd : FuncData} {ps : List Str} {sp : Sp} {b : EB} {x : Str} {p pos : Pos} {e : Expr} {es : List Expr} {ta : TA}
theorem run_gmk {pins : List (Addr × Obj)} {σ : St} {H : Hp} {s : Shared} {Q : VK} {us : List Value} {kw : List (Str × Value)} {g : Addr → List Value} {gv : Addr → List V} (BF : EBF b) (T : OexG X.K b C) (iC : PySem.W.findIn X.K (.ref C) "__init__" = some (some (.ref fI))) (tI : PySem.W.typeIn X.K (.ref fI) = some (.type "function"))
    (F1 : FnOk X.prog X.w X.K X.mg X.base CX k fI fd ps sp) (hr : Room (k + 1) X.A) (hx : Passes CX X (fun _ _ _ => False)) (I : Inv X pins σ H s) (hus : us.length ≤ sizeLine)
    (hb : ∀ (a : Addr) (s' : Shared), X.K.In s'.heap → (∀ vs, Vals vs (g a) → vs.length = ps.length → BindsTo s' fd ⟨.ref a :: us, kw⟩ (ps.zip (g a)))) (rr : ∀ a, Vals (gv a) (g a)) (h : ∀ a, H a = none → sp (gv a) (upd H a (exo a C none)) (fun v H2 => v = .non ∧ Q (.ref a) H2) (fun _ _ _ => False)) :
    wpAny (model X.prog X.w) X.A (call (.ref C) us kw) (EP X pins σ Q) X.xe s := by
  obtain ⟨nm, q, N, bs, sn, sub, ab, col, dd, k0, k1, k2, k3, k5, hC⟩ := T.cls
  obtain ⟨hp, g0, dr, tk, os⟩ := s
  have hsz : hp.objs.size ≤ hp.objs.size + 1 := Nat.le_succ _
  have hn : H (hp.objs.size + 1) = none := I.hok.fresh hsz
  have hq := h (hp.objs.size + 1) hn
  have kk : ∀ b o, hp.get? b = some o → ((hp.push (PySem.W.kdv_tup us)).push (PySem.HandSPX.excO C hp.objs.size)).get? b = some o := fun b o e => Heap.get?_push_of_some _ (Heap.get?_push_of_some _ e)
  have hget : ((hp.push (PySem.W.kdv_tup us)).push (PySem.HandSPX.excO C hp.objs.size)).get? (hp.objs.size + 1) = some (PySem.HandSPX.excO C hp.objs.size) := by heap_get
  have I2 : Inv X pins σ (upd H (hp.objs.size + 1) (exo (hp.objs.size + 1) C none)) ⟨(hp.push (PySem.W.kdv_tup us)).push (PySem.HandSPX.excO C hp.objs.size), g0, dr, tk, os⟩ :=
    I.laid (t' := tk) (a := hp.objs.size + 1) (o := exo (hp.objs.size + 1) C none) (h' := (hp.push (PySem.W.kdv_tup us)).push (PySem.HandSPX.excO C hp.objs.size)) kk hsz (exo_ok hget)
  refine wpAny_call (PySem.HandSPX.callKw BF.F (fun Y => rfl) (I.kIn _ _ hC) (PySem.W.looks_findIn I.kIn iC) (fun self => PySem.W.bind_fn I.kIn self tI) hus
    (codeAny_mono (F1.run _ X.stack _ _ ⟨Value.ref (hp.objs.size + 1) :: us, kw⟩ (g (hp.objs.size + 1)) _ _ (fun _ _ _ => False) (hr.make C us kw) (I2.env0.make C us kw) (hb _ _ I2.kIn _ (rr _) (F1.len _ _ _ _ hq)) (rr _) hq) fun r s' hq' => ?_))
  cases r with
  | error er => exact hx pins σ _ _ er s' I2 hq'
  | ok fl =>
    cases fl with
    | ret u =>
      obtain ⟨v, H', I3, rv, ev, q3⟩ := I2.after hq'
      subst ev
      exact ⟨rv, ⟨V.ref (hp.objs.size + 1), H', I3, rfl, q3⟩⟩
    | next => exact False.elim hq'
    | brk => exact False.elim hq'
    | cont => exact False.elim hq'
/-- C(e, ..) -/
theorem pe_gmk (BF : EBF b) (T : OexG X.K b C) (iC : PySem.W.findIn X.K (.ref C) "__init__" = some (some (.ref fI))) (tI : PySem.W.typeIn X.K (.ref fI) = some (.type "function"))
    (F1 : FnOk X.prog X.w X.K X.mg X.base CX k fI fd ps sp) (hr : Room (k + 1) X.A) (hb : Binds X.K fd ps []) (hx : Passes CX X (fun _ _ _ => False)) (hg : Gl X x) (hm : X.mg x = some (.ref C)) (ha : PA X (e :: es) ta)
    (hdb : (x == ("__debug__" : Str)) = false := by decide) (he : starEach (e :: es) X.env = (false, eval e X.env) :: starEach es X.env := by rfl) (hpl : (backTo pos (starEach es X.env)).any (·.1) = false := by rfl) :
    PE X (.Call (.Name x p) (e :: es) [] pos) (tGM C sp ta) := by
  refine ⟨fun pins s σ H Q I h => ?_⟩
  refine wpAny_Call_Name_kw (ld_glob I hg hm ?_ hdb)
  refine PySem.W.callWith_K (h₀ := X.base) I.ok.mod.kin T.kC (thn (ha.run pos pins s σ H _ I h) fun us s1 ⟨vs, H1, I1, r1, hz, q1⟩ => ⟨I1.kIn, ?_⟩) he hpl
  show wpAny _ _ (call (.ref C) us) _ _ _
  refine run_gmk (g := fun a => .ref a :: us) (gv := fun a => .ref a :: vs) BF T iC tI F1 hr hx I1 (by rw [← Paired.length r1, sizeLine_eq]; omega) (fun a s' X' vs' r' hl => ?_) (fun a => .cons rfl r1) q1
  have hl2 : (Value.ref a :: us ++ []).length = ps.length := by
    rw [List.append_nil, ← hl]
    exact r'.length.symm
  have z := hb s' (Value.ref a :: us) X' hl2
  rw [List.append_nil] at z
  exact z
/-- C(k = e, ..) -/
theorem pe_gmkK {kws : List Keyword} {ks : List Str} {tk : TA} {g : List Value → List Value → List Value} {gV : List V → List V → List V} (BF : EBF b) (T : OexG X.K b C) (iC : PySem.W.findIn X.K (.ref C) "__init__" = some (some (.ref fI))) (tI : PySem.W.typeIn X.K (.ref fI) = some (.type "function"))
    (F1 : FnOk X.prog X.w X.K X.mg X.base CX k fI fd ps sp) (hr : Room (k + 1) X.A) (hb : KBn X.K fd ps 1 ks g gV) (hx : Passes CX X (fun _ _ _ => False)) (hg : Gl X x) (hm : X.mg x = some (.ref C)) (hkw : PK X kws tk)
    (hall : (backToKw pos (keywordEach kws X.env)).all (·.1.isSome) = true := by rfl) (hks : (backToKw pos (keywordEach kws X.env)).filterMap (·.1) = ks := by rfl) (hdb : (x == ("__debug__" : Str)) = false := by decide)
    (hpl : ((backTo pos (starEach [] X.env)).any (·.1) || (backToKw pos (keywordEach kws X.env)).any (·.1.isNone)) = false := by rfl) :
    PE X (.Call (.Name x p) [] kws pos) (fun σ H Q => tk σ H fun zs H1 => zs.length = ks.length ∧ ∀ a, H1 a = none → sp (gV [.ref a] zs) (upd H1 a (exo a C none)) (fun v H2 => v = .non ∧ Q (.ref a) H2) (fun _ _ _ => False)) := by
  refine ⟨fun pins s σ H Q I h => ?_⟩
  refine wpAny_Call_Name_kw (ld_glob I hg hm ?_ hdb)
  refine PySem.W.callWith_KW0 (h₀ := X.base) I.ok.mod.kin T.kC hall ?_ hpl
  refine thn (hkw.run pos pins s σ H _ I h) fun ws s2 ⟨zs, H2, I2, rz, l2, q2⟩ => ⟨I2.kIn, ?_⟩
  rw [hks]
  exact run_gmk (us := []) (g := fun a => g [.ref a] ws) (gv := fun a => gV [.ref a] zs) BF T iC tI F1 hr hx I2 (Nat.zero_le _) (fun a s' X' vs' r' hl => hb.to s' [.ref a] ws X' rfl (rz.length.symm.trans l2)) (fun a => hb.rel (.cons rfl .nil) rz) q2
/-- C() -/
theorem pe_gmk0 (BF : EBF b) (T : OexG X.K b C) (iC : PySem.W.findIn X.K (.ref C) "__init__" = some (some (.ref fI))) (tI : PySem.W.typeIn X.K (.ref fI) = some (.type "function"))
    (F1 : FnOk X.prog X.w X.K X.mg X.base CX k fI fd ps sp) (hr : Room (k + 1) X.A) (hb : Binds X.K fd ps []) (hx : Passes CX X (fun _ _ _ => False)) (hg : Gl X x) (hm : X.mg x = some (.ref C))
    (hdb : (x == ("__debug__" : Str)) = false := by decide) :
    PE X (.Call (.Name x p) [] [] pos) (tGM C sp (fun σ H Q => Q [] H)) := by
  refine ⟨fun pins s σ H Q I h => ?_⟩
  obtain ⟨_, h⟩ := h
  refine wpAny_Call_Name_kw (ld_glob I hg hm ?_ hdb)
  refine PySem.W.callWith_K0 I.kIn T.kC ?_
  show wpAny _ _ (call (.ref C) []) _ _ _
  refine run_gmk (g := fun a => [.ref a]) (gv := fun a => [.ref a]) BF T iC tI F1 hr hx I (Nat.zero_le _) (fun a s' X' vs' r' hl => ?_) (fun a => .cons rfl .nil) h
  have z := hb s' [Value.ref a] X' (by rw [← hl]; exact r'.length.symm)
  rw [List.append_nil] at z
  exact z
end
end L2

namespace Ver
open PySem PySem.Spec PyProof.Rows L2
section
variable {X : Cx}
/-- repr(x), x a list of any data -/
def rReprL (K : PySem.W.Frag) : List V → Hp → VK → Prop := fun xs H Q => ∃ x ds, xs = [x] ∧ Do K H x (.list ds) ∧ PyData.showable (.list ds) = true ∧ PyData.depth (.list ds) ≤ 40 ∧ (PyData.shown (.list ds)).length ≤ sizeLine ∧ Q (.str (PyData.shown (.list ds))) H
theorem call_reprL (sm : Sm X.K) (hgd : X.A.guards = some []) (hu : X.A.units + 64 < cLine) : CallR X (.builtin "repr") (rReprL X.K) := by
  intro pins s σ H xs us Q I r h
  obtain ⟨x, ds, rfl, hd, hs, hdp, hz, q⟩ := h
  obtain ⟨u, rfl, ru⟩ := vals1 r
  obtain ⟨as, r1, hn⟩ := Do.reads sm I _ x u hd ru
  obtain ⟨a, rfl⟩ : ∃ a, u = Value.ref a := by
    cases r1
    exact ⟨_, rfl⟩
  exact repr_of_reads' r1 hs (fun _ => hn) hgd (by omega) (fun _ _ e => e) (fun h' u' tk hk => ⟨.str _, H, I.kept (t' := tk) hk, ⟨u', rfl⟩, q⟩) hz
/-! ### xs.count(True) -/
def eqb (k : Bool) (v : Value) : Bool := match v with
  | .bool n => n == k
  | _ => false
theorem vals_bools : ∀ {bs : List Bool} {us : List Value}, Vals (bs.map V.bl) us → us = bs.map Value.bool
  | [], _, .nil => rfl
  | b :: bs, _, .cons r rr => by
    cases r
    rw [vals_bools rr] <;> rfl
theorem eqb_count (k : Bool) : ∀ bs : List Bool, (bs.map Value.bool).countP (eqb k) = bs.count k
  | [] => rfl
  | b :: bs => by
    rw [List.map_cons, List.countP_cons, List.count_cons, eqb_count k bs]
    rfl
def rCntB (K : PySem.W.Frag) : V → List V → Hp → VK → Prop := fun x xs H Q => ∃ (p : Addr) (ns : List Bool) (k : Bool), x = .ref p ∧ xs = [.bl k] ∧ SqL K H p (ns.map V.bl) ∧ Q (.int (ns.count k : Nat)) H
theorem mt_bcount : MtR X "list.count" (rCntB X.K) := by
  intro pins s σ H x xs v us Q I rx rxs h
  obtain ⟨p, ns, k, rfl, rfl, hs, q⟩ := h
  cases rx
  obtain ⟨u, rfl, ru⟩ := rxs.one
  cases ru
  obtain ⟨its, rv, ⟨⟨cls, dd, data, sl⟩, n, ho, hc, hdn, hd⟩, hlen⟩ := I.list hs
  simp only at hc hd
  subst hc hd
  have hi := vals_bools rv
  subst hi
  refine call_meets PySem.F.slot_list_count ⟨_, ho, rfl⟩ PySem.F.entry_list_count (PySem.F.args_list_count_2 _ _)
    (SeqAt.list_countAt p (ns.map Value.bool).toArray n dd sl (.bool k) (eqb k)) ⟨ho, fun y hy => ?_, ?_⟩
  · have hy2 : y ∈ ns.map Value.bool := by simpa using hy
    obtain ⟨b, _, rfl⟩ := List.mem_map.mp hy2
    exact SeqAt.EqAt.bool_bool b k
  have ec : (ns.map Value.bool).toArray.toList.countP (eqb k) = ns.count k := eqb_count k ns
  refine ⟨.int (ns.count k : Nat), H, I.tok _, ⟨s.toks, ?_⟩, q⟩
  show Value.int (((ns.map Value.bool).toArray.toList.countP (eqb k) : Nat) : Int) s.toks = Value.int ((ns.count k : Nat) : Int) s.toks
  rw [ec]
end
end Ver

namespace L2
open PySem PySem.Spec PyProof.Rows
/-- f(e, .., k = v, ..), no defaults -/
theorem FunD.kbindsX {K : PySem.W.Frag} {x qual : Str} {params : Arguments} {body : List Stmt} {scope : Scope} {f : Addr} {fd : FuncData} {ps : List Str} (F : FunD K x qual params body scope [] [] f fd) (n : Nat) (ks : List Str) (g : {α : Type} → List α → List α → List α)
    (hrel : ∀ {vs zs : List V} {us ws : List Value}, Vals vs us → Vals zs ws → Vals (g vs zs) (g us ws))
    (h : ∀ (kV doc pm : Value) (an : Option Addr) (cdv ct : Value) (us ws : List Value), us.length = n → ws.length = ks.length → bindArgs (PySem.W.fnOf x qual params body scope .none kV doc pm an cdv ct) ⟨us, ks.zip ws⟩ = pure (ps.zip (g us ws))) :
    KBn K fd ps n ks (fun us ws => g us ws) (fun vs zs => g vs zs) := by
  obtain ⟨oc, od, dV, kV, doc, pm, an, cdv, ct, osl, rfl, lk, hcd, hD, hK⟩ := F.ex
  rcases hD with ⟨_, rfl⟩ | ⟨e, _⟩
  · exact ⟨fun s us ws X l1 l2 => BindsTo.of_looks fun M => by
      rw [h kV doc pm an cdv ct us ws l1 l2]
      exact .of_pure rfl, hrel⟩
  · exact absurd rfl e
end L2

namespace K00
open PySem PySem.Spec PyProof.Rows L2 Ver Num PySem.HandSPX
def cV1 : List (Str × Str) := [("InvalidPrime", "value"), ("InvalidNumber", "value"), ("InvalidLetters", "value"), ("InvalidCost", "letter"), ("InvalidWord", "value"), ("InvalidCount", "value"), ("InvalidMachine", "part"), ("InvalidAnswer", "number")]
def cNames : List Str := ["InvalidPrime", "InvalidNumber", "InvalidLetters", "InvalidCost", "InvalidWord", "InvalidCount", "InvalidMachine", "InvalidAnswer", "InvalidRow", "InvalidCoordinates", "InvalidText", "OtherField", "OtherLetters", "TooSmall", "Contradiction", "OutOfRange", "NotKnown", "NotNow", "Nothing", "Done", "NoQuotient", "NotFinite", "TooMany", "TooLong", "LimitReached"]
/-- the names of the text's own defs and classes; the built-in names that it reads -/
def gl : List Str := cNames ++ (["_law_pen", "_law_draw", "_law_pick", "_law_odd", "_law_filled", "_law_bare", "_law_kinds", "_law_classes", "law"] : List Str)
def bNames : List String := ["ValueError", "LookupError", "ArithmeticError", "OverflowError", "RuntimeError", "KeyError", "IndexError", "ZeroDivisionError"]
def fr : List Str := ["isinstance", "int", "len", "abs", "list", "range", "repr", "min", "zip", "ValueError", "LookupError", "ArithmeticError", "OverflowError", "RuntimeError", "KeyError", "IndexError", "ZeroDivisionError"]
def FL : Int := 10000000000000000000000000000000000000000000000000000000000000000000000000000000000000000000000000000
def fa : List He.Fa := gl.map He.Fa.glo ++ fr.map He.Fa.free
/-- Python's errors that an error over b is of, as _law_kinds asks -/
def tyB (b : EB) (n : String) : Bool := b.bm.contains (.type n)
/-- an error class -/
structure EC (K : PySem.W.Frag) (b : EB) (x : Str) (fs : List Str) : Prop where
  ox : OexG K b (He.ga K x)
  nf : ∀ f ∈ fs, PySem.W.findIn K (.ref (He.ga K x)) f = some none
  iC : PySem.W.findIn K (.ref (He.ga K x)) "__init__" = some (some (.ref (He.ma K (He.ga K x) "__init__")))
  tI : PySem.W.typeIn K (.ref (He.ma K (He.ga K x) "__init__")) = some (.type "function")
  xf : XfC K (He.ga K x)
  ec : ExcC K (He.ga K x)
  ty : ∀ n ∈ bNames, PySem.W.kitOne K (.ref (He.ga K x)) (.type n) = some (tyB b n)
  own : ∀ y ∈ cNames, PySem.W.kitOne K (.ref (He.ga K x)) (.ref (He.ga K y)) = some (decide (y = x))
/-- the classes with a field, without one -/
def cls1 : List (EB × Str × Str) := [(bVal, "InvalidPrime", "value"), (bVal, "InvalidNumber", "value"), (bVal, "InvalidLetters", "value"), (bVal, "InvalidCost", "letter"), (bVal, "InvalidWord", "value"), (bVal, "InvalidCount", "value"), (bVal, "InvalidMachine", "part"),
  (bVal, "InvalidAnswer", "number"), (bVal, "InvalidText", "line"), (bVal, "InvalidRow", "row"), (bVal, "TooSmall", "least_size"), (bVal, "Contradiction", "word"), (bLook, "OutOfRange", "value"), (bLook, "NotKnown", "value"), (bLook, "NotNow", "word"), (bOver, "TooMany", "limit"), (bRun, "LimitReached", "limit")]
def cls0 : List (EB × Str) := [(bVal, "InvalidCoordinates"), (bVal, "OtherField"), (bVal, "OtherLetters"), (bLook, "Nothing"), (bLook, "Done"), (bAri, "NoQuotient"), (bAri, "NotFinite"), (bOver, "TooLong")]
def bases : List EB := [bVal, bLook, bAri, bOver, bRun]
/-- what the top has left -/
structure Tx (K : PySem.W.Frag) (mg : Str → Option Value) : Prop where
  d : He.SaysD fa fn K
  g : ∀ x ∈ gl, mg x = some (.ref (He.ga K x))
  z : ∀ x ∈ fr, mg x = none
  sm : Sm K
  e1 : ∀ c ∈ cls1, EC K c.1 c.2.1 [c.2.2]
  e0 : ∀ c ∈ cls0, EC K c.1 c.2 []
  vV : ∀ b ∈ bases, PySem.W.findCls K (.type b.B) (.type "type") "__init__" = some (.val (.builtin b.it))
theorem ifT {c : Bool} {A B : Prop} (h : c = true) (q : A) : if c = true then A else B := by
  rw [if_pos h]
  exact q
theorem ifF {c : Bool} {A B : Prop} (h : c = false) (q : B) : if c = true then A else B := by
  rw [if_neg (by rw [h]; exact Bool.false_ne_true)]
  exact q
theorem iEq (a b : Int) : decide (V.int a = V.int b) = decide (a = b) := by
  by_cases h : a = b
  · rw [decide_eq_true h, decide_eq_true (by rw [h])]
  · rw [decide_eq_false h, decide_eq_false fun z => h (V.int.inj z)]
theorem same_up {H : Hp} {p : Addr} {o : HO} (h : H p = none) : Same H (upd H p o) := fun b x e => by
  rw [upd_ne (ne_of_none e h)]
  exact e
end K00

namespace K00
open PySem PySem.Spec PyProof.Rows L2 Ver Num
/-! ### the pen: a dict of the script's cells, a place, a rest -/
def penL (c : Addr) (b l : Int) : List (Key × V) := [(.inr "cells", .ref c), (.inr "begun", .int b), (.inr "left", .int l)]
structure PenAt (H : Hp) (d : Addr) (k : Int) : Prop where
  ex : ∃ (c : Addr) (cells : List Int) (b l : Int), H d = some (.dK (penL c b l)) ∧ H c = some (.lst (cells.map V.int)) ∧ cells.length ≤ 63 ∧ 0 ≤ b ∧ b ≤ k ∧ 0 ≤ l
/-- all but what stands at d is kept; the pen's list of cells is the same object -/
def But (d : Addr) (H H' : Hp) : Prop := (∀ b o, H b = some o → b ≠ d → H' b = some o) ∧ ∀ c b l, H d = some (.dK (penL c b l)) → ∃ b' l', H' d = some (.dK (penL c b' l'))
theorem But.refl {d : Addr} {H : Hp} : But d H H := ⟨fun _ _ e _ => e, fun c b l e => ⟨b, l, e⟩⟩
theorem But.trans {d : Addr} {H H1 H2 : Hp} (a : But d H H1) (b : But d H1 H2) : But d H H2 := ⟨fun c o e n => b.1 c o (a.1 c o e n) n, fun c x l e => by
  obtain ⟨b1, l1, e1⟩ := a.2 c x l e
  exact b.2 c b1 l1 e1⟩
theorem But.same {d : Addr} {H H1 : Hp} (s : Same H H1) : But d H H1 := ⟨fun c o e _ => s c o e, fun c b l e => ⟨b, l, s _ _ e⟩⟩
theorem pen_inj {c c2 : Addr} {b b2 l l2 : Int} (h : penL c b l = penL c2 b2 l2) : c = c2 := by
  have h1 := (List.cons.inj h).1
  exact V.ref.inj (congrArg Prod.snd h1)
theorem but_up {d c : Addr} {H : Hp} {b l b' l' : Int} (h : H d = some (.dK (penL c b l))) : But d H (upd H d (.dK (penL c b' l'))) := ⟨fun b u e n => by rw [upd_ne n]; exact e, fun c2 b2 l2 e => by
  rw [h] at e
  have e2 : penL c b l = penL c2 b2 l2 := HO.dK.inj (Option.some.inj e)
  have ec := pen_inj e2
  subst ec
  exact ⟨b', l', upd_same⟩⟩
/-- the pen with its list of cells told -/
structure PenC (H : Hp) (d c : Addr) (k : Int) : Prop where
  ex : ∃ (cells : List Int) (b l : Int), H d = some (.dK (penL c b l)) ∧ H c = some (.lst (cells.map V.int)) ∧ cells.length ≤ 63 ∧ 0 ≤ b ∧ b ≤ k ∧ 0 ≤ l
theorem PenAt.c {H : Hp} {d : Addr} {k : Int} (p : PenAt H d k) : ∃ c, PenC H d c k := by
  obtain ⟨c, cells, b, l, h⟩ := p.ex
  exact ⟨c, cells, b, l, h⟩
theorem PenC.at_ {H : Hp} {d c : Addr} {k : Int} (p : PenC H d c k) : PenAt H d k := by
  obtain ⟨cells, b, l, h⟩ := p.ex
  exact ⟨c, cells, b, l, h⟩
theorem PenC.on {H H' : Hp} {d c : Addr} {k k' : Int} (p : PenC H d c k) (bt : But d H H') (q : PenAt H' d k') : PenC H' d c k' := by
  obtain ⟨cells, b, l, h1, _⟩ := p.ex
  obtain ⟨b1, l1, e1⟩ := bt.2 c b l h1
  obtain ⟨c2, cells2, b2, l2, g1, g⟩ := q.ex
  have e2 : penL c b1 l1 = penL c2 b2 l2 := HO.dK.inj (Option.some.inj (e1.symm.trans g1))
  have ec := pen_inj e2
  subst ec
  exact ⟨cells2, b2, l2, g1, g⟩
theorem PenC.up {H : Hp} {d c D : Addr} {k : Int} {o : HO} (p : PenC H d c k) (n1 : d ≠ D) (n2 : c ≠ D) : PenC (upd H D o) d c k := by
  obtain ⟨cells, b, l, h1, h2, h⟩ := p.ex
  exact ⟨cells, b, l, by rw [upd_ne n1]; exact h1, by rw [upd_ne n2]; exact h2, h⟩
theorem PenAt.same {H H' : Hp} {d : Addr} {k : Int} (p : PenAt H d k) (s : Same H H') : PenAt H' d k := by
  obtain ⟨c, cells, b, l, h1, h2, r⟩ := p.ex
  exact ⟨c, cells, b, l, s _ _ h1, s _ _ h2, r⟩
theorem PenAt.mono {H : Hp} {d : Addr} {j k : Int} (p : PenAt H d j) (h : j ≤ k) : PenAt H d k := by
  obtain ⟨c, cells, b, l, h1, h2, h3, h4, h5, h6⟩ := p.ex
  exact ⟨c, cells, b, l, h1, h2, h3, h4, by omega, h6⟩
theorem ks1 : ¬ (("cells" : Str) = "begun") := by decide +kernel
theorem ks2 : ¬ (("cells" : Str) = "left") := by decide +kernel
theorem ks3 : ¬ (("begun" : Str) = "left") := by decide +kernel
theorem nk {a b : Str} (h : ¬ a = b) : ¬ ((Sum.inr a : Key) = (Sum.inr b : Key)) := fun z => h (Sum.inr.inj z)
theorem pen_cells (c : Addr) (b l : Int) : valV (penL c b l) (.inr "cells") = some (.ref c) := valV_pos rfl
theorem pen_begun (c : Addr) (b l : Int) : valV (penL c b l) (.inr "begun") = some (.int b) := (valV_neg (nk ks1)).trans (valV_pos rfl)
theorem pen_left (c : Addr) (b l : Int) : valV (penL c b l) (.inr "left") = some (.int l) := (valV_neg (nk ks2)).trans ((valV_neg (nk ks3)).trans (valV_pos rfl))
theorem put_begun (c : Addr) (b l b' : Int) : putK (penL c b l) (.inr "begun") (.int b') = penL c b' l := by
  have n1 := nk ks1
  have n2 := nk (Ne.symm ks3)
  simp [putK, penL, n1, n2]
theorem put_left (c : Addr) (b l l' : Int) : putK (penL c b l) (.inr "left") (.int l') = penL c b l' := by
  have n1 := nk ks2
  have n2 := nk ks3
  simp [putK, penL, n1, n2]
theorem get_cells {H : Hp} {d c : Addr} {b l : Int} (h : H d = some (.dK (penL c b l))) : DGet H d (.str "cells") (some (.ref c)) := by
  have z := DGet.k (k := Sum.inr "cells") h
  rwa [pen_cells] at z
theorem get_begun {H : Hp} {d c : Addr} {b l : Int} (h : H d = some (.dK (penL c b l))) : DGet H d (.str "begun") (some (.int b)) := by
  have z := DGet.k (k := Sum.inr "begun") h
  rwa [pen_begun] at z
theorem get_left {H : Hp} {d c : Addr} {b l : Int} (h : H d = some (.dK (penL c b l))) : DGet H d (.str "left") (some (.int l)) := by
  have z := DGet.k (k := Sum.inr "left") h
  rwa [pen_left] at z
theorem dput_begun {H : Hp} {d c : Addr} {b l b' : Int} (h : H d = some (.dK (penL c b l))) : DPut H d (.str "begun") (.int b') (upd H d (.dK (penL c b' l))) := by
  have z := DPut.k (k := Sum.inr "begun") (v := .int b') h (by show 3 < sizeLine; decide)
  rwa [put_begun] at z
theorem dput_left {H : Hp} {d c : Addr} {b l l' : Int} (h : H d = some (.dK (penL c b l))) : DPut H d (.str "left") (.int l') (upd H d (.dK (penL c b l'))) := by
  have z := DPut.k (k := Sum.inr "left") (v := .int l') h (by show 3 < sizeLine; decide)
  rwa [put_left] at z
theorem merge_pen (c : Addr) (b l : Int) : mergeK [] (penL c b l) = penL c b l := by
  have n1 := nk ks1
  have n2 := nk ks2
  have n3 := nk ks3
  simp [mergeK, putK, penL, n1, n2, n3]
/-! ### lists of ints as data -/
theorem dp_ints {K : PySem.W.Frag} {H : Hp} : ∀ ns : List Int, DpAll K H (ns.map V.int) (ns.map PyData.int)
  | [] => .nil
  | n :: ns => .cons (.int n) (dp_ints ns)
theorem ints_depth : ∀ ns : List Int, PyData.depthAll (ns.map PyData.int) ≤ 1
  | [] => by simp [PyData.depthAll]
  | n :: ns => by
    have := ints_depth ns
    simp only [List.map_cons, PyData.depthAll, PyData.depth]
    omega
theorem ints_can : ∀ ns : List Int, PyData.canLayAll0 (ns.map PyData.int) = true
  | [] => by simp [PyData.canLayAll0]
  | n :: ns => by simp only [List.map_cons, PyData.canLayAll0, PyData.canLay0, ints_can ns, Bool.and_true]
theorem ints_shaped (ns : List Int) : SeqAt.shaped (.list (ns.map PyData.int)) = true := by
  unfold SeqAt.shaped
  have h1 := ints_depth ns
  have h2 := ints_can ns
  have e1 : (PyData.list (ns.map PyData.int)).canLay0 = true := by simp only [PyData.canLay0, h2]
  have e2 : (PyData.list (ns.map PyData.int)).depth ≤ 64 := by
    simp only [PyData.depth]
    omega
  rw [e1, decide_eq_true e2]
  rfl
theorem ints_empty : ∀ ns : List Int, PyData.eqv (.list (ns.map PyData.int)) (.list []) = decide (ns = [])
  | [] => by simp [PyData.eqv, PyData.eqvAll]
  | n :: ns => by simp [PyData.eqv, PyData.eqvAll]
end K00

namespace K00
open PySem PySem.Spec PyProof.Rows L2 Ver Num
section
variable {P : Program} {w : World} {K : PySem.W.Frag} {mg : Str → Option Value} {base : Heap}
/-! ### _law_pen -/
theorem cut_ints (ns : List Int) (lo hi : Option Int) : cutV (ns.map V.int) lo hi = ((ns.drop (HT.sIx ns.length 0 lo)).take (HT.sIx ns.length ns.length hi - HT.sIx ns.length 0 lo)).map V.int := by
  unfold cutV
  rw [List.length_map, List.map_take, List.map_drop]
def spPen (K : PySem.W.Frag) : Sp := fun vs H Q _ => ∃ (a : Addr) (ns : List Int), vs = [.ref a] ∧ SqL K H a (ns.map V.int) ∧ ns.length ≤ 63 ∧ ∀ (d : Addr) (H' : Hp), Same H H' → H d = none → PenAt H' d 0 → Q (.ref d) H'
theorem ok_pen (T : Tx K mg) : FnG P w K mg base CX0 1 (He.ga K "_law_pen") (spPen K) := by
  refine mk__law_pen T.d (fun vs H Q E h => ?_) (fun cdv A outer s H vs Q E hg hr h => ?_)
  · obtain ⟨a, ns, rfl, _⟩ := h
    rfl
  · obtain ⟨a, ns, rfl, hs, hl, q⟩ := h
    refine ⟨_, pss_one (ps_ret (pe_disp (pps_cons pe_str (pe_callTy call_list_of (by rfl) (T.z "list" (by decide +kernel)) (by decide +kernel) (pa_cons (pe_slice sl_list (pv 0) po_none (po_some pe_int)) pa_nil))
      (pps_cons pe_str pe_int (pps_cons pe_str pe_int pps_nil))) (by rfl) (by rfl) (fun z => by cases z) (by decide))), ?_⟩
    intro d nd
    have s0 := same_up (o := .dK []) nd
    refine ⟨_, rfl, 63, rfl, a, _, rfl, s0.seq hs, fun m nm => ?_⟩
    have s1 := same_up (o := .lst (cutV (ns.map V.int) none (some 63))) nm
    refine ⟨m, _, rfl, .inl (.inl (.inl upd_same)), fun c nc => ?_⟩
    have s2 := same_up (o := .lst (cutV (ns.map V.int) none (some 63))) nc
    have sa := (s0.trans s1).trans s2
    have dd : H d = none := nd
    have dm : d ≠ m := ne_of_none upd_same nm
    have dc : d ≠ c := fun z => by
      rw [← z, upd_ne dm, upd_same] at nc
      cases nc
    refine ⟨?_, penL c 0 0, rfl, by show 3 ≤ 15; decide, ?_⟩
    · rw [upd_ne dc, upd_ne dm, upd_same]
    · rw [merge_pen]
      refine q d _ (fun b o e => ?_) nd ⟨c, (ns.drop (HT.sIx ns.length 0 none)).take (HT.sIx ns.length ns.length (some 63) - HT.sIx ns.length 0 none), 0, 0, upd_same, ?_, ?_, by omega, by omega, by omega⟩
      · rw [upd_ne (ne_of_none e nd)]
        exact sa _ _ e
      · rw [upd_ne (Ne.symm dc), upd_same, cut_ints]
      · rw [List.length_take, List.length_drop]
        omega
/-! ### _law_draw -/
theorem em1 {X m : Int} (h : 0 < m) (h2 : m ≤ 2 ^ 64) : -(2 ^ 64) < X % m ∧ X % m < 2 ^ 64 := by
  have a := Int.emod_nonneg X (show m ≠ 0 by omega)
  have b := Int.emod_lt_of_pos X h
  omega
def spDraw : Sp := fun vs H Q _ => ∃ (d : Addr) (k n : Int), vs = [.ref d, .int n] ∧ PenAt H d k ∧ k < 1000000000000 ∧ 0 < n ∧ n < 1073741824 ∧
  ∀ (i : Int) (H' : Hp), But d H H' → PenAt H' d (k + 1) → 0 ≤ i → i < n → Q (.int i) H'
theorem ok_draw (T : Tx K mg) : FnG P w K mg base CX0 1 (He.ga K "_law_draw") spDraw := by
  refine mk__law_draw T.d (fun vs H Q E h => ?_) (fun cdv A outer s H vs Q E hg hr h => ?_)
  · obtain ⟨d, k, n, rfl, _⟩ := h
    rfl
  · obtain ⟨d, k, n, rfl, pen, k9, n0, n9, q⟩ := h
    have hu := hu_of hr
    have nd := sc__law_draw.nd
    have zi := T.z "int" (by decide +kernel)
    have zl := T.z "len" (by decide +kernel)
    have za := T.z "abs" (by decide +kernel)
    have bi : bootBuiltins "int" = some (.type "int") := by decide +kernel
    have bl : bootBuiltins "len" = some (.builtin "len") := by decide +kernel
    have ba : bootBuiltins "abs" = some (.builtin "abs") := by decide +kernel
    obtain ⟨c, cells, b, l, hd, hc, cl, b0, bk, l0⟩ := pen.ex
    have dc : d ≠ c := ne_of hd hc (by intro z; cases z)
    refine ⟨_, pss_cons (ps_if (pt_cmpR op_gt (pe_dget hu (pv 0) pe_str (fun _ _ => rfl)) pe_int (nomark _))
        (pss_cons (ps_set (i := 2) nd rfl (Or.inl rfl) (pe_op op_mod (pe_callTy call_int1 (by rfl) zi bi (pa_cons (pe_dget hu (pv 0) pe_str (fun _ _ => rfl)) pa_nil)) (pv 1)))
        (pss_cons (ps_dput hu (pv 0) pe_str (pe_op op_fdiv (pe_dget hu (pv 0) pe_str (fun _ _ => rfl)) (pv 1)) rfl)
        (pss_one (ps_ret (pv 2))))) pss_nil)
      (pss_cons (ps_set (i := 3) nd rfl (Or.inl rfl) (pe_dget hu (pv 0) pe_str (fun _ _ => rfl)))
      (pss_cons (ps_dput hu (pv 0) pe_str (pe_op op_add (pv 3) pe_int) rfl)
      (pss_cons (ps_set (i := 4) nd rfl (Or.inl rfl) (pe_op op_add (pe_op op_mul pe_int (pv 3)) pe_int))
      (pss_cons (ps_if (pt_cmpR (op_neD hr.units) (pe_dget hu (pv 0) pe_str (fun _ _ => rfl)) (pe_lst pa_nil) (nomark _))
        (pss_one (ps_set (i := 4) nd rfl (Or.inl rfl) (pe_ix ix_list (pe_dget hu (pv 0) pe_str (fun _ _ => rfl))
          (pe_op op_mod (pe_callTy call_int1 (by rfl) zi bi (pa_cons (pv 3) pa_nil)) (pe_callB call_len_seq (by rfl) zl bl (pa_cons (pe_dget hu (pv 0) pe_str (fun _ _ => rfl)) pa_nil))) (fun _ _ => rfl)))) pss_nil)
      (pss_cons (ps_if (PW.pt (pw_and (pt_cmpR op_lt (pv 3) (pe_callB call_len_seq (by rfl) zl bl (pa_cons (pe_dget hu (pv 0) pe_str (fun _ _ => rfl)) pa_nil)) (nomark _))
          (pw_and1 (pt_cmpR op_ge (pe_callB call_abs (by rfl) za ba (pa_cons (pv 4) pa_nil)) (pe_op op_pow pe_int pe_int) (nomark _)))))
        (pss_cons (ps_dput hu (pv 0) pe_str (pe_op op_fdiv (pe_op op_sub (pe_callB call_abs (by rfl) za ba (pa_cons (pv 4) pa_nil)) (pe_op op_pow pe_int pe_int)) (pv 1)) rfl)
        (pss_one (ps_ret (pe_op op_mod (pe_callTy call_int1 (by rfl) zi bi (pa_cons (pe_op op_sub (pe_callB call_abs (by rfl) za ba (pa_cons (pv 4) pa_nil)) (pe_op op_pow pe_int pe_int)) pa_nil)) (pv 1))))) pss_nil)
      (pss_cons (ps_set (i := 5) nd rfl (Or.inl rfl) (pe_op op_mul (pe_op op_mod (pe_callTy call_int1 (by rfl) zi bi (pa_cons (pv 4) pa_nil)) pe_int) pe_int))
      (pss_cons (ps_set (i := 6) nd rfl (Or.inl rfl) (pe_op op_mod (pe_callTy call_int1 (by rfl) zi bi (pa_cons (pe_op op_add (pe_op op_add (pv 5) (pe_op op_mul (pv 3) (pe_op op_add (pe_op op_mul pe_int (pv 3)) pe_int))) pe_int) pa_nil)) pe_int))
      (pss_cons (ps_set (i := 6) nd rfl (Or.inl rfl) (pe_op op_mod (pe_callTy call_int1 (by rfl) zi bi (pa_cons (pe_op op_add (pe_op op_add (pe_op op_add (pe_op op_mul (pv 6) (pv 6)) (pe_op op_mul pe_int (pv 6))) (pe_op op_mul pe_int (pv 3))) pe_int) pa_nil)) pe_int))
      (pss_one (ps_ret (pe_op op_mod (pe_callTy call_int1 (by rfl) zi bi (pa_cons (pe_op op_fdiv (pe_op op_mod (pe_callTy call_int1 (by rfl) zi bi (pa_cons (pe_op op_mul (pv 6) (pe_op op_add (pv 6) pe_int)) pa_nil)) pe_int) pe_int) pa_nil)) (pv 1)))))))))))), ?_⟩
    refine ⟨_, rfl, d, _, rfl, get_left hd, _, _, rfl, rfl, _, rfl, ?_⟩
    refine ite2 (fun hz => ?_) (fun hz => ?_)
    · -- the rest of a great cell
      refine ⟨_, rfl, d, _, rfl, get_left hd, .inl ⟨_, rfl, _, rfl, _, _, rfl, rfl, (by show 0 < n; omega), ?_⟩⟩
      refine ⟨_, rfl, d, _, rfl, get_left hd, _, rfl, _, _, rfl, rfl, ⟨by show 0 < n; omega, by show n < 1073741824; omega⟩, _, rfl, d, _, rfl, dput_left hd, ?_⟩
      refine ⟨_, rfl, q _ _ (but_up hd) ⟨c, cells, b, l / n, upd_same, by rw [upd_ne (Ne.symm dc)]; exact hc, cl, b0, by omega, Int.ediv_nonneg l0 (by omega)⟩ (Int.emod_nonneg _ (by omega)) (Int.emod_lt_of_pos _ n0)⟩
    · -- a new cell
      have hd1 : (upd H d (.dK (penL c (b + 1) l))) d = some (.dK (penL c (b + 1) l)) := upd_same
      have hc1 : (upd H d (.dK (penL c (b + 1) l))) c = some (.lst (cells.map V.int)) := by rw [upd_ne (Ne.symm dc)]; exact hc
      refine ⟨_, rfl, d, _, rfl, get_begun hd, ?_⟩
      refine ⟨_, rfl, _, _, rfl, rfl, _, rfl, d, _, rfl, dput_begun hd, ?_⟩
      refine ⟨_, rfl, _, _, rfl, rfl, .inl ⟨by decide, by decide⟩, _, _, rfl, rfl, ?_⟩
      refine ⟨_, rfl, d, _, rfl, get_cells hd1, Nat.zero_le _, fun z nz => ?_⟩
      have sz := same_up (o := .lst []) nz
      have hd2 := sz _ _ hd1
      have hc2 := sz _ _ hc1
      have bt : But d H (upd (upd H d (.dK (penL c (b + 1) l))) z (.lst [])) := (but_up hd).trans (But.same sz)
      refine ⟨.list (cells.map PyData.int), .list [], .lst (SqL.of hc2) (dp_ints cells), .lst (SqL.of upd_same) .nil, ints_shaped cells, ints_shaped [], _, rfl, ?_⟩
      rw [ints_empty]
      generalize upd (upd H d (.dK (penL c (b + 1) l))) z (.lst []) = H2 at hd2 hc2 bt
      have pen2 : ∀ l' : Int, 0 ≤ l' → PenAt (upd H2 d (.dK (penL c (b + 1) l'))) d (k + 1) := fun l' z0 => ⟨c, cells, b + 1, l', upd_same, by rw [upd_ne (Ne.symm dc)]; exact hc2, cl, by omega, by omega, z0⟩
      have pen0 : PenAt H2 d (k + 1) := ⟨c, cells, b + 1, l, hd2, hc2, cl, by omega, by omega, l0⟩
      by_cases he : cells = []
      all_goals
        first
        | (refine ifF (by rw [decide_eq_true he]; rfl) ?_)
        | (have hlen : 0 < (cells.map V.int).length := by
            rw [List.length_map]
            exact List.length_pos_iff.mpr he
           have hm0 := Int.emod_nonneg b (show (((cells.map V.int).length : Nat) : Int) ≠ 0 by omega)
           have hm1 := Int.emod_lt_of_pos b (show (0 : Int) < (((cells.map V.int).length : Nat) : Int) by omega)
           obtain ⟨j, hj⟩ : ∃ j : Nat, b % (((cells.map V.int).length : Nat) : Int) = (j : Int) := ⟨(b % (((cells.map V.int).length : Nat) : Int)).toNat, by omega⟩
           have jl : j < cells.length := by
            rw [hj, List.length_map] at hm1
            omega
           have hat : atI (cells.map V.int) (b % (((cells.map V.int).length : Nat) : Int)) = some (V.int cells[j]) := by
            rw [hj]
            exact atI_nat (by rw [List.getElem?_map, List.getElem?_eq_getElem jl]; rfl)
           refine ifT (by rw [decide_eq_false he]; rfl) ?_
           refine ⟨_, rfl, d, _, rfl, get_cells hd2, _, rfl, .inl ⟨_, rfl, _, rfl, d, _, rfl, get_cells hd2, c, _, rfl, .inl (SqL.of hc2), _, _, rfl, rfl, (by show (0 : Int) < (((cells.map V.int).length : Nat) : Int); omega), c, _, _, _, rfl, rfl, SqL.of hc2, hat, ?_⟩⟩)
        refine ⟨_, rfl, _, rfl, d, _, rfl, get_cells hd2, c, _, rfl, .inl (SqL.of hc2), _, _, rfl, rfl, _, rfl, ?_⟩
        refine ite2 (fun h1 => ?_) (fun h1 => iteF ?_)
        all_goals
          first
          | (refine ⟨_, rfl, _, rfl, _, _, rfl, rfl, ⟨by decide, by decide, by decide⟩, _, _, rfl, rfl, _, rfl, ?_⟩
             refine ite2 (fun h2 => ?_) (fun h2 => ?_))
          | skip
        all_goals
          first
          | (have h3 := of_decide_eq_true h2
             refine ⟨_, rfl, _, rfl, _, _, rfl, rfl, ⟨by decide, by decide, by decide⟩, _, _, rfl, rfl, _, rfl, _, _, rfl, rfl, ⟨by show 0 < n; omega, by show n < 1073741824; omega⟩, _, rfl, d, _, rfl, dput_left hd2, ?_⟩
             refine ⟨_, rfl, _, rfl, _, _, rfl, rfl, ⟨by decide, by decide, by decide⟩, _, _, rfl, rfl, .inl ⟨_, rfl, _, rfl, _, _, rfl, rfl, (by show 0 < n; omega), ?_⟩⟩
             exact q _ _ (bt.trans (but_up hd2)) (pen2 _ (Int.ediv_nonneg (Int.sub_nonneg.mpr h3) (by omega))) (Int.emod_nonneg _ (by omega)) (Int.emod_lt_of_pos _ n0))
          | (refine ⟨_, rfl, .inl ⟨_, rfl, _, _, rfl, rfl, (by show (0 : Int) < 4294967197; decide), _, _, rfl, rfl, .inr ⟨by decide, by decide⟩, ?_⟩⟩
             refine ⟨_, rfl, _, rfl, _, rfl, _, _, rfl, rfl, .inl ⟨by decide, by decide⟩, _, _, rfl, rfl, _, _, rfl, rfl, .inl ⟨by show -(2 ^ 64) < b; omega, by show b < 2 ^ 64; omega⟩, _, _, rfl, rfl, _, _, rfl, rfl, .inl ⟨_, rfl, _, _, rfl, rfl, (by show (0 : Int) < 4294967189; decide), ?_⟩⟩
             refine ⟨_, rfl, _, rfl, _, _, rfl, rfl, .inl (em1 (by decide) (by decide)), _, rfl, _, _, rfl, rfl, .inl ⟨by decide, by decide⟩, _, _, rfl, rfl, _, rfl, _, _, rfl, rfl, .inl ⟨by decide, by decide⟩, _, _, rfl, rfl, _, _, rfl, rfl, .inl ⟨_, rfl, _, _, rfl, rfl, (by show (0 : Int) < 4294967161; decide), ?_⟩⟩
             refine ⟨_, rfl, _, rfl, _, _, rfl, rfl, _, _, rfl, rfl, .inl (em1 (by decide) (by decide)), .inl ⟨_, rfl, _, _, rfl, rfl, (by show (0 : Int) < 4294967143; decide), _, _, rfl, rfl, ⟨by decide, by decide⟩, .inl ⟨_, rfl, _, rfl, _, _, rfl, rfl, (by show 0 < n; omega), ?_⟩⟩⟩
             exact q _ _ bt pen0 (Int.emod_nonneg _ (by omega)) (Int.emod_lt_of_pos _ n0))
end
end K00

namespace K00
open PySem PySem.Spec PyProof.Rows L2 Ver Num
section
variable {P : Program} {w : World} {K : PySem.W.Frag} {mg : Str → Option Value} {base : Heap}
theorem pen_ne {H : Hp} {d a : Addr} {k : Int} {xs : List V} (p : PenAt H d k) (h : H a = some (.lst xs)) : a ≠ d := by
  obtain ⟨c, cells, b, l, h1, _⟩ := p.ex
  exact ne_of h h1 (by intro z; cases z)
/-! ### _law_pick, _law_prime, _law_number -/
def spPick : Sp := fun vs H Q _ => ∃ (d a : Addr) (k : Int) (xs : List V), vs = [.ref d, .ref a] ∧ PenAt H d k ∧ k < 1000000000000 ∧ H a = some (.lst xs) ∧ 0 < xs.length ∧ xs.length < 1000 ∧
  ∀ (x : V) (H' : Hp), x ∈ xs → But d H H' → PenAt H' d (k + 1) → Q x H'
theorem ok_pick (T : Tx K mg) : FnG P w K mg base CX0 2 (He.ga K "_law_pick") spPick := by
  refine mk__law_pick T.d (fun vs H Q E h => ?_) (fun cdv A outer s H vs Q E hg hr h => ?_)
  · obtain ⟨d, a, k, xs, rfl, _⟩ := h
    rfl
  · obtain ⟨d, a, k, xs, rfl, pen, k9, ha, l0, l9, q⟩ := h
    refine ⟨_, pss_one (ps_ret (pe_ix ix_list (pv 1) (pe_callG (ok_draw T) hr hg (by rfl) (T.g "_law_draw" (by decide +kernel)) (kp__law_draw T.d) pass0
      (pa_cons (pv 0) (pa_cons (pe_callB call_len_seq (by rfl) (T.z "len" (by decide +kernel)) (by decide +kernel) (pa_cons (pv 1) pa_nil)) pa_nil))) (fun _ _ => rfl))), ?_⟩
    refine ⟨_, rfl, _, rfl, _, rfl, a, xs, rfl, .inl (SqL.of ha), d, k, _, rfl, pen, k9, by omega, by omega, fun i H1 bt pen1 i0 i1 => ?_⟩
    have ha1 := bt.1 a _ ha (pen_ne pen ha)
    obtain ⟨j, rfl⟩ : ∃ j : Nat, i = (j : Int) := ⟨i.toNat, by omega⟩
    have jl : j < xs.length := by omega
    refine ⟨a, xs, _, xs[j], rfl, rfl, SqL.of ha1, atI_nat (List.getElem?_eq_getElem jl), q _ H1 (List.getElem_mem jl) bt pen1⟩
end
end K00

namespace K00
open PySem PySem.Spec PyProof.Rows L2 Ver Num
def oddB : PyData → Bool := fun _ => true
end K00

namespace K00
open PySem PySem.Spec PyProof.Rows L2 Ver Num
section
variable {P : Program} {w : World} {K : PySem.W.Frag} {mg : Str → Option Value} {base : Heap}
/-- a value without parts -/
def atomD : PyData → Bool
  | .list _ => false
  | .tuple _ => false
  | .dict _ => false
  | _ => true
/-- how long it is, shown; of a tuple what its parts are together -/
def wtD : PyData → Nat
  | .tuple ds => piled (PyData.shownAll ds)
  | d => d.shown.length
def flatT : PyData → Bool
  | .tuple ds => ds.all atomD
  | _ => true
def OkO (d : PyData) : Prop := d.showable = true ∧ wtD d ≤ 1000 ∧ d.depth ≤ 4 ∧ flatT d = true ∧ oddB d = true
/-- a value that stays while the pen at p draws -/
def DoS (p : Addr) (K : PySem.W.Frag) (H : Hp) (x : V) (d : PyData) : Prop := ∀ H2, But p H H2 → Do K H2 x d
theorem DoS.do_ {p : Addr} {K : PySem.W.Frag} {H : Hp} {x : V} {d : PyData} (h : DoS p K H x d) : Do K H x d := h H But.refl
theorem DoS.but {p : Addr} {K : PySem.W.Frag} {H H' : Hp} {x : V} {d : PyData} (h : DoS p K H x d) (b : But p H H') : DoS p K H' x d := fun H2 b2 => h H2 (b.trans b2)
theorem up2 {H : Hp} {p : Addr} {o o2 : HO} (h : H p = none) : Same H (upd (upd H p o) p o2) := fun b x e => by
  rw [upd_ne (ne_of_none e h), upd_ne (ne_of_none e h)]
  exact e
abbrev oL1 : List V := [.non, .bl true, .bl false, .int 0, .int 1, .int (-1), .int 2, .int 7, .int 160, .int 161, .int (10 ^ (30 : Int).toNat), .str "", .str "a", .str "b", .str "ab", .str "ba"]
abbrev oL2 : List V := [.int (10 ^ (50 : Int).toNat * 10 ^ (50 : Int).toNat * 10 ^ (9 : Int).toNat), .int (0 - 10 ^ (50 : Int).toNat * 10 ^ (50 : Int).toNat * 10 ^ (9 : Int).toNat)]
abbrev oL3 (a b c d e : Addr) : List V := [.str "A", .str "0", .str "1", .str "1/2", .str "fractions", .str "modulo 7", .str "a b", .str " ", .str "aa", .str "abcde", .ref a, .ref b, .ref c, .ref d, .ref e]
abbrev oL4 (a b c d e f g h i j k : Addr) : List V := [.ref a, .ref b, .ref c, .ref d, .ref e, .ref f, .ref g, .ref h, .ref i, .ref j, .ref k]
def spOdd (K : PySem.W.Frag) : Sp := fun vs H Q _ => ∃ (d : Addr) (k : Int), vs = [.ref d] ∧ PenAt H d k ∧ k < 1000000 ∧ ∀ (x : V) (dd : PyData) (H' : Hp), DoS d K H' x dd → OkO dd → But d H H' → PenAt H' d (k + 1) → Q x H'
theorem ok_odd (T : Tx K mg) : FnG P w K mg base CX0 3 (He.ga K "_law_odd") (spOdd K) := by
  refine mk__law_odd T.d (fun vs H Q E h => ?_) (fun cdv A outer s H vs Q E hg hr h => ?_)
  · obtain ⟨d, k, rfl, _⟩ := h
    rfl
  · obtain ⟨d, k, rfl, pen, k9, q⟩ := h
    have nd := sc__law_odd.nd
    refine ⟨_, pss_cons (ps_set (i := 1) nd rfl (Or.inl rfl) (pe_lst (pa_cons pe_non (pa_cons pe_bl (pa_cons pe_bl (pa_cons pe_int (pa_cons pe_int (pa_cons (pe_un un_neg pe_int) (pa_cons pe_int (pa_cons pe_int (pa_cons pe_int (pa_cons pe_int (pa_cons (pe_op op_pow pe_int pe_int) (pa_cons pe_str (pa_cons pe_str (pa_cons pe_str (pa_cons pe_str (pa_cons pe_str pa_nil))))))))))))))))))
      (pss_cons (ps_set (i := 1) nd rfl (Or.inl rfl) (pe_op op_cat (pv 1) (pe_lst (pa_cons (pe_op op_mulW (pe_op op_mulW (pe_op op_pow pe_int pe_int) (pe_op op_pow pe_int pe_int)) (pe_op op_pow pe_int pe_int)) (pa_cons (pe_op op_sub pe_int (pe_op op_mulW (pe_op op_mulW (pe_op op_pow pe_int pe_int) (pe_op op_pow pe_int pe_int)) (pe_op op_pow pe_int pe_int))) pa_nil)))))
      (pss_cons (ps_set (i := 1) nd rfl (Or.inl rfl) (pe_op op_cat (pv 1) (pe_lst (pa_cons pe_str (pa_cons pe_str (pa_cons pe_str (pa_cons pe_str (pa_cons pe_str (pa_cons pe_str (pa_cons pe_str (pa_cons pe_str (pa_cons pe_str (pa_cons pe_str (pa_cons (pe_tup pa_nil) (pa_cons (pe_lst pa_nil) (pa_cons pe_dnewK (pa_cons (pe_tup (pa_cons pe_str pa_nil)) (pa_cons (pe_lst (pa_cons pe_str pa_nil)) pa_nil))))))))))))))))))
      (pss_cons (ps_set (i := 1) nd rfl (Or.inl rfl) (pe_op op_cat (pv 1) (pe_lst (pa_cons (pe_lst (pa_cons pe_int pa_nil)) (pa_cons (pe_tup (pa_cons pe_int (pa_cons pe_int pa_nil))) (pa_cons (pe_tup (pa_cons pe_int (pa_cons pe_int pa_nil))) (pa_cons (pe_tup (pa_cons pe_int (pa_cons pe_int pa_nil))) (pa_cons (pe_tup (pa_cons pe_int (pa_cons pe_int pa_nil))) (pa_cons (pe_tup (pa_cons pe_int (pa_cons pe_int pa_nil))) (pa_cons (pe_tup (pa_cons pe_int (pa_cons (pe_un un_neg pe_int) pa_nil))) (pa_cons (pe_tup (pa_cons pe_bl (pa_cons pe_int pa_nil))) (pa_cons (pe_lst (pa_cons pe_int (pa_cons pe_int pa_nil))) (pa_cons (pe_tup (pa_cons pe_int (pa_cons pe_int (pa_cons pe_int pa_nil)))) (pa_cons (pe_disp (pps_cons pe_str pe_int pps_nil) (by rfl) (by rfl) (fun z => by cases z) (by decide)) pa_nil))))))))))))))
      (pss_one (ps_ret (pe_callG (ok_pick T) hr hg (by rfl) (T.g "_law_pick" (by decide +kernel)) (kp__law_pick T.d) pass0 (pa_cons (pv 0) (pa_cons (pv 1) pa_nil)))))))), ?_⟩
    refine ⟨_, rfl, _, _, rfl, rfl, ⟨by decide, by decide, by decide⟩, by show 16 ≤ sizeLine; decide, fun l1 n1 => ?_⟩
    have s_l1 := same_up (o := .lst oL1) n1
    refine ⟨_, rfl, _, _, rfl, rfl, ⟨by decide, by decide, by decide⟩, _, _, rfl, rfl, ⟨by decide, by decide, by decide⟩, _, _, rfl, rfl, (by show CMulW _ _; unfold CMulW; decide +kernel), _, _, rfl, rfl, ⟨by decide, by decide, by decide⟩, _, _, rfl, rfl, (by show CMulW _ _; unfold CMulW; decide +kernel), _, _, rfl, rfl, ⟨by decide, by decide, by decide⟩, _, _, rfl, rfl, ⟨by decide, by decide, by decide⟩, _, _, rfl, rfl, (by show CMulW _ _; unfold CMulW; decide +kernel), _, _, rfl, rfl, ⟨by decide, by decide, by decide⟩, _, _, rfl, rfl, (by show CMulW _ _; unfold CMulW; decide +kernel), _, _, rfl, rfl, by show 2 ≤ sizeLine; decide, fun l2 n2 => ?_⟩
    have s_l2 := same_up (o := .lst oL2) n2
    refine ⟨l1, l2, _, _, rfl, rfl, s_l2 _ _ upd_same, upd_same, by show 16 + 2 ≤ sizeLine; decide, fun c2 n3 => ?_⟩
    have s_c2 := same_up (o := .lst (oL1 ++ oL2)) n3
    refine ⟨_, rfl, by show 0 ≤ sizeLine; decide, fun a1 m1 => ?_⟩
    have s_a1 := same_up (o := .tup []) m1
    refine ⟨by show 0 ≤ sizeLine; decide, fun a2 m2 => ?_⟩
    have s_a2 := same_up (o := .lst []) m2
    refine fun a3 m3 => ?_
    have s_a3 := same_up (o := .dK []) m3
    refine ⟨by show 1 ≤ sizeLine; decide, fun a4 m4 => ?_⟩
    have s_a4 := same_up (o := .tup [V.str "a"]) m4
    refine ⟨by show 1 ≤ sizeLine; decide, fun a5 m5 => ?_⟩
    have s_a5 := same_up (o := .lst [V.str "a"]) m5
    refine ⟨by show 15 ≤ sizeLine; decide, fun l3 n4 => ?_⟩
    have s_l3 := same_up (o := .lst (oL3 a1 a2 a3 a4 a5)) n4
    refine ⟨c2, l3, _, _, rfl, rfl, (((((s_a1.trans s_a2).trans s_a3).trans s_a4).trans s_a5).trans s_l3) _ _ upd_same, upd_same, by show 18 + 15 ≤ sizeLine; decide, fun c3 n5 => ?_⟩
    have s_c3 := same_up (o := .lst (oL1 ++ oL2 ++ oL3 a1 a2 a3 a4 a5)) n5
    refine ⟨_, rfl, by show 1 ≤ sizeLine; decide, fun a6 m6 => ?_⟩
    have s_a6 := same_up (o := .lst [V.int 1]) m6
    refine ⟨by show 2 ≤ sizeLine; decide, fun a7 m7 => ?_⟩
    have s_a7 := same_up (o := .tup [V.int 1, V.int 2]) m7
    refine ⟨by show 2 ≤ sizeLine; decide, fun a8 m8 => ?_⟩
    have s_a8 := same_up (o := .tup [V.int 2, V.int 4]) m8
    refine ⟨by show 2 ≤ sizeLine; decide, fun a9 m9 => ?_⟩
    have s_a9 := same_up (o := .tup [V.int 0, V.int 2]) m9
    refine ⟨by show 2 ≤ sizeLine; decide, fun a10 m10 => ?_⟩
    have s_a10 := same_up (o := .tup [V.int 1, V.int 1]) m10
    refine ⟨by show 2 ≤ sizeLine; decide, fun a11 m11 => ?_⟩
    have s_a11 := same_up (o := .tup [V.int 1, V.int 0]) m11
    refine ⟨_, rfl, by show 2 ≤ sizeLine; decide, fun a12 m12 => ?_⟩
    have s_a12 := same_up (o := .tup [V.int 1, V.int (-2)]) m12
    refine ⟨by show 2 ≤ sizeLine; decide, fun a13 m13 => ?_⟩
    have s_a13 := same_up (o := .tup [V.bl true, V.int 2]) m13
    refine ⟨by show 2 ≤ sizeLine; decide, fun a14 m14 => ?_⟩
    have s_a14 := same_up (o := .lst [V.int 1, V.int 2]) m14
    refine ⟨by show 3 ≤ sizeLine; decide, fun a15 m15 => ?_⟩
    have s_a15 := same_up (o := .tup [V.int 1, V.int 2, V.int 3]) m15
    refine fun a16 m16 => ?_
    refine ⟨upd_same, [(.inr "a", .int 1)], rfl, by show 1 ≤ 15; decide, ?_⟩
    have s_a16 := up2 (o := .dK []) (o2 := .dK (mergeK [] [((.inr "a" : Key), V.int 1)])) m16
    refine ⟨by show 11 ≤ sizeLine; decide, fun l4 n6 => ?_⟩
    have s_l4 := same_up (o := .lst (oL4 a6 a7 a8 a9 a10 a11 a12 a13 a14 a15 a16)) n6
    refine ⟨c3, l4, _, _, rfl, rfl, (((((((((((s_a6.trans s_a7).trans s_a8).trans s_a9).trans s_a10).trans s_a11).trans s_a12).trans s_a13).trans s_a14).trans s_a15).trans s_a16).trans s_l4) _ _ upd_same, upd_same, by show 33 + 11 ≤ sizeLine; decide, fun c4 n7 => ?_⟩
    have s_c4 := same_up (o := .lst (oL1 ++ oL2 ++ oL3 a1 a2 a3 a4 a5 ++ oL4 a6 a7 a8 a9 a10 a11 a12 a13 a14 a15 a16)) n7
    have tA := ((((((((((((((((((((((s_l1.trans s_l2).trans s_c2).trans s_a1).trans s_a2).trans s_a3).trans s_a4).trans s_a5).trans s_l3).trans s_c3).trans s_a6).trans s_a7).trans s_a8).trans s_a9).trans s_a10).trans s_a11).trans s_a12).trans s_a13).trans s_a14).trans s_a15).trans s_a16).trans s_l4).trans s_c4)
    refine ⟨_, rfl, _, rfl, d, c4, k, _, rfl, pen.same tA, by omega, upd_same, by show 0 < 44; decide, by show 44 < 1000; decide, fun x H9 hx bt pen9 => ?_⟩
    have c := (But.same tA).trans bt
    obtain ⟨pc, pcells, pb, pl, pd, _⟩ := (pen.same tA).ex
    have em : mergeK [] [((.inr "a" : Key), V.int 1)] = [(.inr "a", V.int 1)] := by simp [mergeK, putK]
    have h_a1 := ((((((((((((((((((s_a2.trans s_a3).trans s_a4).trans s_a5).trans s_l3).trans s_c3).trans s_a6).trans s_a7).trans s_a8).trans s_a9).trans s_a10).trans s_a11).trans s_a12).trans s_a13).trans s_a14).trans s_a15).trans s_a16).trans s_l4).trans s_c4) _ _ (upd_same (a := a1))
    have h_a2 := (((((((((((((((((s_a3.trans s_a4).trans s_a5).trans s_l3).trans s_c3).trans s_a6).trans s_a7).trans s_a8).trans s_a9).trans s_a10).trans s_a11).trans s_a12).trans s_a13).trans s_a14).trans s_a15).trans s_a16).trans s_l4).trans s_c4) _ _ (upd_same (a := a2))
    have h_a3 := ((((((((((((((((s_a4.trans s_a5).trans s_l3).trans s_c3).trans s_a6).trans s_a7).trans s_a8).trans s_a9).trans s_a10).trans s_a11).trans s_a12).trans s_a13).trans s_a14).trans s_a15).trans s_a16).trans s_l4).trans s_c4) _ _ (upd_same (a := a3))
    have h_a4 := (((((((((((((((s_a5.trans s_l3).trans s_c3).trans s_a6).trans s_a7).trans s_a8).trans s_a9).trans s_a10).trans s_a11).trans s_a12).trans s_a13).trans s_a14).trans s_a15).trans s_a16).trans s_l4).trans s_c4) _ _ (upd_same (a := a4))
    have h_a5 := ((((((((((((((s_l3.trans s_c3).trans s_a6).trans s_a7).trans s_a8).trans s_a9).trans s_a10).trans s_a11).trans s_a12).trans s_a13).trans s_a14).trans s_a15).trans s_a16).trans s_l4).trans s_c4) _ _ (upd_same (a := a5))
    have h_a6 := (((((((((((s_a7.trans s_a8).trans s_a9).trans s_a10).trans s_a11).trans s_a12).trans s_a13).trans s_a14).trans s_a15).trans s_a16).trans s_l4).trans s_c4) _ _ (upd_same (a := a6))
    have h_a7 := ((((((((((s_a8.trans s_a9).trans s_a10).trans s_a11).trans s_a12).trans s_a13).trans s_a14).trans s_a15).trans s_a16).trans s_l4).trans s_c4) _ _ (upd_same (a := a7))
    have h_a8 := (((((((((s_a9.trans s_a10).trans s_a11).trans s_a12).trans s_a13).trans s_a14).trans s_a15).trans s_a16).trans s_l4).trans s_c4) _ _ (upd_same (a := a8))
    have h_a9 := ((((((((s_a10.trans s_a11).trans s_a12).trans s_a13).trans s_a14).trans s_a15).trans s_a16).trans s_l4).trans s_c4) _ _ (upd_same (a := a9))
    have h_a10 := (((((((s_a11.trans s_a12).trans s_a13).trans s_a14).trans s_a15).trans s_a16).trans s_l4).trans s_c4) _ _ (upd_same (a := a10))
    have h_a11 := ((((((s_a12.trans s_a13).trans s_a14).trans s_a15).trans s_a16).trans s_l4).trans s_c4) _ _ (upd_same (a := a11))
    have h_a12 := (((((s_a13.trans s_a14).trans s_a15).trans s_a16).trans s_l4).trans s_c4) _ _ (upd_same (a := a12))
    have h_a13 := ((((s_a14.trans s_a15).trans s_a16).trans s_l4).trans s_c4) _ _ (upd_same (a := a13))
    have h_a14 := (((s_a15.trans s_a16).trans s_l4).trans s_c4) _ _ (upd_same (a := a14))
    have h_a15 := ((s_a16.trans s_l4).trans s_c4) _ _ (upd_same (a := a15))
    have h_a16 := (s_l4.trans s_c4) _ _ (upd_same (a := a16))
    simp only [List.mem_append, List.mem_cons, List.not_mem_nil, or_false] at hx
    rcases hx with ((hx | hx) | hx) | hx
    · rcases hx with rfl | rfl | rfl | rfl | rfl | rfl | rfl | rfl | rfl | rfl | rfl | rfl | rfl | rfl | rfl | rfl
      · exact q _ _ H9 (fun H2 b2 => .non) (by exact ⟨by decide +kernel, by decide +kernel, by decide +kernel, by decide +kernel, by decide +kernel⟩) c pen9
      · exact q _ _ H9 (fun H2 b2 => (.bl _)) (by exact ⟨by decide +kernel, by decide +kernel, by decide +kernel, by decide +kernel, by decide +kernel⟩) c pen9
      · exact q _ _ H9 (fun H2 b2 => (.bl _)) (by exact ⟨by decide +kernel, by decide +kernel, by decide +kernel, by decide +kernel, by decide +kernel⟩) c pen9
      · exact q _ _ H9 (fun H2 b2 => (.int _)) (by exact ⟨by decide +kernel, by decide +kernel, by decide +kernel, by decide +kernel, by decide +kernel⟩) c pen9
      · exact q _ _ H9 (fun H2 b2 => (.int _)) (by exact ⟨by decide +kernel, by decide +kernel, by decide +kernel, by decide +kernel, by decide +kernel⟩) c pen9
      · exact q _ _ H9 (fun H2 b2 => (.int _)) (by exact ⟨by decide +kernel, by decide +kernel, by decide +kernel, by decide +kernel, by decide +kernel⟩) c pen9
      · exact q _ _ H9 (fun H2 b2 => (.int _)) (by exact ⟨by decide +kernel, by decide +kernel, by decide +kernel, by decide +kernel, by decide +kernel⟩) c pen9
      · exact q _ _ H9 (fun H2 b2 => (.int _)) (by exact ⟨by decide +kernel, by decide +kernel, by decide +kernel, by decide +kernel, by decide +kernel⟩) c pen9
      · exact q _ _ H9 (fun H2 b2 => (.int _)) (by exact ⟨by decide +kernel, by decide +kernel, by decide +kernel, by decide +kernel, by decide +kernel⟩) c pen9
      · exact q _ _ H9 (fun H2 b2 => (.int _)) (by exact ⟨by decide +kernel, by decide +kernel, by decide +kernel, by decide +kernel, by decide +kernel⟩) c pen9
      · exact q _ _ H9 (fun H2 b2 => (.int _)) (by exact ⟨by decide +kernel, by decide +kernel, by decide +kernel, by decide +kernel, by decide +kernel⟩) c pen9
      · exact q _ _ H9 (fun H2 b2 => (.str _)) (by exact ⟨by decide +kernel, by decide +kernel, by decide +kernel, by decide +kernel, by decide +kernel⟩) c pen9
      · exact q _ _ H9 (fun H2 b2 => (.str _)) (by exact ⟨by decide +kernel, by decide +kernel, by decide +kernel, by decide +kernel, by decide +kernel⟩) c pen9
      · exact q _ _ H9 (fun H2 b2 => (.str _)) (by exact ⟨by decide +kernel, by decide +kernel, by decide +kernel, by decide +kernel, by decide +kernel⟩) c pen9
      · exact q _ _ H9 (fun H2 b2 => (.str _)) (by exact ⟨by decide +kernel, by decide +kernel, by decide +kernel, by decide +kernel, by decide +kernel⟩) c pen9
      · exact q _ _ H9 (fun H2 b2 => (.str _)) (by exact ⟨by decide +kernel, by decide +kernel, by decide +kernel, by decide +kernel, by decide +kernel⟩) c pen9
    · rcases hx with rfl | rfl
      · exact q _ _ H9 (fun H2 b2 => (.int _)) (by exact ⟨by decide +kernel, by decide +kernel, by decide +kernel, by decide +kernel, by decide +kernel⟩) c pen9
      · exact q _ _ H9 (fun H2 b2 => (.int _)) (by exact ⟨by decide +kernel, by decide +kernel, by decide +kernel, by decide +kernel, by decide +kernel⟩) c pen9
    · rcases hx with rfl | rfl | rfl | rfl | rfl | rfl | rfl | rfl | rfl | rfl | rfl | rfl | rfl | rfl | rfl
      · exact q _ _ H9 (fun H2 b2 => (.str _)) (by exact ⟨by decide +kernel, by decide +kernel, by decide +kernel, by decide +kernel, by decide +kernel⟩) c pen9
      · exact q _ _ H9 (fun H2 b2 => (.str _)) (by exact ⟨by decide +kernel, by decide +kernel, by decide +kernel, by decide +kernel, by decide +kernel⟩) c pen9
      · exact q _ _ H9 (fun H2 b2 => (.str _)) (by exact ⟨by decide +kernel, by decide +kernel, by decide +kernel, by decide +kernel, by decide +kernel⟩) c pen9
      · exact q _ _ H9 (fun H2 b2 => (.str _)) (by exact ⟨by decide +kernel, by decide +kernel, by decide +kernel, by decide +kernel, by decide +kernel⟩) c pen9
      · exact q _ _ H9 (fun H2 b2 => (.str _)) (by exact ⟨by decide +kernel, by decide +kernel, by decide +kernel, by decide +kernel, by decide +kernel⟩) c pen9
      · exact q _ _ H9 (fun H2 b2 => (.str _)) (by exact ⟨by decide +kernel, by decide +kernel, by decide +kernel, by decide +kernel, by decide +kernel⟩) c pen9
      · exact q _ _ H9 (fun H2 b2 => (.str _)) (by exact ⟨by decide +kernel, by decide +kernel, by decide +kernel, by decide +kernel, by decide +kernel⟩) c pen9
      · exact q _ _ H9 (fun H2 b2 => (.str _)) (by exact ⟨by decide +kernel, by decide +kernel, by decide +kernel, by decide +kernel, by decide +kernel⟩) c pen9
      · exact q _ _ H9 (fun H2 b2 => (.str _)) (by exact ⟨by decide +kernel, by decide +kernel, by decide +kernel, by decide +kernel, by decide +kernel⟩) c pen9
      · exact q _ _ H9 (fun H2 b2 => (.str _)) (by exact ⟨by decide +kernel, by decide +kernel, by decide +kernel, by decide +kernel, by decide +kernel⟩) c pen9
      · exact q _ _ H9 (fun H2 b2 => (.tup (.inl (.inl ((bt.trans b2).1 _ _ h_a1 (ne_of h_a1 pd (by intro z; cases z))))) .nil)) (by exact ⟨by decide +kernel, by decide +kernel, by decide +kernel, by decide +kernel, by decide +kernel⟩) c pen9
      · exact q _ _ H9 (fun H2 b2 => (.lst (.inl (.inl ((bt.trans b2).1 _ _ h_a2 (ne_of h_a2 pd (by intro z; cases z))))) .nil)) (by exact ⟨by decide +kernel, by decide +kernel, by decide +kernel, by decide +kernel, by decide +kernel⟩) c pen9
      · exact q _ _ H9 (fun H2 b2 => (.dic ((bt.trans b2).1 _ _ h_a3 (ne_of h_a3 pd (by intro z; have z := HO.dK.inj z; simp [penL] at z))) .nil)) (by exact ⟨by decide +kernel, by decide +kernel, by decide +kernel, by decide +kernel, by decide +kernel⟩) c pen9
      · exact q _ _ H9 (fun H2 b2 => (.tup (.inl (.inl ((bt.trans b2).1 _ _ h_a4 (ne_of h_a4 pd (by intro z; cases z))))) (.cons (.str _) .nil))) (by exact ⟨by decide +kernel, by decide +kernel, by decide +kernel, by decide +kernel, by decide +kernel⟩) c pen9
      · exact q _ _ H9 (fun H2 b2 => (.lst (.inl (.inl ((bt.trans b2).1 _ _ h_a5 (ne_of h_a5 pd (by intro z; cases z))))) (.cons (.str _) .nil))) (by exact ⟨by decide +kernel, by decide +kernel, by decide +kernel, by decide +kernel, by decide +kernel⟩) c pen9
    · rcases hx with rfl | rfl | rfl | rfl | rfl | rfl | rfl | rfl | rfl | rfl | rfl
      · exact q _ _ H9 (fun H2 b2 => (.lst (.inl (.inl ((bt.trans b2).1 _ _ h_a6 (ne_of h_a6 pd (by intro z; cases z))))) (.cons (.int _) .nil))) (by exact ⟨by decide +kernel, by decide +kernel, by decide +kernel, by decide +kernel, by decide +kernel⟩) c pen9
      · exact q _ _ H9 (fun H2 b2 => (.tup (.inl (.inl ((bt.trans b2).1 _ _ h_a7 (ne_of h_a7 pd (by intro z; cases z))))) (.cons (.int _) (.cons (.int _) .nil)))) (by exact ⟨by decide +kernel, by decide +kernel, by decide +kernel, by decide +kernel, by decide +kernel⟩) c pen9
      · exact q _ _ H9 (fun H2 b2 => (.tup (.inl (.inl ((bt.trans b2).1 _ _ h_a8 (ne_of h_a8 pd (by intro z; cases z))))) (.cons (.int _) (.cons (.int _) .nil)))) (by exact ⟨by decide +kernel, by decide +kernel, by decide +kernel, by decide +kernel, by decide +kernel⟩) c pen9
      · exact q _ _ H9 (fun H2 b2 => (.tup (.inl (.inl ((bt.trans b2).1 _ _ h_a9 (ne_of h_a9 pd (by intro z; cases z))))) (.cons (.int _) (.cons (.int _) .nil)))) (by exact ⟨by decide +kernel, by decide +kernel, by decide +kernel, by decide +kernel, by decide +kernel⟩) c pen9
      · exact q _ _ H9 (fun H2 b2 => (.tup (.inl (.inl ((bt.trans b2).1 _ _ h_a10 (ne_of h_a10 pd (by intro z; cases z))))) (.cons (.int _) (.cons (.int _) .nil)))) (by exact ⟨by decide +kernel, by decide +kernel, by decide +kernel, by decide +kernel, by decide +kernel⟩) c pen9
      · exact q _ _ H9 (fun H2 b2 => (.tup (.inl (.inl ((bt.trans b2).1 _ _ h_a11 (ne_of h_a11 pd (by intro z; cases z))))) (.cons (.int _) (.cons (.int _) .nil)))) (by exact ⟨by decide +kernel, by decide +kernel, by decide +kernel, by decide +kernel, by decide +kernel⟩) c pen9
      · exact q _ _ H9 (fun H2 b2 => (.tup (.inl (.inl ((bt.trans b2).1 _ _ h_a12 (ne_of h_a12 pd (by intro z; cases z))))) (.cons (.int _) (.cons (.int _) .nil)))) (by exact ⟨by decide +kernel, by decide +kernel, by decide +kernel, by decide +kernel, by decide +kernel⟩) c pen9
      · exact q _ _ H9 (fun H2 b2 => (.tup (.inl (.inl ((bt.trans b2).1 _ _ h_a13 (ne_of h_a13 pd (by intro z; cases z))))) (.cons (.bl _) (.cons (.int _) .nil)))) (by exact ⟨by decide +kernel, by decide +kernel, by decide +kernel, by decide +kernel, by decide +kernel⟩) c pen9
      · exact q _ _ H9 (fun H2 b2 => (.lst (.inl (.inl ((bt.trans b2).1 _ _ h_a14 (ne_of h_a14 pd (by intro z; cases z))))) (.cons (.int _) (.cons (.int _) .nil)))) (by exact ⟨by decide +kernel, by decide +kernel, by decide +kernel, by decide +kernel, by decide +kernel⟩) c pen9
      · exact q _ _ H9 (fun H2 b2 => (.tup (.inl (.inl ((bt.trans b2).1 _ _ h_a15 (ne_of h_a15 pd (by intro z; cases z))))) (.cons (.int _) (.cons (.int _) (.cons (.int _) .nil))))) (by exact ⟨by decide +kernel, by decide +kernel, by decide +kernel, by decide +kernel, by decide +kernel⟩) c pen9
      · exact q _ _ H9 (fun H2 b2 => (.dic (by rw [em] at h_a16; exact (bt.trans b2).1 _ _ h_a16 (ne_of h_a16 pd (by intro z; have z := HO.dK.inj z; simp [penL] at z))) (.cons (k := .inr "a") (.int 1) .nil))) (by exact ⟨by decide +kernel, by decide +kernel, by decide +kernel, by decide +kernel, by decide +kernel⟩) c pen9
end
end K00

namespace K00
open PySem PySem.Spec PyProof.Rows L2 Ver Num PySem.HandSPX
/-- an error of the class C that stands, its one field f holding x -/
def Err1 (H : Hp) (a C : Addr) (f : Str) (x : V) : Prop := ∃ dx, H a = some (exo a C (some dx)) ∧ H dx = some (exd dx [(f, x)])
def spErr1 (C : Addr) (f : Str) : Sp := fun vs H Q _ => ∃ (a : Addr) (x : V), vs = [.ref a, x] ∧ H a = some (exo a C none) ∧ ∀ dx, H dx = none → dx ≠ a → Q .non (upd (upd H dx (exd dx [(f, x)])) a (exo a C (some dx)))
def spErr0 (C : Addr) : Sp := fun vs H Q _ => ∃ a : Addr, vs = [.ref a] ∧ H a = some (exo a C none) ∧ Q .non H
section
variable {P : Program} {w : World} {K : PySem.W.Frag} {mg : Str → Option Value} {base : Heap}
def Ok1 (P : Program) (w : World) (K : PySem.W.Frag) (mg : Str → Option Value) (base : Heap) (x f : Str) : Prop := ∃ fd, FnOk P w K mg base CX0 1 (He.ma K (He.ga K x) "__init__") fd ["self", f] (spErr1 (He.ga K x) f) ∧ Binds K fd ["self", f] [] ∧ KBn K fd ["self", f] 1 [f] (fun us ws => us ++ ws) (fun vs zs => vs ++ zs)
def Ok0 (P : Program) (w : World) (K : PySem.W.Frag) (mg : Str → Option Value) (base : Heap) (x : Str) : Prop := ∃ fd, FnOk P w K mg base CX0 1 (He.ma K (He.ga K x) "__init__") fd ["self"] (spErr0 (He.ga K x)) ∧ Binds K fd ["self"] []
theorem btVal : bootBuiltins "ValueError" = some (.type bVal.B) := by decide +kernel
theorem stVal : Manifest.isStub bVal.B = false := by decide +kernel
theorem hdVal : PySem.W.handedIn (.builtin bVal.it) = true := by decide +kernel
theorem btLook : bootBuiltins "LookupError" = some (.type bLook.B) := by decide +kernel
theorem stLook : Manifest.isStub bLook.B = false := by decide +kernel
theorem hdLook : PySem.W.handedIn (.builtin bLook.it) = true := by decide +kernel
theorem btAri : bootBuiltins "ArithmeticError" = some (.type bAri.B) := by decide +kernel
theorem stAri : Manifest.isStub bAri.B = false := by decide +kernel
theorem hdAri : PySem.W.handedIn (.builtin bAri.it) = true := by decide +kernel
theorem btOver : bootBuiltins "OverflowError" = some (.type bOver.B) := by decide +kernel
theorem stOver : Manifest.isStub bOver.B = false := by decide +kernel
theorem hdOver : PySem.W.handedIn (.builtin bOver.it) = true := by decide +kernel
theorem btRun : bootBuiltins "RuntimeError" = some (.type bRun.B) := by decide +kernel
theorem stRun : Manifest.isStub bRun.B = false := by decide +kernel
theorem hdRun : PySem.W.handedIn (.builtin bRun.it) = true := by decide +kernel
theorem ok_InvalidPrime (T : Tx K mg) : Ok1 P w K mg base "InvalidPrime" "value" := by
  have EC := T.e1 (bVal, "InvalidPrime", "value") (by simp [cls1])
  obtain ⟨fd, FD⟩ := T.d.def_ 0 (d := d_InvalidPrime___init__) rfl
  have hb : Binds K fd ["self", "value"] [] := FD.bindsN fun _ _ _ _ _ _ us hl => match us, hl with | [_, _], _ => rfl
  have hk : KBn K fd ["self", "value"] 1 ["value"] (fun us ws => us ++ ws) (fun vs zs => vs ++ zs) := FD.kbindsX 1 ["value"] (fun us ws => us ++ ws) (fun r1 r2 => r1.append r2) fun _ _ _ _ _ _ us ws hl hw => match us, ws, hl, hw with | [_], [_], _, _ => rfl
  obtain ⟨⟨oc, od, dV, kV, doc, pm, an, cdv, ct, osl, rfl, lk, hcd, _⟩, _⟩ := FD
  refine ⟨_, fn_of lk hcd sc_InvalidPrime___init__ (fun vs H Q E h => ?_) (fun A outer s H vs Q E hr h => ?_), hb, hk⟩
  · obtain ⟨a, x, rfl, _⟩ := h
    rfl
  · obtain ⟨a, x, rfl, ea, q⟩ := h
    refine ⟨_, PSs.nox (pss_cons (ps_expr (pe_ginit (x := "ValueError") ebVal (by rfl) (T.z "ValueError" (by decide +kernel)) btVal stVal (T.vV bVal (by simp [bases])) hdVal (pa_cons (pv 0) (pa_cons (pv 1) pa_nil)))) (pss_one (ps_gost ebVal (pv 0) (pv 1)))), ?_⟩
    exact ⟨_, rfl, _, rfl, a, He.ga K "InvalidPrime", [x], rfl, by show 1 ≤ 1000; decide, EC.ox, ea, _, rfl, _, rfl, a, He.ga K "InvalidPrime", rfl, EC.ox, EC.nf _ (List.mem_cons_self ..), ea, q⟩
theorem ok_InvalidNumber (T : Tx K mg) : Ok1 P w K mg base "InvalidNumber" "value" := by
  have EC := T.e1 (bVal, "InvalidNumber", "value") (by simp [cls1])
  obtain ⟨fd, FD⟩ := T.d.def_ 1 (d := d_InvalidNumber___init__) rfl
  have hb : Binds K fd ["self", "value"] [] := FD.bindsN fun _ _ _ _ _ _ us hl => match us, hl with | [_, _], _ => rfl
  have hk : KBn K fd ["self", "value"] 1 ["value"] (fun us ws => us ++ ws) (fun vs zs => vs ++ zs) := FD.kbindsX 1 ["value"] (fun us ws => us ++ ws) (fun r1 r2 => r1.append r2) fun _ _ _ _ _ _ us ws hl hw => match us, ws, hl, hw with | [_], [_], _, _ => rfl
  obtain ⟨⟨oc, od, dV, kV, doc, pm, an, cdv, ct, osl, rfl, lk, hcd, _⟩, _⟩ := FD
  refine ⟨_, fn_of lk hcd sc_InvalidNumber___init__ (fun vs H Q E h => ?_) (fun A outer s H vs Q E hr h => ?_), hb, hk⟩
  · obtain ⟨a, x, rfl, _⟩ := h
    rfl
  · obtain ⟨a, x, rfl, ea, q⟩ := h
    refine ⟨_, PSs.nox (pss_cons (ps_expr (pe_ginit (x := "ValueError") ebVal (by rfl) (T.z "ValueError" (by decide +kernel)) btVal stVal (T.vV bVal (by simp [bases])) hdVal (pa_cons (pv 0) (pa_cons (pv 1) pa_nil)))) (pss_one (ps_gost ebVal (pv 0) (pv 1)))), ?_⟩
    exact ⟨_, rfl, _, rfl, a, He.ga K "InvalidNumber", [x], rfl, by show 1 ≤ 1000; decide, EC.ox, ea, _, rfl, _, rfl, a, He.ga K "InvalidNumber", rfl, EC.ox, EC.nf _ (List.mem_cons_self ..), ea, q⟩
theorem ok_InvalidLetters (T : Tx K mg) : Ok1 P w K mg base "InvalidLetters" "value" := by
  have EC := T.e1 (bVal, "InvalidLetters", "value") (by simp [cls1])
  obtain ⟨fd, FD⟩ := T.d.def_ 2 (d := d_InvalidLetters___init__) rfl
  have hb : Binds K fd ["self", "value"] [] := FD.bindsN fun _ _ _ _ _ _ us hl => match us, hl with | [_, _], _ => rfl
  have hk : KBn K fd ["self", "value"] 1 ["value"] (fun us ws => us ++ ws) (fun vs zs => vs ++ zs) := FD.kbindsX 1 ["value"] (fun us ws => us ++ ws) (fun r1 r2 => r1.append r2) fun _ _ _ _ _ _ us ws hl hw => match us, ws, hl, hw with | [_], [_], _, _ => rfl
  obtain ⟨⟨oc, od, dV, kV, doc, pm, an, cdv, ct, osl, rfl, lk, hcd, _⟩, _⟩ := FD
  refine ⟨_, fn_of lk hcd sc_InvalidLetters___init__ (fun vs H Q E h => ?_) (fun A outer s H vs Q E hr h => ?_), hb, hk⟩
  · obtain ⟨a, x, rfl, _⟩ := h
    rfl
  · obtain ⟨a, x, rfl, ea, q⟩ := h
    refine ⟨_, PSs.nox (pss_cons (ps_expr (pe_ginit (x := "ValueError") ebVal (by rfl) (T.z "ValueError" (by decide +kernel)) btVal stVal (T.vV bVal (by simp [bases])) hdVal (pa_cons (pv 0) (pa_cons (pv 1) pa_nil)))) (pss_one (ps_gost ebVal (pv 0) (pv 1)))), ?_⟩
    exact ⟨_, rfl, _, rfl, a, He.ga K "InvalidLetters", [x], rfl, by show 1 ≤ 1000; decide, EC.ox, ea, _, rfl, _, rfl, a, He.ga K "InvalidLetters", rfl, EC.ox, EC.nf _ (List.mem_cons_self ..), ea, q⟩
theorem ok_InvalidCost (T : Tx K mg) : Ok1 P w K mg base "InvalidCost" "letter" := by
  have EC := T.e1 (bVal, "InvalidCost", "letter") (by simp [cls1])
  obtain ⟨fd, FD⟩ := T.d.def_ 3 (d := d_InvalidCost___init__) rfl
  have hb : Binds K fd ["self", "letter"] [] := FD.bindsN fun _ _ _ _ _ _ us hl => match us, hl with | [_, _], _ => rfl
  have hk : KBn K fd ["self", "letter"] 1 ["letter"] (fun us ws => us ++ ws) (fun vs zs => vs ++ zs) := FD.kbindsX 1 ["letter"] (fun us ws => us ++ ws) (fun r1 r2 => r1.append r2) fun _ _ _ _ _ _ us ws hl hw => match us, ws, hl, hw with | [_], [_], _, _ => rfl
  obtain ⟨⟨oc, od, dV, kV, doc, pm, an, cdv, ct, osl, rfl, lk, hcd, _⟩, _⟩ := FD
  refine ⟨_, fn_of lk hcd sc_InvalidCost___init__ (fun vs H Q E h => ?_) (fun A outer s H vs Q E hr h => ?_), hb, hk⟩
  · obtain ⟨a, x, rfl, _⟩ := h
    rfl
  · obtain ⟨a, x, rfl, ea, q⟩ := h
    refine ⟨_, PSs.nox (pss_cons (ps_expr (pe_ginit (x := "ValueError") ebVal (by rfl) (T.z "ValueError" (by decide +kernel)) btVal stVal (T.vV bVal (by simp [bases])) hdVal (pa_cons (pv 0) (pa_cons (pv 1) pa_nil)))) (pss_one (ps_gost ebVal (pv 0) (pv 1)))), ?_⟩
    exact ⟨_, rfl, _, rfl, a, He.ga K "InvalidCost", [x], rfl, by show 1 ≤ 1000; decide, EC.ox, ea, _, rfl, _, rfl, a, He.ga K "InvalidCost", rfl, EC.ox, EC.nf _ (List.mem_cons_self ..), ea, q⟩
theorem ok_InvalidWord (T : Tx K mg) : Ok1 P w K mg base "InvalidWord" "value" := by
  have EC := T.e1 (bVal, "InvalidWord", "value") (by simp [cls1])
  obtain ⟨fd, FD⟩ := T.d.def_ 4 (d := d_InvalidWord___init__) rfl
  have hb : Binds K fd ["self", "value"] [] := FD.bindsN fun _ _ _ _ _ _ us hl => match us, hl with | [_, _], _ => rfl
  have hk : KBn K fd ["self", "value"] 1 ["value"] (fun us ws => us ++ ws) (fun vs zs => vs ++ zs) := FD.kbindsX 1 ["value"] (fun us ws => us ++ ws) (fun r1 r2 => r1.append r2) fun _ _ _ _ _ _ us ws hl hw => match us, ws, hl, hw with | [_], [_], _, _ => rfl
  obtain ⟨⟨oc, od, dV, kV, doc, pm, an, cdv, ct, osl, rfl, lk, hcd, _⟩, _⟩ := FD
  refine ⟨_, fn_of lk hcd sc_InvalidWord___init__ (fun vs H Q E h => ?_) (fun A outer s H vs Q E hr h => ?_), hb, hk⟩
  · obtain ⟨a, x, rfl, _⟩ := h
    rfl
  · obtain ⟨a, x, rfl, ea, q⟩ := h
    refine ⟨_, PSs.nox (pss_cons (ps_expr (pe_ginit (x := "ValueError") ebVal (by rfl) (T.z "ValueError" (by decide +kernel)) btVal stVal (T.vV bVal (by simp [bases])) hdVal (pa_cons (pv 0) (pa_cons (pv 1) pa_nil)))) (pss_one (ps_gost ebVal (pv 0) (pv 1)))), ?_⟩
    exact ⟨_, rfl, _, rfl, a, He.ga K "InvalidWord", [x], rfl, by show 1 ≤ 1000; decide, EC.ox, ea, _, rfl, _, rfl, a, He.ga K "InvalidWord", rfl, EC.ox, EC.nf _ (List.mem_cons_self ..), ea, q⟩
theorem ok_InvalidCount (T : Tx K mg) : Ok1 P w K mg base "InvalidCount" "value" := by
  have EC := T.e1 (bVal, "InvalidCount", "value") (by simp [cls1])
  obtain ⟨fd, FD⟩ := T.d.def_ 5 (d := d_InvalidCount___init__) rfl
  have hb : Binds K fd ["self", "value"] [] := FD.bindsN fun _ _ _ _ _ _ us hl => match us, hl with | [_, _], _ => rfl
  have hk : KBn K fd ["self", "value"] 1 ["value"] (fun us ws => us ++ ws) (fun vs zs => vs ++ zs) := FD.kbindsX 1 ["value"] (fun us ws => us ++ ws) (fun r1 r2 => r1.append r2) fun _ _ _ _ _ _ us ws hl hw => match us, ws, hl, hw with | [_], [_], _, _ => rfl
  obtain ⟨⟨oc, od, dV, kV, doc, pm, an, cdv, ct, osl, rfl, lk, hcd, _⟩, _⟩ := FD
  refine ⟨_, fn_of lk hcd sc_InvalidCount___init__ (fun vs H Q E h => ?_) (fun A outer s H vs Q E hr h => ?_), hb, hk⟩
  · obtain ⟨a, x, rfl, _⟩ := h
    rfl
  · obtain ⟨a, x, rfl, ea, q⟩ := h
    refine ⟨_, PSs.nox (pss_cons (ps_expr (pe_ginit (x := "ValueError") ebVal (by rfl) (T.z "ValueError" (by decide +kernel)) btVal stVal (T.vV bVal (by simp [bases])) hdVal (pa_cons (pv 0) (pa_cons (pv 1) pa_nil)))) (pss_one (ps_gost ebVal (pv 0) (pv 1)))), ?_⟩
    exact ⟨_, rfl, _, rfl, a, He.ga K "InvalidCount", [x], rfl, by show 1 ≤ 1000; decide, EC.ox, ea, _, rfl, _, rfl, a, He.ga K "InvalidCount", rfl, EC.ox, EC.nf _ (List.mem_cons_self ..), ea, q⟩
theorem ok_InvalidMachine (T : Tx K mg) : Ok1 P w K mg base "InvalidMachine" "part" := by
  have EC := T.e1 (bVal, "InvalidMachine", "part") (by simp [cls1])
  obtain ⟨fd, FD⟩ := T.d.def_ 6 (d := d_InvalidMachine___init__) rfl
  have hb : Binds K fd ["self", "part"] [] := FD.bindsN fun _ _ _ _ _ _ us hl => match us, hl with | [_, _], _ => rfl
  have hk : KBn K fd ["self", "part"] 1 ["part"] (fun us ws => us ++ ws) (fun vs zs => vs ++ zs) := FD.kbindsX 1 ["part"] (fun us ws => us ++ ws) (fun r1 r2 => r1.append r2) fun _ _ _ _ _ _ us ws hl hw => match us, ws, hl, hw with | [_], [_], _, _ => rfl
  obtain ⟨⟨oc, od, dV, kV, doc, pm, an, cdv, ct, osl, rfl, lk, hcd, _⟩, _⟩ := FD
  refine ⟨_, fn_of lk hcd sc_InvalidMachine___init__ (fun vs H Q E h => ?_) (fun A outer s H vs Q E hr h => ?_), hb, hk⟩
  · obtain ⟨a, x, rfl, _⟩ := h
    rfl
  · obtain ⟨a, x, rfl, ea, q⟩ := h
    refine ⟨_, PSs.nox (pss_cons (ps_expr (pe_ginit (x := "ValueError") ebVal (by rfl) (T.z "ValueError" (by decide +kernel)) btVal stVal (T.vV bVal (by simp [bases])) hdVal (pa_cons (pv 0) (pa_cons (pv 1) pa_nil)))) (pss_one (ps_gost ebVal (pv 0) (pv 1)))), ?_⟩
    exact ⟨_, rfl, _, rfl, a, He.ga K "InvalidMachine", [x], rfl, by show 1 ≤ 1000; decide, EC.ox, ea, _, rfl, _, rfl, a, He.ga K "InvalidMachine", rfl, EC.ox, EC.nf _ (List.mem_cons_self ..), ea, q⟩
theorem ok_InvalidAnswer (T : Tx K mg) : Ok1 P w K mg base "InvalidAnswer" "number" := by
  have EC := T.e1 (bVal, "InvalidAnswer", "number") (by simp [cls1])
  obtain ⟨fd, FD⟩ := T.d.def_ 7 (d := d_InvalidAnswer___init__) rfl
  have hb : Binds K fd ["self", "number"] [] := FD.bindsN fun _ _ _ _ _ _ us hl => match us, hl with | [_, _], _ => rfl
  have hk : KBn K fd ["self", "number"] 1 ["number"] (fun us ws => us ++ ws) (fun vs zs => vs ++ zs) := FD.kbindsX 1 ["number"] (fun us ws => us ++ ws) (fun r1 r2 => r1.append r2) fun _ _ _ _ _ _ us ws hl hw => match us, ws, hl, hw with | [_], [_], _, _ => rfl
  obtain ⟨⟨oc, od, dV, kV, doc, pm, an, cdv, ct, osl, rfl, lk, hcd, _⟩, _⟩ := FD
  refine ⟨_, fn_of lk hcd sc_InvalidAnswer___init__ (fun vs H Q E h => ?_) (fun A outer s H vs Q E hr h => ?_), hb, hk⟩
  · obtain ⟨a, x, rfl, _⟩ := h
    rfl
  · obtain ⟨a, x, rfl, ea, q⟩ := h
    refine ⟨_, PSs.nox (pss_cons (ps_expr (pe_ginit (x := "ValueError") ebVal (by rfl) (T.z "ValueError" (by decide +kernel)) btVal stVal (T.vV bVal (by simp [bases])) hdVal (pa_cons (pv 0) (pa_cons (pv 1) pa_nil)))) (pss_one (ps_gost ebVal (pv 0) (pv 1)))), ?_⟩
    exact ⟨_, rfl, _, rfl, a, He.ga K "InvalidAnswer", [x], rfl, by show 1 ≤ 1000; decide, EC.ox, ea, _, rfl, _, rfl, a, He.ga K "InvalidAnswer", rfl, EC.ox, EC.nf _ (List.mem_cons_self ..), ea, q⟩
theorem ok_InvalidText (T : Tx K mg) : Ok1 P w K mg base "InvalidText" "line" := by
  have EC := T.e1 (bVal, "InvalidText", "line") (by simp [cls1])
  obtain ⟨fd, FD⟩ := T.d.def_ 9 (d := d_InvalidText___init__) rfl
  have hb : Binds K fd ["self", "line"] [] := FD.bindsN fun _ _ _ _ _ _ us hl => match us, hl with | [_, _], _ => rfl
  have hk : KBn K fd ["self", "line"] 1 ["line"] (fun us ws => us ++ ws) (fun vs zs => vs ++ zs) := FD.kbindsX 1 ["line"] (fun us ws => us ++ ws) (fun r1 r2 => r1.append r2) fun _ _ _ _ _ _ us ws hl hw => match us, ws, hl, hw with | [_], [_], _, _ => rfl
  obtain ⟨⟨oc, od, dV, kV, doc, pm, an, cdv, ct, osl, rfl, lk, hcd, _⟩, _⟩ := FD
  refine ⟨_, fn_of lk hcd sc_InvalidText___init__ (fun vs H Q E h => ?_) (fun A outer s H vs Q E hr h => ?_), hb, hk⟩
  · obtain ⟨a, x, rfl, _⟩ := h
    rfl
  · obtain ⟨a, x, rfl, ea, q⟩ := h
    refine ⟨_, PSs.nox (pss_cons (ps_expr (pe_ginit (x := "ValueError") ebVal (by rfl) (T.z "ValueError" (by decide +kernel)) btVal stVal (T.vV bVal (by simp [bases])) hdVal (pa_cons (pv 0) (pa_cons (pv 1) pa_nil)))) (pss_one (ps_gost ebVal (pv 0) (pv 1)))), ?_⟩
    exact ⟨_, rfl, _, rfl, a, He.ga K "InvalidText", [x], rfl, by show 1 ≤ 1000; decide, EC.ox, ea, _, rfl, _, rfl, a, He.ga K "InvalidText", rfl, EC.ox, EC.nf _ (List.mem_cons_self ..), ea, q⟩
theorem ok_InvalidRow (T : Tx K mg) : Ok1 P w K mg base "InvalidRow" "row" := by
  have EC := T.e1 (bVal, "InvalidRow", "row") (by simp [cls1])
  obtain ⟨fd, FD⟩ := T.d.def_ 10 (d := d_InvalidRow___init__) rfl
  have hb : Binds K fd ["self", "row"] [] := FD.bindsN fun _ _ _ _ _ _ us hl => match us, hl with | [_, _], _ => rfl
  have hk : KBn K fd ["self", "row"] 1 ["row"] (fun us ws => us ++ ws) (fun vs zs => vs ++ zs) := FD.kbindsX 1 ["row"] (fun us ws => us ++ ws) (fun r1 r2 => r1.append r2) fun _ _ _ _ _ _ us ws hl hw => match us, ws, hl, hw with | [_], [_], _, _ => rfl
  obtain ⟨⟨oc, od, dV, kV, doc, pm, an, cdv, ct, osl, rfl, lk, hcd, _⟩, _⟩ := FD
  refine ⟨_, fn_of lk hcd sc_InvalidRow___init__ (fun vs H Q E h => ?_) (fun A outer s H vs Q E hr h => ?_), hb, hk⟩
  · obtain ⟨a, x, rfl, _⟩ := h
    rfl
  · obtain ⟨a, x, rfl, ea, q⟩ := h
    refine ⟨_, PSs.nox (pss_cons (ps_expr (pe_ginit (x := "ValueError") ebVal (by rfl) (T.z "ValueError" (by decide +kernel)) btVal stVal (T.vV bVal (by simp [bases])) hdVal (pa_cons (pv 0) (pa_cons (pv 1) pa_nil)))) (pss_one (ps_gost ebVal (pv 0) (pv 1)))), ?_⟩
    exact ⟨_, rfl, _, rfl, a, He.ga K "InvalidRow", [x], rfl, by show 1 ≤ 1000; decide, EC.ox, ea, _, rfl, _, rfl, a, He.ga K "InvalidRow", rfl, EC.ox, EC.nf _ (List.mem_cons_self ..), ea, q⟩
theorem ok_TooSmall (T : Tx K mg) : Ok1 P w K mg base "TooSmall" "least_size" := by
  have EC := T.e1 (bVal, "TooSmall", "least_size") (by simp [cls1])
  obtain ⟨fd, FD⟩ := T.d.def_ 13 (d := d_TooSmall___init__) rfl
  have hb : Binds K fd ["self", "least_size"] [] := FD.bindsN fun _ _ _ _ _ _ us hl => match us, hl with | [_, _], _ => rfl
  have hk : KBn K fd ["self", "least_size"] 1 ["least_size"] (fun us ws => us ++ ws) (fun vs zs => vs ++ zs) := FD.kbindsX 1 ["least_size"] (fun us ws => us ++ ws) (fun r1 r2 => r1.append r2) fun _ _ _ _ _ _ us ws hl hw => match us, ws, hl, hw with | [_], [_], _, _ => rfl
  obtain ⟨⟨oc, od, dV, kV, doc, pm, an, cdv, ct, osl, rfl, lk, hcd, _⟩, _⟩ := FD
  refine ⟨_, fn_of lk hcd sc_TooSmall___init__ (fun vs H Q E h => ?_) (fun A outer s H vs Q E hr h => ?_), hb, hk⟩
  · obtain ⟨a, x, rfl, _⟩ := h
    rfl
  · obtain ⟨a, x, rfl, ea, q⟩ := h
    refine ⟨_, PSs.nox (pss_cons (ps_expr (pe_ginit (x := "ValueError") ebVal (by rfl) (T.z "ValueError" (by decide +kernel)) btVal stVal (T.vV bVal (by simp [bases])) hdVal (pa_cons (pv 0) (pa_cons (pv 1) pa_nil)))) (pss_one (ps_gost ebVal (pv 0) (pv 1)))), ?_⟩
    exact ⟨_, rfl, _, rfl, a, He.ga K "TooSmall", [x], rfl, by show 1 ≤ 1000; decide, EC.ox, ea, _, rfl, _, rfl, a, He.ga K "TooSmall", rfl, EC.ox, EC.nf _ (List.mem_cons_self ..), ea, q⟩
theorem ok_Contradiction (T : Tx K mg) : Ok1 P w K mg base "Contradiction" "word" := by
  have EC := T.e1 (bVal, "Contradiction", "word") (by simp [cls1])
  obtain ⟨fd, FD⟩ := T.d.def_ 14 (d := d_Contradiction___init__) rfl
  have hb : Binds K fd ["self", "word"] [] := FD.bindsN fun _ _ _ _ _ _ us hl => match us, hl with | [_, _], _ => rfl
  have hk : KBn K fd ["self", "word"] 1 ["word"] (fun us ws => us ++ ws) (fun vs zs => vs ++ zs) := FD.kbindsX 1 ["word"] (fun us ws => us ++ ws) (fun r1 r2 => r1.append r2) fun _ _ _ _ _ _ us ws hl hw => match us, ws, hl, hw with | [_], [_], _, _ => rfl
  obtain ⟨⟨oc, od, dV, kV, doc, pm, an, cdv, ct, osl, rfl, lk, hcd, _⟩, _⟩ := FD
  refine ⟨_, fn_of lk hcd sc_Contradiction___init__ (fun vs H Q E h => ?_) (fun A outer s H vs Q E hr h => ?_), hb, hk⟩
  · obtain ⟨a, x, rfl, _⟩ := h
    rfl
  · obtain ⟨a, x, rfl, ea, q⟩ := h
    refine ⟨_, PSs.nox (pss_cons (ps_expr (pe_ginit (x := "ValueError") ebVal (by rfl) (T.z "ValueError" (by decide +kernel)) btVal stVal (T.vV bVal (by simp [bases])) hdVal (pa_cons (pv 0) (pa_cons (pv 1) pa_nil)))) (pss_one (ps_gost ebVal (pv 0) (pv 1)))), ?_⟩
    exact ⟨_, rfl, _, rfl, a, He.ga K "Contradiction", [x], rfl, by show 1 ≤ 1000; decide, EC.ox, ea, _, rfl, _, rfl, a, He.ga K "Contradiction", rfl, EC.ox, EC.nf _ (List.mem_cons_self ..), ea, q⟩
theorem ok_OutOfRange (T : Tx K mg) : Ok1 P w K mg base "OutOfRange" "value" := by
  have EC := T.e1 (bLook, "OutOfRange", "value") (by simp [cls1])
  obtain ⟨fd, FD⟩ := T.d.def_ 15 (d := d_OutOfRange___init__) rfl
  have hb : Binds K fd ["self", "value"] [] := FD.bindsN fun _ _ _ _ _ _ us hl => match us, hl with | [_, _], _ => rfl
  have hk : KBn K fd ["self", "value"] 1 ["value"] (fun us ws => us ++ ws) (fun vs zs => vs ++ zs) := FD.kbindsX 1 ["value"] (fun us ws => us ++ ws) (fun r1 r2 => r1.append r2) fun _ _ _ _ _ _ us ws hl hw => match us, ws, hl, hw with | [_], [_], _, _ => rfl
  obtain ⟨⟨oc, od, dV, kV, doc, pm, an, cdv, ct, osl, rfl, lk, hcd, _⟩, _⟩ := FD
  refine ⟨_, fn_of lk hcd sc_OutOfRange___init__ (fun vs H Q E h => ?_) (fun A outer s H vs Q E hr h => ?_), hb, hk⟩
  · obtain ⟨a, x, rfl, _⟩ := h
    rfl
  · obtain ⟨a, x, rfl, ea, q⟩ := h
    refine ⟨_, PSs.nox (pss_cons (ps_expr (pe_ginit (x := "LookupError") ebLook (by rfl) (T.z "LookupError" (by decide +kernel)) btLook stLook (T.vV bLook (by simp [bases])) hdLook (pa_cons (pv 0) (pa_cons (pv 1) pa_nil)))) (pss_one (ps_gost ebLook (pv 0) (pv 1)))), ?_⟩
    exact ⟨_, rfl, _, rfl, a, He.ga K "OutOfRange", [x], rfl, by show 1 ≤ 1000; decide, EC.ox, ea, _, rfl, _, rfl, a, He.ga K "OutOfRange", rfl, EC.ox, EC.nf _ (List.mem_cons_self ..), ea, q⟩
theorem ok_NotKnown (T : Tx K mg) : Ok1 P w K mg base "NotKnown" "value" := by
  have EC := T.e1 (bLook, "NotKnown", "value") (by simp [cls1])
  obtain ⟨fd, FD⟩ := T.d.def_ 16 (d := d_NotKnown___init__) rfl
  have hb : Binds K fd ["self", "value"] [] := FD.bindsN fun _ _ _ _ _ _ us hl => match us, hl with | [_, _], _ => rfl
  have hk : KBn K fd ["self", "value"] 1 ["value"] (fun us ws => us ++ ws) (fun vs zs => vs ++ zs) := FD.kbindsX 1 ["value"] (fun us ws => us ++ ws) (fun r1 r2 => r1.append r2) fun _ _ _ _ _ _ us ws hl hw => match us, ws, hl, hw with | [_], [_], _, _ => rfl
  obtain ⟨⟨oc, od, dV, kV, doc, pm, an, cdv, ct, osl, rfl, lk, hcd, _⟩, _⟩ := FD
  refine ⟨_, fn_of lk hcd sc_NotKnown___init__ (fun vs H Q E h => ?_) (fun A outer s H vs Q E hr h => ?_), hb, hk⟩
  · obtain ⟨a, x, rfl, _⟩ := h
    rfl
  · obtain ⟨a, x, rfl, ea, q⟩ := h
    refine ⟨_, PSs.nox (pss_cons (ps_expr (pe_ginit (x := "LookupError") ebLook (by rfl) (T.z "LookupError" (by decide +kernel)) btLook stLook (T.vV bLook (by simp [bases])) hdLook (pa_cons (pv 0) (pa_cons (pv 1) pa_nil)))) (pss_one (ps_gost ebLook (pv 0) (pv 1)))), ?_⟩
    exact ⟨_, rfl, _, rfl, a, He.ga K "NotKnown", [x], rfl, by show 1 ≤ 1000; decide, EC.ox, ea, _, rfl, _, rfl, a, He.ga K "NotKnown", rfl, EC.ox, EC.nf _ (List.mem_cons_self ..), ea, q⟩
theorem ok_NotNow (T : Tx K mg) : Ok1 P w K mg base "NotNow" "word" := by
  have EC := T.e1 (bLook, "NotNow", "word") (by simp [cls1])
  obtain ⟨fd, FD⟩ := T.d.def_ 17 (d := d_NotNow___init__) rfl
  have hb : Binds K fd ["self", "word"] [] := FD.bindsN fun _ _ _ _ _ _ us hl => match us, hl with | [_, _], _ => rfl
  have hk : KBn K fd ["self", "word"] 1 ["word"] (fun us ws => us ++ ws) (fun vs zs => vs ++ zs) := FD.kbindsX 1 ["word"] (fun us ws => us ++ ws) (fun r1 r2 => r1.append r2) fun _ _ _ _ _ _ us ws hl hw => match us, ws, hl, hw with | [_], [_], _, _ => rfl
  obtain ⟨⟨oc, od, dV, kV, doc, pm, an, cdv, ct, osl, rfl, lk, hcd, _⟩, _⟩ := FD
  refine ⟨_, fn_of lk hcd sc_NotNow___init__ (fun vs H Q E h => ?_) (fun A outer s H vs Q E hr h => ?_), hb, hk⟩
  · obtain ⟨a, x, rfl, _⟩ := h
    rfl
  · obtain ⟨a, x, rfl, ea, q⟩ := h
    refine ⟨_, PSs.nox (pss_cons (ps_expr (pe_ginit (x := "LookupError") ebLook (by rfl) (T.z "LookupError" (by decide +kernel)) btLook stLook (T.vV bLook (by simp [bases])) hdLook (pa_cons (pv 0) (pa_cons (pv 1) pa_nil)))) (pss_one (ps_gost ebLook (pv 0) (pv 1)))), ?_⟩
    exact ⟨_, rfl, _, rfl, a, He.ga K "NotNow", [x], rfl, by show 1 ≤ 1000; decide, EC.ox, ea, _, rfl, _, rfl, a, He.ga K "NotNow", rfl, EC.ox, EC.nf _ (List.mem_cons_self ..), ea, q⟩
theorem ok_TooMany (T : Tx K mg) : Ok1 P w K mg base "TooMany" "limit" := by
  have EC := T.e1 (bOver, "TooMany", "limit") (by simp [cls1])
  obtain ⟨fd, FD⟩ := T.d.def_ 22 (d := d_TooMany___init__) rfl
  have hb : Binds K fd ["self", "limit"] [] := FD.bindsN fun _ _ _ _ _ _ us hl => match us, hl with | [_, _], _ => rfl
  have hk : KBn K fd ["self", "limit"] 1 ["limit"] (fun us ws => us ++ ws) (fun vs zs => vs ++ zs) := FD.kbindsX 1 ["limit"] (fun us ws => us ++ ws) (fun r1 r2 => r1.append r2) fun _ _ _ _ _ _ us ws hl hw => match us, ws, hl, hw with | [_], [_], _, _ => rfl
  obtain ⟨⟨oc, od, dV, kV, doc, pm, an, cdv, ct, osl, rfl, lk, hcd, _⟩, _⟩ := FD
  refine ⟨_, fn_of lk hcd sc_TooMany___init__ (fun vs H Q E h => ?_) (fun A outer s H vs Q E hr h => ?_), hb, hk⟩
  · obtain ⟨a, x, rfl, _⟩ := h
    rfl
  · obtain ⟨a, x, rfl, ea, q⟩ := h
    refine ⟨_, PSs.nox (pss_cons (ps_expr (pe_ginit (x := "OverflowError") ebOver (by rfl) (T.z "OverflowError" (by decide +kernel)) btOver stOver (T.vV bOver (by simp [bases])) hdOver (pa_cons (pv 0) (pa_cons (pv 1) pa_nil)))) (pss_one (ps_gost ebOver (pv 0) (pv 1)))), ?_⟩
    exact ⟨_, rfl, _, rfl, a, He.ga K "TooMany", [x], rfl, by show 1 ≤ 1000; decide, EC.ox, ea, _, rfl, _, rfl, a, He.ga K "TooMany", rfl, EC.ox, EC.nf _ (List.mem_cons_self ..), ea, q⟩
theorem ok_LimitReached (T : Tx K mg) : Ok1 P w K mg base "LimitReached" "limit" := by
  have EC := T.e1 (bRun, "LimitReached", "limit") (by simp [cls1])
  obtain ⟨fd, FD⟩ := T.d.def_ 24 (d := d_LimitReached___init__) rfl
  have hb : Binds K fd ["self", "limit"] [] := FD.bindsN fun _ _ _ _ _ _ us hl => match us, hl with | [_, _], _ => rfl
  have hk : KBn K fd ["self", "limit"] 1 ["limit"] (fun us ws => us ++ ws) (fun vs zs => vs ++ zs) := FD.kbindsX 1 ["limit"] (fun us ws => us ++ ws) (fun r1 r2 => r1.append r2) fun _ _ _ _ _ _ us ws hl hw => match us, ws, hl, hw with | [_], [_], _, _ => rfl
  obtain ⟨⟨oc, od, dV, kV, doc, pm, an, cdv, ct, osl, rfl, lk, hcd, _⟩, _⟩ := FD
  refine ⟨_, fn_of lk hcd sc_LimitReached___init__ (fun vs H Q E h => ?_) (fun A outer s H vs Q E hr h => ?_), hb, hk⟩
  · obtain ⟨a, x, rfl, _⟩ := h
    rfl
  · obtain ⟨a, x, rfl, ea, q⟩ := h
    refine ⟨_, PSs.nox (pss_cons (ps_expr (pe_ginit (x := "RuntimeError") ebRun (by rfl) (T.z "RuntimeError" (by decide +kernel)) btRun stRun (T.vV bRun (by simp [bases])) hdRun (pa_cons (pv 0) (pa_cons (pv 1) pa_nil)))) (pss_one (ps_gost ebRun (pv 0) (pv 1)))), ?_⟩
    exact ⟨_, rfl, _, rfl, a, He.ga K "LimitReached", [x], rfl, by show 1 ≤ 1000; decide, EC.ox, ea, _, rfl, _, rfl, a, He.ga K "LimitReached", rfl, EC.ox, EC.nf _ (List.mem_cons_self ..), ea, q⟩
theorem ok_InvalidCoordinates (T : Tx K mg) : Ok0 P w K mg base "InvalidCoordinates" := by
  have EC := T.e0 (bVal, "InvalidCoordinates") (by simp [cls0])
  obtain ⟨fd, FD⟩ := T.d.def_ 8 (d := d_InvalidCoordinates___init__) rfl
  have hb : Binds K fd ["self"] [] := FD.bindsN fun _ _ _ _ _ _ us hl => match us, hl with | [_], _ => rfl
  obtain ⟨⟨oc, od, dV, kV, doc, pm, an, cdv, ct, osl, rfl, lk, hcd, _⟩, _⟩ := FD
  refine ⟨_, fn_of lk hcd sc_InvalidCoordinates___init__ (fun vs H Q E h => ?_) (fun A outer s H vs Q E hr h => ?_), hb⟩
  · obtain ⟨a, rfl, _⟩ := h
    rfl
  · obtain ⟨a, rfl, ea, q⟩ := h
    refine ⟨_, PSs.nox (pss_one (ps_expr (pe_ginit (x := "ValueError") ebVal (by rfl) (T.z "ValueError" (by decide +kernel)) btVal stVal (T.vV bVal (by simp [bases])) hdVal (pa_cons (pv 0) pa_nil)))), ?_⟩
    exact ⟨_, rfl, a, He.ga K "InvalidCoordinates", [], rfl, by show 0 ≤ 1000; decide, EC.ox, ea, q⟩
theorem ok_OtherField (T : Tx K mg) : Ok0 P w K mg base "OtherField" := by
  have EC := T.e0 (bVal, "OtherField") (by simp [cls0])
  obtain ⟨fd, FD⟩ := T.d.def_ 11 (d := d_OtherField___init__) rfl
  have hb : Binds K fd ["self"] [] := FD.bindsN fun _ _ _ _ _ _ us hl => match us, hl with | [_], _ => rfl
  obtain ⟨⟨oc, od, dV, kV, doc, pm, an, cdv, ct, osl, rfl, lk, hcd, _⟩, _⟩ := FD
  refine ⟨_, fn_of lk hcd sc_OtherField___init__ (fun vs H Q E h => ?_) (fun A outer s H vs Q E hr h => ?_), hb⟩
  · obtain ⟨a, rfl, _⟩ := h
    rfl
  · obtain ⟨a, rfl, ea, q⟩ := h
    refine ⟨_, PSs.nox (pss_one (ps_expr (pe_ginit (x := "ValueError") ebVal (by rfl) (T.z "ValueError" (by decide +kernel)) btVal stVal (T.vV bVal (by simp [bases])) hdVal (pa_cons (pv 0) pa_nil)))), ?_⟩
    exact ⟨_, rfl, a, He.ga K "OtherField", [], rfl, by show 0 ≤ 1000; decide, EC.ox, ea, q⟩
theorem ok_OtherLetters (T : Tx K mg) : Ok0 P w K mg base "OtherLetters" := by
  have EC := T.e0 (bVal, "OtherLetters") (by simp [cls0])
  obtain ⟨fd, FD⟩ := T.d.def_ 12 (d := d_OtherLetters___init__) rfl
  have hb : Binds K fd ["self"] [] := FD.bindsN fun _ _ _ _ _ _ us hl => match us, hl with | [_], _ => rfl
  obtain ⟨⟨oc, od, dV, kV, doc, pm, an, cdv, ct, osl, rfl, lk, hcd, _⟩, _⟩ := FD
  refine ⟨_, fn_of lk hcd sc_OtherLetters___init__ (fun vs H Q E h => ?_) (fun A outer s H vs Q E hr h => ?_), hb⟩
  · obtain ⟨a, rfl, _⟩ := h
    rfl
  · obtain ⟨a, rfl, ea, q⟩ := h
    refine ⟨_, PSs.nox (pss_one (ps_expr (pe_ginit (x := "ValueError") ebVal (by rfl) (T.z "ValueError" (by decide +kernel)) btVal stVal (T.vV bVal (by simp [bases])) hdVal (pa_cons (pv 0) pa_nil)))), ?_⟩
    exact ⟨_, rfl, a, He.ga K "OtherLetters", [], rfl, by show 0 ≤ 1000; decide, EC.ox, ea, q⟩
theorem ok_Nothing (T : Tx K mg) : Ok0 P w K mg base "Nothing" := by
  have EC := T.e0 (bLook, "Nothing") (by simp [cls0])
  obtain ⟨fd, FD⟩ := T.d.def_ 18 (d := d_Nothing___init__) rfl
  have hb : Binds K fd ["self"] [] := FD.bindsN fun _ _ _ _ _ _ us hl => match us, hl with | [_], _ => rfl
  obtain ⟨⟨oc, od, dV, kV, doc, pm, an, cdv, ct, osl, rfl, lk, hcd, _⟩, _⟩ := FD
  refine ⟨_, fn_of lk hcd sc_Nothing___init__ (fun vs H Q E h => ?_) (fun A outer s H vs Q E hr h => ?_), hb⟩
  · obtain ⟨a, rfl, _⟩ := h
    rfl
  · obtain ⟨a, rfl, ea, q⟩ := h
    refine ⟨_, PSs.nox (pss_one (ps_expr (pe_ginit (x := "LookupError") ebLook (by rfl) (T.z "LookupError" (by decide +kernel)) btLook stLook (T.vV bLook (by simp [bases])) hdLook (pa_cons (pv 0) pa_nil)))), ?_⟩
    exact ⟨_, rfl, a, He.ga K "Nothing", [], rfl, by show 0 ≤ 1000; decide, EC.ox, ea, q⟩
theorem ok_Done (T : Tx K mg) : Ok0 P w K mg base "Done" := by
  have EC := T.e0 (bLook, "Done") (by simp [cls0])
  obtain ⟨fd, FD⟩ := T.d.def_ 19 (d := d_Done___init__) rfl
  have hb : Binds K fd ["self"] [] := FD.bindsN fun _ _ _ _ _ _ us hl => match us, hl with | [_], _ => rfl
  obtain ⟨⟨oc, od, dV, kV, doc, pm, an, cdv, ct, osl, rfl, lk, hcd, _⟩, _⟩ := FD
  refine ⟨_, fn_of lk hcd sc_Done___init__ (fun vs H Q E h => ?_) (fun A outer s H vs Q E hr h => ?_), hb⟩
  · obtain ⟨a, rfl, _⟩ := h
    rfl
  · obtain ⟨a, rfl, ea, q⟩ := h
    refine ⟨_, PSs.nox (pss_one (ps_expr (pe_ginit (x := "LookupError") ebLook (by rfl) (T.z "LookupError" (by decide +kernel)) btLook stLook (T.vV bLook (by simp [bases])) hdLook (pa_cons (pv 0) pa_nil)))), ?_⟩
    exact ⟨_, rfl, a, He.ga K "Done", [], rfl, by show 0 ≤ 1000; decide, EC.ox, ea, q⟩
theorem ok_NoQuotient (T : Tx K mg) : Ok0 P w K mg base "NoQuotient" := by
  have EC := T.e0 (bAri, "NoQuotient") (by simp [cls0])
  obtain ⟨fd, FD⟩ := T.d.def_ 20 (d := d_NoQuotient___init__) rfl
  have hb : Binds K fd ["self"] [] := FD.bindsN fun _ _ _ _ _ _ us hl => match us, hl with | [_], _ => rfl
  obtain ⟨⟨oc, od, dV, kV, doc, pm, an, cdv, ct, osl, rfl, lk, hcd, _⟩, _⟩ := FD
  refine ⟨_, fn_of lk hcd sc_NoQuotient___init__ (fun vs H Q E h => ?_) (fun A outer s H vs Q E hr h => ?_), hb⟩
  · obtain ⟨a, rfl, _⟩ := h
    rfl
  · obtain ⟨a, rfl, ea, q⟩ := h
    refine ⟨_, PSs.nox (pss_one (ps_expr (pe_ginit (x := "ArithmeticError") ebAri (by rfl) (T.z "ArithmeticError" (by decide +kernel)) btAri stAri (T.vV bAri (by simp [bases])) hdAri (pa_cons (pv 0) pa_nil)))), ?_⟩
    exact ⟨_, rfl, a, He.ga K "NoQuotient", [], rfl, by show 0 ≤ 1000; decide, EC.ox, ea, q⟩
theorem ok_NotFinite (T : Tx K mg) : Ok0 P w K mg base "NotFinite" := by
  have EC := T.e0 (bAri, "NotFinite") (by simp [cls0])
  obtain ⟨fd, FD⟩ := T.d.def_ 21 (d := d_NotFinite___init__) rfl
  have hb : Binds K fd ["self"] [] := FD.bindsN fun _ _ _ _ _ _ us hl => match us, hl with | [_], _ => rfl
  obtain ⟨⟨oc, od, dV, kV, doc, pm, an, cdv, ct, osl, rfl, lk, hcd, _⟩, _⟩ := FD
  refine ⟨_, fn_of lk hcd sc_NotFinite___init__ (fun vs H Q E h => ?_) (fun A outer s H vs Q E hr h => ?_), hb⟩
  · obtain ⟨a, rfl, _⟩ := h
    rfl
  · obtain ⟨a, rfl, ea, q⟩ := h
    refine ⟨_, PSs.nox (pss_one (ps_expr (pe_ginit (x := "ArithmeticError") ebAri (by rfl) (T.z "ArithmeticError" (by decide +kernel)) btAri stAri (T.vV bAri (by simp [bases])) hdAri (pa_cons (pv 0) pa_nil)))), ?_⟩
    exact ⟨_, rfl, a, He.ga K "NotFinite", [], rfl, by show 0 ≤ 1000; decide, EC.ox, ea, q⟩
theorem ok_TooLong (T : Tx K mg) : Ok0 P w K mg base "TooLong" := by
  have EC := T.e0 (bOver, "TooLong") (by simp [cls0])
  obtain ⟨fd, FD⟩ := T.d.def_ 23 (d := d_TooLong___init__) rfl
  have hb : Binds K fd ["self"] [] := FD.bindsN fun _ _ _ _ _ _ us hl => match us, hl with | [_], _ => rfl
  obtain ⟨⟨oc, od, dV, kV, doc, pm, an, cdv, ct, osl, rfl, lk, hcd, _⟩, _⟩ := FD
  refine ⟨_, fn_of lk hcd sc_TooLong___init__ (fun vs H Q E h => ?_) (fun A outer s H vs Q E hr h => ?_), hb⟩
  · obtain ⟨a, rfl, _⟩ := h
    rfl
  · obtain ⟨a, rfl, ea, q⟩ := h
    refine ⟨_, PSs.nox (pss_one (ps_expr (pe_ginit (x := "OverflowError") ebOver (by rfl) (T.z "OverflowError" (by decide +kernel)) btOver stOver (T.vV bOver (by simp [bases])) hdOver (pa_cons (pv 0) pa_nil)))), ?_⟩
    exact ⟨_, rfl, a, He.ga K "TooLong", [], rfl, by show 0 ≤ 1000; decide, EC.ox, ea, q⟩
end
end K00

namespace K00
open PySem PySem.Spec PyProof.Rows L2 Ver Num PySem.HandSPX
/-- an error object stands at a -/
def EV (H : Hp) (a C : Addr) (d : Option Addr) : Prop := H a = some (exo a C d) ∧ ∀ dd, d = some dd → ∃ fs, H dd = some (exd dd fs)
theorem EV.same {H H' : Hp} {a C : Addr} {d : Option Addr} (e : EV H a C d) (s : Same H H') : EV H' a C d := ⟨s _ _ e.1, fun dd h => by
  obtain ⟨fs, q⟩ := e.2 dd h
  exact ⟨fs, s _ _ q⟩⟩
/-- a list of ours that grows -/
structure Gr (H H' : Hp) (l : Addr) (xs : List V) : Prop where
  s : Same H H'
  n : H l = none
  l : H' l = some (.lst xs)
theorem Gr.mk0 {H : Hp} {l : Addr} {xs : List V} (n : H l = none) : Gr H (upd H l (.lst xs)) l xs := ⟨same_up n, n, upd_same⟩
theorem Gr.put {H H' : Hp} {l : Addr} {xs ys : List V} (g : Gr H H' l xs) : Gr H (upd H' l (.lst ys)) l ys := ⟨fun b o e => by
  rw [upd_ne (ne_of_none e g.n)]
  exact g.s b o e, g.n, upd_same⟩
theorem Gr.up {H H' : Hp} {l p : Addr} {xs : List V} {o : HO} (g : Gr H H' l xs) (n : H' p = none) : Gr H (upd H' p o) l xs := ⟨fun b u e => by
  rw [upd_ne (ne_of_none (g.s b u e) n)]
  exact g.s b u e, g.n, by rw [upd_ne (ne_of_none g.l n)]; exact g.l⟩
theorem sp1 {H H' : Hp} {c : Addr} {o : HO} (s : Same H H') (n : H' c = none) : Same H (upd H' c o) := fun b u e => by
  rw [upd_ne (ne_of_none (s b u e) n)]
  exact s b u e
theorem np1 {H H' : Hp} {c : Addr} (s : Same H H') (n : H' c = none) : H c = none := by
  cases z : H c with
  | none => rfl
  | some o =>
    have y := s c o z
    rw [n] at y
    cases y
def kf (ns : List Str) (fl : List Bool) : List Str := ((ns.zip fl).filter (·.2)).map (·.1)
theorem kf_step {ns : List Str} {fl : List Bool} {i : Nat} {n : Str} {b : Bool} (h1 : ns[i]? = some n) (h2 : fl[i]? = some b) : kf (ns.take (i + 1)) (fl.take (i + 1)) = kf (ns.take i) (fl.take i) ++ (if b = true then [n] else []) := by
  have l1 := (List.getElem?_eq_some_iff.mp h1).1
  have l2 := (List.getElem?_eq_some_iff.mp h2).1
  unfold kf
  rw [List.take_succ, List.take_succ, h1, h2, List.zip_append (by rw [List.length_take, List.length_take]; omega), List.filter_append, List.map_append]
  cases b <;> rfl
def kinds : List Str := ["value", "lookup", "arithmetic", "overflow", "runtime", "place", "zero"]
def flags (b : EB) : List Bool := [tyB b "ValueError", tyB b "LookupError", tyB b "ArithmeticError" && !tyB b "OverflowError", tyB b "OverflowError", tyB b "RuntimeError", tyB b "KeyError" || tyB b "IndexError", tyB b "ZeroDivisionError"]
def ownL (x : Str) : List Bool := cNames.map fun y => decide (y = x)
section
variable {P : Program} {w : World} {K : PySem.W.Frag} {mg : Str → Option Value} {base : Heap}
def spKinds (K : PySem.W.Frag) : Sp := fun vs H Q _ => ∃ (a : Addr) (d : Option Addr) (b : EB) (x : Str) (fs : List Str), vs = [.ref a] ∧ EV H a (He.ga K x) d ∧ EC K b x fs ∧ b ∈ bases ∧ ∀ (p : Addr) (H' : Hp), Same H H' → H p = none → H' p = some (.lst ((kf kinds (flags b)).map V.str)) → Q (.ref p) H'
def spClasses (K : PySem.W.Frag) : Sp := fun vs H Q _ => ∃ (a : Addr) (d : Option Addr) (b : EB) (x : Str) (fs : List Str), vs = [.ref a] ∧ EV H a (He.ga K x) d ∧ EC K b x fs ∧ ∀ (p : Addr) (H' : Hp), Same H H' → H p = none → H' p = some (.lst ((ownL x).map V.bl)) → Q (.ref p) H'

theorem ok_classes (T : Tx K mg) : FnG P w K mg base CX0 1 (He.ga K "_law_classes") (spClasses K) := by
  refine mk__law_classes T.d (fun vs H Q E h => ?_) (fun cdv A outer s H vs Q E hg hr h => ?_)
  · obtain ⟨a, d, b, x, fs, rfl, _⟩ := h
    rfl
  · obtain ⟨a, d, b, x, fs, rfl, e0, EC, q⟩ := h
    have nd := sc__law_classes.nd
    have zi := T.z "isinstance" (by decide +kernel)
    refine ⟨_, (pss_cons (ps_set (i := 1) nd rfl (Or.inl rfl) (pe_lst (pa_cons (pe_callB call_isG (by rfl) zi (by decide +kernel) (pa_cons (pv 0) (pa_cons (pe_glob (v := .ref (He.ga K "InvalidPrime")) (by rfl) (T.g "InvalidPrime" (by decide +kernel)) rfl) pa_nil))) (pa_cons (pe_callB call_isG (by rfl) zi (by decide +kernel) (pa_cons (pv 0) (pa_cons (pe_glob (v := .ref (He.ga K "InvalidNumber")) (by rfl) (T.g "InvalidNumber" (by decide +kernel)) rfl) pa_nil))) (pa_cons (pe_callB call_isG (by rfl) zi (by decide +kernel) (pa_cons (pv 0) (pa_cons (pe_glob (v := .ref (He.ga K "InvalidLetters")) (by rfl) (T.g "InvalidLetters" (by decide +kernel)) rfl) pa_nil))) pa_nil)))))
      (pss_cons (ps_expr (pe_bm PySem.F.plainAttrs_list PySem.F.slot_list_extend PySem.F.type_list_extend mt_extend (pv 1) (pa_cons (pe_lst (pa_cons (pe_callB call_isG (by rfl) zi (by decide +kernel) (pa_cons (pv 0) (pa_cons (pe_glob (v := .ref (He.ga K "InvalidCost")) (by rfl) (T.g "InvalidCost" (by decide +kernel)) rfl) pa_nil))) (pa_cons (pe_callB call_isG (by rfl) zi (by decide +kernel) (pa_cons (pv 0) (pa_cons (pe_glob (v := .ref (He.ga K "InvalidWord")) (by rfl) (T.g "InvalidWord" (by decide +kernel)) rfl) pa_nil))) (pa_cons (pe_callB call_isG (by rfl) zi (by decide +kernel) (pa_cons (pv 0) (pa_cons (pe_glob (v := .ref (He.ga K "InvalidCount")) (by rfl) (T.g "InvalidCount" (by decide +kernel)) rfl) pa_nil))) pa_nil)))) pa_nil)))
      (pss_cons (ps_expr (pe_bm PySem.F.plainAttrs_list PySem.F.slot_list_extend PySem.F.type_list_extend mt_extend (pv 1) (pa_cons (pe_lst (pa_cons (pe_callB call_isG (by rfl) zi (by decide +kernel) (pa_cons (pv 0) (pa_cons (pe_glob (v := .ref (He.ga K "InvalidMachine")) (by rfl) (T.g "InvalidMachine" (by decide +kernel)) rfl) pa_nil))) (pa_cons (pe_callB call_isG (by rfl) zi (by decide +kernel) (pa_cons (pv 0) (pa_cons (pe_glob (v := .ref (He.ga K "InvalidAnswer")) (by rfl) (T.g "InvalidAnswer" (by decide +kernel)) rfl) pa_nil))) (pa_cons (pe_callB call_isG (by rfl) zi (by decide +kernel) (pa_cons (pv 0) (pa_cons (pe_glob (v := .ref (He.ga K "InvalidRow")) (by rfl) (T.g "InvalidRow" (by decide +kernel)) rfl) pa_nil))) pa_nil)))) pa_nil)))
      (pss_cons (ps_expr (pe_bm PySem.F.plainAttrs_list PySem.F.slot_list_extend PySem.F.type_list_extend mt_extend (pv 1) (pa_cons (pe_lst (pa_cons (pe_callB call_isG (by rfl) zi (by decide +kernel) (pa_cons (pv 0) (pa_cons (pe_glob (v := .ref (He.ga K "InvalidCoordinates")) (by rfl) (T.g "InvalidCoordinates" (by decide +kernel)) rfl) pa_nil))) (pa_cons (pe_callB call_isG (by rfl) zi (by decide +kernel) (pa_cons (pv 0) (pa_cons (pe_glob (v := .ref (He.ga K "InvalidText")) (by rfl) (T.g "InvalidText" (by decide +kernel)) rfl) pa_nil))) (pa_cons (pe_callB call_isG (by rfl) zi (by decide +kernel) (pa_cons (pv 0) (pa_cons (pe_glob (v := .ref (He.ga K "OtherField")) (by rfl) (T.g "OtherField" (by decide +kernel)) rfl) pa_nil))) pa_nil)))) pa_nil)))
      (pss_cons (ps_expr (pe_bm PySem.F.plainAttrs_list PySem.F.slot_list_extend PySem.F.type_list_extend mt_extend (pv 1) (pa_cons (pe_lst (pa_cons (pe_callB call_isG (by rfl) zi (by decide +kernel) (pa_cons (pv 0) (pa_cons (pe_glob (v := .ref (He.ga K "OtherLetters")) (by rfl) (T.g "OtherLetters" (by decide +kernel)) rfl) pa_nil))) (pa_cons (pe_callB call_isG (by rfl) zi (by decide +kernel) (pa_cons (pv 0) (pa_cons (pe_glob (v := .ref (He.ga K "TooSmall")) (by rfl) (T.g "TooSmall" (by decide +kernel)) rfl) pa_nil))) (pa_cons (pe_callB call_isG (by rfl) zi (by decide +kernel) (pa_cons (pv 0) (pa_cons (pe_glob (v := .ref (He.ga K "Contradiction")) (by rfl) (T.g "Contradiction" (by decide +kernel)) rfl) pa_nil))) pa_nil)))) pa_nil)))
      (pss_cons (ps_expr (pe_bm PySem.F.plainAttrs_list PySem.F.slot_list_extend PySem.F.type_list_extend mt_extend (pv 1) (pa_cons (pe_lst (pa_cons (pe_callB call_isG (by rfl) zi (by decide +kernel) (pa_cons (pv 0) (pa_cons (pe_glob (v := .ref (He.ga K "OutOfRange")) (by rfl) (T.g "OutOfRange" (by decide +kernel)) rfl) pa_nil))) (pa_cons (pe_callB call_isG (by rfl) zi (by decide +kernel) (pa_cons (pv 0) (pa_cons (pe_glob (v := .ref (He.ga K "NotKnown")) (by rfl) (T.g "NotKnown" (by decide +kernel)) rfl) pa_nil))) (pa_cons (pe_callB call_isG (by rfl) zi (by decide +kernel) (pa_cons (pv 0) (pa_cons (pe_glob (v := .ref (He.ga K "NotNow")) (by rfl) (T.g "NotNow" (by decide +kernel)) rfl) pa_nil))) pa_nil)))) pa_nil)))
      (pss_cons (ps_expr (pe_bm PySem.F.plainAttrs_list PySem.F.slot_list_extend PySem.F.type_list_extend mt_extend (pv 1) (pa_cons (pe_lst (pa_cons (pe_callB call_isG (by rfl) zi (by decide +kernel) (pa_cons (pv 0) (pa_cons (pe_glob (v := .ref (He.ga K "Nothing")) (by rfl) (T.g "Nothing" (by decide +kernel)) rfl) pa_nil))) (pa_cons (pe_callB call_isG (by rfl) zi (by decide +kernel) (pa_cons (pv 0) (pa_cons (pe_glob (v := .ref (He.ga K "Done")) (by rfl) (T.g "Done" (by decide +kernel)) rfl) pa_nil))) (pa_cons (pe_callB call_isG (by rfl) zi (by decide +kernel) (pa_cons (pv 0) (pa_cons (pe_glob (v := .ref (He.ga K "NoQuotient")) (by rfl) (T.g "NoQuotient" (by decide +kernel)) rfl) pa_nil))) pa_nil)))) pa_nil)))
      (pss_cons (ps_expr (pe_bm PySem.F.plainAttrs_list PySem.F.slot_list_extend PySem.F.type_list_extend mt_extend (pv 1) (pa_cons (pe_lst (pa_cons (pe_callB call_isG (by rfl) zi (by decide +kernel) (pa_cons (pv 0) (pa_cons (pe_glob (v := .ref (He.ga K "NotFinite")) (by rfl) (T.g "NotFinite" (by decide +kernel)) rfl) pa_nil))) (pa_cons (pe_callB call_isG (by rfl) zi (by decide +kernel) (pa_cons (pv 0) (pa_cons (pe_glob (v := .ref (He.ga K "TooMany")) (by rfl) (T.g "TooMany" (by decide +kernel)) rfl) pa_nil))) (pa_cons (pe_callB call_isG (by rfl) zi (by decide +kernel) (pa_cons (pv 0) (pa_cons (pe_glob (v := .ref (He.ga K "TooLong")) (by rfl) (T.g "TooLong" (by decide +kernel)) rfl) pa_nil))) pa_nil)))) pa_nil)))
      (pss_one (ps_ret (pe_op op_cat (pv 1) (pe_lst (pa_cons (pe_callB call_isG (by rfl) zi (by decide +kernel) (pa_cons (pv 0) (pa_cons (pe_glob (v := .ref (He.ga K "LimitReached")) (by rfl) (T.g "LimitReached" (by decide +kernel)) rfl) pa_nil))) pa_nil))))))))))))), ?_⟩
    refine ⟨_, rfl, a, He.ga K x, d, _, _, _, rfl, .own _, EC.ec, e0.1, e0.2, EC.own "InvalidPrime" (by decide +kernel), _, rfl, a, He.ga K x, d, _, _, _, rfl, .own _, EC.ec, e0.1, e0.2, EC.own "InvalidNumber" (by decide +kernel), _, rfl, a, He.ga K x, d, _, _, _, rfl, .own _, EC.ec, e0.1, e0.2, EC.own "InvalidLetters" (by decide +kernel), by show 3 ≤ sizeLine; decide, fun l n0 => ?_⟩
    have g0 : Gr H _ l [.bl (decide (("InvalidPrime" : Str) = x)), .bl (decide (("InvalidNumber" : Str) = x)), .bl (decide (("InvalidLetters" : Str) = x))] := Gr.mk0 n0
    have e1 := e0.same g0.s
    refine ⟨_, rfl, .inl ⟨rfl, _, SqL.of g0.l⟩, _, rfl, a, He.ga K x, d, _, _, _, rfl, .own _, EC.ec, e1.1, e1.2, EC.own "InvalidCost" (by decide +kernel), _, rfl, a, He.ga K x, d, _, _, _, rfl, .own _, EC.ec, e1.1, e1.2, EC.own "InvalidWord" (by decide +kernel), _, rfl, a, He.ga K x, d, _, _, _, rfl, .own _, EC.ec, e1.1, e1.2, EC.own "InvalidCount" (by decide +kernel), by show 3 ≤ sizeLine; decide, fun p1 n1 => ⟨l, p1, _, _, rfl, rfl, (g0.up n1).l, upd_same, by show 3 + 3 ≤ sizeLine; decide, ?_⟩⟩
    have g1 : Gr H _ l [.bl (decide (("InvalidPrime" : Str) = x)), .bl (decide (("InvalidNumber" : Str) = x)), .bl (decide (("InvalidLetters" : Str) = x)), .bl (decide (("InvalidCost" : Str) = x)), .bl (decide (("InvalidWord" : Str) = x)), .bl (decide (("InvalidCount" : Str) = x))] := ((g0.up (o := .lst [.bl (decide (("InvalidCost" : Str) = x)), .bl (decide (("InvalidWord" : Str) = x)), .bl (decide (("InvalidCount" : Str) = x))]) n1).put)
    have e2 := e0.same g1.s
    refine ⟨_, rfl, .inl ⟨rfl, _, SqL.of g1.l⟩, _, rfl, a, He.ga K x, d, _, _, _, rfl, .own _, EC.ec, e2.1, e2.2, EC.own "InvalidMachine" (by decide +kernel), _, rfl, a, He.ga K x, d, _, _, _, rfl, .own _, EC.ec, e2.1, e2.2, EC.own "InvalidAnswer" (by decide +kernel), _, rfl, a, He.ga K x, d, _, _, _, rfl, .own _, EC.ec, e2.1, e2.2, EC.own "InvalidRow" (by decide +kernel), by show 3 ≤ sizeLine; decide, fun p2 n2 => ⟨l, p2, _, _, rfl, rfl, (g1.up n2).l, upd_same, by show 6 + 3 ≤ sizeLine; decide, ?_⟩⟩
    have g2 : Gr H _ l [.bl (decide (("InvalidPrime" : Str) = x)), .bl (decide (("InvalidNumber" : Str) = x)), .bl (decide (("InvalidLetters" : Str) = x)), .bl (decide (("InvalidCost" : Str) = x)), .bl (decide (("InvalidWord" : Str) = x)), .bl (decide (("InvalidCount" : Str) = x)), .bl (decide (("InvalidMachine" : Str) = x)), .bl (decide (("InvalidAnswer" : Str) = x)), .bl (decide (("InvalidRow" : Str) = x))] := ((g1.up (o := .lst [.bl (decide (("InvalidMachine" : Str) = x)), .bl (decide (("InvalidAnswer" : Str) = x)), .bl (decide (("InvalidRow" : Str) = x))]) n2).put)
    have e3 := e0.same g2.s
    refine ⟨_, rfl, .inl ⟨rfl, _, SqL.of g2.l⟩, _, rfl, a, He.ga K x, d, _, _, _, rfl, .own _, EC.ec, e3.1, e3.2, EC.own "InvalidCoordinates" (by decide +kernel), _, rfl, a, He.ga K x, d, _, _, _, rfl, .own _, EC.ec, e3.1, e3.2, EC.own "InvalidText" (by decide +kernel), _, rfl, a, He.ga K x, d, _, _, _, rfl, .own _, EC.ec, e3.1, e3.2, EC.own "OtherField" (by decide +kernel), by show 3 ≤ sizeLine; decide, fun p3 n3 => ⟨l, p3, _, _, rfl, rfl, (g2.up n3).l, upd_same, by show 9 + 3 ≤ sizeLine; decide, ?_⟩⟩
    have g3 : Gr H _ l [.bl (decide (("InvalidPrime" : Str) = x)), .bl (decide (("InvalidNumber" : Str) = x)), .bl (decide (("InvalidLetters" : Str) = x)), .bl (decide (("InvalidCost" : Str) = x)), .bl (decide (("InvalidWord" : Str) = x)), .bl (decide (("InvalidCount" : Str) = x)), .bl (decide (("InvalidMachine" : Str) = x)), .bl (decide (("InvalidAnswer" : Str) = x)), .bl (decide (("InvalidRow" : Str) = x)), .bl (decide (("InvalidCoordinates" : Str) = x)), .bl (decide (("InvalidText" : Str) = x)), .bl (decide (("OtherField" : Str) = x))] := ((g2.up (o := .lst [.bl (decide (("InvalidCoordinates" : Str) = x)), .bl (decide (("InvalidText" : Str) = x)), .bl (decide (("OtherField" : Str) = x))]) n3).put)
    have e4 := e0.same g3.s
    refine ⟨_, rfl, .inl ⟨rfl, _, SqL.of g3.l⟩, _, rfl, a, He.ga K x, d, _, _, _, rfl, .own _, EC.ec, e4.1, e4.2, EC.own "OtherLetters" (by decide +kernel), _, rfl, a, He.ga K x, d, _, _, _, rfl, .own _, EC.ec, e4.1, e4.2, EC.own "TooSmall" (by decide +kernel), _, rfl, a, He.ga K x, d, _, _, _, rfl, .own _, EC.ec, e4.1, e4.2, EC.own "Contradiction" (by decide +kernel), by show 3 ≤ sizeLine; decide, fun p4 n4 => ⟨l, p4, _, _, rfl, rfl, (g3.up n4).l, upd_same, by show 12 + 3 ≤ sizeLine; decide, ?_⟩⟩
    have g4 : Gr H _ l [.bl (decide (("InvalidPrime" : Str) = x)), .bl (decide (("InvalidNumber" : Str) = x)), .bl (decide (("InvalidLetters" : Str) = x)), .bl (decide (("InvalidCost" : Str) = x)), .bl (decide (("InvalidWord" : Str) = x)), .bl (decide (("InvalidCount" : Str) = x)), .bl (decide (("InvalidMachine" : Str) = x)), .bl (decide (("InvalidAnswer" : Str) = x)), .bl (decide (("InvalidRow" : Str) = x)), .bl (decide (("InvalidCoordinates" : Str) = x)), .bl (decide (("InvalidText" : Str) = x)), .bl (decide (("OtherField" : Str) = x)), .bl (decide (("OtherLetters" : Str) = x)), .bl (decide (("TooSmall" : Str) = x)), .bl (decide (("Contradiction" : Str) = x))] := ((g3.up (o := .lst [.bl (decide (("OtherLetters" : Str) = x)), .bl (decide (("TooSmall" : Str) = x)), .bl (decide (("Contradiction" : Str) = x))]) n4).put)
    have e5 := e0.same g4.s
    refine ⟨_, rfl, .inl ⟨rfl, _, SqL.of g4.l⟩, _, rfl, a, He.ga K x, d, _, _, _, rfl, .own _, EC.ec, e5.1, e5.2, EC.own "OutOfRange" (by decide +kernel), _, rfl, a, He.ga K x, d, _, _, _, rfl, .own _, EC.ec, e5.1, e5.2, EC.own "NotKnown" (by decide +kernel), _, rfl, a, He.ga K x, d, _, _, _, rfl, .own _, EC.ec, e5.1, e5.2, EC.own "NotNow" (by decide +kernel), by show 3 ≤ sizeLine; decide, fun p5 n5 => ⟨l, p5, _, _, rfl, rfl, (g4.up n5).l, upd_same, by show 15 + 3 ≤ sizeLine; decide, ?_⟩⟩
    have g5 : Gr H _ l [.bl (decide (("InvalidPrime" : Str) = x)), .bl (decide (("InvalidNumber" : Str) = x)), .bl (decide (("InvalidLetters" : Str) = x)), .bl (decide (("InvalidCost" : Str) = x)), .bl (decide (("InvalidWord" : Str) = x)), .bl (decide (("InvalidCount" : Str) = x)), .bl (decide (("InvalidMachine" : Str) = x)), .bl (decide (("InvalidAnswer" : Str) = x)), .bl (decide (("InvalidRow" : Str) = x)), .bl (decide (("InvalidCoordinates" : Str) = x)), .bl (decide (("InvalidText" : Str) = x)), .bl (decide (("OtherField" : Str) = x)), .bl (decide (("OtherLetters" : Str) = x)), .bl (decide (("TooSmall" : Str) = x)), .bl (decide (("Contradiction" : Str) = x)), .bl (decide (("OutOfRange" : Str) = x)), .bl (decide (("NotKnown" : Str) = x)), .bl (decide (("NotNow" : Str) = x))] := ((g4.up (o := .lst [.bl (decide (("OutOfRange" : Str) = x)), .bl (decide (("NotKnown" : Str) = x)), .bl (decide (("NotNow" : Str) = x))]) n5).put)
    have e6 := e0.same g5.s
    refine ⟨_, rfl, .inl ⟨rfl, _, SqL.of g5.l⟩, _, rfl, a, He.ga K x, d, _, _, _, rfl, .own _, EC.ec, e6.1, e6.2, EC.own "Nothing" (by decide +kernel), _, rfl, a, He.ga K x, d, _, _, _, rfl, .own _, EC.ec, e6.1, e6.2, EC.own "Done" (by decide +kernel), _, rfl, a, He.ga K x, d, _, _, _, rfl, .own _, EC.ec, e6.1, e6.2, EC.own "NoQuotient" (by decide +kernel), by show 3 ≤ sizeLine; decide, fun p6 n6 => ⟨l, p6, _, _, rfl, rfl, (g5.up n6).l, upd_same, by show 18 + 3 ≤ sizeLine; decide, ?_⟩⟩
    have g6 : Gr H _ l [.bl (decide (("InvalidPrime" : Str) = x)), .bl (decide (("InvalidNumber" : Str) = x)), .bl (decide (("InvalidLetters" : Str) = x)), .bl (decide (("InvalidCost" : Str) = x)), .bl (decide (("InvalidWord" : Str) = x)), .bl (decide (("InvalidCount" : Str) = x)), .bl (decide (("InvalidMachine" : Str) = x)), .bl (decide (("InvalidAnswer" : Str) = x)), .bl (decide (("InvalidRow" : Str) = x)), .bl (decide (("InvalidCoordinates" : Str) = x)), .bl (decide (("InvalidText" : Str) = x)), .bl (decide (("OtherField" : Str) = x)), .bl (decide (("OtherLetters" : Str) = x)), .bl (decide (("TooSmall" : Str) = x)), .bl (decide (("Contradiction" : Str) = x)), .bl (decide (("OutOfRange" : Str) = x)), .bl (decide (("NotKnown" : Str) = x)), .bl (decide (("NotNow" : Str) = x)), .bl (decide (("Nothing" : Str) = x)), .bl (decide (("Done" : Str) = x)), .bl (decide (("NoQuotient" : Str) = x))] := ((g5.up (o := .lst [.bl (decide (("Nothing" : Str) = x)), .bl (decide (("Done" : Str) = x)), .bl (decide (("NoQuotient" : Str) = x))]) n6).put)
    have e7 := e0.same g6.s
    refine ⟨_, rfl, .inl ⟨rfl, _, SqL.of g6.l⟩, _, rfl, a, He.ga K x, d, _, _, _, rfl, .own _, EC.ec, e7.1, e7.2, EC.own "NotFinite" (by decide +kernel), _, rfl, a, He.ga K x, d, _, _, _, rfl, .own _, EC.ec, e7.1, e7.2, EC.own "TooMany" (by decide +kernel), _, rfl, a, He.ga K x, d, _, _, _, rfl, .own _, EC.ec, e7.1, e7.2, EC.own "TooLong" (by decide +kernel), by show 3 ≤ sizeLine; decide, fun p7 n7 => ⟨l, p7, _, _, rfl, rfl, (g6.up n7).l, upd_same, by show 21 + 3 ≤ sizeLine; decide, ?_⟩⟩
    have g7 : Gr H _ l [.bl (decide (("InvalidPrime" : Str) = x)), .bl (decide (("InvalidNumber" : Str) = x)), .bl (decide (("InvalidLetters" : Str) = x)), .bl (decide (("InvalidCost" : Str) = x)), .bl (decide (("InvalidWord" : Str) = x)), .bl (decide (("InvalidCount" : Str) = x)), .bl (decide (("InvalidMachine" : Str) = x)), .bl (decide (("InvalidAnswer" : Str) = x)), .bl (decide (("InvalidRow" : Str) = x)), .bl (decide (("InvalidCoordinates" : Str) = x)), .bl (decide (("InvalidText" : Str) = x)), .bl (decide (("OtherField" : Str) = x)), .bl (decide (("OtherLetters" : Str) = x)), .bl (decide (("TooSmall" : Str) = x)), .bl (decide (("Contradiction" : Str) = x)), .bl (decide (("OutOfRange" : Str) = x)), .bl (decide (("NotKnown" : Str) = x)), .bl (decide (("NotNow" : Str) = x)), .bl (decide (("Nothing" : Str) = x)), .bl (decide (("Done" : Str) = x)), .bl (decide (("NoQuotient" : Str) = x)), .bl (decide (("NotFinite" : Str) = x)), .bl (decide (("TooMany" : Str) = x)), .bl (decide (("TooLong" : Str) = x))] := ((g6.up (o := .lst [.bl (decide (("NotFinite" : Str) = x)), .bl (decide (("TooMany" : Str) = x)), .bl (decide (("TooLong" : Str) = x))]) n7).put)
    have e8 := e0.same g7.s
    refine ⟨_, rfl, _, rfl, a, He.ga K x, d, _, _, _, rfl, .own _, EC.ec, e8.1, e8.2, EC.own "LimitReached" (by decide +kernel), by show 1 ≤ sizeLine; decide, fun p n => ?_⟩
    have g8 := g7.up (o := .lst [.bl (decide (("LimitReached" : Str) = x))]) n
    refine ⟨l, p, _, _, rfl, rfl, g8.l, upd_same, by show 24 + 1 ≤ sizeLine; decide, fun c nc => ?_⟩
    exact q c _ (sp1 g8.s nc) (np1 g8.s nc) upd_same
theorem Gr.eq {H H' : Hp} {l : Addr} {xs ys : List V} (g : Gr H H' l xs) (e : ys = xs) : Gr H H' l ys := by
  rw [e]
  exact g
def CP (H4 : Hp) (D : Addr) (fl : List Bool) (i : Nat) (H3 : Hp) : Prop := Same H4 H3 ∧ H3 D = some (.lst ((kf (kinds.take i) (fl.take i)).map V.str))
theorem kf_len : ∀ (ns : List Str) (fl : List Bool), (kf ns fl).length ≤ ns.length := fun ns fl => by
  unfold kf
  rw [List.length_map]
  refine Nat.le_trans (List.length_filter_le _ _) ?_
  rw [List.length_zip]
  omega
theorem comp_step {s0 s1 s2 s3 s4 : Option V} {H4 H3 H' : Hp} {D : Addr} {fl : List Bool} {i : Nat} {x : V} (nD : H4 D = none) (p : CP H4 D fl i H3) (y : YPair (fun i => (kinds.map V.str)[i]?) (fun i => (fl.map V.bl)[i]?) i H3 x H') :
    gTup K 2 (gCons (gName 3) (gCons (gName 4) gNil)) x (wipe [s0, s1, s2, s3, s4] [3, 4]) H' fun σ2 H2 => wipe σ2 [3, 4] = wipe [s0, s1, s2, s3, s4] [3, 4] ∧ tB (tVar 4) σ2 H2 fun b H5 =>
      if b = true then tVar 3 σ2 H5 fun y H6 => ∃ acc, H6 D = some (.lst acc) ∧ acc.length < sizeLine ∧ CP H4 D fl (i + 1) (upd H6 D (.lst (acc ++ [y]))) else CP H4 D fl (i + 1) H5 := by
  obtain ⟨T, v, u, rfl, nT, rfl, hx, hy⟩ := y
  obtain ⟨s, e⟩ := p
  have hx : (kinds.map V.str)[i]? = some v := hx
  have hy : (fl.map V.bl)[i]? = some u := hy
  rw [List.getElem?_map] at hx hy
  cases e1 : kinds[i]? with
  | none => rw [e1] at hx; cases hx
  | some n =>
    cases e2 : fl[i]? with
    | none => rw [e2] at hy; cases hy
    | some b =>
      rw [e1] at hx
      rw [e2] at hy
      cases hx
      cases hy
      have st := kf_step e1 e2
      have up : Same H4 (upd H3 T (.tup [V.str n, V.bl b])) := sp1 s nT
      have eD : upd H3 T (.tup [V.str n, V.bl b]) D = some (.lst ((kf (kinds.take i) (fl.take i)).map V.str)) := by rw [upd_ne (ne_of_none e nT)]; exact e
      refine ⟨T, _, rfl, .inl (.inl upd_same), rfl, _, _, rfl, _, _, rfl, rfl, rfl, _, rfl, b, rfl, ?_⟩
      cases b with
      | true =>
        refine ⟨_, rfl, _, eD, ?_, fun b o z => ?_, ?_⟩
        · rw [List.length_map]
          refine Nat.lt_of_le_of_lt (kf_len _ _) ?_
          rw [List.length_take]
          have : kinds.length = 7 := rfl
          exact Nat.lt_of_le_of_lt (Nat.min_le_right _ _) (by decide)
        · rw [upd_ne (ne_of_none z nD)]
          exact up b o z
        · rw [upd_same, st, List.map_append]
          rfl
      | false =>
        refine ⟨up, ?_⟩
        rw [eD, st]
        simp
theorem ok_kinds (T : Tx K mg) : FnG P w K mg base CX0 1 (He.ga K "_law_kinds") (spKinds K) := by
  refine mk__law_kinds T.d (fun vs H Q E h => ?_) (fun cdv A outer s H vs Q E hg hr h => ?_)
  · obtain ⟨a, d, b, x, fs, rfl, _⟩ := h
    rfl
  · obtain ⟨a, d, b, x, fs, rfl, e0, EC, hb, q⟩ := h
    have nd := sc__law_kinds.nd
    have zi := T.z "isinstance" (by decide +kernel)
    have tK0 : tyB b "KeyError" = false ∧ tyB b "IndexError" = false ∧ tyB b "ZeroDivisionError" = false := by
      simp only [bases, List.mem_cons, List.not_mem_nil, or_false] at hb
      rcases hb with rfl | rfl | rfl | rfl | rfl <;> exact ⟨by decide +kernel, by decide +kernel, by decide +kernel⟩
    have tValueError := EC.ty "ValueError" (by decide +kernel)
    have tLookupError := EC.ty "LookupError" (by decide +kernel)
    have tArithmeticError := EC.ty "ArithmeticError" (by decide +kernel)
    have tOverflowError := EC.ty "OverflowError" (by decide +kernel)
    have tRuntimeError := EC.ty "RuntimeError" (by decide +kernel)
    have tKeyError := EC.ty "KeyError" (by decide +kernel)
    have tIndexError := EC.ty "IndexError" (by decide +kernel)
    have tZeroDivisionError := EC.ty "ZeroDivisionError" (by decide +kernel)
    refine ⟨_, (pss_cons (ps_set (i := 1) nd rfl (Or.inl rfl) (pe_lst (pa_cons (pe_callB call_isG (by rfl) zi (by decide +kernel) (pa_cons (pv 0) (pa_cons (pe_bltn (v := .ty "ValueError") (by rfl) (T.z "ValueError" (by decide +kernel)) (by decide +kernel) rfl) pa_nil))) (pa_cons (pe_callB call_isG (by rfl) zi (by decide +kernel) (pa_cons (pv 0) (pa_cons (pe_bltn (v := .ty "LookupError") (by rfl) (T.z "LookupError" (by decide +kernel)) (by decide +kernel) rfl) pa_nil))) pa_nil))))
      (pss_cons (ps_expr (pe_bm PySem.F.plainAttrs_list PySem.F.slot_list_append PySem.F.type_list_append mt_append (pv 1) (pa_cons (pe_and (pe_callB call_isG (by rfl) zi (by decide +kernel) (pa_cons (pv 0) (pa_cons (pe_bltn (v := .ty "ArithmeticError") (by rfl) (T.z "ArithmeticError" (by decide +kernel)) (by decide +kernel) rfl) pa_nil))) (pe_one (pe_not (pe_callB call_isG (by rfl) zi (by decide +kernel) (pa_cons (pv 0) (pa_cons (pe_bltn (v := .ty "OverflowError") (by rfl) (T.z "OverflowError" (by decide +kernel)) (by decide +kernel) rfl) pa_nil)))))) pa_nil)))
      (pss_cons (ps_expr (pe_bm PySem.F.plainAttrs_list PySem.F.slot_list_extend PySem.F.type_list_extend mt_extend (pv 1) (pa_cons (pe_lst (pa_cons (pe_callB call_isG (by rfl) zi (by decide +kernel) (pa_cons (pv 0) (pa_cons (pe_bltn (v := .ty "OverflowError") (by rfl) (T.z "OverflowError" (by decide +kernel)) (by decide +kernel) rfl) pa_nil))) (pa_cons (pe_callB call_isG (by rfl) zi (by decide +kernel) (pa_cons (pv 0) (pa_cons (pe_bltn (v := .ty "RuntimeError") (by rfl) (T.z "RuntimeError" (by decide +kernel)) (by decide +kernel) rfl) pa_nil))) pa_nil))) pa_nil)))
      (pss_cons (ps_expr (pe_bm PySem.F.plainAttrs_list PySem.F.slot_list_extend PySem.F.type_list_extend mt_extend (pv 1) (pa_cons (pe_lst (pa_cons (pe_or (pe_callB call_isG (by rfl) zi (by decide +kernel) (pa_cons (pv 0) (pa_cons (pe_bltn (v := .ty "KeyError") (by rfl) (T.z "KeyError" (by decide +kernel)) (by decide +kernel) rfl) pa_nil))) (pe_one (pe_callB call_isG (by rfl) zi (by decide +kernel) (pa_cons (pv 0) (pa_cons (pe_bltn (v := .ty "IndexError") (by rfl) (T.z "IndexError" (by decide +kernel)) (by decide +kernel) rfl) pa_nil))))) (pa_cons (pe_callB call_isG (by rfl) zi (by decide +kernel) (pa_cons (pv 0) (pa_cons (pe_bltn (v := .ty "ZeroDivisionError") (by rfl) (T.z "ZeroDivisionError" (by decide +kernel)) (by decide +kernel) rfl) pa_nil))) pa_nil))) pa_nil)))
      (pss_cons (ps_set (i := 2) nd rfl (Or.inl rfl) (pe_lst (pa_cons pe_str (pa_cons pe_str (pa_cons pe_str (pa_cons pe_str (pa_cons pe_str (pa_cons pe_str (pa_cons pe_str pa_nil)))))))))
      (pss_one (ps_ret (pe_lc (own := [("_law_name", 3), ("_law_flag", 4)]) (g := gTup K 2 (gCons (gName 3) (gCons (gName 4) gNil))) (by rfl) nd (pi_zip (by rfl) (T.z "zip" (by decide +kernel)) (pa_cons (pv 2) (pa_cons (pv 1) pa_nil)))
        (blkOk_by (own := [("_law_name", 3), ("_law_flag", 4)]) (N := n__law_kinds) (sc := defScope s__law_kinds) (by decide +kernel)) (fun _ _ _ _ _ => pg_tup (by rfl) (pgs_cons (pg_name (i := 3) nd rfl (Or.inl rfl)) (pgs_cons (pg_name (i := 4) nd rfl (Or.inl rfl)) pgs_nil)))
        (fun _ _ _ _ _ => pts_one (pt_val (pv 4))) (fun _ _ _ _ _ => pv 3))))))))), ?_⟩
    refine ⟨_, rfl, a, He.ga K x, d, _, _, _, rfl, .ty "ValueError", EC.ec, e0.1, e0.2, tValueError, _, rfl, a, He.ga K x, d, _, _, _, rfl, .ty "LookupError", EC.ec, e0.1, e0.2, tLookupError, by show 2 ≤ sizeLine; decide, fun l n0 => ?_⟩
    have g0 : Gr H _ l [.bl (tyB b "ValueError"), .bl (tyB b "LookupError")] := Gr.mk0 n0
    have e1 := e0.same g0.s
    cases hA : tyB b "ArithmeticError" with
    | true =>
      rw [hA] at tArithmeticError
      refine ⟨_, rfl, .inl ⟨rfl, _, SqL.of g0.l⟩, _, rfl, a, He.ga K x, d, _, _, _, rfl, .ty "ArithmeticError", EC.ec, e1.1, e1.2, tArithmeticError, _, rfl, ifT rfl ?_⟩
      refine ⟨_, rfl, a, He.ga K x, d, _, _, _, rfl, .ty "OverflowError", EC.ec, e1.1, e1.2, tOverflowError, _, rfl, l, _, _, rfl, rfl, g0.l, by show 2 < sizeLine; decide, ?_⟩
      have g1 : Gr H _ l [.bl (tyB b "ValueError"), .bl (tyB b "LookupError"), .bl (true && !tyB b "OverflowError")] := g0.put
      have e2 := e0.same g1.s
      refine ⟨_, rfl, .inl ⟨rfl, _, SqL.of g1.l⟩, _, rfl, a, He.ga K x, d, _, _, _, rfl, .ty "OverflowError", EC.ec, e2.1, e2.2, tOverflowError, _, rfl, a, He.ga K x, d, _, _, _, rfl, .ty "RuntimeError", EC.ec, e2.1, e2.2, tRuntimeError, by show 2 ≤ sizeLine; decide, fun p1 n1 => ⟨l, p1, _, _, rfl, rfl, (g1.up n1).l, upd_same, by show 3 + 2 ≤ sizeLine; decide, ?_⟩⟩
      have g2 : Gr H _ l [.bl (tyB b "ValueError"), .bl (tyB b "LookupError"), .bl (true && !tyB b "OverflowError"), .bl (tyB b "OverflowError"), .bl (tyB b "RuntimeError")] := (g1.up (o := .lst [.bl (tyB b "OverflowError"), .bl (tyB b "RuntimeError")]) n1).put
      have e3 := e0.same g2.s
      refine ⟨_, rfl, .inl ⟨rfl, _, SqL.of g2.l⟩, _, rfl, a, He.ga K x, d, _, _, _, rfl, .ty "KeyError", EC.ec, e3.1, e3.2, tKeyError, _, rfl, ifF tK0.1 ?_⟩
      refine ⟨_, rfl, a, He.ga K x, d, _, _, _, rfl, .ty "IndexError", EC.ec, e3.1, e3.2, tIndexError, _, rfl, a, He.ga K x, d, _, _, _, rfl, .ty "ZeroDivisionError", EC.ec, e3.1, e3.2, tZeroDivisionError, by show 2 ≤ sizeLine; decide, fun p2 n2 => ⟨l, p2, _, _, rfl, rfl, (g2.up n2).l, upd_same, by show 5 + 2 ≤ sizeLine; decide, ?_⟩⟩
      have g3 : Gr H _ l [.bl (tyB b "ValueError"), .bl (tyB b "LookupError"), .bl (true && !tyB b "OverflowError"), .bl (tyB b "OverflowError"), .bl (tyB b "RuntimeError"), .bl (tyB b "IndexError"), .bl (tyB b "ZeroDivisionError")] := (g2.up (o := .lst [.bl (tyB b "IndexError"), .bl (tyB b "ZeroDivisionError")]) n2).put
      refine ⟨by show 7 ≤ sizeLine; decide, fun p3 n3 => ?_⟩
      have g4 := g3.up (o := .lst (kinds.map V.str)) n3
      have fe : flags b = [tyB b "ValueError", tyB b "LookupError", true && !tyB b "OverflowError", tyB b "OverflowError", tyB b "RuntimeError", tyB b "IndexError", tyB b "ZeroDivisionError"] := by
        unfold flags
        rw [tK0.1, hA]
        rfl
      have fl : (flags b).map V.bl = [.bl (tyB b "ValueError"), .bl (tyB b "LookupError"), .bl (true && !tyB b "OverflowError"), .bl (tyB b "OverflowError"), .bl (tyB b "RuntimeError"), .bl (tyB b "IndexError"), .bl (tyB b "ZeroDivisionError")] := by rw [fe]; rfl
      have g4 := g4.eq fl
      have s4 : Same H _ := g4.s
      refine ⟨_, rfl, _, rfl, p3, l, kinds.map V.str, (flags b).map V.bl, rfl, SqL.of upd_same, SqL.of g4.l, fun D nD => lc_it (walk_zip (n := 7) (by show 7 = min ((kinds.map V.str).length) (((flags b).map V.bl).length); rw [fe]; rfl)) (CP _ D (flags b)) ⟨same_up nD, by rw [upd_same]; rfl⟩ (fun i H3 _ p => ⟨SqL.of (p.1 _ _ upd_same), SqL.of (p.1 _ _ g4.l)⟩) (fun i x H3 H' _ p y => comp_step nD p y) (fun H3 p => ?_)⟩
      obtain ⟨sA, eA⟩ := p
      refine q D H3 (fun b o z => sA _ _ (s4 b o z)) (np1 s4 nD) ?_
      rw [eA, List.take_of_length_le (show kinds.length ≤ 7 by decide), List.take_of_length_le (by rw [fe]; exact Nat.le_refl 7)]
    | false =>
      rw [hA] at tArithmeticError
      refine ⟨_, rfl, .inl ⟨rfl, _, SqL.of g0.l⟩, _, rfl, a, He.ga K x, d, _, _, _, rfl, .ty "ArithmeticError", EC.ec, e1.1, e1.2, tArithmeticError, _, rfl, ifF rfl ?_⟩
      refine ⟨l, _, _, rfl, rfl, g0.l, by show 2 < sizeLine; decide, ?_⟩
      have g1 : Gr H _ l [.bl (tyB b "ValueError"), .bl (tyB b "LookupError"), .bl (false && !tyB b "OverflowError")] := g0.put
      have e2 := e0.same g1.s
      refine ⟨_, rfl, .inl ⟨rfl, _, SqL.of g1.l⟩, _, rfl, a, He.ga K x, d, _, _, _, rfl, .ty "OverflowError", EC.ec, e2.1, e2.2, tOverflowError, _, rfl, a, He.ga K x, d, _, _, _, rfl, .ty "RuntimeError", EC.ec, e2.1, e2.2, tRuntimeError, by show 2 ≤ sizeLine; decide, fun p1 n1 => ⟨l, p1, _, _, rfl, rfl, (g1.up n1).l, upd_same, by show 3 + 2 ≤ sizeLine; decide, ?_⟩⟩
      have g2 : Gr H _ l [.bl (tyB b "ValueError"), .bl (tyB b "LookupError"), .bl (false && !tyB b "OverflowError"), .bl (tyB b "OverflowError"), .bl (tyB b "RuntimeError")] := (g1.up (o := .lst [.bl (tyB b "OverflowError"), .bl (tyB b "RuntimeError")]) n1).put
      have e3 := e0.same g2.s
      refine ⟨_, rfl, .inl ⟨rfl, _, SqL.of g2.l⟩, _, rfl, a, He.ga K x, d, _, _, _, rfl, .ty "KeyError", EC.ec, e3.1, e3.2, tKeyError, _, rfl, ifF tK0.1 ?_⟩
      refine ⟨_, rfl, a, He.ga K x, d, _, _, _, rfl, .ty "IndexError", EC.ec, e3.1, e3.2, tIndexError, _, rfl, a, He.ga K x, d, _, _, _, rfl, .ty "ZeroDivisionError", EC.ec, e3.1, e3.2, tZeroDivisionError, by show 2 ≤ sizeLine; decide, fun p2 n2 => ⟨l, p2, _, _, rfl, rfl, (g2.up n2).l, upd_same, by show 5 + 2 ≤ sizeLine; decide, ?_⟩⟩
      have g3 : Gr H _ l [.bl (tyB b "ValueError"), .bl (tyB b "LookupError"), .bl (false && !tyB b "OverflowError"), .bl (tyB b "OverflowError"), .bl (tyB b "RuntimeError"), .bl (tyB b "IndexError"), .bl (tyB b "ZeroDivisionError")] := (g2.up (o := .lst [.bl (tyB b "IndexError"), .bl (tyB b "ZeroDivisionError")]) n2).put
      refine ⟨by show 7 ≤ sizeLine; decide, fun p3 n3 => ?_⟩
      have g4 := g3.up (o := .lst (kinds.map V.str)) n3
      have fe : flags b = [tyB b "ValueError", tyB b "LookupError", false && !tyB b "OverflowError", tyB b "OverflowError", tyB b "RuntimeError", tyB b "IndexError", tyB b "ZeroDivisionError"] := by
        unfold flags
        rw [tK0.1, hA]
        rfl
      have fl : (flags b).map V.bl = [.bl (tyB b "ValueError"), .bl (tyB b "LookupError"), .bl (false && !tyB b "OverflowError"), .bl (tyB b "OverflowError"), .bl (tyB b "RuntimeError"), .bl (tyB b "IndexError"), .bl (tyB b "ZeroDivisionError")] := by rw [fe]; rfl
      have g4 := g4.eq fl
      have s4 : Same H _ := g4.s
      refine ⟨_, rfl, _, rfl, p3, l, kinds.map V.str, (flags b).map V.bl, rfl, SqL.of upd_same, SqL.of g4.l, fun D nD => lc_it (walk_zip (n := 7) (by show 7 = min ((kinds.map V.str).length) (((flags b).map V.bl).length); rw [fe]; rfl)) (CP _ D (flags b)) ⟨same_up nD, by rw [upd_same]; rfl⟩ (fun i H3 _ p => ⟨SqL.of (p.1 _ _ upd_same), SqL.of (p.1 _ _ g4.l)⟩) (fun i x H3 H' _ p y => comp_step nD p y) (fun H3 p => ?_)⟩
      obtain ⟨sA, eA⟩ := p
      refine q D H3 (fun b o z => sA _ _ (s4 b o z)) (np1 s4 nD) ?_
      rw [eA, List.take_of_length_le (show kinds.length ≤ 7 by decide), List.take_of_length_le (by rw [fe]; exact Nat.le_refl 7)]

end
end K00

namespace K00
open PySem PySem.Spec PyProof.Rows L2 Ver Num PySem.HandSPX
def kindB (b : EB) : Str := (kf kinds (flags b)).headD ""
/-- one row: an error of the class, the value twice, the kind -/
def RowOk (K : PySem.W.Frag) (H : Hp) (r : Addr) (c : EB × Str × Str) (v : V) : Prop := ∃ e dx, H r = some (.tup [.ref e, v, v, .str (kindB c.1)]) ∧ H e = some (exo e (He.ga K c.2.1) (some dx)) ∧ H dx = some (exd dx [(c.2.2, v)])
theorem RowOk.same {K : PySem.W.Frag} {H H' : Hp} {r : Addr} {c : EB × Str × Str} {v : V} (h : RowOk K H r c v) (s : Same H H') : RowOk K H' r c v := by
  obtain ⟨e, dx, h1, h2, h3⟩ := h
  exact ⟨e, dx, s _ _ h1, s _ _ h2, s _ _ h3⟩
theorem lst_ne_ext {xs : List V} {e C : Addr} {d : Option Addr} : (HO.lst xs) ≠ exo e C d := fun z => by
  have z : HO.lst xs = HO.ext _ := z
  cases z
theorem lst_ne_exd {xs : List V} {e : Addr} {fs : List (Str × V)} : (HO.lst xs) ≠ exd e fs := fun z => by
  have z : HO.lst xs = HO.ext _ := z
  cases z
theorem RowOk.put {K : PySem.W.Frag} {H : Hp} {l r : Addr} {xs ys : List V} {c : EB × Str × Str} {v : V} (h : RowOk K H r c v) (hl : H l = some (.lst xs)) : RowOk K (upd H l (.lst ys)) r c v := by
  obtain ⟨e, dx, h1, h2, h3⟩ := h
  exact ⟨e, dx, by rw [upd_ne (ne_of h1 hl (by intro z; cases z))]; exact h1, by rw [upd_ne (ne_of h2 hl (fun z => lst_ne_ext z.symm))]; exact h2, by rw [upd_ne (ne_of h3 hl (fun z => lst_ne_exd z.symm))]; exact h3⟩
structure RS (K : PySem.W.Frag) (H0 H : Hp) (l : Addr) (rs : List Addr) (cs : List (EB × Str × Str)) (v : V) : Prop where
  g : Gr H0 H l (rs.map V.ref)
  n : rs.length = cs.length
  r : ∀ (i : Nat) (r : Addr) (c : EB × Str × Str), rs[i]? = some r → cs[i]? = some c → RowOk K H r c v
theorem RS.step {K : PySem.W.Frag} {H0 H H' : Hp} {l r : Addr} {rs : List Addr} {cs : List (EB × Str × Str)} {v : V} {c : EB × Str × Str} (R : RS K H0 H l rs cs v) (s : Same H H') (hr : RowOk K H' r c v) : RS K H0 (upd H' l (.lst (rs.map V.ref ++ [V.ref r]))) l (rs ++ [r]) (cs ++ [c]) v := by
  have hl := s _ _ R.g.l
  refine ⟨?_, by rw [List.length_append, List.length_append, R.n]; rfl, fun i r' c' h1 h2 => ?_⟩
  · rw [List.map_append]
    refine ⟨fun b o e => ?_, R.g.n, upd_same⟩
    rw [upd_ne (ne_of_none e R.g.n)]
    exact s _ _ (R.g.s b o e)
  · by_cases h : i < rs.length
    · rw [List.getElem?_append_left h] at h1
      rw [List.getElem?_append_left (by rw [← R.n]; exact h)] at h2
      exact ((R.r i r' c' h1 h2).same s).put hl
    · have l1 := (List.getElem?_eq_some_iff.mp h1).1
      rw [List.length_append] at l1
      have e : i = rs.length := by
        have : [r].length = 1 := rfl
        omega
      subst e
      rw [List.getElem?_append_right (Nat.le_refl _), Nat.sub_self] at h1
      rw [R.n, List.getElem?_append_right (Nat.le_refl _), Nat.sub_self] at h2
      cases h1
      cases h2
      exact hr.put hl
theorem mk_same {H : Hp} {a dx C : Addr} {f : Str} {v : V} (na : H a = none) (nd : upd H a (exo a C none) dx = none) (ne : dx ≠ a) : Same H (upd (upd (upd H a (exo a C none)) dx (exd dx [(f, v)])) a (exo a C (some dx))) := fun b o e => by
  rw [upd_ne ne] at nd
  rw [upd_ne (ne_of_none e na), upd_ne (ne_of_none e nd), upd_ne (ne_of_none e na)]
  exact e
theorem lookup_one (f : Str) (v : V) : List.lookup f [(f, v)] = some v := by simp [List.lookup]
section
variable {P : Program} {w : World} {K : PySem.W.Frag} {mg : Str → Option Value} {base : Heap}
def tRow (K : PySem.W.Frag) (c : EB × Str × Str) : TS := fun D σ H => ∃ (H0 : Hp) (l : Addr) (rs : List Addr) (cs : List (EB × Str × Str)) (v : V), σ = [some v, some (.ref l)] ∧ RS K H0 H l rs cs v ∧ rs.length < 100 ∧ ∀ H' r, RS K H0 H' l (rs ++ [r]) (cs ++ [c]) v → D.nx σ H'
theorem ps_row (T : Tx K mg) {b : EB} {x f k : Str} (BF : EBF b) (EC : EC K b x [f]) (ok : Ok1 P w K mg base x f) (hk : k = kindB b) {cdv : Value} {A : Around} {outer : List Env} {s : Shared} {H : Hp} {E : XK}
    (hr : Room 2 (A.deeper (envOfC "_law_filled" (defScope s__law_filled) s.heap.objs.size (He.ga K "_law_filled") cdv))) (hm : mg x = some (.ref (He.ga K x)))
    (hg : Gl (cxOf CX0 P w K mg base n__law_filled "_law_filled" (defScope s__law_filled) (He.ga K "_law_filled") cdv A outer s H E).nox x) (hdb : (x == ("__debug__" : Str)) = false)
    {q1 q2 q3 q4 q5 q6 q7 q8 q9 q10 q11 q12 q13 q14 q15 q16 q17 q18 : Pos} (hline : (q2.endLine == q17.line) = true) :
    PS (cxOf CX0 P w K mg base n__law_filled "_law_filled" (defScope s__law_filled) (He.ga K "_law_filled") cdv A outer s H E).nox
      (.Expr (.Call (.Attribute (.Name "_law_found" q1) "append" q2) [.Tuple [.Call (.Name x q3) [.Name "_law_thing" q4] [] q5, .Attribute (.Call (.Name x q6) [] [⟨some f, .Name "_law_thing" q7, q8⟩] q9) f q10, .Attribute (.Call (.Name x q11) [.Name "_law_thing" q12] [] q13) f q14, .Constant (.str k) 0 q15] 0 q16] [] q17) q18) (tRow K (b, x, f)) := by
  obtain ⟨fd, F1, hb, hkb⟩ := ok
  refine ⟨fun pins s1 σ H1 D I h => (ps_expr (pe_bm PySem.F.plainAttrs_list PySem.F.slot_list_append PySem.F.type_list_append mt_append (pv 1)
    (pa_cons (pe_tup (pa_cons (pe_gmk BF EC.ox EC.iC EC.tI F1 hr hb pass0 hg hm (pa_cons (pv 0) pa_nil) hdb)
      (pa_cons (pe_gf (pe_gmkK (ks := [f]) BF EC.ox EC.iC EC.tI F1 hr hkb pass0 hg hm (pk_cons (pv 0) pk_nil) (by rfl) (by rfl) hdb (by rfl)))
      (pa_cons (pe_gf (pe_gmk BF EC.ox EC.iC EC.tI F1 hr hb pass0 hg hm (pa_cons (pv 0) pa_nil) hdb)) (pa_cons pe_str pa_nil))))) pa_nil) (hline := hline))).run pins s1 σ H1 D I ?_⟩
  obtain ⟨H0, l, rs, cs, v, rfl, R, hl, q⟩ := h
  have nf := EC.nf f (List.mem_cons_self ..)
  refine ⟨_, rfl, .inl ⟨rfl, _, SqL.of R.g.l⟩, _, rfl, by show 1 ≤ 1000; decide, fun a1 na1 => ⟨a1, v, rfl, upd_same, fun d1 nd1 ne1 => ⟨rfl, ?_⟩⟩⟩
  have s1' := mk_same (f := f) (v := v) na1 nd1 ne1
  refine ⟨_, rfl, rfl, fun a2 na2 => ⟨a2, v, rfl, upd_same, fun d2 nd2 ne2 => ⟨rfl, a2, He.ga K x, d2, _, v, rfl, EC.xf, nf, upd_same, by rw [upd_ne ne2]; exact upd_same, lookup_one f v, ?_⟩⟩⟩
  have s2' := mk_same (f := f) (v := v) na2 nd2 ne2
  refine ⟨_, rfl, by show 1 ≤ 1000; decide, fun a3 na3 => ⟨a3, v, rfl, upd_same, fun d3 nd3 ne3 => ⟨rfl, a3, He.ga K x, d3, _, v, rfl, EC.xf, nf, upd_same, by rw [upd_ne ne3]; exact upd_same, lookup_one f v, ?_⟩⟩⟩
  have s3' := mk_same (f := f) (v := v) na3 nd3 ne3
  refine ⟨by show 4 ≤ sizeLine; decide, fun t nt => ?_⟩
  have s4' := same_up (o := .tup [.ref a1, v, v, .str k]) nt
  have sA : Same H1 _ := fun b o e => s4' _ _ (s3' _ _ (s2' _ _ (s1' b o e)))
  refine ⟨l, _, _, rfl, rfl, sA _ _ R.g.l, ?_, q _ t (R.step sA ⟨a1, d1, ?_, s4' _ _ (s3' _ _ (s2' _ _ upd_same)), s4' _ _ (s3' _ _ (s2' _ _ (by rw [upd_ne ne1]; exact upd_same)))⟩)⟩
  · rw [List.length_map]
    exact Nat.lt_trans hl (by decide)
  · rw [upd_same, hk]

def spFilled (K : PySem.W.Frag) : Sp := fun vs H Q _ => ∃ v, vs = [v] ∧ ∀ (l : Addr) (rs : List Addr) (H' : Hp), RS K H H' l rs cls1 v → Q (.ref l) H'
theorem ok_filled (T : Tx K mg) : FnG P w K mg base CX0 3 (He.ga K "_law_filled") (spFilled K) := by
  refine mk__law_filled T.d (fun vs H Q E h => ?_) (fun cdv A outer s H vs Q E hg hr h => ?_)
  · obtain ⟨v, rfl, _⟩ := h
    rfl
  · obtain ⟨v, rfl, q⟩ := h
    have nd := sc__law_filled.nd
    refine ⟨_, (pss_cons (ps_set (i := 1) nd rfl (Or.inl rfl) (pe_lst pa_nil))
      (pss_cons (ps_row T (x := "InvalidPrime") ebVal (T.e1 (bVal, "InvalidPrime", "value") (by simp [cls1])) (ok_InvalidPrime T) (by decide +kernel) hr (T.g "InvalidPrime" (by decide +kernel)) (by rfl) (by decide) (by rfl))
      (pss_cons (ps_row T (x := "InvalidNumber") ebVal (T.e1 (bVal, "InvalidNumber", "value") (by simp [cls1])) (ok_InvalidNumber T) (by decide +kernel) hr (T.g "InvalidNumber" (by decide +kernel)) (by rfl) (by decide) (by rfl))
      (pss_cons (ps_row T (x := "InvalidLetters") ebVal (T.e1 (bVal, "InvalidLetters", "value") (by simp [cls1])) (ok_InvalidLetters T) (by decide +kernel) hr (T.g "InvalidLetters" (by decide +kernel)) (by rfl) (by decide) (by rfl))
      (pss_cons (ps_row T (x := "InvalidCost") ebVal (T.e1 (bVal, "InvalidCost", "letter") (by simp [cls1])) (ok_InvalidCost T) (by decide +kernel) hr (T.g "InvalidCost" (by decide +kernel)) (by rfl) (by decide) (by rfl))
      (pss_cons (ps_row T (x := "InvalidWord") ebVal (T.e1 (bVal, "InvalidWord", "value") (by simp [cls1])) (ok_InvalidWord T) (by decide +kernel) hr (T.g "InvalidWord" (by decide +kernel)) (by rfl) (by decide) (by rfl))
      (pss_cons (ps_row T (x := "InvalidCount") ebVal (T.e1 (bVal, "InvalidCount", "value") (by simp [cls1])) (ok_InvalidCount T) (by decide +kernel) hr (T.g "InvalidCount" (by decide +kernel)) (by rfl) (by decide) (by rfl))
      (pss_cons (ps_row T (x := "InvalidMachine") ebVal (T.e1 (bVal, "InvalidMachine", "part") (by simp [cls1])) (ok_InvalidMachine T) (by decide +kernel) hr (T.g "InvalidMachine" (by decide +kernel)) (by rfl) (by decide) (by rfl))
      (pss_cons (ps_row T (x := "InvalidAnswer") ebVal (T.e1 (bVal, "InvalidAnswer", "number") (by simp [cls1])) (ok_InvalidAnswer T) (by decide +kernel) hr (T.g "InvalidAnswer" (by decide +kernel)) (by rfl) (by decide) (by rfl))
      (pss_cons (ps_row T (x := "InvalidText") ebVal (T.e1 (bVal, "InvalidText", "line") (by simp [cls1])) (ok_InvalidText T) (by decide +kernel) hr (T.g "InvalidText" (by decide +kernel)) (by rfl) (by decide) (by rfl))
      (pss_cons (ps_row T (x := "InvalidRow") ebVal (T.e1 (bVal, "InvalidRow", "row") (by simp [cls1])) (ok_InvalidRow T) (by decide +kernel) hr (T.g "InvalidRow" (by decide +kernel)) (by rfl) (by decide) (by rfl))
      (pss_cons (ps_row T (x := "TooSmall") ebVal (T.e1 (bVal, "TooSmall", "least_size") (by simp [cls1])) (ok_TooSmall T) (by decide +kernel) hr (T.g "TooSmall" (by decide +kernel)) (by rfl) (by decide) (by rfl))
      (pss_cons (ps_row T (x := "Contradiction") ebVal (T.e1 (bVal, "Contradiction", "word") (by simp [cls1])) (ok_Contradiction T) (by decide +kernel) hr (T.g "Contradiction" (by decide +kernel)) (by rfl) (by decide) (by rfl))
      (pss_cons (ps_row T (x := "OutOfRange") ebLook (T.e1 (bLook, "OutOfRange", "value") (by simp [cls1])) (ok_OutOfRange T) (by decide +kernel) hr (T.g "OutOfRange" (by decide +kernel)) (by rfl) (by decide) (by rfl))
      (pss_cons (ps_row T (x := "NotKnown") ebLook (T.e1 (bLook, "NotKnown", "value") (by simp [cls1])) (ok_NotKnown T) (by decide +kernel) hr (T.g "NotKnown" (by decide +kernel)) (by rfl) (by decide) (by rfl))
      (pss_cons (ps_row T (x := "NotNow") ebLook (T.e1 (bLook, "NotNow", "word") (by simp [cls1])) (ok_NotNow T) (by decide +kernel) hr (T.g "NotNow" (by decide +kernel)) (by rfl) (by decide) (by rfl))
      (pss_cons (ps_row T (x := "TooMany") ebOver (T.e1 (bOver, "TooMany", "limit") (by simp [cls1])) (ok_TooMany T) (by decide +kernel) hr (T.g "TooMany" (by decide +kernel)) (by rfl) (by decide) (by rfl))
      (pss_cons (ps_row T (x := "LimitReached") ebRun (T.e1 (bRun, "LimitReached", "limit") (by simp [cls1])) (ok_LimitReached T) (by decide +kernel) hr (T.g "LimitReached" (by decide +kernel)) (by rfl) (by decide) (by rfl))
      (pss_one (ps_ret (pv 1))))))))))))))))))))), ?_⟩
    refine ⟨by show 0 ≤ sizeLine; decide, fun l n0 => ?_⟩
    have R0 : RS K H _ l [] (cls1.take 0) v := ⟨Gr.mk0 n0, rfl, fun i r c h => by simp at h⟩
    refine ⟨H, l, [], cls1.take 0, v, rfl, R0, by show 0 < 100; decide, fun H1 r0 R1 => ?_⟩
    refine ⟨H, l, [r0], cls1.take 1, v, rfl, R1, by show 1 < 100; decide, fun H2 r1 R2 => ?_⟩
    refine ⟨H, l, [r0, r1], cls1.take 2, v, rfl, R2, by show 2 < 100; decide, fun H3 r2 R3 => ?_⟩
    refine ⟨H, l, [r0, r1, r2], cls1.take 3, v, rfl, R3, by show 3 < 100; decide, fun H4 r3 R4 => ?_⟩
    refine ⟨H, l, [r0, r1, r2, r3], cls1.take 4, v, rfl, R4, by show 4 < 100; decide, fun H5 r4 R5 => ?_⟩
    refine ⟨H, l, [r0, r1, r2, r3, r4], cls1.take 5, v, rfl, R5, by show 5 < 100; decide, fun H6 r5 R6 => ?_⟩
    refine ⟨H, l, [r0, r1, r2, r3, r4, r5], cls1.take 6, v, rfl, R6, by show 6 < 100; decide, fun H7 r6 R7 => ?_⟩
    refine ⟨H, l, [r0, r1, r2, r3, r4, r5, r6], cls1.take 7, v, rfl, R7, by show 7 < 100; decide, fun H8 r7 R8 => ?_⟩
    refine ⟨H, l, [r0, r1, r2, r3, r4, r5, r6, r7], cls1.take 8, v, rfl, R8, by show 8 < 100; decide, fun H9 r8 R9 => ?_⟩
    refine ⟨H, l, [r0, r1, r2, r3, r4, r5, r6, r7, r8], cls1.take 9, v, rfl, R9, by show 9 < 100; decide, fun H10 r9 R10 => ?_⟩
    refine ⟨H, l, [r0, r1, r2, r3, r4, r5, r6, r7, r8, r9], cls1.take 10, v, rfl, R10, by show 10 < 100; decide, fun H11 r10 R11 => ?_⟩
    refine ⟨H, l, [r0, r1, r2, r3, r4, r5, r6, r7, r8, r9, r10], cls1.take 11, v, rfl, R11, by show 11 < 100; decide, fun H12 r11 R12 => ?_⟩
    refine ⟨H, l, [r0, r1, r2, r3, r4, r5, r6, r7, r8, r9, r10, r11], cls1.take 12, v, rfl, R12, by show 12 < 100; decide, fun H13 r12 R13 => ?_⟩
    refine ⟨H, l, [r0, r1, r2, r3, r4, r5, r6, r7, r8, r9, r10, r11, r12], cls1.take 13, v, rfl, R13, by show 13 < 100; decide, fun H14 r13 R14 => ?_⟩
    refine ⟨H, l, [r0, r1, r2, r3, r4, r5, r6, r7, r8, r9, r10, r11, r12, r13], cls1.take 14, v, rfl, R14, by show 14 < 100; decide, fun H15 r14 R15 => ?_⟩
    refine ⟨H, l, [r0, r1, r2, r3, r4, r5, r6, r7, r8, r9, r10, r11, r12, r13, r14], cls1.take 15, v, rfl, R15, by show 15 < 100; decide, fun H16 r15 R16 => ?_⟩
    refine ⟨H, l, [r0, r1, r2, r3, r4, r5, r6, r7, r8, r9, r10, r11, r12, r13, r14, r15], cls1.take 16, v, rfl, R16, by show 16 < 100; decide, fun H17 r16 R17 => ?_⟩
    exact ⟨_, rfl, q l _ _ R17⟩
end
end K00

namespace K00
open PySem PySem.Spec PyProof.Rows L2 Ver Num PySem.HandSPX
def RowOk0 (K : PySem.W.Frag) (H : Hp) (t : Addr) (c : EB × Str) : Prop := ∃ e, H t = some (.tup [.ref e, .str (kindB c.1)]) ∧ H e = some (exo e (He.ga K c.2) none)
theorem RowOk0.same {K : PySem.W.Frag} {H H' : Hp} {r : Addr} {c : EB × Str} (h : RowOk0 K H r c) (s : Same H H') : RowOk0 K H' r c := by
  obtain ⟨e, h1, h2⟩ := h
  exact ⟨e, s _ _ h1, s _ _ h2⟩
theorem RowOk0.put {K : PySem.W.Frag} {H : Hp} {l r : Addr} {xs ys : List V} {c : EB × Str} (h : RowOk0 K H r c) (hl : H l = some (.lst xs)) : RowOk0 K (upd H l (.lst ys)) r c := by
  obtain ⟨e, h1, h2⟩ := h
  exact ⟨e, by rw [upd_ne (ne_of h1 hl (by intro z; cases z))]; exact h1, by rw [upd_ne (ne_of h2 hl (fun z => lst_ne_ext z.symm))]; exact h2⟩
structure B (K : PySem.W.Frag) (H0 H : Hp) (ts : List Addr) (cs : List (EB × Str)) : Prop where
  s : Same H0 H
  n : ts.length = cs.length
  r : ∀ (i : Nat) (r : Addr) (c : EB × Str), ts[i]? = some r → cs[i]? = some c → RowOk0 K H r c
theorem B.up {K : PySem.W.Frag} {H0 H : Hp} {ts : List Addr} {cs : List (EB × Str)} {p : Addr} {o : HO} (b : B K H0 H ts cs) (n : H p = none) : B K H0 (upd H p o) ts cs := ⟨sp1 b.s n, b.n, fun i r c h1 h2 => (b.r i r c h1 h2).same (same_up n)⟩
theorem B.put {K : PySem.W.Frag} {H0 H : Hp} {ts : List Addr} {cs : List (EB × Str)} {l : Addr} {xs ys : List V} (b : B K H0 H ts cs) (hl : H l = some (.lst xs)) (n : H0 l = none) : B K H0 (upd H l (.lst ys)) ts cs := ⟨fun a o e => by
  rw [upd_ne (ne_of_none e n)]
  exact b.s a o e, b.n, fun i r c h1 h2 => (b.r i r c h1 h2).put hl⟩
theorem B.item {K : PySem.W.Frag} {H0 H : Hp} {ts : List Addr} {cs : List (EB × Str)} {a t : Addr} {k : Str} {c : EB × Str} (b : B K H0 H ts cs) (na : H a = none) (nt : upd H a (exo a (He.ga K c.2) none) t = none) (hk : k = kindB c.1) : B K H0 (upd (upd H a (exo a (He.ga K c.2) none)) t (.tup [.ref a, .str k])) (ts ++ [t]) (cs ++ [c]) := by
  have b2 := (b.up (o := exo a (He.ga K c.2) none) na).up (o := .tup [.ref a, .str k]) nt
  refine ⟨b2.s, by rw [List.length_append, List.length_append, b.n]; rfl, fun i r' c' h1 h2 => ?_⟩
  by_cases h : i < ts.length
  · rw [List.getElem?_append_left h] at h1
    rw [List.getElem?_append_left (by rw [← b.n]; exact h)] at h2
    exact b2.r i r' c' h1 h2
  · have l1 := (List.getElem?_eq_some_iff.mp h1).1
    rw [List.length_append] at l1
    have e : i = ts.length := by
      have : [t].length = 1 := rfl
      omega
    subst e
    rw [List.getElem?_append_right (Nat.le_refl _), Nat.sub_self] at h1
    rw [b.n, List.getElem?_append_right (Nat.le_refl _), Nat.sub_self] at h2
    cases h1
    cases h2
    exact ⟨a, by rw [upd_same, hk], by rw [upd_ne (ne_of_none upd_same nt)]; exact upd_same⟩
section
variable {P : Program} {w : World} {K : PySem.W.Frag} {mg : Str → Option Value} {base : Heap}
def spBare (K : PySem.W.Frag) : Sp := fun vs H Q _ => vs = [] ∧ ∀ (c : Addr) (ts : List Addr) (H' : Hp), B K H H' ts cls0 → H' c = some (.lst (ts.map V.ref)) → Q (.ref c) H'
theorem ok_bare (T : Tx K mg) : FnG P w K mg base CX0 3 (He.ga K "_law_bare") (spBare K) := by
  refine mk__law_bare T.d (fun vs H Q E h => ?_) (fun cdv A outer s H vs Q E hg hr h => ?_)
  · obtain ⟨rfl, _⟩ := h
    rfl
  · obtain ⟨rfl, q⟩ := h
    have nd := sc__law_bare.nd
    obtain ⟨f0, F0, b0⟩ := ok_InvalidCoordinates (P := P) (w := w) (base := base) T
    have E0 := T.e0 (bVal, "InvalidCoordinates") (by simp [cls0])
    obtain ⟨f1, F1, b1⟩ := ok_OtherField (P := P) (w := w) (base := base) T
    have E1 := T.e0 (bVal, "OtherField") (by simp [cls0])
    obtain ⟨f2, F2, b2⟩ := ok_OtherLetters (P := P) (w := w) (base := base) T
    have E2 := T.e0 (bVal, "OtherLetters") (by simp [cls0])
    obtain ⟨f3, F3, b3⟩ := ok_Nothing (P := P) (w := w) (base := base) T
    have E3 := T.e0 (bLook, "Nothing") (by simp [cls0])
    obtain ⟨f4, F4, b4⟩ := ok_Done (P := P) (w := w) (base := base) T
    have E4 := T.e0 (bLook, "Done") (by simp [cls0])
    obtain ⟨f5, F5, b5⟩ := ok_NoQuotient (P := P) (w := w) (base := base) T
    have E5 := T.e0 (bAri, "NoQuotient") (by simp [cls0])
    obtain ⟨f6, F6, b6⟩ := ok_NotFinite (P := P) (w := w) (base := base) T
    have E6 := T.e0 (bAri, "NotFinite") (by simp [cls0])
    obtain ⟨f7, F7, b7⟩ := ok_TooLong (P := P) (w := w) (base := base) T
    have E7 := T.e0 (bOver, "TooLong") (by simp [cls0])
    refine ⟨_, (pss_cons (ps_set (i := 0) nd rfl (Or.inl rfl) (pe_lst (pa_cons (pe_tup (pa_cons (pe_gmk0 ebVal E0.ox E0.iC E0.tI F0 hr b0 pass0 (by rfl) (T.g "InvalidCoordinates" (by decide +kernel))) (pa_cons pe_str pa_nil))) (pa_cons (pe_tup (pa_cons (pe_gmk0 ebVal E1.ox E1.iC E1.tI F1 hr b1 pass0 (by rfl) (T.g "OtherField" (by decide +kernel))) (pa_cons pe_str pa_nil))) (pa_cons (pe_tup (pa_cons (pe_gmk0 ebVal E2.ox E2.iC E2.tI F2 hr b2 pass0 (by rfl) (T.g "OtherLetters" (by decide +kernel))) (pa_cons pe_str pa_nil))) pa_nil)))))
      (pss_cons (ps_expr (pe_bm PySem.F.plainAttrs_list PySem.F.slot_list_extend PySem.F.type_list_extend mt_extend (pv 0) (pa_cons (pe_lst (pa_cons (pe_tup (pa_cons (pe_gmk0 ebLook E3.ox E3.iC E3.tI F3 hr b3 pass0 (by rfl) (T.g "Nothing" (by decide +kernel))) (pa_cons pe_str pa_nil))) (pa_cons (pe_tup (pa_cons (pe_gmk0 ebLook E4.ox E4.iC E4.tI F4 hr b4 pass0 (by rfl) (T.g "Done" (by decide +kernel))) (pa_cons pe_str pa_nil))) (pa_cons (pe_tup (pa_cons (pe_gmk0 ebAri E5.ox E5.iC E5.tI F5 hr b5 pass0 (by rfl) (T.g "NoQuotient" (by decide +kernel))) (pa_cons pe_str pa_nil))) (pa_cons (pe_tup (pa_cons (pe_gmk0 ebAri E6.ox E6.iC E6.tI F6 hr b6 pass0 (by rfl) (T.g "NotFinite" (by decide +kernel))) (pa_cons pe_str pa_nil))) pa_nil))))) pa_nil)))
      (pss_one (ps_ret (pe_op op_cat (pv 0) (pe_lst (pa_cons (pe_tup (pa_cons (pe_gmk0 ebOver E7.ox E7.iC E7.tI F7 hr b7 pass0 (by rfl) (T.g "TooLong" (by decide +kernel))) (pa_cons pe_str pa_nil))) pa_nil))))))), ?_⟩
    have B0 : B K H H [] (cls0.take 0) := ⟨fun _ _ e => e, rfl, fun i t c h => by simp at h⟩
    refine ⟨by show 0 ≤ 1000; decide, fun a0 na0 => ⟨a0, rfl, upd_same, ⟨rfl, by show 2 ≤ sizeLine; decide, fun t0 nt0 => ?_⟩⟩⟩
    have B1 : B K H _ [t0] (cls0.take 1) := B0.item (k := "value") (c := (bVal, "InvalidCoordinates")) na0 nt0 (by decide +kernel)
    refine ⟨by show 0 ≤ 1000; decide, fun a1 na1 => ⟨a1, rfl, upd_same, ⟨rfl, by show 2 ≤ sizeLine; decide, fun t1 nt1 => ?_⟩⟩⟩
    have B2 : B K H _ [t0, t1] (cls0.take 2) := B1.item (k := "value") (c := (bVal, "OtherField")) na1 nt1 (by decide +kernel)
    refine ⟨by show 0 ≤ 1000; decide, fun a2 na2 => ⟨a2, rfl, upd_same, ⟨rfl, by show 2 ≤ sizeLine; decide, fun t2 nt2 => ?_⟩⟩⟩
    have B3 : B K H _ [t0, t1, t2] (cls0.take 3) := B2.item (k := "value") (c := (bVal, "OtherLetters")) na2 nt2 (by decide +kernel)
    refine ⟨by show 3 ≤ sizeLine; decide, fun l nl => ?_⟩
    have B3l := B3.up (o := .lst [.ref t0, .ref t1, .ref t2]) nl
    have g3 : Gr H _ l [.ref t0, .ref t1, .ref t2] := ⟨B3l.s, np1 B3.s nl, upd_same⟩
    refine ⟨_, rfl, .inl ⟨rfl, _, SqL.of g3.l⟩, ?_⟩
    refine ⟨by show 0 ≤ 1000; decide, fun a3 na3 => ⟨a3, rfl, upd_same, ⟨rfl, by show 2 ≤ sizeLine; decide, fun t3 nt3 => ?_⟩⟩⟩
    have B4 : B K H _ [t0, t1, t2, t3] (cls0.take 4) := B3l.item (k := "lookup") (c := (bLook, "Nothing")) na3 nt3 (by decide +kernel)
    have g4 := (g3.up (o := exo a3 (He.ga K "Nothing") none) na3).up (o := .tup [.ref a3, .str "lookup"]) nt3
    refine ⟨by show 0 ≤ 1000; decide, fun a4 na4 => ⟨a4, rfl, upd_same, ⟨rfl, by show 2 ≤ sizeLine; decide, fun t4 nt4 => ?_⟩⟩⟩
    have B5 : B K H _ [t0, t1, t2, t3, t4] (cls0.take 5) := B4.item (k := "lookup") (c := (bLook, "Done")) na4 nt4 (by decide +kernel)
    have g5 := (g4.up (o := exo a4 (He.ga K "Done") none) na4).up (o := .tup [.ref a4, .str "lookup"]) nt4
    refine ⟨by show 0 ≤ 1000; decide, fun a5 na5 => ⟨a5, rfl, upd_same, ⟨rfl, by show 2 ≤ sizeLine; decide, fun t5 nt5 => ?_⟩⟩⟩
    have B6 : B K H _ [t0, t1, t2, t3, t4, t5] (cls0.take 6) := B5.item (k := "arithmetic") (c := (bAri, "NoQuotient")) na5 nt5 (by decide +kernel)
    have g6 := (g5.up (o := exo a5 (He.ga K "NoQuotient") none) na5).up (o := .tup [.ref a5, .str "arithmetic"]) nt5
    refine ⟨by show 0 ≤ 1000; decide, fun a6 na6 => ⟨a6, rfl, upd_same, ⟨rfl, by show 2 ≤ sizeLine; decide, fun t6 nt6 => ?_⟩⟩⟩
    have B7 : B K H _ [t0, t1, t2, t3, t4, t5, t6] (cls0.take 7) := B6.item (k := "arithmetic") (c := (bAri, "NotFinite")) na6 nt6 (by decide +kernel)
    have g7 := (g6.up (o := exo a6 (He.ga K "NotFinite") none) na6).up (o := .tup [.ref a6, .str "arithmetic"]) nt6
    refine ⟨by show 4 ≤ sizeLine; decide, fun p np => ?_⟩
    have B7p := B7.up (o := .lst [.ref t3, .ref t4, .ref t5, .ref t6]) np
    have g7p := g7.up (o := .lst [.ref t3, .ref t4, .ref t5, .ref t6]) np
    refine ⟨l, p, _, _, rfl, rfl, g7p.l, upd_same, by show 3 + 4 ≤ sizeLine; decide, ?_⟩
    have B7q := B7p.put (ys := [.ref t0, .ref t1, .ref t2, .ref t3, .ref t4, .ref t5, .ref t6]) g7p.l g7p.n
    have g7q : Gr H _ l [.ref t0, .ref t1, .ref t2, .ref t3, .ref t4, .ref t5, .ref t6] := g7p.put
    refine ⟨_, rfl, by show 0 ≤ 1000; decide, fun a7 na7 => ⟨a7, rfl, upd_same, ⟨rfl, by show 2 ≤ sizeLine; decide, fun t7 nt7 => ?_⟩⟩⟩
    have B8 : B K H _ [t0, t1, t2, t3, t4, t5, t6, t7] (cls0.take 8) := B7q.item (k := "overflow") (c := (bOver, "TooLong")) na7 nt7 (by decide +kernel)
    have g8 := (g7q.up (o := exo a7 (He.ga K "TooLong") none) na7).up (o := .tup [.ref a7, .str "overflow"]) nt7
    refine ⟨by show 1 ≤ sizeLine; decide, fun p2 np2 => ?_⟩
    have B8p := B8.up (o := .lst [.ref t7]) np2
    have g8p := g8.up (o := .lst [.ref t7]) np2
    refine ⟨l, p2, _, _, rfl, rfl, g8p.l, upd_same, by show 7 + 1 ≤ sizeLine; decide, fun c nc => ?_⟩
    exact q c _ _ (B8p.up nc) upd_same
end
end K00

namespace K00
open PySem PySem.Spec PyProof.Rows L2 Ver Num PySem.HandSPX
theorem tup_len (ts : List Str) : (tupleText ts).length ≤ piled ts + 4 := by
  unfold tupleText
  rw [strLen_append, strLen_append]
  have e1 : ("(" : Str).length = 1 := rfl
  have e2 : ((if ts.length == 1 then ",)" else ")" : String) : Str).length ≤ 2 := by
    split
    · exact Nat.le_refl 2
    · exact Nat.le_succ 1
  by_cases h : ts = []
  · subst h
    have e3 : (Str.join ", " []).length = 0 := rfl
    omega
  · have j := join_length_add ts h
    omega
theorem lst_len (ts : List Str) : (listText ts).length ≤ piled ts + 2 := by
  have e1 := textFrom_up ts 0 "["
  have e3 : (listText ts).length = (textFrom 0 "[" ts).length + 1 := by
    show (textFrom 0 "[" _ ++ "]").length = _
    rw [strLen_append]
    rfl
  have e4 : ("[" : Str).length = 1 := rfl
  omega
theorem odd_len {d : PyData} (h : OkO d) : d.shown.length ≤ 1004 := by
  obtain ⟨_, h2, _⟩ := h
  cases d with
  | tuple ds =>
    have h2 : piled (PyData.shownAll ds) ≤ 1000 := h2
    have l := tup_len (PyData.shownAll ds)
    simp only [PyData.shown]
    omega
  | _ => exact Nat.le_trans h2 (by decide)
theorem show2 {d : PyData} (h : OkO d) : (PyData.list [d, d]).showable = true ∧ (PyData.list [d, d]).shown.length ≤ sizeLine ∧ (PyData.list [d, d]).depth ≤ 60 := by
  have l := odd_len h
  obtain ⟨h1, h2, h3, _⟩ := h
  refine ⟨by simp only [PyData.showable, PyData.showableAll, h1, Bool.and_self], ?_, ?_⟩
  · have e := lst_len [d.shown, d.shown]
    rw [piled_cons, piled_cons, piled_nil] at e
    rw [sizeLine_eq]
    simp only [PyData.shown, PyData.shownAll]
    omega
  · simp only [PyData.depth, PyData.depthAll]
    omega
theorem b5 : ∀ b ∈ bases, PyData.eqv (.list [.str (kindB b)]) (.list [.str (kindB b)]) = true ∧ SeqAt.shaped (.list [.str (kindB b)]) = true ∧ kf kinds (flags b) = [kindB b] := by
  intro b hb
  simp only [bases, List.mem_cons, List.not_mem_nil, or_false] at hb
  rcases hb with rfl | rfl | rfl | rfl | rfl <;> exact ⟨by decide +kernel, by decide +kernel, by decide +kernel⟩
theorem c1_b : ∀ c ∈ cls1, c.1 ∈ bases := by
  intro c hc
  simp only [cls1, List.mem_cons, List.not_mem_nil, or_false] at hc
  rcases hc with rfl | rfl | rfl | rfl | rfl | rfl | rfl | rfl | rfl | rfl | rfl | rfl | rfl | rfl | rfl | rfl | rfl <;> simp [bases]
theorem c0_b : ∀ c ∈ cls0, c.1 ∈ bases := by
  intro c hc
  simp only [cls0, List.mem_cons, List.not_mem_nil, or_false] at hc
  rcases hc with rfl | rfl | rfl | rfl | rfl | rfl | rfl | rfl <;> simp [bases]
theorem c1_n : ∀ c ∈ cls1, (ownL c.2.1).count true = 1 := by decide +kernel
theorem c0_n : ∀ c ∈ cls0, (ownL c.2).count true = 1 := by decide +kernel
section
variable {P : Program} {w : World} {K : PySem.W.Frag} {mg : Str → Option Value} {base : Heap}
def spLaw (K : PySem.W.Frag) : Sp := fun vs H Q _ => ∃ (a : Addr) (ns : List Int), vs = [.ref a] ∧ SqL K H a (ns.map V.int) ∧ ns.length ≤ 63 ∧ ∀ H', Q (.bl true) H'
theorem ok_law (T : Tx K mg) : FnG P w K mg base CX0 8 (He.ga K "law") (spLaw K) := by
  refine mk_law T.d (fun vs H Q E h => ?_) (fun cdv A outer s H vs Q E hg hr h => ?_)
  · obtain ⟨a, ns, rfl, _⟩ := h
    rfl
  · obtain ⟨ad, ns, rfl, hs, hl, q⟩ := h
    have nd := sc_law.nd
    have zg := T.z "range" (by decide +kernel)
    have zr := T.z "repr" (by decide +kernel)
    have br : bootBuiltins "repr" = some (.builtin "repr") := by decide +kernel
    have hu := hr.units
    refine ⟨_, pss_cons (ps_set (i := 1) nd rfl (Or.inl rfl) (pe_callG (ok_pen T) (hr.mono (by decide)) hg (by rfl) (T.g "_law_pen" (by decide +kernel)) (kp__law_pen T.d) pass0 (pa_cons (pv 0) pa_nil)))
      (pss_cons (ps_for PassesOwn.never rfl (pi_range1 (by rfl) zg (pa_cons (pe_op op_add pe_int (pe_callB (call_min2 rfl) (by rfl) (T.z "min" (by decide +kernel)) (by decide +kernel) (pa_cons pe_int (pa_cons (pe_callB call_len_seq (by rfl) (T.z "len" (by decide +kernel)) (by decide +kernel) (pa_cons (pv 0) pa_nil)) pa_nil)))) pa_nil)) (pg_name (i := 2) nd rfl (.inl rfl))
        (pss_cons (ps_set (i := 3) nd rfl (Or.inl rfl) (pe_callG (ok_odd T) (hr.mono (by decide)) hg (by rfl) (T.g "_law_odd" (by decide +kernel)) (kp__law_odd T.d) pass0 (pa_cons (pv 1) pa_nil)))
        (pss_one (ps_for PassesOwn.never rfl (pi_list (pe_callG (ok_filled T) (hr.mono (by decide)) hg (by rfl) (T.g "_law_filled" (by decide +kernel)) (kp__law_filled T.d) pass0 (pa_cons (pv 3) pa_nil)))
          (pg_tup rfl (pgs_cons (pg_name (i := 4) nd rfl (.inl rfl)) (pgs_cons (pg_name (i := 5) nd rfl (.inl rfl)) (pgs_cons (pg_name (i := 6) nd rfl (.inl rfl)) (pgs_cons (pg_name (i := 7) nd rfl (.inl rfl)) pgs_nil)))))
          (pss_cons (ps_if (PW.pt (pw_or (pt_cmpR op_ne (pe_callB (call_reprO T.sm hg hu) (by rfl) zr br (pa_cons (pe_lst (pa_cons (pv 5) (pa_cons (pv 6) pa_nil))) pa_nil)) (pe_callB (call_reprO T.sm hg hu) (by rfl) zr br (pa_cons (pe_lst (pa_cons (pv 3) (pa_cons (pv 3) pa_nil))) pa_nil)) (nomark _))
              (pw_or1 (pt_cmpR (op_neO T.sm hu) (pe_callG (ok_kinds T) (hr.mono (by decide)) hg (by rfl) (T.g "_law_kinds" (by decide +kernel)) (kp__law_kinds T.d) pass0 (pa_cons (pv 4) pa_nil)) (pe_lst (pa_cons (pv 7) pa_nil)) (nomark _))))) pss_never pss_nil)
          (pss_one (ps_if (pt_cmpR op_ne (pe_bm PySem.F.plainAttrs_list PySem.F.slot_list_count PySem.F.type_list_count mt_bcount (pe_callG (ok_classes T) (hr.mono (by decide)) hg (by rfl) (T.g "_law_classes" (by decide +kernel)) (kp__law_classes T.d) pass0 (pa_cons (pv 4) pa_nil)) (pa_cons pe_bl pa_nil)) pe_int (nomark _)) pss_never pss_nil)))))))
      (pss_cons (ps_for PassesOwn.never rfl (pi_list (pe_callG0 (ok_bare T) (hr.mono (by decide)) hg (by rfl) (T.g "_law_bare" (by decide +kernel)) (kp__law_bare T.d) pass0))
          (pg_tup rfl (pgs_cons (pg_name (i := 4) nd rfl (.inl rfl)) (pgs_cons (pg_name (i := 7) nd rfl (.inl rfl)) pgs_nil)))
          (pss_one (ps_if (PW.pt (pw_or (pt_cmpR (op_neO T.sm hu) (pe_callG (ok_kinds T) (hr.mono (by decide)) hg (by rfl) (T.g "_law_kinds" (by decide +kernel)) (kp__law_kinds T.d) pass0 (pa_cons (pv 4) pa_nil)) (pe_lst (pa_cons (pv 7) pa_nil)) (nomark _))
              (pw_or1 (pt_cmpR op_ne (pe_bm PySem.F.plainAttrs_list PySem.F.slot_list_count PySem.F.type_list_count mt_bcount (pe_callG (ok_classes T) (hr.mono (by decide)) hg (by rfl) (T.g "_law_classes" (by decide +kernel)) (kp__law_classes T.d) pass0 (pa_cons (pv 4) pa_nil)) (pa_cons pe_bl pa_nil)) pe_int (nomark _))))) pss_never pss_nil)))
      (pss_one (ps_ret pe_bl)))), ?_⟩
    refine ⟨_, rfl, ad, ns, rfl, hs, hl, fun d H1 s1 hd1 pen1 => ?_⟩
    have hs1 := s1.seq hs
    refine ⟨_, rfl, ad, _, rfl, .inl hs1, _, _, rfl, _, _, rfl, rfl, _, rfl, ?_, ?_, ?_⟩
    · split <;> omega
    · split <;> omega
    refine for_range (lo := 0) (fun i σ H' => ∃ v2 v3 v4 v5 v6 v7 : Option V, PenAt H' d (100 * (i : Int)) ∧ σ = [some (.ref ad), some (.ref d), v2, v3, v4, v5, v6, v7]) ⟨_, _, _, _, _, _, pen1.mono (by omega), rfl⟩ ?_ ?_
    · rintro i σ H0 hi ⟨v2, v3, v4, v5, v6, v7, pen0, rfl⟩
      have hi12 : i < 13 := by
        revert hi
        split <;> intro hi <;> omega
      clear hi
      refine ⟨_, rfl, d, _, rfl, pen0, by omega, fun x dd H2 ho oo bt pen2 => ?_⟩
      obtain ⟨w1, w2, w3⟩ := show2 oo
      refine ⟨_, rfl, x, rfl, fun l rs H3 R => ⟨l, rfl, ⟨_, SqL.of R.g.l⟩, for_list (K := K) (a := l) (xs := rs.map V.ref) (fun j σ Hx => ∃ v2 v4 v5 v6 v7 : Option V, Same H3 Hx ∧ σ = [some (.ref ad), some (.ref d), v2, some x, v4, v5, v6, v7]) ⟨_, _, _, _, _, fun _ _ e => e, rfl⟩ ?_ ?_ ?_⟩⟩
      · rintro j σ Hx _ ⟨v2, v4, v5, v6, v7, sx, rfl⟩
        exact SqL.of (sx _ _ R.g.l)
      · rintro j y σ Hx hj ⟨v2, v4, v5, v6, v7, sx, rfl⟩
        rw [List.getElem?_map] at hj
        cases er : rs[j]? with
        | none => rw [er] at hj; cases hj
        | some r =>
          rw [er] at hj
          cases hj
          have jl := (List.getElem?_eq_some_iff.mp er).1
          have jc : j < cls1.length := by rw [← R.n]; exact jl
          have ec : cls1[j]? = some cls1[j] := List.getElem?_eq_getElem jc
          have hc : cls1[j] ∈ cls1 := List.getElem_mem jc
          have ro := (R.r j r _ er ec).same sx
          have hx0 : Do K Hx x dd := (ho.but (But.same (fun b o e => sx _ _ (R.g.s b o e)))).do_
          revert ro hc
          generalize cls1[j] = c
          intro hc ro
          have EC := T.e1 c hc
          have hb := c1_b c hc
          have hn := c1_n c hc
          obtain ⟨k1, k2, k3⟩ := b5 c.1 hb
          obtain ⟨e, dx, h1, h2, h3⟩ := ro
          have E0 : EV Hx e (He.ga K c.2.1) (some dx) := ⟨h2, fun d' z => by cases z; exact ⟨_, h3⟩⟩
          have hxs : ∀ H', Same Hx H' → Do K H' x dd := fun H' s' => (ho.but (But.same (fun b o e => s' _ _ (sx _ _ (R.g.s b o e))))).do_
          refine ⟨r, _, rfl, .inl (.inl h1), rfl, _, _, rfl, _, _, rfl, _, _, rfl, _, _, rfl, rfl, ?_⟩
          refine ⟨_, rfl, _, rfl, by show 2 ≤ sizeLine; decide, fun l1 n1 => ?_⟩
          have u1 := same_up (o := .lst [x, x]) n1
          refine ⟨.ref l1, .list [dd, dd], rfl, .lst (SqL.of upd_same) (.cons (hxs _ u1) (.cons (hxs _ u1) .nil)), w1, w2, w3, ?_⟩
          refine ⟨_, rfl, _, rfl, by show 2 ≤ sizeLine; decide, fun l2 n2 => ?_⟩
          have u2 := sp1 (o := .lst [x, x]) u1 n2
          refine ⟨.ref l2, .list [dd, dd], rfl, .lst (SqL.of upd_same) (.cons (hxs _ u2) (.cons (hxs _ u2) .nil)), w1, w2, w3, rfl, _, rfl, ?_⟩
          refine ifF (by rw [decide_eq_true rfl]; rfl) ?_
          refine ⟨_, rfl, e, some dx, c.1, c.2.1, [c.2.2], rfl, E0.same u2, EC, hb, fun p H5 s5 n5 h5 => ?_⟩
          have u5 : Same Hx H5 := fun b o z => s5 _ _ (u2 b o z)
          rw [k3] at h5
          refine ⟨_, rfl, by show 1 ≤ sizeLine; decide, fun l6 n6 => ?_⟩
          have u6 := sp1 (o := .lst [.str (kindB c.1)]) u5 n6
          refine ⟨.list [.str (kindB c.1)], .list [.str (kindB c.1)], .lst (SqL.of (by rw [upd_ne (ne_of_none h5 n6)]; exact h5)) (.cons (.str _) .nil), .lst (SqL.of upd_same) (.cons (.str _) .nil), k2, k2, _, rfl, ?_⟩
          refine ifF (by rw [k1]; rfl) ?_
          refine ⟨_, rfl, e, some dx, c.1, c.2.1, [c.2.2], rfl, E0.same u6, EC, fun p7 H7 s7 n7 h7 => ?_⟩
          have u7 : Same Hx H7 := fun b o z => s7 _ _ (u6 b o z)
          refine ⟨.inl ⟨rfl, _, SqL.of h7⟩, p7, ownL c.2.1, true, rfl, rfl, SqL.of h7, rfl, _, rfl, ?_⟩
          refine ifF (by rw [hn]; decide) ?_
          exact ⟨_, _, _, _, _, fun b o z => u7 _ _ (sx b o z), rfl⟩
      · rintro σ Hx ⟨v2, v4, v5, v6, v7, sx, rfl⟩
        exact ⟨_, _, _, _, _, _, ((pen2.same R.g.s).same sx).mono (by omega), rfl⟩
    · rintro σ H0 ⟨v2, v3, v4, v5, v6, v7, pen0, rfl⟩
      refine ⟨rfl, fun l rs H3 R hl3 => ⟨l, rfl, ⟨_, SqL.of hl3⟩, for_list (K := K) (a := l) (xs := rs.map V.ref) (fun j σ Hx => ∃ v2 v3 v4 v5 v6 v7 : Option V, Same H3 Hx ∧ σ = [some (.ref ad), some (.ref d), v2, v3, v4, v5, v6, v7]) ⟨_, _, _, _, _, _, fun _ _ e => e, rfl⟩ ?_ ?_ ?_⟩⟩
      · rintro j σ Hx _ ⟨v2, v3, v4, v5, v6, v7, sx, rfl⟩
        exact SqL.of (sx _ _ hl3)
      · rintro j y σ Hx hj ⟨v2, v3, v4, v5, v6, v7, sx, rfl⟩
        rw [List.getElem?_map] at hj
        cases er : rs[j]? with
        | none => rw [er] at hj; cases hj
        | some r =>
          rw [er] at hj
          cases hj
          have jl := (List.getElem?_eq_some_iff.mp er).1
          have jc : j < cls0.length := by rw [← R.n]; exact jl
          have ec : cls0[j]? = some cls0[j] := List.getElem?_eq_getElem jc
          have hc : cls0[j] ∈ cls0 := List.getElem_mem jc
          have ro := (R.r j r _ er ec).same sx
          revert ro hc
          generalize cls0[j] = c
          intro hc ro
          have EC := T.e0 c hc
          have hb := c0_b c hc
          have hn := c0_n c hc
          obtain ⟨k1, k2, k3⟩ := b5 c.1 hb
          obtain ⟨e, h1, h2⟩ := ro
          have E0 : EV Hx e (He.ga K c.2) none := ⟨h2, fun d' z => by cases z⟩
          refine ⟨r, _, rfl, .inl (.inl h1), rfl, _, _, rfl, _, _, rfl, rfl, ?_⟩
          refine ⟨_, rfl, e, none, c.1, c.2, [], rfl, E0, EC, hb, fun p H5 s5 n5 h5 => ?_⟩
          rw [k3] at h5
          refine ⟨_, rfl, by show 1 ≤ sizeLine; decide, fun l6 n6 => ?_⟩
          have u6 := sp1 (o := .lst [.str (kindB c.1)]) s5 n6
          refine ⟨.list [.str (kindB c.1)], .list [.str (kindB c.1)], .lst (SqL.of (by rw [upd_ne (ne_of_none h5 n6)]; exact h5)) (.cons (.str _) .nil), .lst (SqL.of upd_same) (.cons (.str _) .nil), k2, k2, _, rfl, ?_⟩
          refine ifF (by rw [k1]; rfl) ?_
          refine ⟨_, rfl, e, none, c.1, c.2, [], rfl, E0.same u6, EC, fun p7 H7 s7 n7 h7 => ?_⟩
          have u7 : Same Hx H7 := fun b o z => s7 _ _ (u6 b o z)
          refine ⟨.inl ⟨rfl, _, SqL.of h7⟩, p7, ownL c.2, true, rfl, rfl, SqL.of h7, rfl, _, rfl, ?_⟩
          refine ifF (by rw [hn]; decide) ?_
          exact ⟨_, _, _, _, _, _, fun b o z => u7 _ _ (sx b o z), rfl⟩
      · rintro σ Hx ⟨v2, v3, v4, v5, v6, v7, sx, rfl⟩
        exact q Hx
end
end K00

namespace K00
open PySem PySem.Spec PyProof.Rows L2 Ver Num PySem.HandSPX
/-! ### the head: what it tells -/
abbrev R : PySem.W.OpenRow := PySem.W.OpenLaw.row PySem.Challenge.rw_firstanswers_k00_errors
def ads (g : Addr → Option Obj) : List Addr := (PySem.cStatics :: sysModules :: He.asD g 5).eraseDups
def KF (g : Addr → Option Obj) : PySem.W.Frag := He.frG g (ads g)
/-- the module table -/
def smB (K : PySem.W.Frag) : Bool := match K.lookup sysModules with
  | some o => match o.cls with
    | .type s => decide (s = "dict")
    | _ => false
  | none => false
theorem smB_ok {K : PySem.W.Frag} (h : smB K = true) : Sm K := by
  unfold smB at h
  split at h
  · rename_i o e
    split at h
    · rename_i s e2
      exact ⟨o, e, by rw [e2, of_decide_eq_true h]⟩
    · cases h
  · cases h
/-- an error over b -/
def oexB (K : PySem.W.Frag) (b : EB) (C : Addr) : Bool := match K.lookup C with
  | some ⟨.type T, _, .cls cd, sl⟩ => (match cd.mro, sl.toList with
    | .ref C' :: bm, [_, _, _, _, some (.builtin n), _] => decide (T = "type") && (decide (C' = C) && (decide (n = b.nw) && (!cd.hasDel && (cd.hasDict && bm == b.bm))))
    | _, _ => false)
  | _ => false
theorem oexB_ok {K : PySem.W.Frag} {b : EB} {C : Addr} (h : oexB K b C = true) : ∃ nm q N bs sn sub ab col dd k0 k1 k2 k3 k5, K.lookup C = some (excClassObj nm q C N bs b.bm true sn sub ab col dd k0 k1 k2 k3 k5 b.nw) := by
  unfold oexB at h
  split at h
  · rename_i T dd cd sl ho
    obtain ⟨nm, bs, mro, ns, qn, hd, sn, sb, ab, col, del⟩ := cd
    obtain ⟨l⟩ := sl
    split at h
    · rename_i C' bm k0 k1 k2 k3 n k5 hm hs
      obtain ⟨h0, h⟩ := He.ba h
      obtain ⟨h1, h⟩ := He.ba h
      obtain ⟨h2, h⟩ := He.ba h
      obtain ⟨h3, h⟩ := He.ba h
      obtain ⟨h4, h5⟩ := He.ba h
      have e0 := of_decide_eq_true h0
      have e1 := of_decide_eq_true h1
      have e2 := of_decide_eq_true h2
      have e3 : del = false := by simpa using h3
      have e4 : hd = true := h4
      have e5 : bm = b.bm := beq_iff_eq.mp h5
      have em : mro = .ref C' :: bm := hm
      have es : l = [k0, k1, k2, k3, some (.builtin n), k5] := hs
      subst e0 e1 e2 e3 e4 e5 em es
      exact ⟨nm, qn, ns, bs, sn, sb, ab, col, dd, k0, k1, k2, k3, k5, ho⟩
    · cases h
  · cases h
def ecB (K : PySem.W.Frag) (b : EB) (x : Str) (fs : List Str) : List Bool :=
  let C := He.ga K x
  [oexB K b C, He.eqO (PySem.W.findIn K (.ref C) "__setattr__") (some (some (.builtin "object.__setattr__"))), PySem.W.keepIn K (.ref C), fs.all fun f => He.eqO (PySem.W.findIn K (.ref C) f) (some none),
  He.eqO (PySem.W.findIn K (.ref C) "__init__") (some (some (.ref (He.ma K C "__init__")))), decide (PySem.W.typeIn K (.ref (He.ma K C "__init__")) = some (.type "function")),
  He.eqO (PySem.W.findIn K (.ref C) "__getattribute__") (some (some (.builtin "BaseException.__getattribute__"))), He.eqO (PySem.W.findIn K (.ref C) "__getattr__") (some none), decide (PySem.W.subIn K (.ref C) (.type "BaseException") = some true), PySem.W.hasDictIn K C,
  He.eqO (PySem.W.findIn K (.ref C) "__class__") (some (some (.builtin "object.__class__"))), decide (PySem.W.mroIn K C (.type "object") = some true),
  bNames.all fun n => decide (PySem.W.kitOne K (.ref C) (.type n) = some (tyB b n)), cNames.all fun y => decide (PySem.W.kitOne K (.ref C) (.ref (He.ga K y)) = some (decide (y = x)))]
def vvB (K : PySem.W.Frag) (b : EB) : Bool := match PySem.W.findCls K (.type b.B) (.type "type") "__init__" with
  | some (.val (.builtin n)) => decide (n = b.it)
  | _ => false
theorem vvB_ok {K : PySem.W.Frag} {b : EB} (h : vvB K b = true) : PySem.W.findCls K (.type b.B) (.type "type") "__init__" = some (.val (.builtin b.it)) := by
  unfold vvB at h
  split at h
  · rename_i n e
    rw [e, of_decide_eq_true h]
  · cases h
def x3 (K : PySem.W.Frag) : List Bool := [smB K, He.eqO (PySem.W.specialIn K (.builtin "object.__class__") "__get__") (some (some (.builtin "getset_descriptor.__get__"))), decide (PySem.W.takesIn K (.builtin "object.__class__") = some true), bases.all fun b => vvB K b]
def ex (K : PySem.W.Frag) : Bool := (x3 K).all id && ((cls1.all fun c => (ecB K c.1 c.2.1 [c.2.2]).all id) && (cls0.all fun c => (ecB K c.1 c.2 []).all id))
def hook : PySem.W.Hook where
  α := He.AlD × Bool
  obs := fun s => (He.obsD fa fn (KF s.heap.get?), ex (KF s.heap.get?))
  val := fun _ => (He.valD fn, true)
  says := fun _ h => ∃ K : PySem.W.Frag, K.In h ∧ He.SaysD fa fn K ∧ ex K = true
  of := fun _ _ e => ⟨_, He.frG_in, congrArg (fun z : He.AlD × Bool => z.1) e, congrArg (fun z : He.AlD × Bool => z.2) e⟩
  keeps := fun _ _ _ ⟨K, hK, c⟩ k => ⟨K, PySem.W.Frag.In.keeps hK k, c⟩
def ob (s : PySem.W.SharedT) : He.AlD × Bool := (He.obsD fa fn (KF (HandSHeadRun.getT s)), ex (KF (HandSHeadRun.getT s)))
theorem ob_eq (s : PySem.W.SharedT) : ob s = hook.obs s.abs := by
  have e : HandSHeadRun.getT s = s.abs.heap.get? := funext (HandSHeadRun.getT_eq s)
  unfold ob
  rw [e]
  rfl
def lo : List Str := (["InvalidPrime", "InvalidNumber", "InvalidLetters", "InvalidCost", "InvalidWord", "InvalidCount", "InvalidMachine", "InvalidAnswer", "InvalidCoordinates", "InvalidText", "InvalidRow", "OtherField", "OtherLetters"] : List Str) ++ (["TooSmall", "Contradiction", "OutOfRange", "NotKnown", "NotNow", "Nothing", "Done", "NoQuotient", "NotFinite", "TooMany", "TooLong", "LimitReached", "_law_pen", "_law_draw", "_law_pick", "_law_odd", "_law_filled", "_law_bare", "_law_kinds", "_law_classes"] : List Str)
abbrev qv : Program := PySem.W.view R.prog [35]
end K00

namespace K00
open PySem PySem.Spec PyProof.Rows L2 Ver Num
theorem run (w : World) : HandSHeadRun.RunEqI R qv hook ob 8000 lo w := by
  unfold HandSHeadRun.RunEqI
  kernel_rfl
end K00

namespace K00
open PySem PySem.Spec PyProof.Rows L2 Ver Num PySem.HandSPX
theorem all_cons_ok {b : Bool} {l : List Bool} (h : (b :: l).all id = true) : b = true ∧ l.all id = true := He.ba h
theorem ec_of {K : PySem.W.Frag} {b : EB} {x : Str} {fs : List Str} (e : (ecB K b x fs).all id = true) (hn : PySem.W.specialIn K (.builtin "object.__class__") "__get__" = some (some (.builtin "getset_descriptor.__get__"))) (ht : PySem.W.takesIn K (.builtin "object.__class__") = some true) : EC K b x fs := by
  obtain ⟨a1, e⟩ := all_cons_ok e
  obtain ⟨a2, e⟩ := all_cons_ok e
  obtain ⟨a3, e⟩ := all_cons_ok e
  obtain ⟨a4, e⟩ := all_cons_ok e
  obtain ⟨a5, e⟩ := all_cons_ok e
  obtain ⟨a6, e⟩ := all_cons_ok e
  obtain ⟨a7, e⟩ := all_cons_ok e
  obtain ⟨a8, e⟩ := all_cons_ok e
  obtain ⟨a9, e⟩ := all_cons_ok e
  obtain ⟨a10, e⟩ := all_cons_ok e
  obtain ⟨a11, e⟩ := all_cons_ok e
  obtain ⟨a12, e⟩ := all_cons_ok e
  obtain ⟨a13, e⟩ := all_cons_ok e
  obtain ⟨a14, e⟩ := all_cons_ok e
  exact
    { ox := ⟨oexB_ok a1, He.eqO_ok a2, a3⟩
      nf := fun f hf => He.eqO_ok (List.all_eq_true.mp a4 f hf)
      iC := He.eqO_ok a5
      tI := of_decide_eq_true a6
      xf := ⟨He.eqO_ok a7, He.eqO_ok a8, of_decide_eq_true a9, a10⟩
      ec := ⟨He.eqO_ok a7, He.eqO_ok a8, of_decide_eq_true a9, a10, He.eqO_ok a11, hn, ht, of_decide_eq_true a12⟩
      ty := fun n hn => of_decide_eq_true (List.all_eq_true.mp a13 n hn)
      own := fun y hy => of_decide_eq_true (List.all_eq_true.mp a14 y hy) }
theorem tx_of {K : PySem.W.Frag} {h : Heap} {mg : Str → Option Value} (X : K.In h) (G : h.Ns mainGlobals mg) (c : He.SaysD fa fn K) (e : ex K = true) : Tx K mg := by
  obtain ⟨e1, e⟩ := He.ba e
  obtain ⟨e2, e3⟩ := He.ba e
  obtain ⟨c1, e1⟩ := all_cons_ok e1
  obtain ⟨c2, e1⟩ := all_cons_ok e1
  obtain ⟨c3, e1⟩ := all_cons_ok e1
  obtain ⟨c4, e1⟩ := all_cons_ok e1
  exact
    { d := c
      g := fun x hx => He.glo_ok X G (He.SaysD.facts c (List.mem_append_left _ (List.mem_map_of_mem hx)))
      z := fun x hx => He.free_ok X G (He.SaysD.facts c (List.mem_append_right _ (List.mem_map_of_mem hx)))
      sm := smB_ok c1
      e1 := fun c hc => ec_of (List.all_eq_true.mp e2 c hc) (He.eqO_ok c2) (of_decide_eq_true c3)
      e0 := fun c hc => ec_of (List.all_eq_true.mp e3 c hc) (He.eqO_ok c2) (of_decide_eq_true c3)
      vV := fun b hb => vvB_ok (List.all_eq_true.mp c4 b hb) }
end K00
open PySem PySem.W PySem.Calls PyProof.Rows
theorem PySem.Challenge.cw_firstanswers_k00_errors_holds : PySem.Challenge.rw_firstanswers_k00_errors.Holds := by
  w_on; o_law
  refine HandSHeadRun.head_imp (r := K00.R) (q := K00.qv) (H := K00.hook) (ob := K00.ob) (M := 8000) (loose := K00.lo) (d := HandSHeadRun.topDef K00.R.prog 35) (kwd := []) K00.ob_eq K00.run
    (by kernel_rfl) (by kernel_rfl) (by kernel_rfl) (by rfl) (by first | assumption | decide +kernel) (by decide +kernel) ⟨rfl, rfl, rfl, rfl, rfl, by decide +kernel⟩ ?hw ?hc
  case hw => w_witness2
  case hc =>
    refine Ver.walkG (l := PySem.Challenge.rw_firstanswers_k00_errors) (n := 63) (k := 8) rfl (by decide) (by kernel_rfl) ⟨rfl, by decide, by decide⟩ ?F
    intro w mg fa h Y G hmg0
    obtain ⟨K, KX, c, e⟩ := Y
    have hmg : mg ("law" : PySem.Str) = some (.ref fa) := by
      have q : (HandSHeadRun.topDef K00.R.prog 35).name = ("law" : PySem.Str) := by kernel_rfl
      rw [← q]
      exact hmg0
    have T := K00.tx_of KX G c e
    have ef := hmg.symm.trans (T.g "law" (by decide +kernel))
    cases ef
    exact ⟨K, K00.spLaw K, KX, fun H a ns hl _ hS => ⟨a, ns, rfl, hS, hl, fun _ => rfl⟩, fun base h1 h2 => K00.ok_law T⟩
