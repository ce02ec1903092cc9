import PyProof.Rows.All
import Wide.All
import OpenK.AllK
import Wide.FinOn
import PySem.Challenge.RW_firstanswers_k05_whole_rules_of_numbers
import HandS.Base
import HandS.Call
import HandS.List
import HandS.Ends
import HandS.Dict
import HandS.More
import HandS.Defaults
import HandS.Words
import HandS.Star
import PyProof.ReprRoads
import HandS.HeadHook1
import HandS.HeadHook2
import HandS.Wide
import HandS.Gcd
import HandS.Exc
import HandS.ExcInit
import HandS.WordsExc
import KE.KExcInit
import HandS.Property
import HandS.ExcIs
import HandS.IsInst
import HandS.Iter
import HandS.WordsList
import PyProof.SumWalkG
import PyProof.WalksMore
import HandS.Comp
import KE.BitLaws
import HandS.Text
import HandS.TryOnly
import HandS.Head0
import HandS.Head1
import HandS.Head2
import HandS.Head3
import HandS.HeadHook4
set_option Elab.async false
set_option linter.all false
set_option maxRecDepth 100000
set_option maxHeartbeats 0
/-! Defs that show data (repr): their promise wants that no show is under way around them. -/
namespace Ver
open PySem PySem.Spec PyProof.Rows L2
/-- a promise for callers around whom nothing is being shown -/
def FnG (P : Program) (w : World) (K : PySem.W.Frag) (mg : Str → Option Value) (base : Heap) (CX : CXT) (k : Nat) (f : Addr) (sp : Sp) : Prop :=
  ∀ (A : Around) (outer : List Env) (s : Shared) (H : Hp) (us : List Value) (vs : List V) (Q : VK) (E : XK), A.guards = some [] → Room k A →
    Env0 P w K mg base A outer s H → Vals vs us → sp vs H Q E → codeAny (model P w) A (.call (.ref f) ⟨us, []⟩) (CR CX outer P w H s Q E) s
section
variable {P : Program} {w : World} {K : PySem.W.Frag} {mg : Str → Option Value} {base : Heap} {CX : CXT} {k : Nat} {f : Addr} {fd : FuncData} {sp : Sp}
variable {x qual : Str} {params : Arguments} {body : List Stmt} {scope : Scope} {N ps : List Str} {kws : List (Str × V)}
theorem FnG.ofR (F : FnR P w K mg base CX k f sp) : FnG P w K mg base CX k f sp := fun A outer s H us vs Q E _ hr e0 r h => F A outer s H us vs Q E hr e0 r h
theorem FnG.mono {j : Nat} (F : FnG P w K mg base CX j f sp) (h : j ≤ k) : FnG P w K mg base CX k f sp := fun A outer s H us vs Q E g hr e0 r q => F A outer s H us vs Q E g (hr.mono h) e0 r q
/-- the rule for such a def, its body as a term -/
theorem okG (F : FunD K x qual params body scope [] kws f fd) (S : FnScope N ps scope)
    (hb : ∀ (s : Shared) (us : List Value), us.length = ps.length → BindsTo s fd ⟨us, []⟩ (ps.zip us)) (len : ∀ vs H Q E, sp vs H Q E → vs.length = ps.length)
    (hbody : ∀ (cdv : Value) (A : Around) (outer : List Env) (s : Shared) (H : Hp) (vs : List V) (Q : VK) (E : XK), A.guards = some [] → Room k (A.deeper (envOfC qual scope s.heap.objs.size f cdv)) → sp vs H Q E →
      ∃ t, PSs (cxOf CX P w K mg base N qual scope f cdv A outer s H E) body t ∧ t { nx := fun _ H' => Q .non H', rt := Q } (start N vs) H) : FnG P w K mg base CX (k + 1) f sp := by
  obtain ⟨⟨oc, od, dV, kV, doc, pm, an, cdv, ct, osl, rfl, lk, hcd, _⟩, _⟩ := F
  intro A outer s H us vs Q E hg hr e0 r hsp
  have hl := len _ _ _ _ hsp
  refine StX.run_bnd (G := fun xs H2 => xs = vs ∧ H2 = H) lk hcd S hr e0 (fun A' Ex Q' q => ?_) fun s2 H2 xs g hr' => ?_
  · exact hb s us (by rw [← r.length]; exact hl) _ A' Ex Q' (q s H vs us e0 Un.refl rfl (fun _ _ z => z) r hl ⟨rfl, rfl⟩)
  · obtain ⟨rfl, rfl⟩ := g
    exact hbody cdv A outer s2 H2 xs Q E hg hr' hsp
end
section
variable {X : Cx} {CX : CXT} {k : Nat} {f : Addr} {sp : Sp} {E : XK} {x : Str} {p pos : Pos} {e : Expr} {es : List Expr} {t : TA}
/-- f(e, ..) -/
theorem pe_callG (F : FnG X.prog X.w X.K X.mg X.base CX k f sp) (hr : Room k X.A) (hgd : X.A.guards = some []) (hg : Gl X x) (hm : X.mg x = some (.ref f)) (hk : PySem.W.keepIn X.K (.ref f) = true) (hx : Passes CX X E)
    (ha : PA X (e :: es) t) (hdb : (x == ("__debug__" : Str)) = false := by decide) (he : starEach (e :: es) X.env = (false, eval e X.env) :: starEach es X.env := by rfl)
    (hpl : (backTo pos (starEach es X.env)).any (·.1) = false := by rfl) : PE X (.Call (.Name x p) (e :: es) [] pos) (fun σ H Q => t σ H fun vs H1 => sp vs H1 Q E) := by
  refine ⟨fun pins s σ H Q I h => wpAny_Call_Name_kw (ld_glob I hg hm (PySem.W.callWith_K (h₀ := X.base) I.ok.mod.kin hk (thn (ha.run pos pins s σ H _ I h) fun us s1 z => ?_) he hpl) hdb)⟩
  obtain ⟨vs, H1, I1, r, q⟩ := z
  refine ⟨I1.kIn, wpAny_call (codeAny_mono (F X.A X.stack s1 H1 us vs Q E hgd hr I1.env0 r q) fun rs s' hq => ?_)⟩
  match rs, hq with
  | .error e', hq => exact hx pins σ H1 s1 e' s' I1 hq
  | .ok (.ret u), hq => exact I1.after hq
  | .ok .next, hq => exact hq.elim
  | .ok .brk, hq => exact hq.elim
  | .ok .cont, hq => exact hq.elim
end
/-- the same rule for a def that lets no exception out -/
theorem ok0 {P : Program} {w : World} {K : PySem.W.Frag} {mg : Str → Option Value} {base : Heap} {k : Nat} {f : Addr} {fd : FuncData} {sp : Sp} {x qual : Str} {params : Arguments} {body : List Stmt} {scope : Scope} {N ps : List Str} {kws : List (Str × V)}
    (F : FunD K x qual params body scope [] kws f fd) (S : FnScope N ps scope)
    (hb : ∀ (s : Shared) (us : List Value), us.length = ps.length → BindsTo s fd ⟨us, []⟩ (ps.zip us)) (len : ∀ vs H Q E, sp vs H Q E → vs.length = ps.length)
    (hbody : ∀ (cdv : Value) (A : Around) (outer : List Env) (s : Shared) (H : Hp) (vs : List V) (Q : VK) (E : XK), A.guards = some [] → Room k (A.deeper (envOfC qual scope s.heap.objs.size f cdv)) → sp vs H Q E →
      ∃ t, PSs (cxOf CX0 P w K mg base N qual scope f cdv A outer s H E).nox body t ∧ t { nx := fun _ H' => Q .non H', rt := Q } (start N vs) H) : FnG P w K mg base CX0 (k + 1) f sp :=
  okG F S hb len fun cdv A outer s H vs Q E hg hr h => by
    obtain ⟨t, ht, q⟩ := hbody cdv A outer s H vs Q E hg hr h
    exact ⟨t, ht.nox, q⟩
section
variable {X : Cx} {CX : CXT} {k : Nat} {f C : Addr} {sp : Sp} {E : XK} {x m : Str} {p pos apos : Pos} {e o : Expr} {es : List Expr} {t : TA} {ta : TE} {pins : List (Addr × Obj)} {σ : L2.St} {H : Hp} {s : Shared} {Q : VK} {us : List Value} {vs : List V}
/-- the callee's run, seen by the caller -/
theorem runG (F : FnG X.prog X.w X.K X.mg X.base CX k f sp) (hr : Room k X.A) (hgd : X.A.guards = some []) (hx : Passes CX X E) (I : Inv X pins σ H s) (r : Vals vs us) (h : sp vs H Q E) :
    wpAny (model X.prog X.w) X.A (call (.ref f) us) (EP X pins σ Q) X.xe s :=
  wpAny_call (codeAny_mono (F X.A X.stack s H us vs Q E hgd hr I.env0 r h) fun rs s' hq => by
    match rs, hq with
    | .error e', hq => exact hx pins σ H s e' s' I hq
    | .ok (.ret u), hq => exact I.after hq
    | .ok .next, hq => exact hq.elim
    | .ok .brk, hq => exact hq.elim
    | .ok .cont, hq => exact hq.elim)
/-- f() -/
theorem pe_callG0 (F : FnG X.prog X.w X.K X.mg X.base CX k f sp) (hr : Room k X.A) (hgd : X.A.guards = some []) (hg : Gl X x) (hm : X.mg x = some (.ref f)) (hk : PySem.W.keepIn X.K (.ref f) = true) (hx : Passes CX X E)
    (hdb : (x == ("__debug__" : Str)) = false := by decide) : PE X (.Call (.Name x p) [] [] pos) (fun _ H Q => sp [] H Q E) :=
  ⟨fun pins s σ H Q I h => wpAny_Call_Name_kw (ld_glob I hg hm (PySem.W.callWith_K0 I.kIn hk (runG (us := []) F hr hgd hx I .nil h)) hdb)⟩
/-- o.m(e, ..) of an instance of the class at C or of any class that has the method at f -/
def tMethG (K : PySem.W.Frag) (m : Str) (f : Addr) (sp : Sp) (E : XK) (ta : TE) (t : TA) : TE := fun σ H Q => ta σ H fun x H1 => ∃ a C dx fs, x = .ref a ∧ H1 a = some (.ins C dx fs) ∧ Cls K C ∧ Meth K C m f ∧ fs.lookup m = none ∧
  t σ H1 fun vs H2 => sp (.ref a :: vs) H2 Q E
theorem pe_methG {pl : Sem Bool} (he : PE X o ta) (hk : PySem.W.keepIn X.K (.ref f) = true) (F : FnG X.prog X.w X.K X.mg X.base CX k f sp) (hr : Room k X.A) (hgd : X.A.guards = some []) (hx : Passes CX X E) (ha : PA X (e :: es) t)
    (hst : starEach (e :: es) X.env = (false, eval e X.env) :: starEach es X.env := by rfl) (hpl : (backTo pos (starEach es X.env)).any (·.1) = false := by rfl)
    (ht : eval (.Call (.Attribute o m apos) (e :: es) [] pos) X.env = (do
      let ov ← eval o X.env
      standAt apos.atName
      let (g, first) ← holding [ov] (getMethod ov m pl)
      callWith pos g first (backTo pos (starEach (e :: es) X.env)) (backToKw pos (keywordEach [] X.env))) := by rfl) :
    PE X (.Call (.Attribute o m apos) (e :: es) [] pos) (tMethG X.K m f sp E ta t) := by
  refine ⟨fun pins s σ H Q I h => PySem.W.methodCall_KW (pl := pl) (thn (he.run pins s σ H _ I h) fun u s1 z => ?_) ht⟩
  obtain ⟨x, H1, I1, rx, a, C, dx, fs, rfl, ea, c, hm, l, q⟩ := z
  cases (show u = Value.ref a from rx)
  refine getmeth_ok I1 ea c hm l (PySem.W.callWith_K (first := [.ref a]) (h₀ := X.base) I.ok.mod.kin hk (thn (ha.run pos pins s1 σ H1 _ I1 q) fun us s2 y => ?_) hst hpl)
  obtain ⟨vs, H2, I2, r, q2⟩ := y
  exact ⟨I2.kIn, runG (us := .ref a :: us) (vs := .ref a :: vs) F hr hgd hx I2 (.cons rfl r) q2⟩
/-- o.m() -/
theorem pe_methG0 {pl : Sem Bool} (he : PE X o ta) (hk : PySem.W.keepIn X.K (.ref f) = true) (F : FnG X.prog X.w X.K X.mg X.base CX k f sp) (hr : Room k X.A) (hgd : X.A.guards = some []) (hx : Passes CX X E)
    (ht : eval (.Call (.Attribute o m apos) [] [] pos) X.env = (do
      let ov ← eval o X.env
      standAt apos.atName
      let (g, first) ← holding [ov] (getMethod ov m pl)
      callWith pos g first (backTo pos (starEach [] X.env)) (backToKw pos (keywordEach [] X.env))) := by rfl) :
    PE X (.Call (.Attribute o m apos) [] [] pos) (tMethG X.K m f sp E ta tNil) := by
  refine ⟨fun pins s σ H Q I h => PySem.W.methodCall_KW (pl := pl) (thn (he.run pins s σ H _ I h) fun u s1 z => ?_) ht⟩
  obtain ⟨x, H1, I1, rx, a, C, dx, fs, rfl, ea, c, hm, l, q⟩ := z
  cases (show u = Value.ref a from rx)
  exact getmeth_ok I1 ea c hm l (PySem.W.callWith_K0 (first := [.ref a]) I1.kIn hk (runG (us := [.ref a]) (vs := [.ref a]) F hr hgd hx I1 (.cons rfl .nil) q))
theorem made_guards {A : Around} (h : A.guards = some []) (C : Addr) (us : List Value) : (A.under (.builtin "type.__call__" ⟨.ref C :: us, []⟩)).guards = some [] := by
  show pushGuards (Code.builtin "type.__call__" ⟨.ref C :: us, []⟩).guards A.guards = some []
  rw [h]
  first
    | rfl
    | decide +kernel
/-- C(e, ..) -/
theorem pe_makeG (M : Mk X.K C f) (F : FnG X.prog X.w X.K X.mg X.base CX k f sp) (hr : Room (k + 1) X.A) (hgd : X.A.guards = some []) (hg : Gl X x) (hm : X.mg x = some (.ref C)) (hx : Passes CX X E) (ha : PA X (e :: es) t)
    (hdb : (x == ("__debug__" : Str)) = false := by decide) (he : starEach (e :: es) X.env = (false, eval e X.env) :: starEach es X.env := by rfl)
    (hpl : (backTo pos (starEach es X.env)).any (·.1) = false := by rfl) : PE X (.Call (.Name x p) (e :: es) [] pos) (StX.tMakeR C sp E t) := by
  refine ⟨fun pins s σ H Q I h => wpAny_Call_Name_kw (ld_glob I hg hm (PySem.W.callWith_K (h₀ := X.base) I.ok.mod.kin M.kp (thn (ha.run pos pins s σ H _ I h) fun us s1 z => ?_) he hpl) hdb)⟩
  obtain ⟨vs, H1, I1, r, q⟩ := z
  refine ⟨I1.kIn, wpAny_call (make_map (f := f) I1.kIn M.makes M.init (beq_iff_eq.mp M.fn) ?_)⟩
  have q2 := q (s1.heap.objs.size + 1) s1.heap.objs.size (I1.hok.fresh (Nat.le_succ _)) (I1.hok.fresh (Nat.le_refl _)) (Nat.ne_of_lt (Nat.lt_succ_self _))
  have I2 := Inv.made (C := C) I1
  refine codeAny_mono (F _ X.stack _ _ (Value.ref (s1.heap.objs.size + 1) :: us) (V.ref (s1.heap.objs.size + 1) :: vs) _ E (made_guards hgd C us) (hr.make C us []) (I2.env0.make C us []) (.cons rfl r) q2) fun rs s' hq => ?_
  match rs, hq with
  | .error e', hq => exact hx pins σ _ _ e' s' I2 hq
  | .ok (.ret u), hq =>
    obtain ⟨v, H', I3, rv, ev, q3⟩ := I2.after hq
    subst ev
    exact ⟨rv, V.ref (s1.heap.objs.size + 1), H', I3, rfl, q3⟩
  | .ok .next, hq => exact hq.elim
  | .ok .brk, hq => exact hq.elim
  | .ok .cont, hq => exact hq.elim
end
/-! ### repr of data -/
section
variable {X : Cx}
/-- repr(x), x data: none, a bool, an int, a text, lists and tuples of such -/
def rRepr (K : PySem.W.Frag) : List V → Hp → VK → Prop := fun xs H Q => ∃ (x : V) (d : PyData), xs = [x] ∧ Dp K H x d ∧ d.showable = true ∧ d.shown.length ≤ sizeLine ∧ d.depth ≤ 60 ∧ Q (.str d.shown) H
mutual
theorem noD {K : PySem.W.Frag} {H : Hp} : ∀ (d : PyData) (v : V), Dp K H v d → d.hasDict = false
  | .none, _, _ => by simp only [PyData.hasDict]
  | .bool _, _, _ => by simp only [PyData.hasDict]
  | .int _, _, _ => by simp only [PyData.hasDict]
  | .str _, _, _ => by simp only [PyData.hasDict]
  | .list ds, _, h => by
    cases h with
    | lst _ ha =>
      simp only [PyData.hasDict]
      exact noDs ds _ ha
  | .tuple ds, _, h => by
    cases h with
    | tup _ ha =>
      simp only [PyData.hasDict]
      exact noDs ds _ ha
  | .dict _, _, h => by cases h
theorem noDs {K : PySem.W.Frag} {H : Hp} : ∀ (ds : List PyData) (vs : List V), DpAll K H vs ds → PyData.hasDictAll ds = false
  | [], _, _ => by simp only [PyData.hasDictAll]
  | d :: ds, _, h => by
    cases h with
    | cons h1 h2 =>
      simp only [PyData.hasDictAll, noD d _ h1, noDs ds _ h2, Bool.or_false]
end
theorem call_repr (hg : X.A.guards = some []) (hu : X.A.units + 64 < cLine) : CallR X (.builtin "repr") (rRepr X.K) := by
  intro pins s σ H xs us Q I r h
  obtain ⟨x, d, rfl, hd, hs, hz, hdp, q⟩ := h
  obtain ⟨u, rfl, rx⟩ := vals1 r
  obtain ⟨as, rd⟩ := Dp.reads I d x u hd rx
  have nd := noD d x hd
  cases rd with
  | none => exact PySem.P.repr_of_none ⟨.str _, H, I.tok _, ⟨_, rfl⟩, by simpa only [PyData.shown] using q⟩
  | bool b => exact PySem.P.repr_of_bool ⟨.str _, H, I.tok _, ⟨_, rfl⟩, by simpa only [PyData.shown] using q⟩
  | int i t => exact PySem.P.repr_of_int (by simpa [PyData.showable] using hs) ⟨.str _, H, I.tok _, ⟨_, rfl⟩, by simpa only [PyData.shown] using q⟩
  | str y t => exact PySem.P.repr_of_str ⟨.str _, H, I.tok _, ⟨_, rfl⟩, by simpa only [PyData.shown] using q⟩ (by simpa only [PyData.shown] using hz)
  | list h1 h2 h3 h4 =>
    exact repr_of_reads' (.list h1 h2 h3 h4) hs (fun z => by rw [nd] at z; cases z) hg (by omega) (fun _ _ z => z) (fun h' u tk hk => ⟨.str _, H, I.kept (t' := tk) hk, ⟨u, rfl⟩, q⟩) hz
  | tuple h1 h2 h3 h4 =>
    exact repr_of_reads' (.tuple h1 h2 h3 h4) hs (fun z => by rw [nd] at z; cases z) hg (by omega) (fun _ _ z => z) (fun h' u tk hk => ⟨.str _, H, I.kept (t' := tk) hk, ⟨u, rfl⟩, q⟩) hz
  | dict h1 h2 h3 h4 h5 => cases hd
end
/-! ### the law's end -/
section
variable {P : Program} {w : World} {K : PySem.W.Frag} {mg mb : Str → Option Value} {k : Nat} {fa a : Addr} {sp : Sp} {s₁ : Shared} {vs : List Value} {ns : List Int}
/-- the law's call over one abstract heap -/
theorem lawOn {H : Hp} (KX : K.In s₁.heap) (hns : s₁.heap.Ns mainGlobals mg) (hb : s₁.heap.Ns builtinsNs mb) (hbb : ∀ x : Str, x ≠ "__name__" → mb x = bootBuiltins x) (hlim : s₁.heap.NoLimit) (hg : s₁.gens = #[])
    (ha : s₁.heap.get? a = some { cls := .type "list", data := .seq vs.toArray }) (hr : Room k callerA)
    (F : ∀ base : Heap, K.In base → base.Ns mainGlobals mg → FnG P w K mg base CX0 k fa sp)
    (hO : Only H) (hsp : sp [.ref a] H (fun v _ => v = .bl true) fun _ _ _ => False) (hok : HOk P w H s₁.heap) (hA : ∀ b, H b ≠ none → b = a) (hK : H a ≠ none → K.lookup a = none) :
    codeAny (model P w) callerA (.call (.ref fa) ⟨[.ref a], []⟩) (fun r s' => r = .ok (.ret (.bool true)) ∧ OldK s₁.heap s'.heap ∧ s'.os = s₁.os ∧ AllBare s'.gens) s₁ := by
  have free : ∀ b o, s₁.heap.get? b = some o → (∀ w n, o.data ≠ Data.seq w n) → H b = none := fun b o e hd => Classical.byContradiction fun z => by
    have eb := hA b z
    rw [eb, ha] at e
    exact hd _ _ (congrArg Obj.data (Option.some.inj e)).symm
  have names : ∀ b m, s₁.heap.Ns b m → (hidT s₁.heap H).Ns b m := fun b m hn => by
    obtain ⟨o, es, ep, e, d, r⟩ := hn
    exact ⟨o, es, ep, hidT_get e (free b o e fun w n z => by rw [d] at z; cases z), d, r⟩
  have KB : K.In (hidT s₁.heap H) := fun b o e => hidT_get (KX b o e) (Classical.byContradiction fun z => by
    have eb := hA b z
    subst eb
    rw [hK z] at e
    cases e)
  have md : Mod K mg (hidT s₁.heap H) := ⟨KB, names _ _ hns, ⟨mb, names _ _ hb, hbb⟩, by obtain ⟨mc, h1, h2⟩ := hlim; exact ⟨mc, names _ _ h1, h2⟩⟩
  have nof : ∀ b, b ∉ frs ([] : List Env) := fun b z => by cases z
  have e0 : Env0 P w K mg (hidT s₁.heap H) callerA [] s₁ H := ⟨rfl, md, fun _ _ e => of_hidT e, Nat.le_of_eq (hidT_size _ _), True.intro, fun b z => absurd z (nof b), hok, .of_eq hg⟩
  refine codeAny_mono (F _ KB (names _ _ hns) callerA [] s₁ H [.ref a] [.ref a] _ _ rfl hr e0 (.cons rfl .nil) hsp) fun rs s' z => ?_
  match rs, z with
  | .error _, z => exact z.elim
  | .ok .next, z => exact z.elim
  | .ok .brk, z => exact z.elim
  | .ok .cont, z => exact z.elim
  | .ok (.ret u), z =>
    obtain ⟨v, H', os, bare, un, ok', rv, ev⟩ := z
    cases (show v = V.bl true from ev)
    cases (show u = Value.bool true from rv)
    refine ⟨rfl, OldK.of_keep fun b o e => ?_, os, bare⟩
    rcases hO b with n | ⟨ob, xs, n⟩
    · exact un.keep b o e n (nof b) (by simp)
    · have h1 := (hok b _ n).1
      have h2 := (ok' b _ (un.frzs b ob _ n)).1
      rw [e] at h1
      cases h1
      exact h2
theorem lawG (KX : K.In s₁.heap) (hns : s₁.heap.Ns mainGlobals mg) (hb : s₁.heap.Ns builtinsNs mb) (hbb : ∀ x : Str, x ≠ "__name__" → mb x = bootBuiltins x) (hlim : s₁.heap.NoLimit) (hg : s₁.gens = #[])
    (ha : s₁.heap.get? a = some { cls := .type "list", data := .seq vs.toArray }) (hi : IntsAre vs ns) (hl : ns.length ≤ sizeLine) (hr : Room k callerA)
    (F : ∀ base : Heap, K.In base → base.Ns mainGlobals mg → FnG P w K mg base CX0 k fa sp)
    (hsp : ∀ H : Hp, Only H → SqL K H a (ns.map V.int) → sp [.ref a] H (fun v _ => v = .bl true) fun _ _ _ => False) :
    codeAny (model P w) callerA (.call (.ref fa) ⟨[.ref a], []⟩) (fun r s' => r = .ok (.ret (.bool true)) ∧ OldK s₁.heap s'.heap ∧ s'.os = s₁.os ∧ AllBare s'.gens) s₁ := by
  have rv := vals_ints hi
  cases ek : K.lookup a with
  | some o =>
    have eo : o = _ := Option.some.inj ((KX a o ek).symm.trans ha)
    have O0 : Only (fun _ => none) := fun _ => .inl rfl
    have S0 : SqL K (fun _ => none) a (ns.map V.int) := .inr ⟨o, vs.toArray, _, ek, by rw [eo], by rw [eo], by rw [eo], by rw [List.size_toArray, ← rv.length, List.length_map]; exact hl, by simpa using rv⟩
    exact lawOn (H := fun _ => none) KX hns hb hbb hlim hg ha hr F O0 (hsp _ O0 S0) (fun b u z => by cases z) (fun b z => absurd rfl z) fun z => absurd rfl z
  | none =>
    let H1 : Hp := fun b => if b = a then some (.frz { cls := .type "list", data := .seq vs.toArray } (.lst (ns.map V.int))) else none
    have at_ : H1 a = some (.frz { cls := .type "list", data := .seq vs.toArray } (.lst (ns.map V.int))) := if_pos rfl
    have off : ∀ b, b ≠ a → H1 b = none := fun b z => if_neg z
    have O1 : Only H1 := fun b => by
      by_cases z : b = a
      · exact .inr ⟨_, _, by rw [z]; exact at_⟩
      · exact .inl (off b z)
    refine lawOn (H := H1) KX hns hb hbb hlim hg ha hr F O1 (hsp _ O1 (.inl (.inr ⟨_, at_⟩))) (fun b u z => ?_) (fun b z => Classical.byContradiction fun q => z (off b q)) fun _ => ek
    by_cases q : b = a
    · subst q
      rw [at_] at z
      cases z
      exact ⟨ha, by rw [List.length_map]; exact hl, vs, _, rv, ha⟩
    · rw [off b q] at z
      cases z
end
/-- the goal that the head leaves -/
theorem walkG {l : PySem.W.OpenLaw} {n k : Nat} {q : Program} {loose : List Str} {XP : (Str → Option Value) → Heap → Prop} {YP : World → Heap → Prop} {d : DefRec}
    (hn : l.most = some n) (hn2 : n ≤ sizeLine) (hdf : d.params.defaults = []) (hr : Room k callerA)
    (F : ∀ (w : World) (mg : Str → Option Value) (fa : Addr) (h : Heap), YP w h → h.Ns mainGlobals mg → mg d.name = some (.ref fa) → ∃ (K : PySem.W.Frag) (sp : Sp), K.In h ∧
      (∀ (H : Hp) (a : Addr) (ns : List Int), ns.length ≤ n → Only H → SqL K H a (ns.map V.int) → sp [.ref a] H (fun v _ => v = .bl true) fun _ _ _ => False) ∧
      ∀ base : Heap, K.In base → base.Ns mainGlobals mg → FnG l.prog w K mg base CX0 k fa sp) :
    PySem.W.WalkO q loose XP YP l.row.toRowW d [] (fun f vs => PySem.call f vs) :=
  Att.attach_call hn hdf fun w s₀ s₁ mg mb fa o pm cd doc a vs ns G Y ho hd hcd hmg hobj hints hlen hg => by
    obtain ⟨K, sp, KX, hsp, hF⟩ := F w mg fa _ Y G.T.g hmg
    exact lawG KX G.T.g G.T.b G.T.builtins G.T.nolimit hg hobj hints (Nat.le_trans hlen hn2) hr hF fun H hO hS => hsp H a ns hlen hO hS
end Ver

/-! The mathematics of the numbers modulo a prime: Euclid's way, trial division. -/
namespace Num
/-- trial division by odd divisors from 3 on, up to the root -/
def oddOk (v : Nat) (n : Nat) : Bool := (List.range n).all fun i => v % (3 + 2 * i) != 0
/-- is_prime's answer, for an int -/
def prB (r : Nat → Nat) (v : Int) : Bool :=
  decide (2 ≤ v) && decide (v ≤ 1000000000) && (if v % 2 = 0 then decide (v = 2) else oddOk v.toNat ((r v.toNat + 1 - 3 + 1) / 2))
/-- what the walk asks of a modulus -/
structure Md (p : Int) : Prop where
  lo : 2 ≤ p
  hi : p ≤ 1000000000
  pr : ∀ n : Int, 0 < n → n < p → Int.gcd n p = 1
theorem gcd_one {p b : Nat} (hb : p < b * b) (h : (List.range b).all (fun d => decide (d < 2) || p % d != 0) = true) (n : Nat) (h0 : 0 < n) (h1 : n < p) : Nat.gcd n p = 1 := by
  have small : ∀ d, 2 ≤ d → d < b → ¬ d ∣ p := fun d h2 h3 hd => by
    have q := List.all_eq_true.mp h d (List.mem_range.mpr h3)
    rw [Bool.or_eq_true] at q
    rcases q with q | q
    · have := of_decide_eq_true q
      omega
    · have e : p % d = 0 := Nat.mod_eq_zero_of_dvd hd
      rw [e] at q
      cases q
  have hg : Nat.gcd n p ∣ p := Nat.gcd_dvd_right n p
  have hn : Nat.gcd n p ∣ n := Nat.gcd_dvd_left n p
  have gpos : 0 < Nat.gcd n p := Nat.gcd_pos_of_pos_left _ h0
  have gle : Nat.gcd n p ≤ n := Nat.le_of_dvd h0 hn
  by_cases g1 : Nat.gcd n p = 1
  · exact g1
  · exfalso
    obtain ⟨m, hm⟩ := hg
    have m2 : 2 ≤ m := by
      cases m with
      | zero => omega
      | succ m =>
        cases m with
        | zero => omega
        | succ m => omega
    have hmd : m ∣ p := ⟨Nat.gcd n p, by rw [Nat.mul_comm]; exact hm⟩
    by_cases c : Nat.gcd n p < b
    · exact small _ (by omega) c (Nat.gcd_dvd_right n p)
    · by_cases c2 : m < b
      · exact small m m2 c2 hmd
      · have : b * b ≤ Nat.gcd n p * m := Nat.mul_le_mul (by omega) (by omega)
        omega
theorem md_of (p b : Nat) (h2 : 2 ≤ p) (h9 : p ≤ 1000000000) (hb : p < b * b) (h : (List.range b).all (fun d => decide (d < 2) || p % d != 0) = true) : Md (p : Int) :=
  ⟨by omega, by omega, fun n h0 h1 => by
    have e : n = ((n.toNat : Nat) : Int) := by omega
    rw [e]
    show Nat.gcd _ _ = 1
    exact gcd_one hb h n.toNat (by omega) (by omega)⟩
theorem md2 : Md 2 := md_of 2 2 (by decide) (by decide) (by decide) (by decide)
theorem md3 : Md 3 := md_of 3 2 (by decide) (by decide) (by decide) (by decide)
theorem md5 : Md 5 := md_of 5 3 (by decide) (by decide) (by decide) (by decide)
theorem md7 : Md 7 := md_of 7 3 (by decide) (by decide) (by decide) (by decide)
theorem md101 : Md 101 := md_of 101 11 (by decide) (by decide) (by decide) (by decide)
theorem md1000003 : Md 1000003 := md_of 1000003 1001 (by decide) (by decide) (by decide) (by decide +kernel)

/-! ### Euclid -/
/-- the state of the loop: past and now times the number are rest and left, modulo p -/
structure Eu (p n rest left past now : Int) : Prop where
  l0 : 0 ≤ left
  lp : left < p
  r0 : 0 < rest
  rp : rest ≤ p
  a : p ∣ past * n - rest
  b : p ∣ now * n - left
  g : Int.gcd rest left = 1
theorem Eu.start {p n : Int} (m : Md p) (h0 : 0 < n) (h1 : n < p) : Eu p n p (n % p) 0 1 := by
  have e : n % p = n := Int.emod_eq_of_lt (by omega) h1
  have hlo := m.lo
  refine ⟨by omega, by omega, by omega, Int.le_refl _, ⟨-1, by omega⟩, ⟨0, by omega⟩, ?_⟩
  rw [e, Int.gcd_comm]
  exact m.pr n h0 h1
theorem Eu.step {p n rest left past now : Int} (E : Eu p n rest left past now) (h : left ≠ 0) : Eu p n left (rest - rest / left * left) now (past - rest / left * now) := by
  have hl : 0 < left := by have := E.l0; omega
  have e : rest - rest / left * left = rest % left := by
    have := Int.emod_def rest left
    rw [Int.mul_comm] at this
    omega
  rw [e]
  have m0 : 0 ≤ rest % left := Int.emod_nonneg _ h
  have m1 : rest % left < left := Int.emod_lt_of_pos _ hl
  refine ⟨m0, by have := E.lp; omega, hl, by have := E.lp; omega, E.b, ?_, ?_⟩
  · obtain ⟨x, hx⟩ := E.a
    obtain ⟨y, hy⟩ := E.b
    refine ⟨x - rest / left * y, ?_⟩
    rw [← e]
    have h1 : (past - rest / left * now) * n - (rest - rest / left * left) = (past * n - rest) - rest / left * (now * n - left) := by
      rw [Int.sub_mul, Int.mul_sub, Int.mul_assoc]
      omega
    rw [h1, hx, hy, Int.mul_sub]
    congr 1
    rw [← Int.mul_assoc, ← Int.mul_assoc, Int.mul_comm (rest / left) p]
  · rw [Int.gcd_comm]
    have := E.g
    rw [Int.gcd_comm] at this
    rw [← this]
    show Nat.gcd _ _ = Nat.gcd _ _
    have a1 : (rest % left).natAbs = rest.natAbs % left.natAbs := by
      have hr := E.r0
      have q : ((rest.natAbs % left.natAbs : Nat) : Int) = rest % left := by
        rw [Int.natCast_emod]
        rw [Int.natAbs_of_nonneg (by omega), Int.natAbs_of_nonneg (by omega)]
      omega
    rw [a1, ← Nat.gcd_rec, Nat.gcd_comm]
theorem Eu.times {p n rest left past now : Int} (E : Eu p n rest left past now) (h : left ≠ 0) : 0 ≤ rest / left ∧ rest / left ≤ p := by
  have hl : 0 < left := by have := E.l0; omega
  have hr := E.r0
  have hp := E.rp
  refine ⟨Int.ediv_nonneg (by omega) (by omega), ?_⟩
  have : rest / left ≤ rest := Int.ediv_le_self _ (by omega)
  omega
/-- at the end: the inverse -/
theorem Eu.inv {p n rest past now : Int} (m : Md p) (E : Eu p n rest 0 past now) : 0 ≤ past % p ∧ past % p < p ∧ (past % p * n) % p = 1 := by
  have hlo := m.lo
  have r1 : rest = 1 := by
    have g := E.g
    have h0 := E.r0
    rw [Int.gcd_zero_right] at g
    omega
  have hm : (past * n) % p = 1 := by
    obtain ⟨x, hx⟩ := E.a
    have e : past * n = 1 + p * x := by omega
    rw [e, Int.add_mul_emod_self_left]
    exact Int.emod_eq_of_lt (by omega) (by omega)
  refine ⟨Int.emod_nonneg _ (by omega), Int.emod_lt_of_pos _ (by omega), ?_⟩
  rw [Int.mul_emod, Int.emod_emod, ← Int.mul_emod]
  exact hm
/-- what over tells, times what it divided by -/
theorem over_back {p a b i : Int} (ha : 0 ≤ a ∧ a < p) (hi : (i * b) % p = 1 % p) : (a * i % p * b) % p = a := by
  have e : (a * i % p * b) % p = (a * (i * b)) % p := by
    rw [Int.mul_emod, Int.emod_emod, ← Int.mul_emod, Int.mul_assoc]
  rw [e, Int.mul_emod, hi, ← Int.mul_emod, Int.mul_one]
  exact Int.emod_eq_of_lt ha.1 ha.2
end Num

namespace K05
open PySem PySem.Spec PyProof.Rows L2 Ver
def top (i : Nat) : Stmt := PySem.Challenge.pw_firstanswers_k05_whole_rules_of_numbers.main.body.getD i (.Pass ⟨0, 0, 0, 0⟩)
abbrev s_is_integer : Stmt := top 3
abbrev n_is_integer : List Str := ["value"]
theorem sc_is_integer : FnScope n_is_integer ["value"] (defScope s_is_integer) := ⟨rfl, rfl, rfl, by decide +kernel, rfl, by decide +kernel, by decide +kernel⟩
def d_is_integer : He.DefD := ⟨("is_integer", none), "is_integer", "is_integer", defArgs s_is_integer, defBody s_is_integer, defScope s_is_integer, [], []⟩
abbrev s_is_between : Stmt := top 4
abbrev n_is_between : List Str := ["value", "low", "high"]
theorem sc_is_between : FnScope n_is_between ["value", "low", "high"] (defScope s_is_between) := ⟨rfl, rfl, rfl, by decide +kernel, rfl, by decide +kernel, by decide +kernel⟩
def d_is_between : He.DefD := ⟨("is_between", none), "is_between", "is_between", defArgs s_is_between, defBody s_is_between, defScope s_is_between, [], []⟩
abbrev s_Field___init__ : Stmt := inClass (top 15) 1
abbrev n_Field___init__ : List Str := ["self", "prime"]
theorem sc_Field___init__ : FnScope n_Field___init__ ["self", "prime"] (defScope s_Field___init__) := ⟨rfl, rfl, rfl, by decide +kernel, rfl, by decide +kernel, by decide +kernel⟩
def d_Field___init__ : He.DefD := ⟨("Field", some "__init__"), "__init__", "Field.__init__", defArgs s_Field___init__, defBody s_Field___init__, defScope s_Field___init__, [], []⟩
abbrev s_Field_is_number : Stmt := inClass (top 15) 6
abbrev n_Field_is_number : List Str := ["self", "value"]
theorem sc_Field_is_number : FnScope n_Field_is_number ["self", "value"] (defScope s_Field_is_number) := ⟨rfl, rfl, rfl, by decide +kernel, rfl, by decide +kernel, by decide +kernel⟩
def d_Field_is_number : He.DefD := ⟨("Field", some "is_number"), "is_number", "Field.is_number", defArgs s_Field_is_number, defBody s_Field_is_number, defScope s_Field_is_number, [], []⟩
abbrev s_Field_plus : Stmt := inClass (top 15) 7
abbrev n_Field_plus : List Str := ["self", "one", "other"]
theorem sc_Field_plus : FnScope n_Field_plus ["self", "one", "other"] (defScope s_Field_plus) := ⟨rfl, rfl, rfl, by decide +kernel, rfl, by decide +kernel, by decide +kernel⟩
def d_Field_plus : He.DefD := ⟨("Field", some "plus"), "plus", "Field.plus", defArgs s_Field_plus, defBody s_Field_plus, defScope s_Field_plus, [], []⟩
abbrev s_Field_minus : Stmt := inClass (top 15) 8
abbrev n_Field_minus : List Str := ["self", "one", "other"]
theorem sc_Field_minus : FnScope n_Field_minus ["self", "one", "other"] (defScope s_Field_minus) := ⟨rfl, rfl, rfl, by decide +kernel, rfl, by decide +kernel, by decide +kernel⟩
def d_Field_minus : He.DefD := ⟨("Field", some "minus"), "minus", "Field.minus", defArgs s_Field_minus, defBody s_Field_minus, defScope s_Field_minus, [], []⟩
abbrev s_Field_times : Stmt := inClass (top 15) 9
abbrev n_Field_times : List Str := ["self", "one", "other"]
theorem sc_Field_times : FnScope n_Field_times ["self", "one", "other"] (defScope s_Field_times) := ⟨rfl, rfl, rfl, by decide +kernel, rfl, by decide +kernel, by decide +kernel⟩
def d_Field_times : He.DefD := ⟨("Field", some "times"), "times", "Field.times", defArgs s_Field_times, defBody s_Field_times, defScope s_Field_times, [], []⟩
abbrev s_Field_over : Stmt := inClass (top 15) 10
abbrev n_Field_over : List Str := ["self", "one", "other"]
theorem sc_Field_over : FnScope n_Field_over ["self", "one", "other"] (defScope s_Field_over) := ⟨rfl, rfl, rfl, by decide +kernel, rfl, by decide +kernel, by decide +kernel⟩
def d_Field_over : He.DefD := ⟨("Field", some "over"), "over", "Field.over", defArgs s_Field_over, defBody s_Field_over, defScope s_Field_over, [], []⟩
abbrev s_Field_total : Stmt := inClass (top 15) 11
abbrev n_Field_total : List Str := ["self", "numbers", "tops", "bottom"]
theorem sc_Field_total : FnScope n_Field_total ["self", "numbers"] (defScope s_Field_total) := ⟨rfl, rfl, rfl, by decide +kernel, rfl, by decide +kernel, by decide +kernel⟩
def d_Field_total : He.DefD := ⟨("Field", some "total"), "total", "Field.total", defArgs s_Field_total, defBody s_Field_total, defScope s_Field_total, [], []⟩
abbrev s_Field_holds : Stmt := inClass (top 15) 14
abbrev n_Field_holds : List Str := ["self", "value"]
theorem sc_Field_holds : FnScope n_Field_holds ["self", "value"] (defScope s_Field_holds) := ⟨rfl, rfl, rfl, by decide +kernel, rfl, by decide +kernel, by decide +kernel⟩
def d_Field_holds : He.DefD := ⟨("Field", some "holds"), "holds", "Field.holds", defArgs s_Field_holds, defBody s_Field_holds, defScope s_Field_holds, [], []⟩
abbrev s_Field_ratio : Stmt := inClass (top 15) 15
abbrev n_Field_ratio : List Str := ["self", "top", "bottom"]
theorem sc_Field_ratio : FnScope n_Field_ratio ["self", "top", "bottom"] (defScope s_Field_ratio) := ⟨rfl, rfl, rfl, by decide +kernel, rfl, by decide +kernel, by decide +kernel⟩
def d_Field_ratio : He.DefD := ⟨("Field", some "ratio"), "ratio", "Field.ratio", defArgs s_Field_ratio, defBody s_Field_ratio, defScope s_Field_ratio, [], []⟩
abbrev s_Field_product_of : Stmt := inClass (top 15) 18
abbrev n_Field_product_of : List Str := ["self", "one", "other", "top", "bottom", "above", "below"]
theorem sc_Field_product_of : FnScope n_Field_product_of ["self", "one", "other"] (defScope s_Field_product_of) := ⟨rfl, rfl, rfl, by decide +kernel, rfl, by decide +kernel, by decide +kernel⟩
def d_Field_product_of : He.DefD := ⟨("Field", some "product_of"), "product_of", "Field.product_of", defArgs s_Field_product_of, defBody s_Field_product_of, defScope s_Field_product_of, [], []⟩
abbrev s_Field_sum_of : Stmt := inClass (top 15) 16
abbrev n_Field_sum_of : List Str := ["self", "one", "other", "top", "bottom", "above", "below"]
theorem sc_Field_sum_of : FnScope n_Field_sum_of ["self", "one", "other"] (defScope s_Field_sum_of) := ⟨rfl, rfl, rfl, by decide +kernel, rfl, by decide +kernel, by decide +kernel⟩
def d_Field_sum_of : He.DefD := ⟨("Field", some "sum_of"), "sum_of", "Field.sum_of", defArgs s_Field_sum_of, defBody s_Field_sum_of, defScope s_Field_sum_of, [], []⟩
abbrev s_Field_difference_of : Stmt := inClass (top 15) 17
abbrev n_Field_difference_of : List Str := ["self", "one", "other", "top", "bottom", "above", "below"]
theorem sc_Field_difference_of : FnScope n_Field_difference_of ["self", "one", "other"] (defScope s_Field_difference_of) := ⟨rfl, rfl, rfl, by decide +kernel, rfl, by decide +kernel, by decide +kernel⟩
def d_Field_difference_of : He.DefD := ⟨("Field", some "difference_of"), "difference_of", "Field.difference_of", defArgs s_Field_difference_of, defBody s_Field_difference_of, defScope s_Field_difference_of, [], []⟩
abbrev s_Field_quotient_of : Stmt := inClass (top 15) 19
abbrev n_Field_quotient_of : List Str := ["self", "one", "other", "top", "bottom", "above", "below"]
theorem sc_Field_quotient_of : FnScope n_Field_quotient_of ["self", "one", "other"] (defScope s_Field_quotient_of) := ⟨rfl, rfl, rfl, by decide +kernel, rfl, by decide +kernel, by decide +kernel⟩
def d_Field_quotient_of : He.DefD := ⟨("Field", some "quotient_of"), "quotient_of", "Field.quotient_of", defArgs s_Field_quotient_of, defBody s_Field_quotient_of, defScope s_Field_quotient_of, [], []⟩
abbrev s_Field_common : Stmt := inClass (top 15) 21
abbrev n_Field_common : List Str := ["self", "numbers", "bottom", "number", "each", "above", "below"]
theorem sc_Field_common : FnScope n_Field_common ["self", "numbers"] (defScope s_Field_common) := ⟨rfl, rfl, rfl, by decide +kernel, rfl, by decide +kernel, by decide +kernel⟩
def d_Field_common : He.DefD := ⟨("Field", some "common"), "common", "Field.common", defArgs s_Field_common, defBody s_Field_common, defScope s_Field_common, [], []⟩
abbrev s_Field__check : Stmt := inClass (top 15) 23
abbrev n_Field__check : List Str := ["self", "numbers", "number"]
theorem sc_Field__check : FnScope n_Field__check ["self", "numbers"] (defScope s_Field__check) := ⟨rfl, rfl, rfl, by decide +kernel, rfl, by decide +kernel, by decide +kernel⟩
def d_Field__check : He.DefD := ⟨("Field", some "_check"), "_check", "Field._check", defArgs s_Field__check, defBody s_Field__check, defScope s_Field__check, [], []⟩
abbrev s_Fractions___init__ : Stmt := inClass (top 16) 0
abbrev n_Fractions___init__ : List Str := ["self"]
theorem sc_Fractions___init__ : FnScope n_Fractions___init__ ["self"] (defScope s_Fractions___init__) := ⟨rfl, rfl, rfl, by decide +kernel, rfl, by decide +kernel, by decide +kernel⟩
def d_Fractions___init__ : He.DefD := ⟨("Fractions", some "__init__"), "__init__", "Fractions.__init__", defArgs s_Fractions___init__, defBody s_Fractions___init__, defScope s_Fractions___init__, [], []⟩
abbrev s_Modulo___init__ : Stmt := inClass (top 17) 0
abbrev n_Modulo___init__ : List Str := ["self", "prime"]
theorem sc_Modulo___init__ : FnScope n_Modulo___init__ ["self", "prime"] (defScope s_Modulo___init__) := ⟨rfl, rfl, rfl, by decide +kernel, rfl, by decide +kernel, by decide +kernel⟩
def d_Modulo___init__ : He.DefD := ⟨("Modulo", some "__init__"), "__init__", "Modulo.__init__", defArgs s_Modulo___init__, defBody s_Modulo___init__, defScope s_Modulo___init__, [], []⟩
abbrev s_is_prime : Stmt := top 18
abbrev n_is_prime : List Str := ["value", "divisor"]
theorem sc_is_prime : FnScope n_is_prime ["value"] (defScope s_is_prime) := ⟨rfl, rfl, rfl, by decide +kernel, rfl, by decide +kernel, by decide +kernel⟩
def d_is_prime : He.DefD := ⟨("is_prime", none), "is_prime", "is_prime", defArgs s_is_prime, defBody s_is_prime, defScope s_is_prime, [], []⟩
abbrev s_is_fraction : Stmt := top 19
abbrev n_is_fraction : List Str := ["value", "top", "bottom"]
theorem sc_is_fraction : FnScope n_is_fraction ["value"] (defScope s_is_fraction) := ⟨rfl, rfl, rfl, by decide +kernel, rfl, by decide +kernel, by decide +kernel⟩
def d_is_fraction : He.DefD := ⟨("is_fraction", none), "is_fraction", "is_fraction", defArgs s_is_fraction, defBody s_is_fraction, defScope s_is_fraction, [], []⟩
abbrev s_is_longer : Stmt := top 20
abbrev n_is_longer : List Str := ["number", "first_long", "top", "bottom"]
theorem sc_is_longer : FnScope n_is_longer ["number", "first_long"] (defScope s_is_longer) := ⟨rfl, rfl, rfl, by decide +kernel, rfl, by decide +kernel, by decide +kernel⟩
def d_is_longer : He.DefD := ⟨("is_longer", none), "is_longer", "is_longer", defArgs s_is_longer, defBody s_is_longer, defScope s_is_longer, [], []⟩
abbrev s_parts : Stmt := top 21
abbrev n_parts : List Str := ["number"]
theorem sc_parts : FnScope n_parts ["number"] (defScope s_parts) := ⟨rfl, rfl, rfl, by decide +kernel, rfl, by decide +kernel, by decide +kernel⟩
def d_parts : He.DefD := ⟨("parts", none), "parts", "parts", defArgs s_parts, defBody s_parts, defScope s_parts, [], []⟩
abbrev s_shortened : Stmt := top 22
abbrev n_shortened : List Str := ["top", "bottom", "divisor"]
theorem sc_shortened : FnScope n_shortened ["top", "bottom"] (defScope s_shortened) := ⟨rfl, rfl, rfl, by decide +kernel, rfl, by decide +kernel, by decide +kernel⟩
def d_shortened : He.DefD := ⟨("shortened", none), "shortened", "shortened", defArgs s_shortened, defBody s_shortened, defScope s_shortened, [], []⟩
abbrev s_inverse : Stmt := top 23
abbrev n_inverse : List Str := ["number", "prime", "rest", "left", "past", "now", "times"]
theorem sc_inverse : FnScope n_inverse ["number", "prime"] (defScope s_inverse) := ⟨rfl, rfl, rfl, by decide +kernel, rfl, by decide +kernel, by decide +kernel⟩
def d_inverse : He.DefD := ⟨("inverse", none), "inverse", "inverse", defArgs s_inverse, defBody s_inverse, defScope s_inverse, [], []⟩
abbrev s__law_pen : Stmt := top 28
abbrev n__law_pen : List Str := ["_law_script"]
theorem sc__law_pen : FnScope n__law_pen ["_law_script"] (defScope s__law_pen) := ⟨rfl, rfl, rfl, by decide +kernel, rfl, by decide +kernel, by decide +kernel⟩
def d__law_pen : He.DefD := ⟨("_law_pen", none), "_law_pen", "_law_pen", defArgs s__law_pen, defBody s__law_pen, defScope s__law_pen, [], []⟩
abbrev s__law_draw : Stmt := top 29
abbrev n__law_draw : List Str := ["_law_pen_here", "_law_many", "_law_digit", "_law_place", "_law_cell", "_law_mixed", "_law_drawn"]
theorem sc__law_draw : FnScope n__law_draw ["_law_pen_here", "_law_many"] (defScope s__law_draw) := ⟨rfl, rfl, rfl, by decide +kernel, rfl, by decide +kernel, by decide +kernel⟩
def d__law_draw : He.DefD := ⟨("_law_draw", none), "_law_draw", "_law_draw", defArgs s__law_draw, defBody s__law_draw, defScope s__law_draw, [], []⟩
abbrev s__law_pick : Stmt := top 30
abbrev n__law_pick : List Str := ["_law_pen_here", "_law_options"]
theorem sc__law_pick : FnScope n__law_pick ["_law_pen_here", "_law_options"] (defScope s__law_pick) := ⟨rfl, rfl, rfl, by decide +kernel, rfl, by decide +kernel, by decide +kernel⟩
def d__law_pick : He.DefD := ⟨("_law_pick", none), "_law_pick", "_law_pick", defArgs s__law_pick, defBody s__law_pick, defScope s__law_pick, [], []⟩
abbrev s__law_prime : Stmt := top 31
abbrev n__law_prime : List Str := ["_law_pen_here"]
theorem sc__law_prime : FnScope n__law_prime ["_law_pen_here"] (defScope s__law_prime) := ⟨rfl, rfl, rfl, by decide +kernel, rfl, by decide +kernel, by decide +kernel⟩
def d__law_prime : He.DefD := ⟨("_law_prime", none), "_law_prime", "_law_prime", defArgs s__law_prime, defBody s__law_prime, defScope s__law_prime, [], []⟩
abbrev s__law_number : Stmt := top 32
abbrev n__law_number : List Str := ["_law_pen_here", "_law_prime_here"]
theorem sc__law_number : FnScope n__law_number ["_law_pen_here", "_law_prime_here"] (defScope s__law_number) := ⟨rfl, rfl, rfl, by decide +kernel, rfl, by decide +kernel, by decide +kernel⟩
def d__law_number : He.DefD := ⟨("_law_number", none), "_law_number", "_law_number", defArgs s__law_number, defBody s__law_number, defScope s__law_number, [], []⟩
abbrev s__law_signed : Stmt := top 35
abbrev n__law_signed : List Str := ["_law_pen_here", "_law_number_here"]
theorem sc__law_signed : FnScope n__law_signed ["_law_pen_here", "_law_number_here"] (defScope s__law_signed) := ⟨rfl, rfl, rfl, by decide +kernel, rfl, by decide +kernel, by decide +kernel⟩
def d__law_signed : He.DefD := ⟨("_law_signed", none), "_law_signed", "_law_signed", defArgs s__law_signed, defBody s__law_signed, defScope s__law_signed, [], []⟩
abbrev s__law_gcd : Stmt := top 36
abbrev n__law_gcd : List Str := ["_law_front", "_law_back"]
theorem sc__law_gcd : FnScope n__law_gcd ["_law_front", "_law_back"] (defScope s__law_gcd) := ⟨rfl, rfl, rfl, by decide +kernel, rfl, by decide +kernel, by decide +kernel⟩
def d__law_gcd : He.DefD := ⟨("_law_gcd", none), "_law_gcd", "_law_gcd", defArgs s__law_gcd, defBody s__law_gcd, defScope s__law_gcd, [], []⟩
abbrev s__law_told : Stmt := top 37
abbrev n__law_told : List Str := ["_law_top", "_law_bottom", "_law_shared"]
theorem sc__law_told : FnScope n__law_told ["_law_top", "_law_bottom"] (defScope s__law_told) := ⟨rfl, rfl, rfl, by decide +kernel, rfl, by decide +kernel, by decide +kernel⟩
def d__law_told : He.DefD := ⟨("_law_told", none), "_law_told", "_law_told", defArgs s__law_told, defBody s__law_told, defScope s__law_told, [], []⟩
abbrev s__law_two : Stmt := top 38
abbrev n__law_two : List Str := ["_law_told_here"]
theorem sc__law_two : FnScope n__law_two ["_law_told_here"] (defScope s__law_two) := ⟨rfl, rfl, rfl, by decide +kernel, rfl, by decide +kernel, by decide +kernel⟩
def d__law_two : He.DefD := ⟨("_law_two", none), "_law_two", "_law_two", defArgs s__law_two, defBody s__law_two, defScope s__law_two, [], []⟩
abbrev s__law_any_number : Stmt := top 39
abbrev n__law_any_number : List Str := ["_law_pen_here", "_law_prime_here", "_law_is_small", "_law_top", "_law_bottom"]
theorem sc__law_any_number : FnScope n__law_any_number ["_law_pen_here", "_law_prime_here", "_law_is_small"] (defScope s__law_any_number) := ⟨rfl, rfl, rfl, by decide +kernel, rfl, by decide +kernel, by decide +kernel⟩
def d__law_any_number : He.DefD := ⟨("_law_any_number", none), "_law_any_number", "_law_any_number", defArgs s__law_any_number, defBody s__law_any_number, defScope s__law_any_number, [], []⟩
abbrev s__law_made_field : Stmt := top 40
abbrev n__law_made_field : List Str := ["_law_prime_here"]
theorem sc__law_made_field : FnScope n__law_made_field ["_law_prime_here"] (defScope s__law_made_field) := ⟨rfl, rfl, rfl, by decide +kernel, rfl, by decide +kernel, by decide +kernel⟩
def d__law_made_field : He.DefD := ⟨("_law_made_field", none), "_law_made_field", "_law_made_field", defArgs s__law_made_field, defBody s__law_made_field, defScope s__law_made_field, [], []⟩
abbrev s__law_any_prime : Stmt := top 41
abbrev n__law_any_prime : List Str := ["_law_pen_here"]
theorem sc__law_any_prime : FnScope n__law_any_prime ["_law_pen_here"] (defScope s__law_any_prime) := ⟨rfl, rfl, rfl, by decide +kernel, rfl, by decide +kernel, by decide +kernel⟩
def d__law_any_prime : He.DefD := ⟨("_law_any_prime", none), "_law_any_prime", "_law_any_prime", defArgs s__law_any_prime, defBody s__law_any_prime, defScope s__law_any_prime, [], []⟩
abbrev s__law_rest : Stmt := top 42
abbrev n__law_rest : List Str := ["_law_house", "_law_told_here", "_law_top", "_law_bottom"]
theorem sc__law_rest : FnScope n__law_rest ["_law_house", "_law_told_here"] (defScope s__law_rest) := ⟨rfl, rfl, rfl, by decide +kernel, rfl, by decide +kernel, by decide +kernel⟩
def d__law_rest : He.DefD := ⟨("_law_rest", none), "_law_rest", "_law_rest", defArgs s__law_rest, defBody s__law_rest, defScope s__law_rest, [], []⟩
abbrev s__law_rests_right : Stmt := top 43
abbrev n__law_rests_right : List Str := ["_law_house", "_law_field", "_law_one", "_law_two_here", "_law_rests"]
theorem sc__law_rests_right : FnScope n__law_rests_right ["_law_house", "_law_field", "_law_one", "_law_two_here"] (defScope s__law_rests_right) := ⟨rfl, rfl, rfl, by decide +kernel, rfl, by decide +kernel, by decide +kernel⟩
def d__law_rests_right : He.DefD := ⟨("_law_rests_right", none), "_law_rests_right", "_law_rests_right", defArgs s__law_rests_right, defBody s__law_rests_right, defScope s__law_rests_right, [], []⟩
abbrev s__law_groups_right : Stmt := top 44
abbrev n__law_groups_right : List Str := ["_law_field", "_law_one", "_law_two_here", "_law_three"]
theorem sc__law_groups_right : FnScope n__law_groups_right ["_law_field", "_law_one", "_law_two_here", "_law_three"] (defScope s__law_groups_right) := ⟨rfl, rfl, rfl, by decide +kernel, rfl, by decide +kernel, by decide +kernel⟩
def d__law_groups_right : He.DefD := ⟨("_law_groups_right", none), "_law_groups_right", "_law_groups_right", defArgs s__law_groups_right, defBody s__law_groups_right, defScope s__law_groups_right, [], []⟩
abbrev s_law : Stmt := top 45
abbrev n_law : List Str := ["_law_script", "_law_pen_here", "_law_turn", "_law_prime_here", "_law_field", "_law_one", "_law_two_here", "_law_three", "_law_k", "_law_back"]
theorem sc_law : FnScope n_law ["_law_script"] (defScope s_law) := ⟨rfl, rfl, rfl, by decide +kernel, rfl, by decide +kernel, by decide +kernel⟩
def d_law : He.DefD := ⟨("law", none), "law", "law", defArgs s_law, defBody s_law, defScope s_law, [], []⟩
def fn : List He.DefD := [d_is_integer, d_is_between, d_Field___init__, d_Field_is_number, d_Field_plus, d_Field_minus, d_Field_times, d_Field_over, d_Field_total, d_Field_holds, d_Field_ratio, d_Field_product_of, d_Field_sum_of, d_Field_difference_of, d_Field_quotient_of, d_Field_common, d_Field__check, d_Fractions___init__, d_Modulo___init__, d_is_prime, d_is_fraction, d_is_longer, d_parts, d_shortened, d_inverse, d__law_pen, d__law_draw, d__law_pick, d__law_prime, d__law_number, d__law_signed, d__law_gcd, d__law_told, d__law_two, d__law_any_number, d__law_made_field, d__law_any_prime, d__law_rest, d__law_rests_right, d__law_groups_right, d_law]
section
variable {P : Program} {w : World} {K : PySem.W.Frag} {fa : List He.Fa} {mg : Str → Option Value} {base : Heap} {k : Nat} {sp : Sp}
theorem mk_is_integer (S : He.SaysD fa fn K) (len : ∀ vs H Q E, sp vs H Q E → vs.length = 1)
    (hb : ∀ (cdv : Value) (A : Around) (outer : List Env) (s : Shared) (H : Hp) (vs : List V) (Q : VK) (E : XK), A.guards = some [] → Room k (A.deeper (envOfC "is_integer" (defScope s_is_integer) s.heap.objs.size (He.ga K "is_integer") cdv)) → sp vs H Q E →
      ∃ t, PSs (cxOf CX0 P w K mg base n_is_integer "is_integer" (defScope s_is_integer) (He.ga K "is_integer") cdv A outer s H E).nox (defBody s_is_integer) t ∧ t { nx := fun _ H' => Q .non H', rt := Q } (start n_is_integer vs) H) : FnG P w K mg base CX0 (k + 1) (He.ga K "is_integer") sp := by
  obtain ⟨fd, F⟩ := S.def_ 0 (d := d_is_integer) rfl
  exact ok0 F sc_is_integer (F.bindsA fun _ _ _ _ _ _ us hl => match us, hl with | [_], _ => rfl) len hb
theorem kp_is_integer (S : He.SaysD fa fn K) : PySem.W.keepIn K (.ref (He.ga K "is_integer")) = true := by
  obtain ⟨fd, F⟩ := S.def_ 0 (d := d_is_integer) rfl
  exact F.kp
theorem mk_is_between (S : He.SaysD fa fn K) (len : ∀ vs H Q E, sp vs H Q E → vs.length = 3)
    (hb : ∀ (cdv : Value) (A : Around) (outer : List Env) (s : Shared) (H : Hp) (vs : List V) (Q : VK) (E : XK), A.guards = some [] → Room k (A.deeper (envOfC "is_between" (defScope s_is_between) s.heap.objs.size (He.ga K "is_between") cdv)) → sp vs H Q E →
      ∃ t, PSs (cxOf CX0 P w K mg base n_is_between "is_between" (defScope s_is_between) (He.ga K "is_between") cdv A outer s H E).nox (defBody s_is_between) t ∧ t { nx := fun _ H' => Q .non H', rt := Q } (start n_is_between vs) H) : FnG P w K mg base CX0 (k + 1) (He.ga K "is_between") sp := by
  obtain ⟨fd, F⟩ := S.def_ 1 (d := d_is_between) rfl
  exact ok0 F sc_is_between (F.bindsA fun _ _ _ _ _ _ us hl => match us, hl with | [_, _, _], _ => rfl) len hb
theorem kp_is_between (S : He.SaysD fa fn K) : PySem.W.keepIn K (.ref (He.ga K "is_between")) = true := by
  obtain ⟨fd, F⟩ := S.def_ 1 (d := d_is_between) rfl
  exact F.kp
theorem mk_Field___init__ (S : He.SaysD fa fn K) (len : ∀ vs H Q E, sp vs H Q E → vs.length = 2)
    (hb : ∀ (cdv : Value) (A : Around) (outer : List Env) (s : Shared) (H : Hp) (vs : List V) (Q : VK) (E : XK), A.guards = some [] → Room k (A.deeper (envOfC "Field.__init__" (defScope s_Field___init__) s.heap.objs.size (He.ma K (He.ga K "Field") "__init__") cdv)) → sp vs H Q E →
      ∃ t, PSs (cxOf CX0 P w K mg base n_Field___init__ "Field.__init__" (defScope s_Field___init__) (He.ma K (He.ga K "Field") "__init__") cdv A outer s H E).nox (defBody s_Field___init__) t ∧ t { nx := fun _ H' => Q .non H', rt := Q } (start n_Field___init__ vs) H) : FnG P w K mg base CX0 (k + 1) (He.ma K (He.ga K "Field") "__init__") sp := by
  obtain ⟨fd, F⟩ := S.def_ 2 (d := d_Field___init__) rfl
  exact ok0 F sc_Field___init__ (F.bindsA fun _ _ _ _ _ _ us hl => match us, hl with | [_, _], _ => rfl) len hb
theorem kp_Field___init__ (S : He.SaysD fa fn K) : PySem.W.keepIn K (.ref (He.ma K (He.ga K "Field") "__init__")) = true := by
  obtain ⟨fd, F⟩ := S.def_ 2 (d := d_Field___init__) rfl
  exact F.kp
theorem mk_Field_is_number (S : He.SaysD fa fn K) (len : ∀ vs H Q E, sp vs H Q E → vs.length = 2)
    (hb : ∀ (cdv : Value) (A : Around) (outer : List Env) (s : Shared) (H : Hp) (vs : List V) (Q : VK) (E : XK), A.guards = some [] → Room k (A.deeper (envOfC "Field.is_number" (defScope s_Field_is_number) s.heap.objs.size (He.ma K (He.ga K "Field") "is_number") cdv)) → sp vs H Q E →
      ∃ t, PSs (cxOf CX0 P w K mg base n_Field_is_number "Field.is_number" (defScope s_Field_is_number) (He.ma K (He.ga K "Field") "is_number") cdv A outer s H E).nox (defBody s_Field_is_number) t ∧ t { nx := fun _ H' => Q .non H', rt := Q } (start n_Field_is_number vs) H) : FnG P w K mg base CX0 (k + 1) (He.ma K (He.ga K "Field") "is_number") sp := by
  obtain ⟨fd, F⟩ := S.def_ 3 (d := d_Field_is_number) rfl
  exact ok0 F sc_Field_is_number (F.bindsA fun _ _ _ _ _ _ us hl => match us, hl with | [_, _], _ => rfl) len hb
theorem kp_Field_is_number (S : He.SaysD fa fn K) : PySem.W.keepIn K (.ref (He.ma K (He.ga K "Field") "is_number")) = true := by
  obtain ⟨fd, F⟩ := S.def_ 3 (d := d_Field_is_number) rfl
  exact F.kp
theorem mk_Field_plus (S : He.SaysD fa fn K) (len : ∀ vs H Q E, sp vs H Q E → vs.length = 3)
    (hb : ∀ (cdv : Value) (A : Around) (outer : List Env) (s : Shared) (H : Hp) (vs : List V) (Q : VK) (E : XK), A.guards = some [] → Room k (A.deeper (envOfC "Field.plus" (defScope s_Field_plus) s.heap.objs.size (He.ma K (He.ga K "Field") "plus") cdv)) → sp vs H Q E →
      ∃ t, PSs (cxOf CX0 P w K mg base n_Field_plus "Field.plus" (defScope s_Field_plus) (He.ma K (He.ga K "Field") "plus") cdv A outer s H E).nox (defBody s_Field_plus) t ∧ t { nx := fun _ H' => Q .non H', rt := Q } (start n_Field_plus vs) H) : FnG P w K mg base CX0 (k + 1) (He.ma K (He.ga K "Field") "plus") sp := by
  obtain ⟨fd, F⟩ := S.def_ 4 (d := d_Field_plus) rfl
  exact ok0 F sc_Field_plus (F.bindsA fun _ _ _ _ _ _ us hl => match us, hl with | [_, _, _], _ => rfl) len hb
theorem kp_Field_plus (S : He.SaysD fa fn K) : PySem.W.keepIn K (.ref (He.ma K (He.ga K "Field") "plus")) = true := by
  obtain ⟨fd, F⟩ := S.def_ 4 (d := d_Field_plus) rfl
  exact F.kp
theorem mk_Field_minus (S : He.SaysD fa fn K) (len : ∀ vs H Q E, sp vs H Q E → vs.length = 3)
    (hb : ∀ (cdv : Value) (A : Around) (outer : List Env) (s : Shared) (H : Hp) (vs : List V) (Q : VK) (E : XK), A.guards = some [] → Room k (A.deeper (envOfC "Field.minus" (defScope s_Field_minus) s.heap.objs.size (He.ma K (He.ga K "Field") "minus") cdv)) → sp vs H Q E →
      ∃ t, PSs (cxOf CX0 P w K mg base n_Field_minus "Field.minus" (defScope s_Field_minus) (He.ma K (He.ga K "Field") "minus") cdv A outer s H E).nox (defBody s_Field_minus) t ∧ t { nx := fun _ H' => Q .non H', rt := Q } (start n_Field_minus vs) H) : FnG P w K mg base CX0 (k + 1) (He.ma K (He.ga K "Field") "minus") sp := by
  obtain ⟨fd, F⟩ := S.def_ 5 (d := d_Field_minus) rfl
  exact ok0 F sc_Field_minus (F.bindsA fun _ _ _ _ _ _ us hl => match us, hl with | [_, _, _], _ => rfl) len hb
theorem kp_Field_minus (S : He.SaysD fa fn K) : PySem.W.keepIn K (.ref (He.ma K (He.ga K "Field") "minus")) = true := by
  obtain ⟨fd, F⟩ := S.def_ 5 (d := d_Field_minus) rfl
  exact F.kp
theorem mk_Field_times (S : He.SaysD fa fn K) (len : ∀ vs H Q E, sp vs H Q E → vs.length = 3)
    (hb : ∀ (cdv : Value) (A : Around) (outer : List Env) (s : Shared) (H : Hp) (vs : List V) (Q : VK) (E : XK), A.guards = some [] → Room k (A.deeper (envOfC "Field.times" (defScope s_Field_times) s.heap.objs.size (He.ma K (He.ga K "Field") "times") cdv)) → sp vs H Q E →
      ∃ t, PSs (cxOf CX0 P w K mg base n_Field_times "Field.times" (defScope s_Field_times) (He.ma K (He.ga K "Field") "times") cdv A outer s H E).nox (defBody s_Field_times) t ∧ t { nx := fun _ H' => Q .non H', rt := Q } (start n_Field_times vs) H) : FnG P w K mg base CX0 (k + 1) (He.ma K (He.ga K "Field") "times") sp := by
  obtain ⟨fd, F⟩ := S.def_ 6 (d := d_Field_times) rfl
  exact ok0 F sc_Field_times (F.bindsA fun _ _ _ _ _ _ us hl => match us, hl with | [_, _, _], _ => rfl) len hb
theorem kp_Field_times (S : He.SaysD fa fn K) : PySem.W.keepIn K (.ref (He.ma K (He.ga K "Field") "times")) = true := by
  obtain ⟨fd, F⟩ := S.def_ 6 (d := d_Field_times) rfl
  exact F.kp
theorem mk_Field_over (S : He.SaysD fa fn K) (len : ∀ vs H Q E, sp vs H Q E → vs.length = 3)
    (hb : ∀ (cdv : Value) (A : Around) (outer : List Env) (s : Shared) (H : Hp) (vs : List V) (Q : VK) (E : XK), A.guards = some [] → Room k (A.deeper (envOfC "Field.over" (defScope s_Field_over) s.heap.objs.size (He.ma K (He.ga K "Field") "over") cdv)) → sp vs H Q E →
      ∃ t, PSs (cxOf CX0 P w K mg base n_Field_over "Field.over" (defScope s_Field_over) (He.ma K (He.ga K "Field") "over") cdv A outer s H E).nox (defBody s_Field_over) t ∧ t { nx := fun _ H' => Q .non H', rt := Q } (start n_Field_over vs) H) : FnG P w K mg base CX0 (k + 1) (He.ma K (He.ga K "Field") "over") sp := by
  obtain ⟨fd, F⟩ := S.def_ 7 (d := d_Field_over) rfl
  exact ok0 F sc_Field_over (F.bindsA fun _ _ _ _ _ _ us hl => match us, hl with | [_, _, _], _ => rfl) len hb
theorem kp_Field_over (S : He.SaysD fa fn K) : PySem.W.keepIn K (.ref (He.ma K (He.ga K "Field") "over")) = true := by
  obtain ⟨fd, F⟩ := S.def_ 7 (d := d_Field_over) rfl
  exact F.kp
theorem kp_Field_total (S : He.SaysD fa fn K) : PySem.W.keepIn K (.ref (He.ma K (He.ga K "Field") "total")) = true := by
  obtain ⟨fd, F⟩ := S.def_ 8 (d := d_Field_total) rfl
  exact F.kp
theorem mk_Field_holds (S : He.SaysD fa fn K) (len : ∀ vs H Q E, sp vs H Q E → vs.length = 2)
    (hb : ∀ (cdv : Value) (A : Around) (outer : List Env) (s : Shared) (H : Hp) (vs : List V) (Q : VK) (E : XK), A.guards = some [] → Room k (A.deeper (envOfC "Field.holds" (defScope s_Field_holds) s.heap.objs.size (He.ma K (He.ga K "Field") "holds") cdv)) → sp vs H Q E →
      ∃ t, PSs (cxOf CX0 P w K mg base n_Field_holds "Field.holds" (defScope s_Field_holds) (He.ma K (He.ga K "Field") "holds") cdv A outer s H E).nox (defBody s_Field_holds) t ∧ t { nx := fun _ H' => Q .non H', rt := Q } (start n_Field_holds vs) H) : FnG P w K mg base CX0 (k + 1) (He.ma K (He.ga K "Field") "holds") sp := by
  obtain ⟨fd, F⟩ := S.def_ 9 (d := d_Field_holds) rfl
  exact ok0 F sc_Field_holds (F.bindsA fun _ _ _ _ _ _ us hl => match us, hl with | [_, _], _ => rfl) len hb
theorem kp_Field_holds (S : He.SaysD fa fn K) : PySem.W.keepIn K (.ref (He.ma K (He.ga K "Field") "holds")) = true := by
  obtain ⟨fd, F⟩ := S.def_ 9 (d := d_Field_holds) rfl
  exact F.kp
theorem mk_Field_ratio (S : He.SaysD fa fn K) (len : ∀ vs H Q E, sp vs H Q E → vs.length = 3)
    (hb : ∀ (cdv : Value) (A : Around) (outer : List Env) (s : Shared) (H : Hp) (vs : List V) (Q : VK) (E : XK), A.guards = some [] → Room k (A.deeper (envOfC "Field.ratio" (defScope s_Field_ratio) s.heap.objs.size (He.ma K (He.ga K "Field") "ratio") cdv)) → sp vs H Q E →
      ∃ t, PSs (cxOf CX0 P w K mg base n_Field_ratio "Field.ratio" (defScope s_Field_ratio) (He.ma K (He.ga K "Field") "ratio") cdv A outer s H E).nox (defBody s_Field_ratio) t ∧ t { nx := fun _ H' => Q .non H', rt := Q } (start n_Field_ratio vs) H) : FnG P w K mg base CX0 (k + 1) (He.ma K (He.ga K "Field") "ratio") sp := by
  obtain ⟨fd, F⟩ := S.def_ 10 (d := d_Field_ratio) rfl
  exact ok0 F sc_Field_ratio (F.bindsA fun _ _ _ _ _ _ us hl => match us, hl with | [_, _, _], _ => rfl) len hb
theorem kp_Field_ratio (S : He.SaysD fa fn K) : PySem.W.keepIn K (.ref (He.ma K (He.ga K "Field") "ratio")) = true := by
  obtain ⟨fd, F⟩ := S.def_ 10 (d := d_Field_ratio) rfl
  exact F.kp
theorem mk_Field_product_of (S : He.SaysD fa fn K) (len : ∀ vs H Q E, sp vs H Q E → vs.length = 3)
    (hb : ∀ (cdv : Value) (A : Around) (outer : List Env) (s : Shared) (H : Hp) (vs : List V) (Q : VK) (E : XK), A.guards = some [] → Room k (A.deeper (envOfC "Field.product_of" (defScope s_Field_product_of) s.heap.objs.size (He.ma K (He.ga K "Field") "product_of") cdv)) → sp vs H Q E →
      ∃ t, PSs (cxOf CX0 P w K mg base n_Field_product_of "Field.product_of" (defScope s_Field_product_of) (He.ma K (He.ga K "Field") "product_of") cdv A outer s H E).nox (defBody s_Field_product_of) t ∧ t { nx := fun _ H' => Q .non H', rt := Q } (start n_Field_product_of vs) H) : FnG P w K mg base CX0 (k + 1) (He.ma K (He.ga K "Field") "product_of") sp := by
  obtain ⟨fd, F⟩ := S.def_ 11 (d := d_Field_product_of) rfl
  exact ok0 F sc_Field_product_of (F.bindsA fun _ _ _ _ _ _ us hl => match us, hl with | [_, _, _], _ => rfl) len hb
theorem kp_Field_product_of (S : He.SaysD fa fn K) : PySem.W.keepIn K (.ref (He.ma K (He.ga K "Field") "product_of")) = true := by
  obtain ⟨fd, F⟩ := S.def_ 11 (d := d_Field_product_of) rfl
  exact F.kp
theorem mk_Field_sum_of (S : He.SaysD fa fn K) (len : ∀ vs H Q E, sp vs H Q E → vs.length = 3)
    (hb : ∀ (cdv : Value) (A : Around) (outer : List Env) (s : Shared) (H : Hp) (vs : List V) (Q : VK) (E : XK), A.guards = some [] → Room k (A.deeper (envOfC "Field.sum_of" (defScope s_Field_sum_of) s.heap.objs.size (He.ma K (He.ga K "Field") "sum_of") cdv)) → sp vs H Q E →
      ∃ t, PSs (cxOf CX0 P w K mg base n_Field_sum_of "Field.sum_of" (defScope s_Field_sum_of) (He.ma K (He.ga K "Field") "sum_of") cdv A outer s H E).nox (defBody s_Field_sum_of) t ∧ t { nx := fun _ H' => Q .non H', rt := Q } (start n_Field_sum_of vs) H) : FnG P w K mg base CX0 (k + 1) (He.ma K (He.ga K "Field") "sum_of") sp := by
  obtain ⟨fd, F⟩ := S.def_ 12 (d := d_Field_sum_of) rfl
  exact ok0 F sc_Field_sum_of (F.bindsA fun _ _ _ _ _ _ us hl => match us, hl with | [_, _, _], _ => rfl) len hb
theorem kp_Field_sum_of (S : He.SaysD fa fn K) : PySem.W.keepIn K (.ref (He.ma K (He.ga K "Field") "sum_of")) = true := by
  obtain ⟨fd, F⟩ := S.def_ 12 (d := d_Field_sum_of) rfl
  exact F.kp
theorem mk_Field_difference_of (S : He.SaysD fa fn K) (len : ∀ vs H Q E, sp vs H Q E → vs.length = 3)
    (hb : ∀ (cdv : Value) (A : Around) (outer : List Env) (s : Shared) (H : Hp) (vs : List V) (Q : VK) (E : XK), A.guards = some [] → Room k (A.deeper (envOfC "Field.difference_of" (defScope s_Field_difference_of) s.heap.objs.size (He.ma K (He.ga K "Field") "difference_of") cdv)) → sp vs H Q E →
      ∃ t, PSs (cxOf CX0 P w K mg base n_Field_difference_of "Field.difference_of" (defScope s_Field_difference_of) (He.ma K (He.ga K "Field") "difference_of") cdv A outer s H E).nox (defBody s_Field_difference_of) t ∧ t { nx := fun _ H' => Q .non H', rt := Q } (start n_Field_difference_of vs) H) : FnG P w K mg base CX0 (k + 1) (He.ma K (He.ga K "Field") "difference_of") sp := by
  obtain ⟨fd, F⟩ := S.def_ 13 (d := d_Field_difference_of) rfl
  exact ok0 F sc_Field_difference_of (F.bindsA fun _ _ _ _ _ _ us hl => match us, hl with | [_, _, _], _ => rfl) len hb
theorem kp_Field_difference_of (S : He.SaysD fa fn K) : PySem.W.keepIn K (.ref (He.ma K (He.ga K "Field") "difference_of")) = true := by
  obtain ⟨fd, F⟩ := S.def_ 13 (d := d_Field_difference_of) rfl
  exact F.kp
theorem mk_Field_quotient_of (S : He.SaysD fa fn K) (len : ∀ vs H Q E, sp vs H Q E → vs.length = 3)
    (hb : ∀ (cdv : Value) (A : Around) (outer : List Env) (s : Shared) (H : Hp) (vs : List V) (Q : VK) (E : XK), A.guards = some [] → Room k (A.deeper (envOfC "Field.quotient_of" (defScope s_Field_quotient_of) s.heap.objs.size (He.ma K (He.ga K "Field") "quotient_of") cdv)) → sp vs H Q E →
      ∃ t, PSs (cxOf CX0 P w K mg base n_Field_quotient_of "Field.quotient_of" (defScope s_Field_quotient_of) (He.ma K (He.ga K "Field") "quotient_of") cdv A outer s H E).nox (defBody s_Field_quotient_of) t ∧ t { nx := fun _ H' => Q .non H', rt := Q } (start n_Field_quotient_of vs) H) : FnG P w K mg base CX0 (k + 1) (He.ma K (He.ga K "Field") "quotient_of") sp := by
  obtain ⟨fd, F⟩ := S.def_ 14 (d := d_Field_quotient_of) rfl
  exact ok0 F sc_Field_quotient_of (F.bindsA fun _ _ _ _ _ _ us hl => match us, hl with | [_, _, _], _ => rfl) len hb
theorem kp_Field_quotient_of (S : He.SaysD fa fn K) : PySem.W.keepIn K (.ref (He.ma K (He.ga K "Field") "quotient_of")) = true := by
  obtain ⟨fd, F⟩ := S.def_ 14 (d := d_Field_quotient_of) rfl
  exact F.kp
theorem mk_Field_common (S : He.SaysD fa fn K) (len : ∀ vs H Q E, sp vs H Q E → vs.length = 2)
    (hb : ∀ (cdv : Value) (A : Around) (outer : List Env) (s : Shared) (H : Hp) (vs : List V) (Q : VK) (E : XK), A.guards = some [] → Room k (A.deeper (envOfC "Field.common" (defScope s_Field_common) s.heap.objs.size (He.ma K (He.ga K "Field") "common") cdv)) → sp vs H Q E →
      ∃ t, PSs (cxOf CX0 P w K mg base n_Field_common "Field.common" (defScope s_Field_common) (He.ma K (He.ga K "Field") "common") cdv A outer s H E).nox (defBody s_Field_common) t ∧ t { nx := fun _ H' => Q .non H', rt := Q } (start n_Field_common vs) H) : FnG P w K mg base CX0 (k + 1) (He.ma K (He.ga K "Field") "common") sp := by
  obtain ⟨fd, F⟩ := S.def_ 15 (d := d_Field_common) rfl
  exact ok0 F sc_Field_common (F.bindsA fun _ _ _ _ _ _ us hl => match us, hl with | [_, _], _ => rfl) len hb
theorem kp_Field_common (S : He.SaysD fa fn K) : PySem.W.keepIn K (.ref (He.ma K (He.ga K "Field") "common")) = true := by
  obtain ⟨fd, F⟩ := S.def_ 15 (d := d_Field_common) rfl
  exact F.kp
theorem mk_Field__check (S : He.SaysD fa fn K) (len : ∀ vs H Q E, sp vs H Q E → vs.length = 2)
    (hb : ∀ (cdv : Value) (A : Around) (outer : List Env) (s : Shared) (H : Hp) (vs : List V) (Q : VK) (E : XK), A.guards = some [] → Room k (A.deeper (envOfC "Field._check" (defScope s_Field__check) s.heap.objs.size (He.ma K (He.ga K "Field") "_check") cdv)) → sp vs H Q E →
      ∃ t, PSs (cxOf CX0 P w K mg base n_Field__check "Field._check" (defScope s_Field__check) (He.ma K (He.ga K "Field") "_check") cdv A outer s H E).nox (defBody s_Field__check) t ∧ t { nx := fun _ H' => Q .non H', rt := Q } (start n_Field__check vs) H) : FnG P w K mg base CX0 (k + 1) (He.ma K (He.ga K "Field") "_check") sp := by
  obtain ⟨fd, F⟩ := S.def_ 16 (d := d_Field__check) rfl
  exact ok0 F sc_Field__check (F.bindsA fun _ _ _ _ _ _ us hl => match us, hl with | [_, _], _ => rfl) len hb
theorem kp_Field__check (S : He.SaysD fa fn K) : PySem.W.keepIn K (.ref (He.ma K (He.ga K "Field") "_check")) = true := by
  obtain ⟨fd, F⟩ := S.def_ 16 (d := d_Field__check) rfl
  exact F.kp
theorem mk_Fractions___init__ (S : He.SaysD fa fn K) (len : ∀ vs H Q E, sp vs H Q E → vs.length = 1)
    (hb : ∀ (cdv : Value) (A : Around) (outer : List Env) (s : Shared) (H : Hp) (vs : List V) (Q : VK) (E : XK), A.guards = some [] → Room k (A.deeper (envOfC "Fractions.__init__" (defScope s_Fractions___init__) s.heap.objs.size (He.ma K (He.ga K "Fractions") "__init__") cdv)) → sp vs H Q E →
      ∃ t, PSs (cxOf CX0 P w K mg base n_Fractions___init__ "Fractions.__init__" (defScope s_Fractions___init__) (He.ma K (He.ga K "Fractions") "__init__") cdv A outer s H E).nox (defBody s_Fractions___init__) t ∧ t { nx := fun _ H' => Q .non H', rt := Q } (start n_Fractions___init__ vs) H) : FnG P w K mg base CX0 (k + 1) (He.ma K (He.ga K "Fractions") "__init__") sp := by
  obtain ⟨fd, F⟩ := S.def_ 17 (d := d_Fractions___init__) rfl
  exact ok0 F sc_Fractions___init__ (F.bindsA fun _ _ _ _ _ _ us hl => match us, hl with | [_], _ => rfl) len hb
theorem kp_Fractions___init__ (S : He.SaysD fa fn K) : PySem.W.keepIn K (.ref (He.ma K (He.ga K "Fractions") "__init__")) = true := by
  obtain ⟨fd, F⟩ := S.def_ 17 (d := d_Fractions___init__) rfl
  exact F.kp
theorem mk_Modulo___init__ (S : He.SaysD fa fn K) (len : ∀ vs H Q E, sp vs H Q E → vs.length = 2)
    (hb : ∀ (cdv : Value) (A : Around) (outer : List Env) (s : Shared) (H : Hp) (vs : List V) (Q : VK) (E : XK), A.guards = some [] → Room k (A.deeper (envOfC "Modulo.__init__" (defScope s_Modulo___init__) s.heap.objs.size (He.ma K (He.ga K "Modulo") "__init__") cdv)) → sp vs H Q E →
      ∃ t, PSs (cxOf CX0 P w K mg base n_Modulo___init__ "Modulo.__init__" (defScope s_Modulo___init__) (He.ma K (He.ga K "Modulo") "__init__") cdv A outer s H E).nox (defBody s_Modulo___init__) t ∧ t { nx := fun _ H' => Q .non H', rt := Q } (start n_Modulo___init__ vs) H) : FnG P w K mg base CX0 (k + 1) (He.ma K (He.ga K "Modulo") "__init__") sp := by
  obtain ⟨fd, F⟩ := S.def_ 18 (d := d_Modulo___init__) rfl
  exact ok0 F sc_Modulo___init__ (F.bindsA fun _ _ _ _ _ _ us hl => match us, hl with | [_, _], _ => rfl) len hb
theorem kp_Modulo___init__ (S : He.SaysD fa fn K) : PySem.W.keepIn K (.ref (He.ma K (He.ga K "Modulo") "__init__")) = true := by
  obtain ⟨fd, F⟩ := S.def_ 18 (d := d_Modulo___init__) rfl
  exact F.kp
theorem mk_is_prime (S : He.SaysD fa fn K) (len : ∀ vs H Q E, sp vs H Q E → vs.length = 1)
    (hb : ∀ (cdv : Value) (A : Around) (outer : List Env) (s : Shared) (H : Hp) (vs : List V) (Q : VK) (E : XK), A.guards = some [] → Room k (A.deeper (envOfC "is_prime" (defScope s_is_prime) s.heap.objs.size (He.ga K "is_prime") cdv)) → sp vs H Q E →
      ∃ t, PSs (cxOf CX0 P w K mg base n_is_prime "is_prime" (defScope s_is_prime) (He.ga K "is_prime") cdv A outer s H E).nox (defBody s_is_prime) t ∧ t { nx := fun _ H' => Q .non H', rt := Q } (start n_is_prime vs) H) : FnG P w K mg base CX0 (k + 1) (He.ga K "is_prime") sp := by
  obtain ⟨fd, F⟩ := S.def_ 19 (d := d_is_prime) rfl
  exact ok0 F sc_is_prime (F.bindsA fun _ _ _ _ _ _ us hl => match us, hl with | [_], _ => rfl) len hb
theorem kp_is_prime (S : He.SaysD fa fn K) : PySem.W.keepIn K (.ref (He.ga K "is_prime")) = true := by
  obtain ⟨fd, F⟩ := S.def_ 19 (d := d_is_prime) rfl
  exact F.kp
theorem mk_is_fraction (S : He.SaysD fa fn K) (len : ∀ vs H Q E, sp vs H Q E → vs.length = 1)
    (hb : ∀ (cdv : Value) (A : Around) (outer : List Env) (s : Shared) (H : Hp) (vs : List V) (Q : VK) (E : XK), A.guards = some [] → Room k (A.deeper (envOfC "is_fraction" (defScope s_is_fraction) s.heap.objs.size (He.ga K "is_fraction") cdv)) → sp vs H Q E →
      ∃ t, PSs (cxOf CX0 P w K mg base n_is_fraction "is_fraction" (defScope s_is_fraction) (He.ga K "is_fraction") cdv A outer s H E).nox (defBody s_is_fraction) t ∧ t { nx := fun _ H' => Q .non H', rt := Q } (start n_is_fraction vs) H) : FnG P w K mg base CX0 (k + 1) (He.ga K "is_fraction") sp := by
  obtain ⟨fd, F⟩ := S.def_ 20 (d := d_is_fraction) rfl
  exact ok0 F sc_is_fraction (F.bindsA fun _ _ _ _ _ _ us hl => match us, hl with | [_], _ => rfl) len hb
theorem kp_is_fraction (S : He.SaysD fa fn K) : PySem.W.keepIn K (.ref (He.ga K "is_fraction")) = true := by
  obtain ⟨fd, F⟩ := S.def_ 20 (d := d_is_fraction) rfl
  exact F.kp
theorem mk_is_longer (S : He.SaysD fa fn K) (len : ∀ vs H Q E, sp vs H Q E → vs.length = 2)
    (hb : ∀ (cdv : Value) (A : Around) (outer : List Env) (s : Shared) (H : Hp) (vs : List V) (Q : VK) (E : XK), A.guards = some [] → Room k (A.deeper (envOfC "is_longer" (defScope s_is_longer) s.heap.objs.size (He.ga K "is_longer") cdv)) → sp vs H Q E →
      ∃ t, PSs (cxOf CX0 P w K mg base n_is_longer "is_longer" (defScope s_is_longer) (He.ga K "is_longer") cdv A outer s H E).nox (defBody s_is_longer) t ∧ t { nx := fun _ H' => Q .non H', rt := Q } (start n_is_longer vs) H) : FnG P w K mg base CX0 (k + 1) (He.ga K "is_longer") sp := by
  obtain ⟨fd, F⟩ := S.def_ 21 (d := d_is_longer) rfl
  exact ok0 F sc_is_longer (F.bindsA fun _ _ _ _ _ _ us hl => match us, hl with | [_, _], _ => rfl) len hb
theorem kp_is_longer (S : He.SaysD fa fn K) : PySem.W.keepIn K (.ref (He.ga K "is_longer")) = true := by
  obtain ⟨fd, F⟩ := S.def_ 21 (d := d_is_longer) rfl
  exact F.kp
theorem mk_parts (S : He.SaysD fa fn K) (len : ∀ vs H Q E, sp vs H Q E → vs.length = 1)
    (hb : ∀ (cdv : Value) (A : Around) (outer : List Env) (s : Shared) (H : Hp) (vs : List V) (Q : VK) (E : XK), A.guards = some [] → Room k (A.deeper (envOfC "parts" (defScope s_parts) s.heap.objs.size (He.ga K "parts") cdv)) → sp vs H Q E →
      ∃ t, PSs (cxOf CX0 P w K mg base n_parts "parts" (defScope s_parts) (He.ga K "parts") cdv A outer s H E).nox (defBody s_parts) t ∧ t { nx := fun _ H' => Q .non H', rt := Q } (start n_parts vs) H) : FnG P w K mg base CX0 (k + 1) (He.ga K "parts") sp := by
  obtain ⟨fd, F⟩ := S.def_ 22 (d := d_parts) rfl
  exact ok0 F sc_parts (F.bindsA fun _ _ _ _ _ _ us hl => match us, hl with | [_], _ => rfl) len hb
theorem kp_parts (S : He.SaysD fa fn K) : PySem.W.keepIn K (.ref (He.ga K "parts")) = true := by
  obtain ⟨fd, F⟩ := S.def_ 22 (d := d_parts) rfl
  exact F.kp
theorem mk_shortened (S : He.SaysD fa fn K) (len : ∀ vs H Q E, sp vs H Q E → vs.length = 2)
    (hb : ∀ (cdv : Value) (A : Around) (outer : List Env) (s : Shared) (H : Hp) (vs : List V) (Q : VK) (E : XK), A.guards = some [] → Room k (A.deeper (envOfC "shortened" (defScope s_shortened) s.heap.objs.size (He.ga K "shortened") cdv)) → sp vs H Q E →
      ∃ t, PSs (cxOf CX0 P w K mg base n_shortened "shortened" (defScope s_shortened) (He.ga K "shortened") cdv A outer s H E).nox (defBody s_shortened) t ∧ t { nx := fun _ H' => Q .non H', rt := Q } (start n_shortened vs) H) : FnG P w K mg base CX0 (k + 1) (He.ga K "shortened") sp := by
  obtain ⟨fd, F⟩ := S.def_ 23 (d := d_shortened) rfl
  exact ok0 F sc_shortened (F.bindsA fun _ _ _ _ _ _ us hl => match us, hl with | [_, _], _ => rfl) len hb
theorem kp_shortened (S : He.SaysD fa fn K) : PySem.W.keepIn K (.ref (He.ga K "shortened")) = true := by
  obtain ⟨fd, F⟩ := S.def_ 23 (d := d_shortened) rfl
  exact F.kp
theorem mk_inverse (S : He.SaysD fa fn K) (len : ∀ vs H Q E, sp vs H Q E → vs.length = 2)
    (hb : ∀ (cdv : Value) (A : Around) (outer : List Env) (s : Shared) (H : Hp) (vs : List V) (Q : VK) (E : XK), A.guards = some [] → Room k (A.deeper (envOfC "inverse" (defScope s_inverse) s.heap.objs.size (He.ga K "inverse") cdv)) → sp vs H Q E →
      ∃ t, PSs (cxOf CX0 P w K mg base n_inverse "inverse" (defScope s_inverse) (He.ga K "inverse") cdv A outer s H E).nox (defBody s_inverse) t ∧ t { nx := fun _ H' => Q .non H', rt := Q } (start n_inverse vs) H) : FnG P w K mg base CX0 (k + 1) (He.ga K "inverse") sp := by
  obtain ⟨fd, F⟩ := S.def_ 24 (d := d_inverse) rfl
  exact ok0 F sc_inverse (F.bindsA fun _ _ _ _ _ _ us hl => match us, hl with | [_, _], _ => rfl) len hb
theorem kp_inverse (S : He.SaysD fa fn K) : PySem.W.keepIn K (.ref (He.ga K "inverse")) = true := by
  obtain ⟨fd, F⟩ := S.def_ 24 (d := d_inverse) rfl
  exact F.kp
theorem mk__law_pen (S : He.SaysD fa fn K) (len : ∀ vs H Q E, sp vs H Q E → vs.length = 1)
    (hb : ∀ (cdv : Value) (A : Around) (outer : List Env) (s : Shared) (H : Hp) (vs : List V) (Q : VK) (E : XK), A.guards = some [] → Room k (A.deeper (envOfC "_law_pen" (defScope s__law_pen) s.heap.objs.size (He.ga K "_law_pen") cdv)) → sp vs H Q E →
      ∃ t, PSs (cxOf CX0 P w K mg base n__law_pen "_law_pen" (defScope s__law_pen) (He.ga K "_law_pen") cdv A outer s H E).nox (defBody s__law_pen) t ∧ t { nx := fun _ H' => Q .non H', rt := Q } (start n__law_pen vs) H) : FnG P w K mg base CX0 (k + 1) (He.ga K "_law_pen") sp := by
  obtain ⟨fd, F⟩ := S.def_ 25 (d := d__law_pen) rfl
  exact ok0 F sc__law_pen (F.bindsA fun _ _ _ _ _ _ us hl => match us, hl with | [_], _ => rfl) len hb
theorem kp__law_pen (S : He.SaysD fa fn K) : PySem.W.keepIn K (.ref (He.ga K "_law_pen")) = true := by
  obtain ⟨fd, F⟩ := S.def_ 25 (d := d__law_pen) rfl
  exact F.kp
theorem mk__law_draw (S : He.SaysD fa fn K) (len : ∀ vs H Q E, sp vs H Q E → vs.length = 2)
    (hb : ∀ (cdv : Value) (A : Around) (outer : List Env) (s : Shared) (H : Hp) (vs : List V) (Q : VK) (E : XK), A.guards = some [] → Room k (A.deeper (envOfC "_law_draw" (defScope s__law_draw) s.heap.objs.size (He.ga K "_law_draw") cdv)) → sp vs H Q E →
      ∃ t, PSs (cxOf CX0 P w K mg base n__law_draw "_law_draw" (defScope s__law_draw) (He.ga K "_law_draw") cdv A outer s H E).nox (defBody s__law_draw) t ∧ t { nx := fun _ H' => Q .non H', rt := Q } (start n__law_draw vs) H) : FnG P w K mg base CX0 (k + 1) (He.ga K "_law_draw") sp := by
  obtain ⟨fd, F⟩ := S.def_ 26 (d := d__law_draw) rfl
  exact ok0 F sc__law_draw (F.bindsA fun _ _ _ _ _ _ us hl => match us, hl with | [_, _], _ => rfl) len hb
theorem kp__law_draw (S : He.SaysD fa fn K) : PySem.W.keepIn K (.ref (He.ga K "_law_draw")) = true := by
  obtain ⟨fd, F⟩ := S.def_ 26 (d := d__law_draw) rfl
  exact F.kp
theorem mk__law_pick (S : He.SaysD fa fn K) (len : ∀ vs H Q E, sp vs H Q E → vs.length = 2)
    (hb : ∀ (cdv : Value) (A : Around) (outer : List Env) (s : Shared) (H : Hp) (vs : List V) (Q : VK) (E : XK), A.guards = some [] → Room k (A.deeper (envOfC "_law_pick" (defScope s__law_pick) s.heap.objs.size (He.ga K "_law_pick") cdv)) → sp vs H Q E →
      ∃ t, PSs (cxOf CX0 P w K mg base n__law_pick "_law_pick" (defScope s__law_pick) (He.ga K "_law_pick") cdv A outer s H E).nox (defBody s__law_pick) t ∧ t { nx := fun _ H' => Q .non H', rt := Q } (start n__law_pick vs) H) : FnG P w K mg base CX0 (k + 1) (He.ga K "_law_pick") sp := by
  obtain ⟨fd, F⟩ := S.def_ 27 (d := d__law_pick) rfl
  exact ok0 F sc__law_pick (F.bindsA fun _ _ _ _ _ _ us hl => match us, hl with | [_, _], _ => rfl) len hb
theorem kp__law_pick (S : He.SaysD fa fn K) : PySem.W.keepIn K (.ref (He.ga K "_law_pick")) = true := by
  obtain ⟨fd, F⟩ := S.def_ 27 (d := d__law_pick) rfl
  exact F.kp
theorem mk__law_prime (S : He.SaysD fa fn K) (len : ∀ vs H Q E, sp vs H Q E → vs.length = 1)
    (hb : ∀ (cdv : Value) (A : Around) (outer : List Env) (s : Shared) (H : Hp) (vs : List V) (Q : VK) (E : XK), A.guards = some [] → Room k (A.deeper (envOfC "_law_prime" (defScope s__law_prime) s.heap.objs.size (He.ga K "_law_prime") cdv)) → sp vs H Q E →
      ∃ t, PSs (cxOf CX0 P w K mg base n__law_prime "_law_prime" (defScope s__law_prime) (He.ga K "_law_prime") cdv A outer s H E).nox (defBody s__law_prime) t ∧ t { nx := fun _ H' => Q .non H', rt := Q } (start n__law_prime vs) H) : FnG P w K mg base CX0 (k + 1) (He.ga K "_law_prime") sp := by
  obtain ⟨fd, F⟩ := S.def_ 28 (d := d__law_prime) rfl
  exact ok0 F sc__law_prime (F.bindsA fun _ _ _ _ _ _ us hl => match us, hl with | [_], _ => rfl) len hb
theorem kp__law_prime (S : He.SaysD fa fn K) : PySem.W.keepIn K (.ref (He.ga K "_law_prime")) = true := by
  obtain ⟨fd, F⟩ := S.def_ 28 (d := d__law_prime) rfl
  exact F.kp
theorem mk__law_number (S : He.SaysD fa fn K) (len : ∀ vs H Q E, sp vs H Q E → vs.length = 2)
    (hb : ∀ (cdv : Value) (A : Around) (outer : List Env) (s : Shared) (H : Hp) (vs : List V) (Q : VK) (E : XK), A.guards = some [] → Room k (A.deeper (envOfC "_law_number" (defScope s__law_number) s.heap.objs.size (He.ga K "_law_number") cdv)) → sp vs H Q E →
      ∃ t, PSs (cxOf CX0 P w K mg base n__law_number "_law_number" (defScope s__law_number) (He.ga K "_law_number") cdv A outer s H E).nox (defBody s__law_number) t ∧ t { nx := fun _ H' => Q .non H', rt := Q } (start n__law_number vs) H) : FnG P w K mg base CX0 (k + 1) (He.ga K "_law_number") sp := by
  obtain ⟨fd, F⟩ := S.def_ 29 (d := d__law_number) rfl
  exact ok0 F sc__law_number (F.bindsA fun _ _ _ _ _ _ us hl => match us, hl with | [_, _], _ => rfl) len hb
theorem kp__law_number (S : He.SaysD fa fn K) : PySem.W.keepIn K (.ref (He.ga K "_law_number")) = true := by
  obtain ⟨fd, F⟩ := S.def_ 29 (d := d__law_number) rfl
  exact F.kp
theorem mk__law_signed (S : He.SaysD fa fn K) (len : ∀ vs H Q E, sp vs H Q E → vs.length = 2)
    (hb : ∀ (cdv : Value) (A : Around) (outer : List Env) (s : Shared) (H : Hp) (vs : List V) (Q : VK) (E : XK), A.guards = some [] → Room k (A.deeper (envOfC "_law_signed" (defScope s__law_signed) s.heap.objs.size (He.ga K "_law_signed") cdv)) → sp vs H Q E →
      ∃ t, PSs (cxOf CX0 P w K mg base n__law_signed "_law_signed" (defScope s__law_signed) (He.ga K "_law_signed") cdv A outer s H E).nox (defBody s__law_signed) t ∧ t { nx := fun _ H' => Q .non H', rt := Q } (start n__law_signed vs) H) : FnG P w K mg base CX0 (k + 1) (He.ga K "_law_signed") sp := by
  obtain ⟨fd, F⟩ := S.def_ 30 (d := d__law_signed) rfl
  exact ok0 F sc__law_signed (F.bindsA fun _ _ _ _ _ _ us hl => match us, hl with | [_, _], _ => rfl) len hb
theorem kp__law_signed (S : He.SaysD fa fn K) : PySem.W.keepIn K (.ref (He.ga K "_law_signed")) = true := by
  obtain ⟨fd, F⟩ := S.def_ 30 (d := d__law_signed) rfl
  exact F.kp
theorem mk__law_gcd (S : He.SaysD fa fn K) (len : ∀ vs H Q E, sp vs H Q E → vs.length = 2)
    (hb : ∀ (cdv : Value) (A : Around) (outer : List Env) (s : Shared) (H : Hp) (vs : List V) (Q : VK) (E : XK), A.guards = some [] → Room k (A.deeper (envOfC "_law_gcd" (defScope s__law_gcd) s.heap.objs.size (He.ga K "_law_gcd") cdv)) → sp vs H Q E →
      ∃ t, PSs (cxOf CX0 P w K mg base n__law_gcd "_law_gcd" (defScope s__law_gcd) (He.ga K "_law_gcd") cdv A outer s H E).nox (defBody s__law_gcd) t ∧ t { nx := fun _ H' => Q .non H', rt := Q } (start n__law_gcd vs) H) : FnG P w K mg base CX0 (k + 1) (He.ga K "_law_gcd") sp := by
  obtain ⟨fd, F⟩ := S.def_ 31 (d := d__law_gcd) rfl
  exact ok0 F sc__law_gcd (F.bindsA fun _ _ _ _ _ _ us hl => match us, hl with | [_, _], _ => rfl) len hb
theorem kp__law_gcd (S : He.SaysD fa fn K) : PySem.W.keepIn K (.ref (He.ga K "_law_gcd")) = true := by
  obtain ⟨fd, F⟩ := S.def_ 31 (d := d__law_gcd) rfl
  exact F.kp
theorem mk__law_told (S : He.SaysD fa fn K) (len : ∀ vs H Q E, sp vs H Q E → vs.length = 2)
    (hb : ∀ (cdv : Value) (A : Around) (outer : List Env) (s : Shared) (H : Hp) (vs : List V) (Q : VK) (E : XK), A.guards = some [] → Room k (A.deeper (envOfC "_law_told" (defScope s__law_told) s.heap.objs.size (He.ga K "_law_told") cdv)) → sp vs H Q E →
      ∃ t, PSs (cxOf CX0 P w K mg base n__law_told "_law_told" (defScope s__law_told) (He.ga K "_law_told") cdv A outer s H E).nox (defBody s__law_told) t ∧ t { nx := fun _ H' => Q .non H', rt := Q } (start n__law_told vs) H) : FnG P w K mg base CX0 (k + 1) (He.ga K "_law_told") sp := by
  obtain ⟨fd, F⟩ := S.def_ 32 (d := d__law_told) rfl
  exact ok0 F sc__law_told (F.bindsA fun _ _ _ _ _ _ us hl => match us, hl with | [_, _], _ => rfl) len hb
theorem kp__law_told (S : He.SaysD fa fn K) : PySem.W.keepIn K (.ref (He.ga K "_law_told")) = true := by
  obtain ⟨fd, F⟩ := S.def_ 32 (d := d__law_told) rfl
  exact F.kp
theorem mk__law_two (S : He.SaysD fa fn K) (len : ∀ vs H Q E, sp vs H Q E → vs.length = 1)
    (hb : ∀ (cdv : Value) (A : Around) (outer : List Env) (s : Shared) (H : Hp) (vs : List V) (Q : VK) (E : XK), A.guards = some [] → Room k (A.deeper (envOfC "_law_two" (defScope s__law_two) s.heap.objs.size (He.ga K "_law_two") cdv)) → sp vs H Q E →
      ∃ t, PSs (cxOf CX0 P w K mg base n__law_two "_law_two" (defScope s__law_two) (He.ga K "_law_two") cdv A outer s H E).nox (defBody s__law_two) t ∧ t { nx := fun _ H' => Q .non H', rt := Q } (start n__law_two vs) H) : FnG P w K mg base CX0 (k + 1) (He.ga K "_law_two") sp := by
  obtain ⟨fd, F⟩ := S.def_ 33 (d := d__law_two) rfl
  exact ok0 F sc__law_two (F.bindsA fun _ _ _ _ _ _ us hl => match us, hl with | [_], _ => rfl) len hb
theorem kp__law_two (S : He.SaysD fa fn K) : PySem.W.keepIn K (.ref (He.ga K "_law_two")) = true := by
  obtain ⟨fd, F⟩ := S.def_ 33 (d := d__law_two) rfl
  exact F.kp
theorem mk__law_any_number (S : He.SaysD fa fn K) (len : ∀ vs H Q E, sp vs H Q E → vs.length = 3)
    (hb : ∀ (cdv : Value) (A : Around) (outer : List Env) (s : Shared) (H : Hp) (vs : List V) (Q : VK) (E : XK), A.guards = some [] → Room k (A.deeper (envOfC "_law_any_number" (defScope s__law_any_number) s.heap.objs.size (He.ga K "_law_any_number") cdv)) → sp vs H Q E →
      ∃ t, PSs (cxOf CX0 P w K mg base n__law_any_number "_law_any_number" (defScope s__law_any_number) (He.ga K "_law_any_number") cdv A outer s H E).nox (defBody s__law_any_number) t ∧ t { nx := fun _ H' => Q .non H', rt := Q } (start n__law_any_number vs) H) : FnG P w K mg base CX0 (k + 1) (He.ga K "_law_any_number") sp := by
  obtain ⟨fd, F⟩ := S.def_ 34 (d := d__law_any_number) rfl
  exact ok0 F sc__law_any_number (F.bindsA fun _ _ _ _ _ _ us hl => match us, hl with | [_, _, _], _ => rfl) len hb
theorem kp__law_any_number (S : He.SaysD fa fn K) : PySem.W.keepIn K (.ref (He.ga K "_law_any_number")) = true := by
  obtain ⟨fd, F⟩ := S.def_ 34 (d := d__law_any_number) rfl
  exact F.kp
theorem mk__law_made_field (S : He.SaysD fa fn K) (len : ∀ vs H Q E, sp vs H Q E → vs.length = 1)
    (hb : ∀ (cdv : Value) (A : Around) (outer : List Env) (s : Shared) (H : Hp) (vs : List V) (Q : VK) (E : XK), A.guards = some [] → Room k (A.deeper (envOfC "_law_made_field" (defScope s__law_made_field) s.heap.objs.size (He.ga K "_law_made_field") cdv)) → sp vs H Q E →
      ∃ t, PSs (cxOf CX0 P w K mg base n__law_made_field "_law_made_field" (defScope s__law_made_field) (He.ga K "_law_made_field") cdv A outer s H E).nox (defBody s__law_made_field) t ∧ t { nx := fun _ H' => Q .non H', rt := Q } (start n__law_made_field vs) H) : FnG P w K mg base CX0 (k + 1) (He.ga K "_law_made_field") sp := by
  obtain ⟨fd, F⟩ := S.def_ 35 (d := d__law_made_field) rfl
  exact ok0 F sc__law_made_field (F.bindsA fun _ _ _ _ _ _ us hl => match us, hl with | [_], _ => rfl) len hb
theorem kp__law_made_field (S : He.SaysD fa fn K) : PySem.W.keepIn K (.ref (He.ga K "_law_made_field")) = true := by
  obtain ⟨fd, F⟩ := S.def_ 35 (d := d__law_made_field) rfl
  exact F.kp
theorem mk__law_any_prime (S : He.SaysD fa fn K) (len : ∀ vs H Q E, sp vs H Q E → vs.length = 1)
    (hb : ∀ (cdv : Value) (A : Around) (outer : List Env) (s : Shared) (H : Hp) (vs : List V) (Q : VK) (E : XK), A.guards = some [] → Room k (A.deeper (envOfC "_law_any_prime" (defScope s__law_any_prime) s.heap.objs.size (He.ga K "_law_any_prime") cdv)) → sp vs H Q E →
      ∃ t, PSs (cxOf CX0 P w K mg base n__law_any_prime "_law_any_prime" (defScope s__law_any_prime) (He.ga K "_law_any_prime") cdv A outer s H E).nox (defBody s__law_any_prime) t ∧ t { nx := fun _ H' => Q .non H', rt := Q } (start n__law_any_prime vs) H) : FnG P w K mg base CX0 (k + 1) (He.ga K "_law_any_prime") sp := by
  obtain ⟨fd, F⟩ := S.def_ 36 (d := d__law_any_prime) rfl
  exact ok0 F sc__law_any_prime (F.bindsA fun _ _ _ _ _ _ us hl => match us, hl with | [_], _ => rfl) len hb
theorem kp__law_any_prime (S : He.SaysD fa fn K) : PySem.W.keepIn K (.ref (He.ga K "_law_any_prime")) = true := by
  obtain ⟨fd, F⟩ := S.def_ 36 (d := d__law_any_prime) rfl
  exact F.kp
theorem mk__law_rest (S : He.SaysD fa fn K) (len : ∀ vs H Q E, sp vs H Q E → vs.length = 2)
    (hb : ∀ (cdv : Value) (A : Around) (outer : List Env) (s : Shared) (H : Hp) (vs : List V) (Q : VK) (E : XK), A.guards = some [] → Room k (A.deeper (envOfC "_law_rest" (defScope s__law_rest) s.heap.objs.size (He.ga K "_law_rest") cdv)) → sp vs H Q E →
      ∃ t, PSs (cxOf CX0 P w K mg base n__law_rest "_law_rest" (defScope s__law_rest) (He.ga K "_law_rest") cdv A outer s H E).nox (defBody s__law_rest) t ∧ t { nx := fun _ H' => Q .non H', rt := Q } (start n__law_rest vs) H) : FnG P w K mg base CX0 (k + 1) (He.ga K "_law_rest") sp := by
  obtain ⟨fd, F⟩ := S.def_ 37 (d := d__law_rest) rfl
  exact ok0 F sc__law_rest (F.bindsA fun _ _ _ _ _ _ us hl => match us, hl with | [_, _], _ => rfl) len hb
theorem kp__law_rest (S : He.SaysD fa fn K) : PySem.W.keepIn K (.ref (He.ga K "_law_rest")) = true := by
  obtain ⟨fd, F⟩ := S.def_ 37 (d := d__law_rest) rfl
  exact F.kp
theorem mk__law_rests_right (S : He.SaysD fa fn K) (len : ∀ vs H Q E, sp vs H Q E → vs.length = 4)
    (hb : ∀ (cdv : Value) (A : Around) (outer : List Env) (s : Shared) (H : Hp) (vs : List V) (Q : VK) (E : XK), A.guards = some [] → Room k (A.deeper (envOfC "_law_rests_right" (defScope s__law_rests_right) s.heap.objs.size (He.ga K "_law_rests_right") cdv)) → sp vs H Q E →
      ∃ t, PSs (cxOf CX0 P w K mg base n__law_rests_right "_law_rests_right" (defScope s__law_rests_right) (He.ga K "_law_rests_right") cdv A outer s H E).nox (defBody s__law_rests_right) t ∧ t { nx := fun _ H' => Q .non H', rt := Q } (start n__law_rests_right vs) H) : FnG P w K mg base CX0 (k + 1) (He.ga K "_law_rests_right") sp := by
  obtain ⟨fd, F⟩ := S.def_ 38 (d := d__law_rests_right) rfl
  exact ok0 F sc__law_rests_right (F.bindsA fun _ _ _ _ _ _ us hl => match us, hl with | [_, _, _, _], _ => rfl) len hb
theorem kp__law_rests_right (S : He.SaysD fa fn K) : PySem.W.keepIn K (.ref (He.ga K "_law_rests_right")) = true := by
  obtain ⟨fd, F⟩ := S.def_ 38 (d := d__law_rests_right) rfl
  exact F.kp
theorem mk__law_groups_right (S : He.SaysD fa fn K) (len : ∀ vs H Q E, sp vs H Q E → vs.length = 4)
    (hb : ∀ (cdv : Value) (A : Around) (outer : List Env) (s : Shared) (H : Hp) (vs : List V) (Q : VK) (E : XK), A.guards = some [] → Room k (A.deeper (envOfC "_law_groups_right" (defScope s__law_groups_right) s.heap.objs.size (He.ga K "_law_groups_right") cdv)) → sp vs H Q E →
      ∃ t, PSs (cxOf CX0 P w K mg base n__law_groups_right "_law_groups_right" (defScope s__law_groups_right) (He.ga K "_law_groups_right") cdv A outer s H E).nox (defBody s__law_groups_right) t ∧ t { nx := fun _ H' => Q .non H', rt := Q } (start n__law_groups_right vs) H) : FnG P w K mg base CX0 (k + 1) (He.ga K "_law_groups_right") sp := by
  obtain ⟨fd, F⟩ := S.def_ 39 (d := d__law_groups_right) rfl
  exact ok0 F sc__law_groups_right (F.bindsA fun _ _ _ _ _ _ us hl => match us, hl with | [_, _, _, _], _ => rfl) len hb
theorem kp__law_groups_right (S : He.SaysD fa fn K) : PySem.W.keepIn K (.ref (He.ga K "_law_groups_right")) = true := by
  obtain ⟨fd, F⟩ := S.def_ 39 (d := d__law_groups_right) rfl
  exact F.kp
theorem mk_law (S : He.SaysD fa fn K) (len : ∀ vs H Q E, sp vs H Q E → vs.length = 1)
    (hb : ∀ (cdv : Value) (A : Around) (outer : List Env) (s : Shared) (H : Hp) (vs : List V) (Q : VK) (E : XK), A.guards = some [] → Room k (A.deeper (envOfC "law" (defScope s_law) s.heap.objs.size (He.ga K "law") cdv)) → sp vs H Q E →
      ∃ t, PSs (cxOf CX0 P w K mg base n_law "law" (defScope s_law) (He.ga K "law") cdv A outer s H E).nox (defBody s_law) t ∧ t { nx := fun _ H' => Q .non H', rt := Q } (start n_law vs) H) : FnG P w K mg base CX0 (k + 1) (He.ga K "law") sp := by
  obtain ⟨fd, F⟩ := S.def_ 40 (d := d_law) rfl
  exact ok0 F sc_law (F.bindsA fun _ _ _ _ _ _ us hl => match us, hl with | [_], _ => rfl) len hb
theorem kp_law (S : He.SaysD fa fn K) : PySem.W.keepIn K (.ref (He.ga K "law")) = true := by
  obtain ⟨fd, F⟩ := S.def_ 40 (d := d_law) rfl
  exact F.kp
end
end K05

/-! The mathematics of the fractions: the reduced pair, common bottoms. -/
namespace Num
open Rat
theorem den_pos' (q : Rat) : (0 : Int) < (q.den : Int) := Int.natCast_pos.mpr q.den_pos
/-- the divisor with the sign of the bottom -/
def dvs (t b : Int) : Int := if b < 0 then -((Nat.gcd t.natAbs b.natAbs : Nat) : Int) else ((Nat.gcd t.natAbs b.natAbs : Nat) : Int)
theorem dvs_ex {t b : Int} (hb : b ≠ 0) : ∃ (t' b' : Int), t = dvs t b * t' ∧ b = dvs t b * b' ∧ dvs t b ≠ 0 ∧ 0 < b' ∧ (t /. b).num = t' ∧ ((t /. b).den : Int) = b' := by
  have gpos : 0 < Nat.gcd t.natAbs b.natAbs := Nat.gcd_pos_of_pos_right _ (Int.natAbs_pos.mpr hb)
  have gt : ((Nat.gcd t.natAbs b.natAbs : Nat) : Int) ∣ t := Int.natAbs_dvd_natAbs.mp (Nat.gcd_dvd_left _ _)
  have gb : ((Nat.gcd t.natAbs b.natAbs : Nat) : Int) ∣ b := Int.natAbs_dvd_natAbs.mp (Nat.gcd_dvd_right _ _)
  have hn := Rat.num_divInt t b
  have hd := Rat.den_divInt t b
  have eg : Int.gcd b t = Nat.gcd t.natAbs b.natAbs := Nat.gcd_comm _ _
  rw [eg] at hn hd
  rw [if_neg hb] at hd
  unfold dvs
  generalize Nat.gcd t.natAbs b.natAbs = g at *
  obtain ⟨x, ex⟩ := gt
  obtain ⟨y, ey⟩ := gb
  have g0 : (0 : Int) < (g : Int) := Int.natCast_pos.mpr gpos
  by_cases h : b < 0
  · rw [if_pos h]
    have sg : b.sign = -1 := Int.sign_eq_neg_one_of_neg h
    have y0 : y < 0 := by
      by_cases c : y < 0
      · exact c
      · have := Int.mul_nonneg (Int.le_of_lt g0) (Int.not_lt.mp c)
        omega
    refine ⟨-x, -y, by rw [Int.neg_mul_neg]; exact ex, by rw [Int.neg_mul_neg]; exact ey, by omega, by omega, ?_, ?_⟩
    · rw [hn, sg, ex, ← Int.mul_assoc, Int.mul_comm (-1), Int.mul_assoc, Int.mul_ediv_cancel_left _ (by omega)]
      omega
    · rw [hd, Int.natCast_ediv, ey]
      have : (((g : Int) * y).natAbs : Int) = (g : Int) * (-y) := by
        rw [Int.mul_neg]
        have : (g : Int) * y < 0 := by rw [← ey]; exact h
        omega
      rw [this, Int.mul_ediv_cancel_left _ (by omega)]
  · rw [if_neg h]
    have bp : 0 < b := by omega
    have sg : b.sign = 1 := Int.sign_eq_one_of_pos bp
    have y0 : 0 < y := by
      by_cases c : 0 < y
      · exact c
      · have := Int.mul_nonpos_of_nonneg_of_nonpos (Int.le_of_lt g0) (Int.not_lt.mp c)
        omega
    refine ⟨x, y, ex, ey, by omega, y0, ?_, ?_⟩
    · rw [hn, sg, Int.one_mul, ex, Int.mul_ediv_cancel_left _ (by omega)]
    · rw [hd, Int.natCast_ediv, ey]
      have : (((g : Int) * y).natAbs : Int) = (g : Int) * y := by
        have : 0 < (g : Int) * y := by rw [← ey]; exact bp
        omega
      rw [this, Int.mul_ediv_cancel_left _ (by omega)]
theorem dvs_out {t b : Int} (hb : b ≠ 0) : dvs t b ≠ 0 ∧ t.fdiv (dvs t b) = (t /. b).num ∧ b.fdiv (dvs t b) = ((t /. b).den : Int) ∧ (b = dvs t b ↔ (t /. b).den = 1) ∧ (t /. b).num.natAbs ≤ t.natAbs ∧ (t /. b).den ≤ b.natAbs := by
  obtain ⟨t', b', h1, h2, h3, h4, h5, h6⟩ := dvs_ex (t := t) hb
  generalize dvs t b = d at *
  have hd1 : 1 ≤ d.natAbs := by omega
  refine ⟨h3, ?_, ?_, ⟨fun h => ?_, fun h => ?_⟩, ?_, ?_⟩
  · rw [h5]
    conv => lhs; rw [h1]
    exact Int.mul_fdiv_cancel_left _ h3
  · rw [h6]
    conv => lhs; rw [h2]
    exact Int.mul_fdiv_cancel_left _ h3
  · have e : d * b' = d * 1 := by rw [← h2, Int.mul_one]; exact h
    have := Int.eq_of_mul_eq_mul_left h3 e
    omega
  · have e : b' = 1 := by omega
    rw [e, Int.mul_one] at h2
    exact h2
  · rw [h5]
    conv => rhs; rw [h1, Int.natAbs_mul]
    exact Nat.le_mul_of_pos_left _ hd1
  · have e : (t /. b).den = b'.natAbs := by omega
    rw [e]
    conv => rhs; rw [h2, Int.natAbs_mul]
    exact Nat.le_mul_of_pos_left _ hd1
theorem gcd_low (q : Rat) : Nat.gcd q.num.natAbs (q.den : Int).natAbs = 1 := q.reduced
theorem dvs_one (t : Int) : (t /. 1).num = t ∧ (t /. 1).den = 1 := by
  obtain ⟨h1, h2, h3, h4, h5, h6⟩ := dvs_out (t := t) (b := 1) (by decide)
  have e : dvs t 1 = 1 := by
    unfold dvs
    rw [if_neg (by decide)]
    show ((Nat.gcd t.natAbs 1 : Nat) : Int) = 1
    rw [Nat.gcd_one_right]
    rfl
  rw [e, Int.fdiv_one] at h2
  exact ⟨h2.symm, h4.mp e.symm⟩
/-! ### the operations -/
theorem add_is (a b : Rat) : (a.num * b.den + b.num * a.den) /. ((a.den : Int) * b.den) = a + b := by
  rw [Rat.add_def', ← Rat.divInt_ofNat, Int.natCast_mul]
theorem sub_is (a b : Rat) : (a.num * b.den - b.num * a.den) /. ((a.den : Int) * b.den) = a - b := by
  rw [Rat.sub_def', ← Rat.divInt_ofNat, Int.natCast_mul]
theorem mul_is (a b : Rat) : (a.num * b.num) /. ((a.den : Int) * b.den) = a * b := by
  rw [Rat.mul_def', ← Rat.divInt_ofNat, Int.natCast_mul]
/-! ### a common bottom -/
theorem divInt_add_same (a b c : Int) (h : c ≠ 0) : (a + b) /. c = a /. c + b /. c := by
  rw [Rat.divInt_add_divInt _ _ h h, ← Int.add_mul, Rat.divInt_mul_right h]
theorem over_L {q : Rat} {L : Int} (hL : L ≠ 0) (h : (q.den : Int) ∣ L) : (q.num * (L / q.den)) /. L = q := by
  obtain ⟨x, ex⟩ := h
  have d0 := den_pos' q
  have x0 : x ≠ 0 := by
    intro z
    rw [z, Int.mul_zero] at ex
    exact hL ex
  have e : L / (q.den : Int) = x := by
    rw [ex]
    exact Int.mul_ediv_cancel_left _ (by omega)
  rw [e, ex, Rat.divInt_mul_right x0, Rat.num_divInt_den]
theorem sum_L {L : Int} (hL : L ≠ 0) : ∀ qs : List Rat, (∀ q ∈ qs, (q.den : Int) ∣ L) → (qs.map fun q => q.num * (L / q.den)).sum /. L = qs.sum
  | [], _ => by
    show (0 : Int) /. L = (0 : Rat)
    exact Rat.zero_divInt L
  | q :: qs, h => by
    rw [List.map_cons, List.sum_cons, List.sum_cons, divInt_add_same _ _ _ hL, over_L hL (h q List.mem_cons_self), sum_L hL qs fun x hx => h x (List.mem_cons_of_mem _ hx)]
/-! ### sizes -/
def Bq (n : Nat) (q : Rat) : Prop := q.num.natAbs < 2 ^ n ∧ q.den < 2 ^ n
theorem Bq.mono {m n : Nat} {q : Rat} (h : Bq m q) (hl : m ≤ n) : Bq n q := ⟨Nat.lt_of_lt_of_le h.1 (Nat.pow_le_pow_right (by decide) hl), Nat.lt_of_lt_of_le h.2 (Nat.pow_le_pow_right (by decide) hl)⟩
theorem bq_div {t b : Int} {n : Nat} (hb : b ≠ 0) (h1 : t.natAbs < 2 ^ n) (h2 : b.natAbs < 2 ^ n) : Bq n (t /. b) := by
  obtain ⟨_, _, _, _, h5, h6⟩ := dvs_out (t := t) hb
  exact ⟨Nat.lt_of_le_of_lt h5 h1, Nat.lt_of_le_of_lt h6 h2⟩
theorem add_lt {i j : Int} {n : Nat} (h1 : i.natAbs < 2 ^ n) (h2 : j.natAbs < 2 ^ n) : (i + j).natAbs < 2 ^ (n + 1) := by
  rw [Nat.pow_succ]
  omega
theorem sub_lt {i j : Int} {n : Nat} (h1 : i.natAbs < 2 ^ n) (h2 : j.natAbs < 2 ^ n) : (i - j).natAbs < 2 ^ (n + 1) := by
  rw [Nat.pow_succ]
  omega
end Num

/-! An own exception class directly over a built-in one, whose __init__ hands on to it and stores nothing. -/
namespace Ver
open PySem PySem.Spec PyProof.Rows L2
/-- what the written part tells of such a class -/
structure ExN (K : PySem.W.Frag) (C fI : Addr) (bmB : List Value) (newId : String) : Prop where
  q : PySem.W.excInitIn K C bmB newId = true
  iC : PySem.W.findIn K (.ref C) "__init__" = some (some (.ref fI))
  tI : PySem.W.typeIn K (.ref fI) = some (.type "function")
  exC : PySem.W.subIn K (.ref C) (.type "BaseException") = some true
  tyC : PySem.W.typeIn K (.ref C) = some (.type "type")
  kC : PySem.W.keepIn K (.ref C) = true
section
variable {X : Cx} {pins : List (Addr × Obj)} {σ : L2.St} {H : Hp} {s : Shared} {a C fI : Addr} {bmB : List Value} {B newId initId : String}
theorem binit_ok {A : Around} {E : Value → Shared → Prop} {us : List Value} {Q : Value → Shared → Prop} (F : ExcBaseFacts B newId initId bmB) (q : PySem.W.excInitIn X.K C bmB newId = true) (I : Inv X pins σ H s) (e : H a = some (exo a C none))
    (hl : us.length ≤ sizeLine) (h : ∀ s', Inv X pins σ H s' → Q .none s') : wpAny (model X.prog X.w) A (call (.builtin initId) (.ref a :: us)) Q E s := by
  obtain ⟨nm, N, qn, bs, bm, hd, sn, sub, ab, col, dd, k0, k1, k2, k3, k5, hC, hT⟩ := PySem.W.excInit_of I.kIn q
  obtain ⟨t1, ho⟩ := exo_at I.hok e
  obtain ⟨hp, g, d, t, os⟩ := s
  refine wpAny_call (PySem.HandSPX.init_base F hT hC ho hl fun h' t2 k hx => h _ ?_)
  have J := I.write (t' := t) (x := a) (e := a) (o := exo a C none) (by rw [e]; exact True.intro) (.inl rfl) k ⟨_, hx⟩ (exo_ok hx)
  have same : upd H a (exo a C none) = H := funext fun b => by
    by_cases z : b = a
    · rw [z, upd_same, e]
    · exact upd_ne z
  rwa [same] at J
variable {x : Str} {e : Expr} {es : List Expr} {ta : TA} {p p1 p2 pos : Pos}
/-- its reading: self is an exception that is being made, without a dict as yet -/
def tBi (K : PySem.W.Frag) (bmB : List Value) (newId : String) (ta : TA) : TE := fun σ H Q => ta σ H fun vs H1 => ∃ (a C : Addr) (ws : List V), vs = .ref a :: ws ∧ ws.length ≤ 1000 ∧ PySem.W.excInitIn K C bmB newId = true ∧ H1 a = some (exo a C none) ∧ Q .non H1
/-- B.__init__(self, ..), B a built-in class of errors -/
theorem pe_binit {pl : Sem Bool} (F : ExcBaseFacts B newId initId bmB) (hg : Gl X x) (hm : X.mg x = none) (hv : bootBuiltins x = some (.type B)) (hty : typeOf (.type B) = pure (.type "type")) (hst : Manifest.isStub B = false) (hh : PySem.W.handedIn (.builtin initId) = true)
    (hsp : PySem.W.findCls X.K (.type B) (.type "type") "__init__" = some (.val (.builtin initId))) (ha : PA X (e :: es) ta)
    (hc : eval (.Call (.Attribute (.Name x p1) "__init__" p2) (e :: es) [] pos) X.env = (do
      let ov ← eval (.Name x p1) X.env
      standAt p2.atName
      let (f, first) ← holding [ov] (getMethod ov "__init__" pl)
      callWith pos f first (backTo pos (starEach (e :: es) X.env)) (backToKw pos (keywordEach [] X.env))) := by rfl)
    (he : starEach (e :: es) X.env = (false, eval e X.env) :: starEach es X.env := by rfl) (hpl : (backTo pos (starEach es X.env)).any (·.1) = false := by rfl) (hn : x ≠ "__name__" := by decide) (hd : (x == ("__debug__" : Str)) = false := by decide) :
    PE X (.Call (.Attribute (.Name x p1) "__init__" p2) (e :: es) [] pos) (tBi X.K bmB newId ta) := by
  refine ⟨fun pins s σ H Q I h => PySem.W.methodCall_KW (ld_blt I hg hm hv ?_ hn hd) hc⟩
  obtain ⟨m, fr⟩ := I.fr
  refine PySem.W.method_type fr I.ok.mod.kin hty hst hsp hh ?_
  show wpAny _ _ (callWith pos (Value.builtin initId) [] (backTo pos (starEach (e :: es) X.env)) []) _ _ _
  refine PyProof.Rows.callWith_method1 (thn (ha.run pos pins _ σ H _ (I.tok _) h) fun us s1 z => ?_) he hpl
  obtain ⟨vs, H1, I1, r1, a, C, ws, rfl, hl, q, ea, qq⟩ := z
  match us, r1 with
  | u0 :: ur, .cons ra rw' =>
    cases (show u0 = Value.ref a from ra)
    exact binit_ok F q I1 ea (by rw [← Paired.length rw', sizeLine_eq]; omega) fun s' J => ⟨.non, H1, J, rfl, qq⟩
/-- the exception is let go: what stood ahead stands, and it is known no more -/
theorem let_go {H1 H2 : Hp} {hp hp2 h2 : Heap} {g1 g2 : Array GenState} {d1 d2 : Drawn} {t1 t2 : Nat} {os1 os2 : OsState} (I1 : Inv X pins σ H1 ⟨hp, g1, d1, t1, os1⟩) (ha : hp.objs.size ≤ a) (k : ∀ b o, hp.get? b = some o → hp2.get? b = some o)
    (un : Un (frs X.stack) [] (upd H1 a (exo a C none)) H2 hp2 h2) (hok : HOk X.prog X.w H2 h2) (ho : os2 = os1) (hb : AllBare g2) (ea : H2 a = some (exo a C none)) :
    ∃ (t0 : Addr) (G : Heap), Inv X pins σ (del H2 a) ⟨G, g2, d2, t2, os2⟩ ∧ (∀ b o, G.get? b = some o → h2.get? b = some o) ∧ G.get? a = none ∧
      h2.get? a = some ({ cls := .ref C, dict := none, data := .fields #[.ref t0, .none, .none, .none, .bool false, .none] } : Obj) := by
  obtain ⟨t0, hoe⟩ := exo_at hok ea
  have na : H1 a = none := I1.hok.fresh ha
  obtain ⟨G, in_, out⟩ := restrict h2 fun b => decide (b ≠ a)
  have gk : ∀ b, b ≠ a → G.get? b = h2.get? b := fun b hb => in_ b (decide_eq_true hb)
  have ge : G.get? a = none := out a (by simp)
  have old : ∀ {b : Addr} {o : Obj}, hp.get? b = some o → b ≠ a := fun z => Nat.ne_of_lt (Nat.lt_of_lt_of_le (Heap.lt_size z) ha)
  have up : ∀ {b : Addr}, b ≠ a → H1 b = none → upd H1 a (exo a C none) b = none := fun hb n => by rw [upd_ne hb]; exact n
  have U : Un (frs X.stack) [] H1 (del H2 a) hp G := {
    keep := fun b o z n hf hx => (gk b (old z)).trans (un.keep b o (k b o z) (up (old z) n) hf hx)
    slot := fun b o z n hf hx => by
      obtain ⟨sl, y⟩ := un.slot b o (k b o z) (up (old z) n) hf hx
      exact ⟨sl, (gk b (old z)).trans y⟩
    free := fun b o z n hx => (del_ne (old z)).trans (un.free b o (k b o z) (up (old z) n) hx)
    there := fun b o z hx => by
      obtain ⟨o', y⟩ := un.there b o (k b o z) hx
      exact ⟨o', (gk b (old z)).trans y⟩
    tups := fun b xs z => (del_ne (ne_of_none z na)).trans (un.tups b xs ((upd_ne (ne_of_none z na)).trans z))
    frzs := fun b o v z => (del_ne (ne_of_none z na)).trans (un.frzs b o v ((upd_ne (ne_of_none z na)).trans z))
    tbls := fun b ps z => by
      obtain ⟨more, y⟩ := un.tbls b ps ((upd_ne (ne_of_none z na)).trans z)
      exact ⟨more, (del_ne (ne_of_none z na)).trans y⟩ }
  have ok3 : HOk X.prog X.w (del H2 a) G := fun b o z => by
    have hba : b ≠ a := fun e => by
      rw [e, del_same] at z
      cases z
    rw [del_ne hba] at z
    have noa : ∀ {c : Addr}, H2 c = some (.own b) → c ≠ a := fun hc => at_ne ea hc exo_own
    refine (hok b o z).stay (fun c v hc y => (gk c ?_).trans y) (fun c hc => (del_ne (noa hc)).trans hc) fun c xs hc => (del_ne (at_ne ea hc exo_tup)).trans hc
    rcases hc with hc | hc
    · rw [hc]
      exact hba
    · exact noa hc
  refine ⟨t0, G, I1.call' (ch := []) ho U ok3 hb (fun b z => absurd z (by simp)), fun b o z => ?_, ge, hoe⟩
  by_cases e : b = a
  · rw [e, ge] at z
    cases z
  · exact (gk b e).symm.trans z
/-- the promise of an __init__ that stores nothing -/
def spInitN (C : Addr) : Sp := fun vs H Q _ => ∃ a : Addr, vs = [.ref a] ∧ H a = some (exo a C none) ∧ Q .non H
theorem pmk_n {CX : CXT} {k : Nat} (F : ExcBaseFacts B newId initId bmB) (T : ExN X.K C fI bmB newId) (F1 : FnG X.prog X.w X.K X.mg X.base CX k fI (spInitN C)) (hr : Room (k + 1) X.A) (hgd : X.A.guards = some []) (hx : Passes CX X (fun _ _ _ => False)) (hg : Gl X x) (hm : X.mg x = some (.ref C))
    (hdb : (x == ("__debug__" : Str)) = false := by decide) : PMk X (.Call (.Name x p) [] [] pos) (fun _ H Q => Q (.ref C) none H) := by
  intro pins s σ H Q I h
  refine wpAny_Call_Name_kw (ld_glob I hg hm (PySem.W.callWith_K0 I.kIn T.kC ?_) hdb)
  show wpAny _ _ (call (.ref C) []) _ _ _
  obtain ⟨nm, N, qn, bs, bm, hd, sn, sub, ab, col, dd, k0, k1, k2, k3, k5, hC, hT⟩ := PySem.W.excInit_of I.kIn T.q
  obtain ⟨hp, g, dr, tk, os⟩ := s
  have big : hp.objs.size ≤ hp.objs.size + 1 := Nat.le_succ _
  have hn : H (hp.objs.size + 1) = none := I.hok.fresh big
  have kk : ∀ b o, hp.get? b = some o → ((hp.push (PySem.W.kdv_tup [])).push (PySem.HandSPX.excO C hp.objs.size)).get? b = some o := fun b o z => Heap.get?_push_of_some _ (Heap.get?_push_of_some _ z)
  have made : ((hp.push (PySem.W.kdv_tup [])).push (PySem.HandSPX.excO C hp.objs.size)).get? (hp.objs.size + 1) = some (PySem.HandSPX.excO C hp.objs.size) := by heap_get
  have I2 : Inv X pins σ (upd H (hp.objs.size + 1) (exo (hp.objs.size + 1) C none)) ⟨(hp.push (PySem.W.kdv_tup [])).push (PySem.HandSPX.excO C hp.objs.size), g, dr, tk, os⟩ :=
    I.laid (t' := tk) (a := hp.objs.size + 1) (o := exo (hp.objs.size + 1) C none) (h' := (hp.push (PySem.W.kdv_tup [])).push (PySem.HandSPX.excO C hp.objs.size)) kk big (exo_ok made)
  have q2 : spInitN C [V.ref (hp.objs.size + 1)] (upd H (hp.objs.size + 1) (exo (hp.objs.size + 1) C none)) (fun v H2 => v = .non ∧ H2 = upd H (hp.objs.size + 1) (exo (hp.objs.size + 1) C none)) (fun _ _ _ => False) := ⟨_, rfl, upd_same, rfl, rfl⟩
  refine wpAny_call (PySem.HandSPX.call_own F hT hC (PySem.W.looks_findIn I.kIn T.iC) (fun self => PySem.W.bind_fn I.kIn self T.tI) (Nat.zero_le _)
    (codeAny_mono (F1 _ X.stack _ _ [Value.ref (hp.objs.size + 1)] [V.ref (hp.objs.size + 1)] _ (fun _ _ _ => False) (made_guards hgd C []) (hr.make C [] []) (I2.env0.make C [] []) (.cons rfl .nil) q2) fun rs s' hq => ?_))
  match rs, hq with
  | .error er, hq => exact hx pins σ _ _ er s' I2 hq
  | .ok .next, hq => exact hq.elim
  | .ok .brk, hq => exact hq.elim
  | .ok .cont, hq => exact hq.elim
  | .ok (.ret u), hq =>
    obtain ⟨v, H2, os2, bare2, un2, ok2, rv, rfl, rfl⟩ := hq
    obtain ⟨h2, g2, d2, t2, os'⟩ := s'
    obtain ⟨t0, G, J, kG, ge, hoe⟩ := let_go (a := hp.objs.size + 1) (C := C) (d2 := d2) (t2 := t2) I big kk un2 ok2 os2 bare2 upd_same
    have eH : del (upd H (hp.objs.size + 1) (exo (hp.objs.size + 1) C none)) (hp.objs.size + 1) = H := funext fun b => by
      by_cases z : b = hp.objs.size + 1
      · rw [z, del_same, hn]
      · rw [del_ne z, upd_ne z]
    rw [eH] at J
    exact ⟨rv, hp.objs.size + 1, _, _, ⟨G, g2, d2, t2, os'⟩, H, .ref C, none, rfl, J, kG, ge, hoe, ⟨rfl, rfl⟩, rfl, rfl, hn, rfl, bare2, raises_own T.exC T.tyC, h⟩
end
end Ver

namespace K05
open PySem PySem.Spec PyProof.Rows L2 Ver Num
/-- the names of the text's own defs and classes; the built-in names that it reads -/
def gl : List Str := ["is_integer", "is_between", "is_prime", "is_fraction", "is_longer", "parts", "shortened", "inverse", "_law_pen", "_law_draw", "_law_pick", "_law_prime", "_law_number", "_law_signed", "_law_gcd", "_law_told", "_law_two", "_law_any_number", "_law_made_field", "_law_any_prime", "_law_rest", "_law_rests_right", "_law_groups_right", "law", "Field", "Fractions", "Modulo"]
def fr : List Str := ["isinstance", "int", "bool", "tuple", "len", "abs", "list", "range", "sum"]
def FL : Int := 10000000000000000000000000000000000000000000000000000000000000000000000000000000000000000000000000000
abbrev s_Field_prime : Stmt := inClass (top 15) 2
/-- a class of fields: its methods are Field's own -/
structure FC (K : PySem.W.Frag) (C : Addr) : Prop where
  cl : Cls K C
  np : NoAttr K C "_prime"
  m : ∀ m ∈ (["is_number", "plus", "minus", "times", "over", "total", "holds", "ratio", "product_of", "sum_of", "difference_of", "quotient_of", "common", "_check"] : List Str), Meth K C m (He.ma K (He.ga K "Field") m)
def fa : List He.Fa := gl.map He.Fa.glo ++ fr.map He.Fa.free
/-- what making and asking the objects of a class of fields wants -/
structure MC (K : PySem.W.Frag) (C : Addr) : Prop where
  mkr : Mk K C (He.ma K C "__init__")
  isF : PySem.W.kitOne K (.ref C) (.ref (He.ga K "Field")) = some true
  cl : PySem.W.findIn K (.ref C) "__class__" = some (some (.builtin "object.__class__"))
  ob : PySem.W.mroIn K C (.type "object") = some true
/-- what the top has left -/
structure Tx (K : PySem.W.Frag) (mg : Str → Option Value) : Prop where
  d : He.SaysD fa fn K
  g : ∀ x ∈ gl, mg x = some (.ref (He.ga K x))
  z : ∀ x ∈ fr, mg x = none
  fl : ∃ t, mg "FIRST_LONG" = some (.int FL t)
  gp : ∃ t, mg "GREATEST_PRIME" = some (.int 1000000000 t)
  gcd : mg "gcd" = some (.builtin "math.gcd")
  lcm : mg "lcm" = some (.builtin "math.lcm")
  isq : mg "isqrt" = some (.builtin "math.isqrt")
  fcF : FC K (He.ga K "Fractions")
  fcM : FC K (He.ga K "Modulo")
  mF : MC K (He.ga K "Fractions")
  mM : MC K (He.ga K "Modulo")
  rdF : PySem.W.readsIn K (He.ga K "Field") (.type "type") = true
  gaF : PySem.W.specialIn K (.ref (He.ga K "Field")) "__getattribute__" = some (some (.builtin "type.__getattribute__"))
  fiF : PySem.W.findCls K (.ref (He.ga K "Field")) (.type "type") "__init__" = some (.val (.ref (He.ma K (He.ga K "Field") "__init__")))
  clS : PySem.W.specialIn K (.builtin "object.__class__") "__get__" = some (some (.builtin "getset_descriptor.__get__"))
  clT : PySem.W.takesIn K (.builtin "object.__class__") = some true
  pr : ∃ p g fd, PropOf K (He.ga K "Modulo") "prime" p g ∧ FunD K "prime" "Field.prime" (defArgs s_Field_prime) (defBody s_Field_prime) (defScope s_Field_prime) [] [] g fd
theorem ifT {c : Bool} {A B : Prop} (h : c = true) (q : A) : if c = true then A else B := by
  rw [if_pos h]
  exact q
theorem ifF {c : Bool} {A B : Prop} (h : c = false) (q : B) : if c = true then A else B := by
  rw [if_neg (by rw [h]; exact Bool.false_ne_true)]
  exact q
theorem iEq (a b : Int) : decide (V.int a = V.int b) = decide (a = b) := by
  by_cases h : a = b
  · rw [decide_eq_true h, decide_eq_true (by rw [h])]
  · rw [decide_eq_false h, decide_eq_false fun z => h (V.int.inj z)]
theorem same_up {H : Hp} {p : Addr} {o : HO} (h : H p = none) : Same H (upd H p o) := fun b x e => by
  rw [upd_ne (ne_of_none e h)]
  exact e
end K05

/-! Defs with a star parameter; the sum of a tuple. -/
namespace Ver
open PySem PySem.Spec PyProof.Rows L2
theorem preSum_take {ns : List Int} : ∀ n, n ≤ ns.length → preSum (fun i => ns.getD i 0) n = (ns.take n).sum
  | 0, _ => by rw [List.take_zero]; rfl
  | n + 1, h => by
    have e : ns[n]? = some (ns.getD n 0) := by
      rw [List.getD_eq_getElem?_getD, List.getElem?_eq_getElem (by omega)]
      rfl
    show preSum _ n + ns.getD n 0 = _
    rw [preSum_take n (by omega), sum_take e]
section
variable {prog : Program} {w : World} {A : Around} {E : Value → Shared → Prop} {s : Shared} {l : Addr} {its : List Value} {ns : List Int} {Q : Value → Shared → Prop}
theorem sum_tup (hh : A.handled = none) (hl : IsTup s.heap l its.toArray) (rv : Vals (ns.map V.int) its)
    (h : ∀ h' tk t', (∀ b o, s.heap.get? b = some o → h'.get? b = some o) → Q (.int ns.sum t') { s with heap := h', toks := tk }) : wpAny (model prog w) A (call (.builtin "sum") [.ref l]) Q E s := by
  have hne : l ≠ s.heap.objs.size := Nat.ne_of_lt (by obtain ⟨o, e, _⟩ := hl; exact Heap.lt_size e)
  have hlen := rv.length
  rw [List.length_map] at hlen
  have sz : (s.heap.push { cls := .type "tuple_iterator", data := .fields #[.ref l, .int 0 0] }).objs.size = s.heap.objs.size + 1 := Heap.size_push ..
  refine call_sum_walkG (wpAny_pyIter_tuple (show s.heap.IsTuple l its.toArray from hl) ?_)
  refine ⟨_, _, _, _, _, _, fun i => ns.getD i 0, rfl, Walks.tuple (A := A.in1) hh _ l hne its.toArray, ⟨⟨_, Heap.get?_push_size _ rfl, rfl, rfl⟩, ?_⟩, fun b hb => ?_, fun i v hv => ?_, fun h' tk t' hk => ?_⟩
  · obtain ⟨o, e, c⟩ := hl
    exact ⟨o, Heap.get?_push_of_some _ e, c⟩
  · show b < (s.heap.push _).objs.size
    rw [Heap.size_push]
    rcases List.mem_cons.mp hb with e | hb
    · rw [e]
      exact Nat.lt_succ_self _
    · rw [List.mem_singleton.mp hb]
      exact Nat.lt_succ_of_lt (by obtain ⟨o, e, _⟩ := hl; exact Heap.lt_size e)
  · have hi : its[i]? = some v := by simpa using hv
    have lt : i < ns.length := by
      have := (List.getElem?_eq_some_iff.mp hi).1
      omega
    obtain ⟨u, hu, t, ru⟩ := rv.get (i := i) (x := V.int ns[i]) (by rw [List.getElem?_map, List.getElem?_eq_getElem lt]; rfl)
    rw [hi] at hu
    refine ⟨t, ?_⟩
    have e2 : ns.getD i 0 = ns[i] := by
      rw [List.getD_eq_getElem?_getD, List.getElem?_eq_getElem lt]
      rfl
    rw [Option.some.inj hu, ru]
    show Value.int ns[i] t = Value.int (ns.getD i 0) t
    rw [e2]
  · have e : preSum (fun i => ns.getD i 0) its.toArray.size = ns.sum := by
      rw [List.size_toArray, ← hlen, preSum_take _ (Nat.le_refl _), List.take_length]
    rw [e]
    refine h h' tk t' fun b o ho => hk b o (fun z => ?_) (Heap.get?_push_of_some _ ho)
    rw [List.mem_singleton.mp z] at ho
    exact absurd (Heap.lt_size ho) (Nat.lt_irrefl _)
end
/-- sum(t), t a tuple of ints -/
theorem cr_sumT {X : Cx} (hc : X.calm = true) : CallR X (.builtin "sum") (fun vs H Q => ∃ (a : Addr) (ns : List Int), vs = [V.ref a] ∧ SqT X.K H a (ns.map V.int) ∧ Q (.int ns.sum) H) := by
  intro pins s σ H vs us Q I r h
  obtain ⟨a, ns, rfl, hs, q⟩ := h
  obtain ⟨its, rv, hl, _⟩ := I.tuple hs
  obtain ⟨u, rfl, ru⟩ := vals1 r
  cases (show u = Value.ref a from ru)
  exact sum_tup (I.ok.hd hc) hl rv fun h' tk t' hk => ⟨.int _, H, I.kept hk, ⟨_, rfl⟩, q⟩
/-- def f(a, .., *rest) -/
theorem okStar {P : Program} {w : World} {K : PySem.W.Frag} {mg : Str → Option Value} {base : Heap} {k : Nat} {f : Addr} {fd : FuncData} {sp : Sp} {x qual pr : Str} {params : Arguments} {body : List Stmt} {scope : Scope} {N ps : List Str} {kws : List (Str × V)}
    (F : FunD K x qual params body scope [] kws f fd) (S : FnScope N (ps ++ [pr]) scope)
    (hb : ∀ (kV doc pm : Value) (an : Option Addr) (cdv ct : Value) (us rest : List Value), us.length = ps.length → bindArgs (PySem.W.fnOf x qual params body scope .none kV doc pm an cdv ct) ⟨us ++ rest, []⟩ = (newTuple rest >>= fun t => pure (ps.zip us ++ [(pr, t)])))
    (hbody : ∀ (cdv : Value) (A : Around) (outer : List Env) (s : Shared) (H : Hp) (vs : List V) (Q : VK) (E : XK), A.guards = some [] → Room k (A.deeper (envOfC qual scope s.heap.objs.size f cdv)) → sp vs H Q E →
      ∃ t, PSs (cxOf CX0 P w K mg base N qual scope f cdv A outer s H E).nox body t ∧ t { nx := fun _ H' => Q .non H', rt := Q } (start N vs) H) :
    FnG P w K mg base CX0 (k + 1) f (fun vs H Q E => ∃ ws rest, vs = ws ++ rest ∧ ws.length = ps.length ∧ rest.length ≤ sizeLine ∧ ∀ p, H p = none → sp (ws ++ [V.ref p]) (upd H p (.tup rest)) Q E) := by
  obtain ⟨⟨oc, od, dV, kV, doc, pm, an, cdv, ct, osl, rfl, lk, hcd, hD, _⟩, _⟩ := F
  have eD : dV = .none := by
    rcases hD with ⟨_, e⟩ | ⟨e, _⟩
    · exact e
    · exact absurd rfl e
  subst eD
  intro A outer s H us vs Q E hg hr e0 r hsp
  obtain ⟨ws, rest, rfl, hl, hz, hq⟩ := hsp
  obtain ⟨u1, u2, rfl, r1, r2⟩ := StX.vals_split r
  have n0 : H s.heap.objs.size = none := e0.hok.fresh (Nat.le_refl _)
  have l1 : u1.length = ps.length := r1.length.symm.trans hl
  refine StX.run_bnd lk hcd S hr e0 (G := fun xs H2 => ∃ p, H p = none ∧ xs = ws ++ [V.ref p] ∧ H2 = upd H p (.tup rest)) (fun A' Ex Q' h => ?_) fun s2 H2 xs g hr' => ?_
  · rw [hb _ _ _ _ _ _ u1 u2 l1]
    have new : ObjOk P w (upd H s.heap.objs.size (.tup rest)) (s.heap.push ({ cls := .type "tuple", data := .seq u2.toArray } : Obj)) s.heap.objs.size (.tup rest) := ⟨hz, u2, r2, ⟨_, Heap.get?_push_size _ rfl, rfl, _, rfl⟩⟩
    have z := h _ _ (ws ++ [V.ref s.heap.objs.size]) (u1 ++ [Value.ref s.heap.objs.size]) (StX.env0_laid e0 new) (StX.un_laid (fs := frs outer) (s := s) n0) rfl (fun e s' q => q) (r1.append (.cons rfl .nil))
      (by rw [List.length_append, List.length_append, hl] <;> rfl) ⟨_, n0, rfl, rfl⟩
    rw [List.zip_append l1.symm] at z
    exact wpAny_bind (wpAny_newTuple (wpAny_pure z) (by rw [← r2.length]; exact hz))
  · obtain ⟨p, hp, rfl, rfl⟩ := g
    obtain ⟨t, ht, q⟩ := hbody cdv A outer s2 _ _ Q E hg hr' (hq p hp)
    exact ⟨t, ht.nox, q⟩
end Ver

namespace K05.F
open PySem PySem.Spec PyProof.Rows L2 Ver Num
section
variable {P : Program} {w : World} {K : PySem.W.Frag} {mg : Str → Option Value} {base : Heap}
/-! ### is_integer, is_between -/
def spIsInteger (K : PySem.W.Frag) : Sp := fun vs H Q _ => ∃ (x : V) (t : Value) (b1 b2 : Bool), vs = [x] ∧ TyX K H x t ∧ PySem.W.kitOne K t (.type "int") = some b1 ∧ PySem.W.kitOne K t (.type "bool") = some b2 ∧ Q (.bl (b1 && !b2)) H
theorem ok_is_integer (T : Tx K mg) : FnG P w K mg base CX0 1 (He.ga K "is_integer") (spIsInteger K) := by
  refine mk_is_integer T.d (fun vs H Q E h => ?_) (fun cdv A outer s H vs Q E hg hr h => ?_)
  · obtain ⟨x, t, b1, b2, rfl, _⟩ := h
    rfl
  · obtain ⟨x, t, b1, b2, rfl, ty, k1, k2, q⟩ := h
    have zi := T.z "isinstance" (by decide +kernel)
    refine ⟨_, pss_one (ps_ret (pe_and (pe_callB call_isi (by rfl) zi (by decide +kernel) (pa_cons (pv 0) (pa_cons (pe_bltn (v := .ty "int") (by rfl) (T.z "int" (by decide +kernel)) (by decide +kernel) rfl) pa_nil)))
      (pe_one (pe_not (pe_callB call_isi (by rfl) zi (by decide +kernel) (pa_cons (pv 0) (pa_cons (pe_bltn (v := .ty "bool") (by rfl) (T.z "bool" (by decide +kernel)) (by decide +kernel) rfl) pa_nil))))))), ?_⟩
    refine ⟨_, rfl, _, _, _, _, _, rfl, .ty "int", ty, k1, _, rfl, ?_⟩
    cases b1 with
    | false => exact ifF rfl q
    | true => exact ifT rfl ⟨_, rfl, _, _, _, _, _, rfl, .ty "bool", ty, k2, _, rfl, q⟩
/-! ### parts, is_longer: of whole numbers -/
/-- a number: an int, or a pair of ints at an address -/
def Num2 (K : PySem.W.Frag) (H : Hp) (x : V) (t b : Int) : Prop := (x = .int t ∧ b = 1) ∨ ∃ a, x = .ref a ∧ H a = some (.tup [.int t, .int b])
def spParts (K : PySem.W.Frag) : Sp := fun vs H Q _ => ∃ (x : V) (t b : Int), vs = [x] ∧ Num2 K H x t b ∧ ∀ (p : Addr) (H' : Hp), Same H H' → H' p = some (.tup [.int t, .int b]) → Q (.ref p) H'
theorem ok_parts (T : Tx K mg) : FnG P w K mg base CX0 1 (He.ga K "parts") (spParts K) := by
  refine mk_parts T.d (fun vs H Q E h => ?_) (fun cdv A outer s H vs Q E hg hr h => ?_)
  · obtain ⟨x, t, b, rfl, _⟩ := h
    rfl
  · obtain ⟨x, t, b, rfl, n, q⟩ := h
    refine ⟨_, pss_one (ps_ret (pe_ifExp (pt_val (pe_callB call_isi (by rfl) (T.z "isinstance" (by decide +kernel)) (by decide +kernel) (pa_cons (pv 0) (pa_cons (pe_bltn (v := .ty "tuple") (by rfl) (T.z "tuple" (by decide +kernel)) (by decide +kernel) rfl) pa_nil))))
      (pv 0) (pe_tup (pa_cons (pv 0) (pa_cons pe_int pa_nil))))), ?_⟩
    rcases n with ⟨rfl, rfl⟩ | ⟨a, rfl, ha⟩
    · refine ⟨_, rfl, _, _, _, _, false, rfl, .ty "tuple", .base (.int t), kit_ty (by decide +kernel), _, rfl, ?_⟩
      exact ifF rfl ⟨_, rfl, (by show 2 ≤ sizeLine; decide), fun p np => q p _ (same_up np) upd_same⟩
    · refine ⟨_, rfl, _, _, _, _, true, rfl, .ty "tuple", .base (.tup ha), kit_ty (by decide +kernel), _, rfl, ?_⟩
      exact ifT rfl ⟨_, rfl, q a H (Same.refl H) ha⟩
def absI (i : Int) : Int := if i < 0 then -i else i
def spIsLonger (K : PySem.W.Frag) : Sp := fun vs H Q _ => ∃ (x : V) (t b l : Int), vs = [x, .int l] ∧ Num2 K H x t b ∧ ∀ H' : Hp, Same H H' → Q (.bl (decide (l ≤ absI t) || decide (l ≤ b))) H'
theorem ok_is_longer (T : Tx K mg) : FnG P w K mg base CX0 2 (He.ga K "is_longer") (spIsLonger K) := by
  refine mk_is_longer T.d (fun vs H Q E h => ?_) (fun cdv A outer s H vs Q E hg hr h => ?_)
  · obtain ⟨x, t, b, l, rfl, _⟩ := h
    rfl
  · obtain ⟨x, t, b, l, rfl, n, q⟩ := h
    refine ⟨_, pss_cons (ps_asg (pe_callG (ok_parts T) hr hg (by rfl) (T.g "parts" (by decide +kernel)) (kp_parts T.d) pass0 (pa_cons (pv 0) pa_nil))
        (pg_tup rfl (pgs_cons (pg_name (i := 2) sc_is_longer.nd rfl (.inl rfl)) (pgs_cons (pg_name (i := 3) sc_is_longer.nd rfl (.inl rfl)) pgs_nil))))
      (pss_one (ps_ret (pe_or (pe_cmpR op_ge (pe_callB call_abs (by rfl) (T.z "abs" (by decide +kernel)) (by decide +kernel) (pa_cons (pv 2) pa_nil)) (pv 1) (nomark _))
        (pe_one (pe_cmpR op_ge (pv 3) (pv 1) (nomark _)))))), ?_⟩
    refine ⟨_, rfl, x, t, b, rfl, n, fun p H1 s1 hp => ?_⟩
    refine ⟨p, _, rfl, .inl (.inl hp), rfl, _, _, rfl, _, _, rfl, rfl, ?_⟩
    refine ⟨_, rfl, _, rfl, _, rfl, _, _, rfl, rfl, _, rfl, ?_⟩
    have q1 := q H1 s1
    by_cases h : l ≤ absI t
    · rw [decide_eq_true h] at q1
      exact ifT (decide_eq_true h) q1
    · rw [decide_eq_false h] at q1
      exact ifF (decide_eq_false h) ⟨_, rfl, _, rfl, _, _, rfl, rfl, q1⟩
/-! ### fractions as values -/
/-- a fraction: an int, or a pair of ints -/
def NumQ (H : Hp) (x : V) (q : Rat) : Prop := (q.den = 1 ∧ x = .int q.num) ∨ (q.den ≠ 1 ∧ ∃ a, x = .ref a ∧ H a = some (.tup [.int q.num, .int (q.den : Int)]))
theorem NumQ.same {H H' : Hp} {x : V} {q : Rat} (h : NumQ H x q) (s : Same H H') : NumQ H' x q := by
  rcases h with h | ⟨d, a, e, h⟩
  · exact .inl h
  · exact .inr ⟨d, a, e, s _ _ h⟩
theorem NumQ.two {H : Hp} {x : V} {q : Rat} (h : NumQ H x q) : Num2 K H x q.num (q.den : Int) := by
  rcases h with ⟨d, e⟩ | ⟨d, a, e, h⟩
  · exact .inl ⟨e, by rw [d]; rfl⟩
  · exact .inr ⟨a, e, h⟩
theorem NumQ.int {H : Hp} {x : V} {q : Rat} {t : Int} (h1 : q.num = t) (h2 : q.den = 1) (e : x = .int t) : NumQ H x q := .inl ⟨h2, by rw [h1]; exact e⟩
/-- passed numbers -/
def Ok100 (q : Rat) : Prop := absI q.num < FL ∧ (q.den : Int) < FL
end
end K05.F
namespace K05.F
open PySem PySem.Spec PyProof.Rows L2 Ver Num
/-- // by any divisor but 0, also a great one -/
theorem op_fdivZ {X : Cx} : OpR X (binaryOp .FloorDiv) (rI (fun _ j => j ≠ 0 ∧ j.natAbs.log2 < 9000) fun i j => .int (i.fdiv j)) := opI fun _ _ _ _ _ _ _ hc q => floordiv_int hc.1 q (.inl (PyProof.noPylong_of_log2 hc.2))
theorem log_lt {n a : Nat} (h : n < 2 ^ a) (h0 : 0 < a) (h9 : a ≤ 9000) : n.log2 < 9000 := Nat.lt_of_lt_of_le (PySem.Flt.log2_lt_of h0 h) h9
theorem dvs_log {t b : Int} {a : Nat} (hb : b ≠ 0) (h : b.natAbs < 2 ^ a) (h0 : 0 < a) (h9 : a ≤ 9000) : (dvs t b).natAbs.log2 < 9000 := by
  have l : Nat.gcd t.natAbs b.natAbs ≤ b.natAbs := Nat.gcd_le_right _ (by omega)
  refine log_lt (a := a) ?_ h0 h9
  unfold dvs
  split <;> omega
theorem dvs_neg {t b : Int} (h : b < 0) : dvs t b = -((Nat.gcd t.natAbs b.natAbs : Nat) : Int) := if_pos h
theorem dvs_nn {t b : Int} (h : ¬ b < 0) : dvs t b = ((Nat.gcd t.natAbs b.natAbs : Nat) : Int) := if_neg h
/-! ### as data -/
def dq (q : Rat) : PyData := if q.den = 1 then .int q.num else .tuple [.int q.num, .int (q.den : Int)]
theorem dq_int {q : Rat} (h : q.den = 1) : dq q = .int q.num := if_pos h
theorem dq_tup {q : Rat} (h : q.den ≠ 1) : dq q = .tuple [.int q.num, .int (q.den : Int)] := if_neg h
theorem dp_q {K : PySem.W.Frag} {H : Hp} {x : V} {q : Rat} (h : NumQ H x q) : Dp K H x (dq q) := by
  rcases h with ⟨d, e⟩ | ⟨d, a, e, h⟩
  · rw [dq_int d, e]
    exact .int _
  · rw [dq_tup d, e]
    exact .tup (.inl (.inl h)) (.cons (.int _) (.cons (.int _) .nil))
theorem shaped_q (q : Rat) : SeqAt.shaped (dq q) = true := by
  by_cases h : q.den = 1
  · rw [dq_int h]
    simp [SeqAt.shaped, PyData.canLay0, PyData.depth]
  · rw [dq_tup h]
    simp [SeqAt.shaped, PyData.canLay0, PyData.canLayAll0, PyData.depth, PyData.depthAll]
theorem eqv_q0 (q : Rat) : PyData.eqv (dq q) (.int 0) = decide (q = 0) := by
  by_cases h : q.den = 1
  · rw [dq_int h]
    by_cases z : q = 0
    · rw [z]
      simp [PyData.eqv]
    · have : q.num ≠ 0 := fun e => z (Rat.num_eq_zero.mp e)
      simp [PyData.eqv, z, this]
  · rw [dq_tup h]
    have : q ≠ 0 := fun e => h (by rw [e]; rfl)
    simp [PyData.eqv, this]
/-! ### the field of fractions -/
def FieldF (K : PySem.W.Frag) (H : Hp) (f : Addr) : Prop := ∃ C dx, FC K C ∧ H f = some (.ins C dx [(("_prime" : Str), V.non)])
theorem FieldF.same {K : PySem.W.Frag} {H H' : Hp} {f : Addr} (F : FieldF K H f) (s : Same H H') : FieldF K H' f := by
  obtain ⟨C, dx, c, e⟩ := F
  exact ⟨C, dx, c, s _ _ e⟩
theorem pf_look (v : V) : ([(("_prime" : Str), v)] : List (Str × V)).lookup ("_prime" : Str) = some v := by simp [List.lookup]
theorem pf_no (v : V) {m : Str} (h : (m == ("_prime" : Str)) = false) : ([(("_prime" : Str), v)] : List (Str × V)).lookup m = none := by simp [List.lookup, h]
theorem rd_prime {K : PySem.W.Frag} {σ : L2.St} {H : Hp} {f : Addr} {i : Nat} {Q : VK} (h0 : σ[i]? = some (some (.ref f))) (F : FieldF K H f) (q : Q .non H) : tFld K (tVar i) "_prime" σ H Q := by
  obtain ⟨C, dx, c, e⟩ := F
  exact ⟨.ref f, h0, f, C, dx, _, .non, rfl, e, c.cl, c.np, pf_look _, q⟩
theorem go_meth {K : PySem.W.Frag} {σ : L2.St} {H : Hp} {f : Addr} {i : Nat} {Q : VK} {m : Str} {sp : Sp} {E : XK} {t : TA} (h0 : σ[i]? = some (some (.ref f))) (F : FieldF K H f)
    (hm : m ∈ (["is_number", "plus", "minus", "times", "over", "total", "holds", "ratio", "product_of", "sum_of", "difference_of", "quotient_of", "common", "_check"] : List Str)) (hn : (m == ("_prime" : Str)) = false)
    (q : t σ H fun vs H2 => sp (.ref f :: vs) H2 Q E) : tMethG K m (He.ma K (He.ga K "Field") m) sp E (tVar i) t σ H Q := by
  obtain ⟨C, dx, c, e⟩ := F
  exact ⟨.ref f, h0, f, C, dx, _, rfl, e, c.cl, c.m m hm, pf_no _ hn, q⟩
section
variable {P : Program} {w : World} {K : PySem.W.Frag} {mg : Str → Option Value} {base : Heap}
/-! ### is_fraction, holds, is_number, _check -/
def spIsFraction (K : PySem.W.Frag) : Sp := fun vs H Q _ => ∃ (a : Addr) (t b : Int), vs = [.ref a] ∧ H a = some (.tup [.int t, .int b]) ∧ 2 ≤ b ∧ Nat.gcd t.natAbs b.natAbs = 1 ∧ Q (.bl true) H
theorem ok_is_fraction (T : Tx K mg) : FnG P w K mg base CX0 2 (He.ga K "is_fraction") (spIsFraction K) := by
  refine mk_is_fraction T.d (fun vs H Q E h => ?_) (fun cdv A outer s H vs Q E hg hr h => ?_)
  · obtain ⟨a, t, b, rfl, _⟩ := h
    rfl
  · obtain ⟨a, t, b, rfl, ha, b2, g1, q⟩ := h
    have nd := sc_is_fraction.nd
    have gi := T.g "is_integer" (by decide +kernel)
    refine ⟨_, pss_cons (ps_if (PW.pt (pw_or (pt_not (pt_val (pe_callB call_isi (by rfl) (T.z "isinstance" (by decide +kernel)) (by decide +kernel) (pa_cons (pv 0) (pa_cons (pe_bltn (v := .ty "tuple") (by rfl) (T.z "tuple" (by decide +kernel)) (by decide +kernel) rfl) pa_nil)))))
        (pw_or1 (pt_cmpR op_ne (pe_callB call_len_seq (by rfl) (T.z "len" (by decide +kernel)) (by decide +kernel) (pa_cons (pv 0) pa_nil)) pe_int (nomark _))))) pss_never pss_nil)
      (pss_cons (ps_asg (pv 0) (pg_tup rfl (pgs_cons (pg_name (i := 1) nd rfl (.inl rfl)) (pgs_cons (pg_name (i := 2) nd rfl (.inl rfl)) pgs_nil))))
      (pss_one (ps_ret (pe_and (pe_callG (ok_is_integer T) hr hg (by rfl) gi (kp_is_integer T.d) pass0 (pa_cons (pv 1) pa_nil))
        (pe_and (pe_callG (ok_is_integer T) hr hg (by rfl) gi (kp_is_integer T.d) pass0 (pa_cons (pv 2) pa_nil))
        (pe_and (pe_cmpR op_ge (pv 2) pe_int (nomark _)) (pe_one (pe_cmpR op_eq (pe_callBfun cr_gcd (by rfl) T.gcd (pa_cons (pv 1) (pa_cons (pv 2) pa_nil))) pe_int (nomark _))))))))), ?_⟩
    have si : SqT K H a [V.int t, V.int b] := .inl (.inl ha)
    refine ⟨_, rfl, _, _, _, _, true, rfl, .ty "tuple", .base (.tup ha), kit_ty (by decide +kernel), _, rfl, ifF rfl ?_⟩
    refine ⟨_, rfl, a, _, rfl, .inr si, rfl, _, rfl, ifF (by show (!decide (V.int (2 : Int) = V.int 2)) = false; rw [decide_eq_true rfl]; rfl) ?_⟩
    refine ⟨_, rfl, a, _, rfl, si, rfl, _, _, rfl, _, _, rfl, rfl, ?_⟩
    refine ⟨_, rfl, _, _, true, false, rfl, .base (.int t), kit_ty (by decide +kernel), kit_ty (by decide +kernel), _, rfl, ifT rfl ?_⟩
    refine ⟨_, rfl, _, _, true, false, rfl, .base (.int b), kit_ty (by decide +kernel), kit_ty (by decide +kernel), _, rfl, ifT rfl ?_⟩
    refine ⟨_, rfl, _, _, rfl, rfl, _, rfl, ifT (decide_eq_true b2) ?_⟩
    refine ⟨_, rfl, _, rfl, t, b, rfl, rfl, ?_⟩
    rw [iEq, g1]
    exact q
def spHolds (K : PySem.W.Frag) : Sp := fun vs H Q _ => ∃ (f : Addr) (x : V) (q : Rat), vs = [.ref f, x] ∧ FieldF K H f ∧ NumQ H x q ∧ Q (.bl true) H
theorem ok_holds (T : Tx K mg) : FnG P w K mg base CX0 3 (He.ma K (He.ga K "Field") "holds") (spHolds K) := by
  refine mk_Field_holds T.d (fun vs H Q E h => ?_) (fun cdv A outer s H vs Q E hg hr h => ?_)
  · obtain ⟨f, x, r, rfl, _⟩ := h
    rfl
  · obtain ⟨f, x, r, rfl, F, n, q⟩ := h
    refine ⟨_, pss_cons (ps_if (pt_cmp (pc_notN (pe_fld (pv 0) rfl))) pss_never pss_nil)
      (pss_one (ps_ret (pe_or (pe_callG (ok_is_integer T) (hr.mono (by decide)) hg (by rfl) (T.g "is_integer" (by decide +kernel)) (kp_is_integer T.d) pass0 (pa_cons (pv 1) pa_nil))
        (pe_one (pe_callG (ok_is_fraction T) hr hg (by rfl) (T.g "is_fraction" (by decide +kernel)) (kp_is_fraction T.d) pass0 (pa_cons (pv 1) pa_nil)))))), ?_⟩
    refine rd_prime rfl F ⟨_, rfl, ifF rfl ?_⟩
    rcases n with ⟨d, rfl⟩ | ⟨d, a, rfl, ha⟩
    · exact ⟨_, rfl, _, _, true, false, rfl, .base (.int _), kit_ty (by decide +kernel), kit_ty (by decide +kernel), _, rfl, ifT rfl q⟩
    · have dp := r.den_pos
      exact ⟨_, rfl, _, _, false, false, rfl, .base (.tup ha), kit_ty (by decide +kernel), kit_ty (by decide +kernel), _, rfl, ifF rfl ⟨_, rfl, a, _, _, rfl, ha, by omega, gcd_low r, q⟩⟩
def spIsNumber (K : PySem.W.Frag) : Sp := fun vs H Q _ => ∃ (f : Addr) (x : V) (q : Rat), vs = [.ref f, x] ∧ FieldF K H f ∧ NumQ H x q ∧ Ok100 q ∧ ∀ H', Same H H' → Q (.bl true) H'
theorem ok_is_number (T : Tx K mg) : FnG P w K mg base CX0 4 (He.ma K (He.ga K "Field") "is_number") (spIsNumber K) := by
  refine mk_Field_is_number T.d (fun vs H Q E h => ?_) (fun cdv A outer s H vs Q E hg hr h => ?_)
  · obtain ⟨f, x, r, rfl, _⟩ := h
    rfl
  · obtain ⟨f, x, r, rfl, F, n, o, q⟩ := h
    obtain ⟨tl, gl⟩ := T.fl
    refine ⟨_, pss_one (ps_ret (pe_and (pe_methG (pv 0) (kp_Field_holds T.d) (ok_holds T) hr hg pass0 (pa_cons (pv 1) pa_nil))
      (pe_one (pe_not (pe_callG (ok_is_longer T) (hr.mono (by decide)) hg (by rfl) (T.g "is_longer" (by decide +kernel)) (kp_is_longer T.d) pass0 (pa_cons (pv 1) (pa_cons (pe_glob (v := .int FL) (by rfl) gl ⟨_, rfl⟩) pa_nil))))))), ?_⟩
    refine go_meth rfl F (by decide +kernel) (by decide +kernel) ⟨_, rfl, f, x, r, rfl, F, n, _, rfl, ?_⟩
    refine ifT rfl ⟨_, rfl, x, r.num, (r.den : Int), FL, rfl, n.two, fun H' s' => ⟨_, rfl, ?_⟩⟩
    have e1 : decide (FL ≤ absI r.num) = false := decide_eq_false (by have := o.1; omega)
    have e2 : decide (FL ≤ (r.den : Int)) = false := decide_eq_false (by have := o.2; omega)
    rw [e1, e2]
    exact q H' s'
theorem sameT {H H' : Hp} {a : Addr} {xs : List V} (e : Same H H') (h : SqT K H a xs) : SqT K H' a xs := by
  rcases h with (h | ⟨o, h⟩) | h
  · exact .inl (.inl (e _ _ h))
  · exact .inl (.inr ⟨o, e _ _ h⟩)
  · exact .inr h
def spCheck (K : PySem.W.Frag) : Sp := fun vs H Q _ => ∃ (f l : Addr) (xs : List V), vs = [.ref f, .ref l] ∧ FieldF K H f ∧ (SqL K H l xs ∨ SqT K H l xs) ∧ (∀ x ∈ xs, ∃ q, NumQ H x q ∧ Ok100 q) ∧ ∀ H', Same H H' → Q .non H'
theorem ok_check (T : Tx K mg) : FnG P w K mg base CX0 5 (He.ma K (He.ga K "Field") "_check") (spCheck K) := by
  refine mk_Field__check T.d (fun vs H Q E h => ?_) (fun cdv A outer s H vs Q E hg hr h => ?_)
  · obtain ⟨f, l, xs, rfl, _⟩ := h
    rfl
  · obtain ⟨f, l, xs, rfl, F, hl, hn, q⟩ := h
    rcases hl with hl | hl
    · refine ⟨_, pss_one (ps_for PassesOwn.never rfl (pi_list (pv 1)) (pg_name (i := 2) sc_Field__check.nd rfl (.inl rfl))
        (pss_one (ps_if (pt_not (pt_val (pe_methG (pv 0) (kp_Field_is_number T.d) (ok_is_number T) hr hg pass0 (pa_cons (pv 2) pa_nil)))) pss_never pss_nil))), ?_⟩
      refine ⟨_, rfl, l, rfl, ⟨_, hl⟩, for_list (K := K) (a := l) (xs := xs) (fun i σ H' => ∃ v : Option V, σ = [some (.ref f), some (.ref l), v] ∧ Same H H') ⟨none, rfl, Same.refl H⟩ (fun i σ H' _ ⟨_, _, sm⟩ => sm.seq hl) ?_ ?_⟩
      · rintro i x σ H' hi ⟨v, rfl, sm⟩
        obtain ⟨r, n, o⟩ := hn x (List.mem_of_getElem? hi)
        exact go_meth rfl (F.same sm) (by decide +kernel) (by decide +kernel) ⟨_, rfl, f, x, r, rfl, F.same sm, n.same sm, o, fun H2 s2 => ⟨_, rfl, ifF rfl ⟨_, rfl, sm.trans s2⟩⟩⟩
      · rintro σ H' ⟨v, rfl, sm⟩
        exact q H' sm
    · refine ⟨_, pss_one (ps_for PassesOwn.never rfl (pi_tup (pv 1)) (pg_name (i := 2) sc_Field__check.nd rfl (.inl rfl))
        (pss_one (ps_if (pt_not (pt_val (pe_methG (pv 0) (kp_Field_is_number T.d) (ok_is_number T) hr hg pass0 (pa_cons (pv 2) pa_nil)))) pss_never pss_nil))), ?_⟩
      refine ⟨_, rfl, l, rfl, ⟨_, hl⟩, for_tup (K := K) (a := l) (xs := xs) (fun i σ H' => ∃ v : Option V, σ = [some (.ref f), some (.ref l), v] ∧ Same H H') ⟨none, rfl, Same.refl H⟩ (fun i σ H' _ ⟨_, _, sm⟩ => sameT sm hl) ?_ ?_⟩
      · rintro i x σ H' hi ⟨v, rfl, sm⟩
        obtain ⟨r, n, o⟩ := hn x (List.mem_of_getElem? hi)
        exact go_meth rfl (F.same sm) (by decide +kernel) (by decide +kernel) ⟨_, rfl, f, x, r, rfl, F.same sm, n.same sm, o, fun H2 s2 => ⟨_, rfl, ifF rfl ⟨_, rfl, sm.trans s2⟩⟩⟩
      · rintro σ H' ⟨v, rfl, sm⟩
        exact q H' sm
/-! ### shortened, ratio -/
def spShort : Sp := fun vs H Q _ => ∃ (t b : Int), vs = [.int t, .int b] ∧ b ≠ 0 ∧ b.natAbs < 2 ^ 4000 ∧ ∀ (x : V) (H' : Hp), Same H H' → NumQ H' x (Rat.divInt t b) → Q x H'
theorem ok_shortened (T : Tx K mg) : FnG P w K mg base CX0 1 (He.ga K "shortened") spShort := by
  refine mk_shortened T.d (fun vs H Q E h => ?_) (fun cdv A outer s H vs Q E hg hr h => ?_)
  · obtain ⟨t, b, rfl, _⟩ := h
    rfl
  · obtain ⟨t, b, rfl, b0, bb, q⟩ := h
    have nd := sc_shortened.nd
    refine ⟨_, pss_cons (ps_if (pt_cmpR op_eq (pv 1) pe_int (nomark _)) (pss_one (ps_ret (pv 0))) pss_nil)
      (pss_cons (ps_set (i := 2) nd rfl (Or.inl rfl) (pe_callBfun cr_gcd (by rfl) T.gcd (pa_cons (pv 0) (pa_cons (pv 1) pa_nil))))
      (pss_cons (ps_if (pt_cmpR op_lt (pv 1) pe_int (nomark _)) (pss_one (ps_set (i := 2) nd rfl (Or.inl rfl) (pe_un un_neg (pv 2)))) pss_nil)
      (pss_cons (ps_if (pt_cmpR op_eq (pv 1) (pv 2) (nomark _)) (pss_one (ps_ret (pe_op op_fdivZ (pv 0) (pv 2)))) pss_nil)
      (pss_one (ps_ret (pe_tup (pa_cons (pe_op op_fdivZ (pv 0) (pv 2)) (pa_cons (pe_op op_fdivZ (pv 1) (pv 2)) pa_nil)))))))), ?_⟩
    refine ⟨_, rfl, rfl, _, rfl, ?_⟩
    rw [iEq]
    by_cases b1 : b = 1
    · subst b1
      obtain ⟨o1, o2⟩ := dvs_one t
      exact ifT (decide_eq_true rfl) ⟨_, rfl, q _ H (Same.refl H) (NumQ.int o1 o2 rfl)⟩
    · refine ifF (decide_eq_false b1) ?_
      refine ⟨_, rfl, _, rfl, t, b, rfl, ?_⟩
      obtain ⟨o1, o2, o3, o4, _, _⟩ := dvs_out (t := t) b0
      have o5 := dvs_log (t := t) b0 bb (by decide) (by decide)
      refine ⟨_, rfl, _, _, rfl, rfl, _, rfl, ?_⟩
      by_cases hn : b < 0
      all_goals
        first
        | (rw [dvs_neg hn] at o1 o2 o3 o4 o5
           refine ifT (decide_eq_true hn) ⟨_, rfl, _, rfl, ?_⟩)
        | (rw [dvs_nn hn] at o1 o2 o3 o4 o5
           refine ifF (decide_eq_false hn) ?_)
        refine ⟨_, rfl, _, rfl, rfl, _, rfl, ?_⟩
        rw [iEq]
      · by_cases e : b = -((Nat.gcd t.natAbs b.natAbs : Nat) : Int)
        · exact ifT (decide_eq_true e) ⟨_, rfl, _, rfl, _, _, rfl, rfl, ⟨o1, o5⟩, q _ H (Same.refl H) (NumQ.int o2.symm (o4.mp e) rfl)⟩
        · refine ifF (decide_eq_false e) ⟨_, rfl, _, rfl, _, _, rfl, rfl, ⟨o1, o5⟩, _, rfl, _, rfl, _, _, rfl, rfl, ⟨o1, o5⟩, by show 2 ≤ sizeLine; decide, fun p np => q _ _ (same_up np) (.inr ⟨fun z => e (o4.mpr z), p, rfl, ?_⟩)⟩
          rw [← o2, ← o3]
          exact upd_same
      · by_cases e : b = ((Nat.gcd t.natAbs b.natAbs : Nat) : Int)
        · exact ifT (decide_eq_true e) ⟨_, rfl, _, rfl, _, _, rfl, rfl, ⟨o1, o5⟩, q _ H (Same.refl H) (NumQ.int o2.symm (o4.mp e) rfl)⟩
        · refine ifF (decide_eq_false e) ⟨_, rfl, _, rfl, _, _, rfl, rfl, ⟨o1, o5⟩, _, rfl, _, rfl, _, _, rfl, rfl, ⟨o1, o5⟩, by show 2 ≤ sizeLine; decide, fun p np => q _ _ (same_up np) (.inr ⟨fun z => e (o4.mpr z), p, rfl, ?_⟩)⟩
          rw [← o2, ← o3]
          exact upd_same
def spRatio (K : PySem.W.Frag) : Sp := fun vs H Q _ => ∃ (f : Addr) (t b : Int), vs = [.ref f, .int t, .int b] ∧ FieldF K H f ∧ b ≠ 0 ∧ b.natAbs < 2 ^ 4000 ∧ ∀ (x : V) (H' : Hp), Same H H' → NumQ H' x (Rat.divInt t b) → Q x H'
theorem ok_ratio (T : Tx K mg) : FnG P w K mg base CX0 2 (He.ma K (He.ga K "Field") "ratio") (spRatio K) := by
  refine mk_Field_ratio T.d (fun vs H Q E h => ?_) (fun cdv A outer s H vs Q E hg hr h => ?_)
  · obtain ⟨f, t, b, rfl, _⟩ := h
    rfl
  · obtain ⟨f, t, b, rfl, F, b0, bb, q⟩ := h
    refine ⟨_, pss_cons (ps_if (pt_cmp (pc_isN (pe_fld (pv 0) rfl))) (pss_one (ps_ret (pe_callG (ok_shortened T) hr hg (by rfl) (T.g "shortened" (by decide +kernel)) (kp_shortened T.d) pass0 (pa_cons (pv 1) (pa_cons (pv 2) pa_nil))))) pss_nil) pss_never, ?_⟩
    exact rd_prime rfl F ⟨_, rfl, ifT rfl ⟨_, rfl, _, rfl, t, b, rfl, b0, bb, q⟩⟩
end
end K05.F
namespace K05.F
open PySem PySem.Spec PyProof.Rows L2 Ver Num
theorem ok_bq {q : Rat} (o : Ok100 q) : Bq 333 q := by
  have h1 := o.1
  have h2 := o.2
  unfold absI FL at h1
  unfold FL at h2
  have e : (2 : Nat) ^ 333 = 17498005798264095394980017816940970922825355447145699491406164851279623993595007385788105416184430592 := by decide
  unfold Bq
  rw [e]
  split at h1 <;> omega
theorem pass2 {x y : V} {H : Hp} {a b : Rat} (hx : NumQ H x a) (hy : NumQ H y b) (oa : Ok100 a) (ob : Ok100 b) : ∀ z ∈ [x, y], ∃ q, NumQ H z q ∧ Ok100 q := fun z hz => by
  rcases List.mem_cons.mp hz with e | hz
  · rw [e]; exact ⟨a, hx, oa⟩
  · rw [List.mem_singleton.mp hz]; exact ⟨b, hy, ob⟩
theorem den_bq {n : Nat} {q : Rat} (h : Bq n q) : ((q.den : Nat) : Int).natAbs < 2 ^ n := h.2
theorem dd_ne (a b : Rat) : (a.den : Int) * b.den ≠ 0 := Int.mul_ne_zero (by have := den_pos' a; omega) (by have := den_pos' b; omega)
theorem to4000 {n k : Nat} (h : k < 2 ^ n) (hn : n ≤ 4000) : k < 2 ^ 4000 := Nat.lt_of_lt_of_le h (Nat.pow_le_pow_right (by decide) hn)
section
variable {P : Program} {w : World} {K : PySem.W.Frag} {mg : Str → Option Value} {base : Heap}
def spOp (K : PySem.W.Frag) (g : Rat → Rat → Rat) : Sp := fun vs H Q _ => ∃ (f : Addr) (x y : V) (a b : Rat), vs = [.ref f, x, y] ∧ FieldF K H f ∧ NumQ H x a ∧ NumQ H y b ∧ Ok100 a ∧ Ok100 b ∧ ∀ (z : V) (H' : Hp), Same H H' → NumQ H' z (g a b) → Q z H'
theorem ok_sum_of (T : Tx K mg) : FnG P w K mg base CX0 3 (He.ma K (He.ga K "Field") "sum_of") (spOp K fun a b => a + b) := by
  refine mk_Field_sum_of T.d (fun vs H Q E h => ?_) (fun cdv A outer s H vs Q E hg hr h => ?_)
  · obtain ⟨f, x, y, a, b, rfl, _⟩ := h
    rfl
  · obtain ⟨f, x, y, a, b, rfl, F, nx, ny, oa, ob, q⟩ := h
    have ba := ok_bq oa
    have bb := ok_bq ob
    have gp := T.g "parts" (by decide +kernel)
    have nd := sc_Field_sum_of.nd
    refine ⟨_, pss_cons (ps_asg (pe_tup (pa_cons (pe_callG (ok_parts T) (hr.mono (by decide)) hg (by rfl) gp (kp_parts T.d) pass0 (pa_cons (pv 1) pa_nil)) (pa_cons (pe_callG (ok_parts T) (hr.mono (by decide)) hg (by rfl) gp (kp_parts T.d) pass0 (pa_cons (pv 2) pa_nil)) pa_nil)))
        (pg_tup rfl (pgs_cons (pg_tup rfl (pgs_cons (pg_name (i := 3) nd rfl (.inl rfl)) (pgs_cons (pg_name (i := 4) nd rfl (.inl rfl)) pgs_nil))) (pgs_cons (pg_tup rfl (pgs_cons (pg_name (i := 5) nd rfl (.inl rfl)) (pgs_cons (pg_name (i := 6) nd rfl (.inl rfl)) pgs_nil))) pgs_nil))))
      (pss_one (ps_ret (pe_methG (pv 0) (kp_Field_ratio T.d) (ok_ratio T) (hr.mono (by decide)) hg pass0 (pa_cons (pe_op op_add (pe_op op_mulW (pv 3) (pv 6)) (pe_op op_mulW (pv 5) (pv 4))) (pa_cons (pe_op op_mulW (pv 4) (pv 6)) pa_nil))))), ?_⟩
    refine ⟨_, rfl, x, _, _, rfl, nx.two, fun u H1 s1 hu => ⟨_, rfl, y, _, _, rfl, (ny.same s1).two, fun v H2 s2 hv => ⟨by show 2 ≤ sizeLine; decide, fun r nr => ?_⟩⟩⟩
    have s3 := same_up (o := .tup [V.ref u, V.ref v]) nr
    refine ⟨r, _, rfl, .inl (.inl upd_same), rfl, _, _, rfl, ⟨u, _, rfl, .inl (.inl (s3 _ _ (s2 _ _ hu))), rfl, _, _, rfl, _, _, rfl, rfl, ?_⟩⟩
    refine ⟨_, _, rfl, ⟨v, _, rfl, .inl (.inl (s3 _ _ hv)), rfl, _, _, rfl, _, _, rfl, rfl, rfl, ?_⟩⟩
    have s4 := (s1.trans s2).trans s3
    refine go_meth rfl (F.same s4) (by decide +kernel) (by decide +kernel) ⟨_, rfl, _, rfl, _, _, rfl, rfl, wide_mul ba.1 (den_bq bb) (by decide) (by decide) (by decide),
      _, rfl, _, rfl, _, _, rfl, rfl, wide_mul bb.1 (den_bq ba) (by decide) (by decide) (by decide), _, _, rfl, rfl, _, rfl, _, rfl, _, _, rfl, rfl, wide_mul (den_bq ba) (den_bq bb) (by decide) (by decide) (by decide), ?_⟩
    refine ⟨f, _, _, rfl, F.same s4, dd_ne a b, to4000 (wide_lt (den_bq ba) (den_bq bb)) (by decide), fun z H5 s5 nz => ?_⟩
    rw [add_is] at nz
    exact q z H5 (s4.trans s5) nz
theorem ok_plus (T : Tx K mg) : FnG P w K mg base CX0 6 (He.ma K (He.ga K "Field") "plus") (spOp K fun a b => a + b) := by
  refine mk_Field_plus T.d (fun vs H Q E h => ?_) (fun cdv A outer s H vs Q E hg hr h => ?_)
  · obtain ⟨f, x, y, a, b, rfl, _⟩ := h
    rfl
  · obtain ⟨f, x, y, a, b, rfl, F, nx, ny, oa, ob, q⟩ := h
    refine ⟨_, pss_cons (ps_expr (pe_methG (pv 0) (kp_Field__check T.d) (ok_check T) hr hg pass0 (pa_cons (pe_lst (pa_cons (pv 1) (pa_cons (pv 2) pa_nil))) pa_nil)))
      (pss_one (ps_ret (pe_methG (pv 0) (kp_Field_sum_of T.d) (ok_sum_of T) (hr.mono (by decide)) hg pass0 (pa_cons (pv 1) (pa_cons (pv 2) pa_nil))))), ?_⟩
    refine go_meth rfl F (by decide +kernel) (by decide +kernel) ⟨_, rfl, _, rfl, by show 2 ≤ sizeLine; decide, fun l nl => ?_⟩
    have s0 := same_up (o := .lst [x, y]) nl
    refine ⟨f, l, _, rfl, F.same s0, .inl (SqL.of upd_same), pass2 (nx.same s0) (ny.same s0) oa ob, fun H0 sx => ?_⟩
    have sH := s0.trans sx
    exact go_meth rfl (F.same sH) (by decide +kernel) (by decide +kernel) ⟨_, rfl, _, rfl, f, x, y, a, b, rfl, F.same sH, nx.same sH, ny.same sH, oa, ob, fun z H1 s1 nz => q z H1 (sH.trans s1) nz⟩
/-! ### over, and its error -/
theorem ok_difference_of (T : Tx K mg) : FnG P w K mg base CX0 3 (He.ma K (He.ga K "Field") "difference_of") (spOp K fun a b => a - b) := by
  refine mk_Field_difference_of T.d (fun vs H Q E h => ?_) (fun cdv A outer s H vs Q E hg hr h => ?_)
  · obtain ⟨f, x, y, a, b, rfl, _⟩ := h
    rfl
  · obtain ⟨f, x, y, a, b, rfl, F, nx, ny, oa, ob, q⟩ := h
    have ba := ok_bq oa
    have bb := ok_bq ob
    have gp := T.g "parts" (by decide +kernel)
    have nd := sc_Field_difference_of.nd
    refine ⟨_, pss_cons (ps_asg (pe_tup (pa_cons (pe_callG (ok_parts T) (hr.mono (by decide)) hg (by rfl) gp (kp_parts T.d) pass0 (pa_cons (pv 1) pa_nil)) (pa_cons (pe_callG (ok_parts T) (hr.mono (by decide)) hg (by rfl) gp (kp_parts T.d) pass0 (pa_cons (pv 2) pa_nil)) pa_nil)))
        (pg_tup rfl (pgs_cons (pg_tup rfl (pgs_cons (pg_name (i := 3) nd rfl (.inl rfl)) (pgs_cons (pg_name (i := 4) nd rfl (.inl rfl)) pgs_nil))) (pgs_cons (pg_tup rfl (pgs_cons (pg_name (i := 5) nd rfl (.inl rfl)) (pgs_cons (pg_name (i := 6) nd rfl (.inl rfl)) pgs_nil))) pgs_nil))))
      (pss_one (ps_ret (pe_methG (pv 0) (kp_Field_ratio T.d) (ok_ratio T) (hr.mono (by decide)) hg pass0 (pa_cons (pe_op op_sub (pe_op op_mulW (pv 3) (pv 6)) (pe_op op_mulW (pv 5) (pv 4))) (pa_cons (pe_op op_mulW (pv 4) (pv 6)) pa_nil))))), ?_⟩
    refine ⟨_, rfl, x, _, _, rfl, nx.two, fun u H1 s1 hu => ⟨_, rfl, y, _, _, rfl, (ny.same s1).two, fun v H2 s2 hv => ⟨by show 2 ≤ sizeLine; decide, fun r nr => ?_⟩⟩⟩
    have s3 := same_up (o := .tup [V.ref u, V.ref v]) nr
    refine ⟨r, _, rfl, .inl (.inl upd_same), rfl, _, _, rfl, ⟨u, _, rfl, .inl (.inl (s3 _ _ (s2 _ _ hu))), rfl, _, _, rfl, _, _, rfl, rfl, ?_⟩⟩
    refine ⟨_, _, rfl, ⟨v, _, rfl, .inl (.inl (s3 _ _ hv)), rfl, _, _, rfl, _, _, rfl, rfl, rfl, ?_⟩⟩
    have s4 := (s1.trans s2).trans s3
    refine go_meth rfl (F.same s4) (by decide +kernel) (by decide +kernel) ⟨_, rfl, _, rfl, _, _, rfl, rfl, wide_mul ba.1 (den_bq bb) (by decide) (by decide) (by decide),
      _, rfl, _, rfl, _, _, rfl, rfl, wide_mul bb.1 (den_bq ba) (by decide) (by decide) (by decide), _, _, rfl, rfl, _, rfl, _, rfl, _, _, rfl, rfl, wide_mul (den_bq ba) (den_bq bb) (by decide) (by decide) (by decide), ?_⟩
    refine ⟨f, _, _, rfl, F.same s4, dd_ne a b, to4000 (wide_lt (den_bq ba) (den_bq bb)) (by decide), fun z H5 s5 nz => ?_⟩
    rw [sub_is] at nz
    exact q z H5 (s4.trans s5) nz
theorem ok_minus (T : Tx K mg) : FnG P w K mg base CX0 6 (He.ma K (He.ga K "Field") "minus") (spOp K fun a b => a - b) := by
  refine mk_Field_minus T.d (fun vs H Q E h => ?_) (fun cdv A outer s H vs Q E hg hr h => ?_)
  · obtain ⟨f, x, y, a, b, rfl, _⟩ := h
    rfl
  · obtain ⟨f, x, y, a, b, rfl, F, nx, ny, oa, ob, q⟩ := h
    refine ⟨_, pss_cons (ps_expr (pe_methG (pv 0) (kp_Field__check T.d) (ok_check T) hr hg pass0 (pa_cons (pe_lst (pa_cons (pv 1) (pa_cons (pv 2) pa_nil))) pa_nil)))
      (pss_one (ps_ret (pe_methG (pv 0) (kp_Field_difference_of T.d) (ok_difference_of T) (hr.mono (by decide)) hg pass0 (pa_cons (pv 1) (pa_cons (pv 2) pa_nil))))), ?_⟩
    refine go_meth rfl F (by decide +kernel) (by decide +kernel) ⟨_, rfl, _, rfl, by show 2 ≤ sizeLine; decide, fun l nl => ?_⟩
    have s0 := same_up (o := .lst [x, y]) nl
    refine ⟨f, l, _, rfl, F.same s0, .inl (SqL.of upd_same), pass2 (nx.same s0) (ny.same s0) oa ob, fun H0 sx => ?_⟩
    have sH := s0.trans sx
    exact go_meth rfl (F.same sH) (by decide +kernel) (by decide +kernel) ⟨_, rfl, _, rfl, f, x, y, a, b, rfl, F.same sH, nx.same sH, ny.same sH, oa, ob, fun z H1 s1 nz => q z H1 (sH.trans s1) nz⟩
/-! ### over, and its error -/
theorem ok_product_of (T : Tx K mg) : FnG P w K mg base CX0 3 (He.ma K (He.ga K "Field") "product_of") (spOp K fun a b => a * b) := by
  refine mk_Field_product_of T.d (fun vs H Q E h => ?_) (fun cdv A outer s H vs Q E hg hr h => ?_)
  · obtain ⟨f, x, y, a, b, rfl, _⟩ := h
    rfl
  · obtain ⟨f, x, y, a, b, rfl, F, nx, ny, oa, ob, q⟩ := h
    have ba := ok_bq oa
    have bb := ok_bq ob
    have gp := T.g "parts" (by decide +kernel)
    have nd := sc_Field_product_of.nd
    refine ⟨_, pss_cons (ps_asg (pe_tup (pa_cons (pe_callG (ok_parts T) (hr.mono (by decide)) hg (by rfl) gp (kp_parts T.d) pass0 (pa_cons (pv 1) pa_nil)) (pa_cons (pe_callG (ok_parts T) (hr.mono (by decide)) hg (by rfl) gp (kp_parts T.d) pass0 (pa_cons (pv 2) pa_nil)) pa_nil)))
        (pg_tup rfl (pgs_cons (pg_tup rfl (pgs_cons (pg_name (i := 3) nd rfl (.inl rfl)) (pgs_cons (pg_name (i := 4) nd rfl (.inl rfl)) pgs_nil))) (pgs_cons (pg_tup rfl (pgs_cons (pg_name (i := 5) nd rfl (.inl rfl)) (pgs_cons (pg_name (i := 6) nd rfl (.inl rfl)) pgs_nil))) pgs_nil))))
      (pss_one (ps_ret (pe_methG (pv 0) (kp_Field_ratio T.d) (ok_ratio T) hr hg pass0 (pa_cons (pe_op op_mulW (pv 3) (pv 5)) (pa_cons (pe_op op_mulW (pv 4) (pv 6)) pa_nil))))), ?_⟩
    refine ⟨_, rfl, x, _, _, rfl, nx.two, fun u H1 s1 hu => ⟨_, rfl, y, _, _, rfl, (ny.same s1).two, fun v H2 s2 hv => ⟨by show 2 ≤ sizeLine; decide, fun r nr => ?_⟩⟩⟩
    have s3 := same_up (o := .tup [V.ref u, V.ref v]) nr
    refine ⟨r, _, rfl, .inl (.inl upd_same), rfl, _, _, rfl, ⟨u, _, rfl, .inl (.inl (s3 _ _ (s2 _ _ hu))), rfl, _, _, rfl, _, _, rfl, rfl, ?_⟩⟩
    refine ⟨_, _, rfl, ⟨v, _, rfl, .inl (.inl (s3 _ _ hv)), rfl, _, _, rfl, _, _, rfl, rfl, rfl, ?_⟩⟩
    have s4 := (s1.trans s2).trans s3
    refine go_meth rfl (F.same s4) (by decide +kernel) (by decide +kernel) ⟨_, rfl, _, rfl, _, _, rfl, rfl, wide_mul ba.1 bb.1 (by decide) (by decide) (by decide), _, rfl, _, rfl, _, _, rfl, rfl, wide_mul (den_bq ba) (den_bq bb) (by decide) (by decide) (by decide), ?_⟩
    refine ⟨f, _, _, rfl, F.same s4, dd_ne a b, to4000 (wide_lt (den_bq ba) (den_bq bb)) (by decide), fun z H5 s5 nz => ?_⟩
    rw [mul_is] at nz
    exact q z H5 (s4.trans s5) nz
theorem ok_times (T : Tx K mg) : FnG P w K mg base CX0 6 (He.ma K (He.ga K "Field") "times") (spOp K fun a b => a * b) := by
  refine mk_Field_times T.d (fun vs H Q E h => ?_) (fun cdv A outer s H vs Q E hg hr h => ?_)
  · obtain ⟨f, x, y, a, b, rfl, _⟩ := h
    rfl
  · obtain ⟨f, x, y, a, b, rfl, F, nx, ny, oa, ob, q⟩ := h
    refine ⟨_, pss_cons (ps_expr (pe_methG (pv 0) (kp_Field__check T.d) (ok_check T) hr hg pass0 (pa_cons (pe_lst (pa_cons (pv 1) (pa_cons (pv 2) pa_nil))) pa_nil)))
      (pss_one (ps_ret (pe_methG (pv 0) (kp_Field_product_of T.d) (ok_product_of T) (hr.mono (by decide)) hg pass0 (pa_cons (pv 1) (pa_cons (pv 2) pa_nil))))), ?_⟩
    refine go_meth rfl F (by decide +kernel) (by decide +kernel) ⟨_, rfl, _, rfl, by show 2 ≤ sizeLine; decide, fun l nl => ?_⟩
    have s0 := same_up (o := .lst [x, y]) nl
    refine ⟨f, l, _, rfl, F.same s0, .inl (SqL.of upd_same), pass2 (nx.same s0) (ny.same s0) oa ob, fun H0 sx => ?_⟩
    have sH := s0.trans sx
    exact go_meth rfl (F.same sH) (by decide +kernel) (by decide +kernel) ⟨_, rfl, _, rfl, f, x, y, a, b, rfl, F.same sH, nx.same sH, ny.same sH, oa, ob, fun z H1 s1 nz => q z H1 (sH.trans s1) nz⟩
/-! ### over, and its error -/
def spOver (K : PySem.W.Frag) : Sp := fun vs H Q _ => ∃ (f : Addr) (x y : V) (a b : Rat), vs = [.ref f, x, y] ∧ FieldF K H f ∧ NumQ H x a ∧ NumQ H y b ∧ Ok100 a ∧ Ok100 b ∧
  b ≠ 0 ∧ ∀ (z : V) (H' : Hp), Same H H' → NumQ H' z (Rat.divInt (a.num * b.den) (a.den * b.num)) → Q z H'
def spQuo (K : PySem.W.Frag) : Sp := fun vs H Q _ => ∃ (f : Addr) (x y : V) (a b : Rat), vs = [.ref f, x, y] ∧ FieldF K H f ∧ NumQ H x a ∧ NumQ H y b ∧ Ok100 a ∧ Ok100 b ∧
  b ≠ 0 ∧ ∀ (z : V) (H' : Hp), Same H H' → NumQ H' z (Rat.divInt (a.num * b.den) (a.den * b.num)) → Q z H'
theorem ok_quotient_of (T : Tx K mg) : FnG P w K mg base CX0 3 (He.ma K (He.ga K "Field") "quotient_of") (spQuo K) := by
  refine mk_Field_quotient_of T.d (fun vs H Q E h => ?_) (fun cdv A outer s H vs Q E hg hr h => ?_)
  · obtain ⟨f, x, y, a, b, rfl, _⟩ := h
    rfl
  · obtain ⟨f, x, y, a, b, rfl, F, nx, ny, oa, ob, e, q⟩ := h
    have ba := ok_bq oa
    have bb := ok_bq ob
    have gp := T.g "parts" (by decide +kernel)
    have nd := sc_Field_quotient_of.nd
    refine ⟨_, pss_cons (ps_asg (pe_tup (pa_cons (pe_callG (ok_parts T) (hr.mono (by decide)) hg (by rfl) gp (kp_parts T.d) pass0 (pa_cons (pv 1) pa_nil)) (pa_cons (pe_callG (ok_parts T) (hr.mono (by decide)) hg (by rfl) gp (kp_parts T.d) pass0 (pa_cons (pv 2) pa_nil)) pa_nil)))
        (pg_tup rfl (pgs_cons (pg_tup rfl (pgs_cons (pg_name (i := 3) nd rfl (.inl rfl)) (pgs_cons (pg_name (i := 4) nd rfl (.inl rfl)) pgs_nil))) (pgs_cons (pg_tup rfl (pgs_cons (pg_name (i := 5) nd rfl (.inl rfl)) (pgs_cons (pg_name (i := 6) nd rfl (.inl rfl)) pgs_nil))) pgs_nil))))
      (pss_one (ps_ret (pe_methG (pv 0) (kp_Field_ratio T.d) (ok_ratio T) (hr.mono (by decide)) hg pass0 (pa_cons (pe_op op_mulW (pv 3) (pv 6)) (pa_cons (pe_op op_mulW (pv 4) (pv 5)) pa_nil))))), ?_⟩
    refine ⟨_, rfl, x, _, _, rfl, nx.two, fun u H1 s1 hu => ⟨_, rfl, y, _, _, rfl, (ny.same s1).two, fun v H2 s2 hv => ⟨by show 2 ≤ sizeLine; decide, fun r nr => ?_⟩⟩⟩
    have s3 := same_up (o := .tup [V.ref u, V.ref v]) nr
    refine ⟨r, _, rfl, .inl (.inl upd_same), rfl, _, _, rfl, ⟨u, _, rfl, .inl (.inl (s3 _ _ (s2 _ _ hu))), rfl, _, _, rfl, _, _, rfl, rfl, ?_⟩⟩
    refine ⟨_, _, rfl, ⟨v, _, rfl, .inl (.inl (s3 _ _ hv)), rfl, _, _, rfl, _, _, rfl, rfl, rfl, ?_⟩⟩
    have s4 := (s1.trans s2).trans s3
    have bn : b.num ≠ 0 := fun z => e (Rat.num_eq_zero.mp z)
    refine go_meth rfl (F.same s4) (by decide +kernel) (by decide +kernel) ⟨_, rfl, _, rfl, _, _, rfl, rfl, wide_mul ba.1 (den_bq bb) (by decide) (by decide) (by decide), _, rfl, _, rfl, _, _, rfl, rfl, wide_mul (den_bq ba) bb.1 (by decide) (by decide) (by decide), ?_⟩
    refine ⟨f, _, _, rfl, F.same s4, Int.mul_ne_zero (by have := den_pos' a; omega) bn, to4000 (wide_lt (den_bq ba) bb.1) (by decide), fun z H5 s5 nz => ?_⟩
    exact q z H5 (s4.trans s5) nz
/-! ### making the field -/
theorem ok_over (T : Tx K mg) : FnG P w K mg base CX0 6 (He.ma K (He.ga K "Field") "over") (spOver K) := by
  refine mk_Field_over T.d (fun vs H Q E h => ?_) (fun cdv A outer s H vs Q E hg hr h => ?_)
  · obtain ⟨f, x, y, a, b, rfl, _⟩ := h
    rfl
  · obtain ⟨f, x, y, a, b, rfl, F, nx, ny, oa, ob, bz, q⟩ := h
    have ba := ok_bq oa
    have bb := ok_bq ob
    have gp := T.g "parts" (by decide +kernel)
    have nd := sc_Field_over.nd
    refine ⟨_, pss_cons (ps_expr (pe_methG (pv 0) (kp_Field__check T.d) (ok_check T) hr hg pass0 (pa_cons (pe_lst (pa_cons (pv 1) (pa_cons (pv 2) pa_nil))) pa_nil)))
      (pss_cons (ps_if (pt_cmpR (op_eqD hr.units) (pv 2) pe_int (nomark _)) pss_never pss_nil)
      (pss_one (ps_ret (pe_methG (pv 0) (kp_Field_quotient_of T.d) (ok_quotient_of T) (hr.mono (by decide)) hg pass0 (pa_cons (pv 1) (pa_cons (pv 2) pa_nil)))))), ?_⟩
    refine go_meth rfl F (by decide +kernel) (by decide +kernel) ⟨_, rfl, _, rfl, by show 2 ≤ sizeLine; decide, fun l nl => ?_⟩
    have s0 := same_up (o := .lst [x, y]) nl
    refine ⟨f, l, _, rfl, F.same s0, .inl (SqL.of upd_same), pass2 (nx.same s0) (ny.same s0) oa ob, fun H0 sx => ?_⟩
    have sH := s0.trans sx
    refine ⟨_, rfl, dq b, .int 0, dp_q (ny.same sH), .int 0, shaped_q b, (by simp [SeqAt.shaped, PyData.canLay0, PyData.depth]), _, rfl, ?_⟩
    rw [eqv_q0]
    have e := bz
    · refine ifF (decide_eq_false e) ?_
      exact go_meth rfl (F.same sH) (by decide +kernel) (by decide +kernel) ⟨_, rfl, _, rfl, f, x, y, a, b, rfl, F.same sH, nx.same sH, ny.same sH, oa, ob, e, fun z H5 s5 nz => q z H5 (sH.trans s5) nz⟩
def spFInit (K : PySem.W.Frag) : Sp := fun vs H Q _ => ∃ (f C dx : Addr), vs = [.ref f, .non] ∧ FC K C ∧ H f = some (.ins C dx []) ∧ Q .non (upd H f (.ins C dx [(("_prime" : Str), V.non)]))
theorem ok_finit (T : Tx K mg) : FnG P w K mg base CX0 1 (He.ma K (He.ga K "Field") "__init__") (spFInit K) := by
  refine mk_Field___init__ T.d (fun vs H Q E h => ?_) (fun cdv A outer s H vs Q E hg hr h => ?_)
  · obtain ⟨f, C, dx, rfl, _⟩ := h
    rfl
  · obtain ⟨f, C, dx, rfl, c, hf, q⟩ := h
    exact ⟨_, pss_one (ps_fld (pv 0) (pv 1) rfl), ⟨_, rfl, _, rfl, f, C, dx, [], rfl, hf, c.cl, c.np, (by show 0 < 1000; decide), q⟩⟩
end
end K05.F
namespace Ver
open PySem PySem.Spec PyProof.Rows L2
/-- C.m(e, ..), m a plain def of the class C itself or above it -/
theorem pe_clsG {X : Cx} {CX : CXT} {k : Nat} {f C : Addr} {sp : Sp} {E : XK} {x m : Str} {p pos apos : Pos} {e : Expr} {es : List Expr} {t : TA} {pl : Sem Bool} (hg : Gl X x) (hm : X.mg x = some (.ref C)) (rd : PySem.W.readsIn X.K C (.type "type") = true)
    (ga : PySem.W.specialIn X.K (.ref C) "__getattribute__" = some (some (.builtin "type.__getattribute__"))) (fi : PySem.W.findCls X.K (.ref C) (.type "type") m = some (.val (.ref f))) (hk : PySem.W.keepIn X.K (.ref f) = true)
    (F : FnG X.prog X.w X.K X.mg X.base CX k f sp) (hr : Room k X.A) (hgd : X.A.guards = some []) (hx : Passes CX X E) (ha : PA X (e :: es) t)
    (hst : starEach (e :: es) X.env = (false, eval e X.env) :: starEach es X.env := by rfl) (hpl : (backTo pos (starEach es X.env)).any (·.1) = false := by rfl)
    (ht : eval (.Call (.Attribute (.Name x p) m apos) (e :: es) [] pos) X.env = (do
      let ov ← eval (.Name x p) X.env
      standAt apos.atName
      let (g, first) ← holding [ov] (getMethod ov m pl)
      callWith pos g first (backTo pos (starEach (e :: es) X.env)) (backToKw pos (keywordEach [] X.env))) := by rfl) (hdb : (x == ("__debug__" : Str)) = false := by decide) :
    PE X (.Call (.Attribute (.Name x p) m apos) (e :: es) [] pos) (fun σ H Q => t σ H fun vs H1 => sp vs H1 Q E) := by
  refine ⟨fun pins s σ H Q I h => PySem.W.methodCall_KW (pl := pl) (ld_glob I hg hm ?_ hdb) ht⟩
  refine PySem.W.method_cls I.kIn ga (PySem.W.cls_value I.kIn rd fi rfl ?_)
  have J := I.tok (s.toks + 1)
  refine PySem.W.callWith_K (first := []) (h₀ := X.base) I.ok.mod.kin hk (thn (ha.run pos pins _ σ H _ J h) fun us s1 z => ?_) hst hpl
  obtain ⟨vs, H1, I1, r, q⟩ := z
  exact ⟨I1.kIn, runG F hr hgd hx I1 r q⟩
/-- lcm of two ints, great ones too -/
theorem cr_lcm {X : Cx} : CallR X (.builtin "math.lcm") (fun vs H Q => ∃ a b : Int, vs = [.int a, .int b] ∧ a.natAbs < 2 ^ 8000 ∧ b.natAbs < 2 ^ 8000 ∧ Q (.int ((Nat.lcm a.natAbs b.natAbs : Nat) : Int)) H) := by
  intro pins s σ H vs us Q I r h
  obtain ⟨a, b, rfl, ha, hb, q⟩ := h
  obtain ⟨t, u, rfl⟩ := Vals.int2 r
  have la := PySem.Flt.log2_lt_of (by decide) ha
  have lb := PySem.Flt.log2_lt_of (by decide) hb
  have h1 : (max 1 a.natAbs).log2 ≤ 8000 := by
    rcases Nat.le_total 1 a.natAbs with z | z
    · rw [Nat.max_eq_right z]; omega
    · rw [Nat.max_eq_left z]; decide
  have h2 : (max a.natAbs b.natAbs).log2 ≤ 8000 := by
    rcases Nat.le_total a.natAbs b.natAbs with z | z
    · rw [Nat.max_eq_right z]; omega
    · rw [Nat.max_eq_left z]; omega
  have e1 : Nat.lcm 1 a.natAbs = a.natAbs := Nat.lcm_one_left _
  have hs : ((((Nat.lcm 1 a.natAbs).lcm b.natAbs : Nat) : Int)).natAbs.log2 < bitsLine := by
    rw [e1]
    have l1 : Nat.lcm a.natAbs b.natAbs ≤ a.natAbs * b.natAbs := by
      rw [Nat.lcm]
      exact Nat.div_le_self _ _
    have l2 : a.natAbs * b.natAbs < 2 ^ (8000 + 8000) := by
      rw [Nat.pow_add]
      exact Nat.mul_lt_mul'' ha hb
    have l3 : (((Nat.lcm a.natAbs b.natAbs : Nat) : Int)).natAbs < 2 ^ (8000 + 8000) := Nat.lt_of_le_of_lt l1 l2
    have l4 := PySem.Flt.log2_lt_of (by decide) l3
    have e : bitsLine = 134217728 := by decide
    omega
  have g := PySem.W.mg_run_lcm a t b u (by omega) (by omega) hs
  rw [e1] at g
  exact PySem.call_function_meets PySem.W.MGF.kind_lcm PySem.W.MGF.plain_lcm PySem.W.MGF.entry_lcm (PySem.W.MGF.args_lcm _ _) g.meets ⟨.int _, H, I.tok _, ⟨_, rfl⟩, q⟩
end Ver
namespace K05.F
open PySem PySem.Spec PyProof.Rows L2 Ver Num
theorem same_past {H1 H : Hp} {D : Addr} {o : HO} (s : Same H1 H) (n : H1 D = none) : Same H1 (upd H D o) := fun b u e => by
  rw [upd_ne (ne_of_none e n)]
  exact s b u e
section
variable {P : Program} {w : World} {K : PySem.W.Frag} {mg : Str → Option Value} {base : Heap}
/-! ### Fractions() -/
def spFracInit (K : PySem.W.Frag) : Sp := fun vs H Q _ => ∃ (f dx : Addr), vs = [.ref f] ∧ H f = some (.ins (He.ga K "Fractions") dx []) ∧ Q .non (upd H f (.ins (He.ga K "Fractions") dx [(("_prime" : Str), V.non)]))
theorem ok_fracinit (T : Tx K mg) : FnG P w K mg base CX0 2 (He.ma K (He.ga K "Fractions") "__init__") (spFracInit K) := by
  refine mk_Fractions___init__ T.d (fun vs H Q E h => ?_) (fun cdv A outer s H vs Q E hg hr h => ?_)
  · obtain ⟨f, dx, rfl, _⟩ := h
    rfl
  · obtain ⟨f, dx, rfl, hf, q⟩ := h
    refine ⟨_, pss_one (ps_expr (pe_clsG (by rfl) (T.g "Field" (by decide +kernel)) T.rdF T.gaF T.fiF (kp_Field___init__ T.d) (ok_finit T) hr hg pass0 (pa_cons (pv 0) (pa_cons pe_non pa_nil)))), ?_⟩
    exact ⟨_, rfl, f, _, dx, rfl, T.fcF, hf, q⟩
/-! ### common, total -/
def NumsQ (H : Hp) (xs : List V) (qs : List Rat) : Prop := xs.length = qs.length ∧ ∀ (i : Nat) (x : V) (q : Rat), xs[i]? = some x → qs[i]? = some q → NumQ H x q
theorem NumsQ.same {H H' : Hp} {xs : List V} {qs : List Rat} (h : NumsQ H xs qs) (s : Same H H') : NumsQ H' xs qs := ⟨h.1, fun i x q a b => (h.2 i x q a b).same s⟩
theorem NumsQ.get {H : Hp} {xs : List V} {qs : List Rat} (h : NumsQ H xs qs) {i : Nat} {x : V} (e : xs[i]? = some x) : ∃ q, qs[i]? = some q ∧ NumQ H x q := by
  have li := (List.getElem?_eq_some_iff.mp e).1
  rw [h.1] at li
  exact ⟨_, List.getElem?_eq_getElem li, h.2 i x _ e (List.getElem?_eq_getElem li)⟩
def spCommon (K : PySem.W.Frag) : Sp := fun vs H Q _ => ∃ (f l : Addr) (xs : List V) (qs : List Rat), vs = [.ref f, .ref l] ∧ FieldF K H f ∧ H l = some (.tup xs) ∧ NumsQ H xs qs ∧ qs.length ≤ 10 ∧ (∀ q ∈ qs, Ok100 q) ∧
  ∀ (t l' : Addr) (L : Int) (ns : List Int) (H' : Hp), Same H H' → H' t = some (.tup [.ref l', .int L]) → (SqL K H' l' (ns.map V.int) ∨ SqT K H' l' (ns.map V.int)) → L ≠ 0 → L.natAbs < 2 ^ 4000 → Rat.divInt ns.sum L = qs.sum → Q (.ref t) H'
theorem all_one {H : Hp} : ∀ {xs : List V} {qs : List Rat}, NumsQ H xs qs → (∀ q ∈ qs, q.den = 1) → xs = (qs.map fun q => q.num * (1 / (q.den : Int))).map V.int := fun {xs qs} h hd => by
  apply List.ext_getElem?
  intro i
  rw [List.getElem?_map, List.getElem?_map]
  cases e : xs[i]? with
  | none =>
    have : qs[i]? = none := by
      rw [List.getElem?_eq_none_iff] at e ⊢
      rw [← h.1]
      exact e
    rw [this]
    rfl
  | some x =>
    obtain ⟨q, e2, n⟩ := h.get e
    have d := hd q (List.mem_of_getElem? e2)
    rw [e2]
    rcases n with ⟨_, ex⟩ | ⟨z, _⟩
    · show some x = some (V.int (q.num * (1 / (q.den : Int))))
      rw [ex, d]
      simp
    · exact absurd d z
theorem ok_common (T : Tx K mg) : FnG P w K mg base CX0 2 (He.ma K (He.ga K "Field") "common") (spCommon K) := by
  refine mk_Field_common T.d (fun vs H Q E h => ?_) (fun cdv A outer s H vs Q E hg hr h => ?_)
  · obtain ⟨f, l, xs, qs, rfl, _⟩ := h
    rfl
  · obtain ⟨f, l, xs, qs, rfl, F, hl, hn, hz, ho, q⟩ := h
    have nd := sc_Field_common.nd
    refine ⟨_, pss_cons (ps_if (pt_cmp (pc_notN (pe_fld (pv 0) rfl))) pss_never pss_nil)
      (pss_cons (ps_set (i := 2) nd rfl (Or.inr rfl) pe_int)
      (pss_cons (ps_for PassesOwn.never rfl (pi_tup (pv 1)) (pg_name (i := 3) nd rfl (.inl rfl))
        (pss_one (ps_if (pt_val (pe_callB call_isi (by rfl) (T.z "isinstance" (by decide +kernel)) (by decide +kernel) (pa_cons (pv 3) (pa_cons (pe_bltn (v := .ty "tuple") (by rfl) (T.z "tuple" (by decide +kernel)) (by decide +kernel) rfl) pa_nil))))
          (pss_one (ps_set (i := 2) nd rfl (Or.inr rfl) (pe_callBfun cr_lcm (by rfl) T.lcm (pa_cons (pv 2) (pa_cons (pe_ix ix_tup (pv 3) pe_int (fun _ _ => rfl)) pa_nil))))) pss_nil)))
      (pss_cons (ps_if (pt_cmpR op_eq (pv 2) pe_int (nomark _)) (pss_one (ps_ret (pe_tup (pa_cons (pv 1) (pa_cons pe_int pa_nil))))) pss_nil)
      (pss_one (ps_ret (pe_tup (pa_cons
        (pe_lc (own := [("above", 5), ("below", 6)]) (g := gTup K 2 (gCons (gName 5) (gCons (gName 6) gNil))) (tt := tYes) rfl nd
          (pi_list (pe_lc (own := [("each", 4)]) (g := gName 4) (tt := tYes) rfl nd (pi_tup (pv 1)) (blkOk_by (N := n_Field_common) (sc := defScope s_Field_common) (by decide +kernel)) (fun _ _ _ _ _ => pg_name (i := 4) nd rfl (Or.inl rfl)) (fun _ _ _ _ _ => pts_nil)
            (fun _ _ _ _ _ => pe_callG (ok_parts T) hr hg (by rfl) (T.g "parts" (by decide +kernel)) (kp_parts T.d) pass0 (pa_cons (pv 4) pa_nil))))
          (blkOk_by (N := n_Field_common) (sc := defScope s_Field_common) (by decide +kernel)) (fun _ _ _ _ _ => pg_tup rfl (pgs_cons (pg_name (i := 5) nd rfl (Or.inl rfl)) (pgs_cons (pg_name (i := 6) nd rfl (Or.inl rfl)) pgs_nil))) (fun _ _ _ _ _ => pts_nil)
          (fun _ _ _ _ _ => pe_op op_mulW (pv 5) (pe_op op_fdivW (pv 2) (pv 6)))) (pa_cons (pv 2) pa_nil)))))))), ?_⟩
    refine rd_prime rfl F ⟨_, rfl, ifF rfl ?_⟩
    have hT : SqT K H l xs := .inl (.inl hl)
    refine ⟨_, rfl, l, rfl, ⟨_, hT⟩, for_tup (K := K) (a := l) (xs := xs) (fun i σ H' => ∃ (L : Int) (v : Option V), σ = [some (.ref f), some (.ref l), some (.int L), v, none, none, none] ∧ 0 < L ∧ L.natAbs < 2 ^ (333 * i + 1) ∧ (∀ q ∈ qs.take i, (q.den : Int) ∣ L) ∧ H' = H)
      ⟨1, none, rfl, by decide, by decide, (fun q hq => by rw [List.take_zero] at hq; cases hq), rfl⟩ (fun i σ H' _ ⟨_, _, _, _, _, _, e⟩ => e ▸ hT) ?_ ?_⟩
    · rintro i x σ H' hi ⟨L, v, rfl, L0, Lb, Ld, rfl⟩
      obtain ⟨r, hr2, n⟩ := hn.get hi
      have tk : qs.take (i + 1) = qs.take i ++ [r] := by rw [List.take_add_one, hr2]; rfl
      have i10 : i < 10 := by
        have := (List.getElem?_eq_some_iff.mp hr2).1
        omega
      rcases n with ⟨d1, rfl⟩ | ⟨d1, a, rfl, ha⟩
      · refine ⟨_, rfl, _, _, _, _, false, rfl, .ty "tuple", .base (.int _), kit_ty (by decide +kernel), _, rfl, ifF rfl ?_⟩
        refine ⟨L, _, rfl, L0, Nat.lt_of_lt_of_le Lb (Nat.pow_le_pow_right (by decide) (by omega)), fun q hq => ?_, rfl⟩
        rw [tk] at hq
        rcases List.mem_append.mp hq with hq | hq
        · exact Ld q hq
        · rw [List.mem_singleton.mp hq, d1]
          exact Int.one_dvd L
      · have br := ok_bq (ho r (List.mem_of_getElem? hr2))
        refine ⟨_, rfl, _, _, _, _, true, rfl, .ty "tuple", .base (.tup ha), kit_ty (by decide +kernel), _, rfl, ifT rfl ?_⟩
        have Lb2 : L.natAbs < 2 ^ 8000 := Nat.lt_of_lt_of_le Lb (Nat.pow_le_pow_right (by decide) (by omega))
        refine ⟨_, rfl, _, rfl, a, _, _, _, rfl, rfl, .inl (.inl ha), (by rfl : atI [V.int r.num, V.int (r.den : Int)] 1 = some (V.int (r.den : Int))), L, (r.den : Int), rfl, Lb2, Nat.lt_of_lt_of_le (den_bq br) (Nat.pow_le_pow_right (by decide) (by decide)), ?_⟩
        have dpos := r.den_pos
        have Lpos : 0 < L.natAbs := by omega
        have e1 : ((r.den : Nat) : Int).natAbs = r.den := rfl
        have lp : 0 < Nat.lcm L.natAbs r.den := Nat.lcm_pos Lpos dpos
        have lle : Nat.lcm L.natAbs r.den ≤ L.natAbs * r.den := by
          rw [Nat.lcm]
          exact Nat.div_le_self _ _
        refine ⟨_, _, rfl, ?_, ?_, fun q hq => ?_, rfl⟩
        · rw [e1]
          exact Int.natCast_pos.mpr lp
        · rw [e1]
          show Nat.lcm L.natAbs r.den < _
          refine Nat.lt_of_le_of_lt lle ?_
          rw [show 333 * (i + 1) + 1 = (333 * i + 1) + 333 by omega, Nat.pow_add]
          exact Nat.mul_lt_mul'' Lb br.2
        · rw [tk] at hq
          rw [e1]
          rcases List.mem_append.mp hq with hq | hq
          · refine Int.dvd_trans (Ld q hq) ?_
            rw [← Int.natAbs_dvd_natAbs]
            exact Nat.dvd_lcm_left _ _
          · rw [List.mem_singleton.mp hq]
            exact Int.natCast_dvd_natCast.mpr (Nat.dvd_lcm_right _ _)
    · rintro σ H' ⟨L, v, rfl, L0, Lb, Ld, rfl⟩
      have lx : xs.length ≤ 10 := by rw [hn.1]; exact hz
      have tk : qs.take xs.length = qs := by rw [hn.1, List.take_length]
      rw [tk] at Ld
      have Lb2 : L.natAbs < 2 ^ 4000 := Nat.lt_of_lt_of_le Lb (Nat.pow_le_pow_right (by decide) (by omega))
      refine ⟨_, rfl, rfl, _, rfl, ?_⟩
      rw [iEq]
      by_cases e : L = 1
      · subst e
        refine ifT (decide_eq_true rfl) ⟨_, rfl, by show 2 ≤ sizeLine; decide, fun t nt => ?_⟩
        have s1 := same_up (o := .tup [V.ref l, V.int 1]) nt
        have d1 : ∀ q ∈ qs, q.den = 1 := fun q hq => by
          have := Int.le_of_dvd (by decide) (Ld q hq)
          have := q.den_pos
          omega
        have ex := all_one hn d1
        refine q t l 1 (qs.map fun q => q.num * (1 / (q.den : Int))) _ s1 upd_same (.inr (.inl (.inl (by rw [← ex]; exact s1 _ _ hl)))) (by decide) (by decide) (sum_L (by decide) qs Ld)
      · refine ifF (decide_eq_false e) ?_
        refine ⟨_, rfl, l, rfl, ⟨_, hT⟩, fun D1 n1 => lc_tup (K := K) (a := l) (xs := xs) (g := gName 4) (tt := tYes) (te := fun σ H Q => tCons (tVar 4) tNil σ H fun vs H1 => spParts K vs H1 Q E0) (vs := [4]) (fun i H2 => ∃ ps : List Addr, ps.length = i ∧ H2 D1 = some (.lst (ps.map V.ref)) ∧ (∀ (j : Nat) (p : Addr) (r : Rat), ps[j]? = some p → qs[j]? = some r → H2 p = some (.tup [.int r.num, .int (r.den : Int)])) ∧ Same H' H2)
          ⟨[], rfl, upd_same, fun j p r h => by simp at h, same_up n1⟩ (fun i H2 _ ⟨_, _, _, _, s2⟩ => sameT s2 hT) ?_ ?_⟩
        · rintro i x H2 hi ⟨ps, pl, pd, pt, s2⟩
          obtain ⟨r, hr2, n⟩ := hn.get hi
          refine ⟨rfl, ?_⟩
          refine ⟨_, rfl, x, _, _, rfl, (n.same s2).two, fun p H4 s4 hp => ⟨ps.map V.ref, s4 _ _ pd, ?_, ps ++ [p], ?_, ?_, ?_, ?_⟩⟩
          · rw [List.length_map, pl]
            have := (List.getElem?_eq_some_iff.mp hi).1
            exact Nat.lt_of_lt_of_le (show i < 10 by omega) (by decide)
          · rw [List.length_append, pl]; rfl
          · rw [List.map_append]
            exact upd_same
          · intro j p' r' h1 h2
            have key : H4 p' = some (.tup [.int r'.num, .int (r'.den : Int)]) := by
              by_cases c : j < ps.length
              · rw [List.getElem?_append_left c] at h1
                exact s4 _ _ (pt j p' r' h1 h2)
              · have hlt := (List.getElem?_eq_some_iff.mp h1).1
                rw [List.length_append] at hlt
                have jl : j = i := by
                  have : [p].length = 1 := rfl
                  omega
                rw [List.getElem?_append_right (by omega), jl, pl, Nat.sub_self] at h1
                rw [jl, hr2] at h2
                cases h2
                cases h1
                exact hp
            rw [upd_ne (ne_of key (s4 _ _ pd) (by intro z; cases z))]
            exact key
          · exact same_past (s2.trans s4) n1
        · rintro H2 ⟨ps, pl, pd, pt, s2⟩
          refine ⟨D1, rfl, ⟨_, SqL.of pd⟩, fun D2 n2 => lc_list (K := K) (a := D1) (xs := ps.map V.ref) (fun i H3 => H3 D2 = some (.lst ((qs.take i).map fun r => V.int (r.num * (L / (r.den : Int))))) ∧ Same H2 H3)
            ⟨by rw [List.take_zero]; exact upd_same, same_up n2⟩ (fun i H3 _ ⟨_, s3⟩ => SqL.of (s3 _ _ pd)) ?_ ?_⟩
          · rintro i x H3 hi ⟨h3, s3⟩
            rw [List.getElem?_map] at hi
            cases ep : ps[i]? with
            | none => rw [ep] at hi; cases hi
            | some p =>
              rw [ep] at hi
              cases hi
              have il := (List.getElem?_eq_some_iff.mp ep).1
              have iq : i < qs.length := by rw [← hn.1, ← pl]; exact il
              have eq2 : qs[i]? = some qs[i] := List.getElem?_eq_getElem iq
              have hp := s3 _ _ (pt i p qs[i] ep eq2)
              have br := ok_bq (ho qs[i] (List.getElem_mem iq))
              have dpos := den_pos' qs[i]
              refine ⟨p, _, rfl, .inl (.inl hp), rfl, _, _, rfl, _, _, rfl, rfl, rfl, ?_⟩
              have lq : (L / (qs[i].den : Int)).natAbs < 2 ^ 4000 := by
                have h0 : 0 ≤ L / (qs[i].den : Int) := Int.ediv_nonneg (by omega) (by omega)
                have h1 : L / (qs[i].den : Int) ≤ L := Int.ediv_le_self _ (by omega)
                exact wide_le h0 h1 Lb2
              refine ⟨_, rfl, _, rfl, _, rfl, _, _, rfl, rfl, wide_div dpos (den_bq br) (by decide) (by decide), _, _, rfl, rfl, wide_mul br.1 lq (by decide) (by decide) (by decide), ?_⟩
              refine ⟨_, h3, ?_, ?_, same_past s3 n2⟩
              · rw [List.length_map, List.length_take]
                exact Nat.lt_of_le_of_lt (Nat.min_le_left _ _) (Nat.lt_of_lt_of_le (show i < 10 by omega) (by decide))
              · have tk2 : qs.take (i + 1) = qs.take i ++ [qs[i]] := by rw [List.take_add_one, eq2]; rfl
                rw [tk2, List.map_append]
                exact upd_same
          · rintro H3 ⟨h3, s3⟩
            have full : qs.take (ps.map V.ref).length = qs := by rw [List.length_map, pl, tk]
            rw [full] at h3
            refine ⟨_, rfl, by show 2 ≤ sizeLine; decide, fun t nt => ?_⟩
            have s4 := same_up (o := .tup [V.ref D2, V.int L]) nt
            refine q t D2 L (qs.map fun r => r.num * (L / (r.den : Int))) _ (((s2.trans s3)).trans s4) upd_same (.inl (SqL.of (s4 _ _ (by rw [List.map_map]; exact h3)))) (by omega) Lb2 (sum_L (by omega) qs Ld)
end
end K05.F
namespace K05.F
open PySem PySem.Spec PyProof.Rows L2 Ver Num
section
variable {P : Program} {w : World} {K : PySem.W.Frag} {mg : Str → Option Value} {base : Heap}
def spTotalB (K : PySem.W.Frag) : Sp := fun vs H Q _ => ∃ (f l : Addr) (xs : List V) (qs : List Rat), vs = [.ref f, .ref l] ∧ FieldF K H f ∧ H l = some (.tup xs) ∧ NumsQ H xs qs ∧ qs.length ≤ 10 ∧ (∀ q ∈ qs, Ok100 q) ∧ ∀ (z : V) (H' : Hp), Same H H' → NumQ H' z qs.sum → Q z H'
def spTotal (K : PySem.W.Frag) : Sp := fun vs H Q _ => ∃ (f : Addr) (xs : List V) (qs : List Rat), vs = V.ref f :: xs ∧ FieldF K H f ∧ NumsQ H xs qs ∧ qs.length ≤ 10 ∧ (∀ q ∈ qs, Ok100 q) ∧ ∀ (z : V) (H' : Hp), Same H H' → NumQ H' z qs.sum → Q z H'
theorem all_ok {H : Hp} {xs : List V} {qs : List Rat} (h : NumsQ H xs qs) (ho : ∀ q ∈ qs, Ok100 q) : ∀ x ∈ xs, ∃ q, NumQ H x q ∧ Ok100 q := fun x hx => by
  obtain ⟨i, hi, e⟩ := List.mem_iff_getElem.mp hx
  obtain ⟨q, e2, n⟩ := h.get (i := i) (x := x) (by rw [List.getElem?_eq_getElem hi, e])
  exact ⟨q, n, ho q (List.mem_of_getElem? e2)⟩
theorem ok_total (T : Tx K mg) : FnG P w K mg base CX0 6 (He.ma K (He.ga K "Field") "total") (spTotal K) := by
  obtain ⟨fd, FD⟩ := T.d.def_ 8 (d := d_Field_total) rfl
  have star := okStar (P := P) (w := w) (mg := mg) (base := base) (k := 5) (sp := spTotalB K) (ps := ["self"]) (pr := "numbers") FD sc_Field_total
    (fun kV doc pm an cdv ct us rest hl => by
      match us, hl with
      | [a], _ => cases rest <;> rfl) (fun cdv A outer s H vs Q E hg hr h => by
      obtain ⟨f, l, xs, qs, rfl, F, hl, hn, hz, ho, q⟩ := h
      have nd := sc_Field_total.nd
      refine ⟨_, pss_cons (ps_expr (pe_methG (pv 0) (kp_Field__check T.d) (ok_check T) hr hg pass0 (pa_cons (pv 1) pa_nil)))
        (pss_cons (ps_asg (pe_methG (pv 0) (kp_Field_common T.d) (ok_common T) (hr.mono (by decide)) hg pass0 (pa_cons (pv 1) pa_nil)) (pg_tup rfl (pgs_cons (pg_name (i := 2) nd rfl (.inl rfl)) (pgs_cons (pg_name (i := 3) nd rfl (.inl rfl)) pgs_nil))))
        (pss_one (ps_ret (pe_methG (pv 0) (kp_Field_ratio T.d) (ok_ratio T) (hr.mono (by decide)) hg pass0 (pa_cons (pe_callB ((cr_sum rfl).or (cr_sumT rfl)) (by rfl) (T.z "sum" (by decide +kernel)) (by decide +kernel) (pa_cons (pv 2) pa_nil)) (pa_cons (pv 3) pa_nil)))))), ?_⟩
      refine go_meth rfl F (by decide +kernel) (by decide +kernel) ⟨_, rfl, f, l, xs, rfl, F, .inr (.inl (.inl hl)), all_ok hn ho, fun H1 s1 => ?_⟩
      refine go_meth rfl (F.same s1) (by decide +kernel) (by decide +kernel) ⟨_, rfl, f, l, xs, qs, rfl, F.same s1, s1 _ _ hl, hn.same s1, hz, ho, fun t l' L ns H2 s2 ht hl2 L0 Lb e => ?_⟩
      have s12 := s1.trans s2
      refine ⟨t, _, rfl, .inl (.inl ht), rfl, _, _, rfl, _, _, rfl, rfl, ?_⟩
      have hsum : ∀ Qk : VK, Qk (.int ns.sum) H2 → (rSum K [V.ref l'] H2 Qk ∨ ∃ (a : Addr) (ns' : List Int), [V.ref l'] = [V.ref a] ∧ SqT K H2 a (ns'.map V.int) ∧ Qk (.int ns'.sum) H2) := fun Qk hq => by
        rcases hl2 with h | h
        · exact .inl ⟨l', ns, rfl, h, hq⟩
        · exact .inr ⟨l', ns, rfl, h, hq⟩
      refine go_meth rfl (F.same s12) (by decide +kernel) (by decide +kernel) ⟨_, rfl, hsum _ ⟨_, rfl, f, ns.sum, L, rfl, F.same s12, L0, Lb, fun z H3 s3 nz => ?_⟩⟩
      rw [e] at nz
      exact q z H3 (s12.trans s3) nz)
  intro A outer s H us vs Q E hg hr e0 r h
  obtain ⟨f, xs, qs, rfl, F, hn, hz, ho, q⟩ := h
  refine star A outer s H us _ Q E hg hr e0 r ⟨[.ref f], xs, rfl, rfl, ?_, fun t nt => ?_⟩
  · rw [hn.1]
    exact Nat.le_trans hz (by decide)
  · have s0 := same_up (o := .tup xs) nt
    exact ⟨f, t, xs, qs, rfl, F.same s0, upd_same, hn.same s0, hz, ho, fun z H' s' nz => q z H' (s0.trans s') nz⟩
end
end K05.F

namespace K05.M
open PySem PySem.Spec PyProof.Rows L2 Ver Num
section
variable {P : Program} {w : World} {K : PySem.W.Frag} {mg : Str → Option Value} {base : Heap}
/-! ### inverse -/
def spInverse : Sp := fun vs H Q _ => ∃ n p : Int, vs = [.int n, .int p] ∧ Md p ∧ 0 < n ∧ n < p ∧ ∀ (i : Int) (H' : Hp), Same H H' → 0 ≤ i → i < p → (i * n) % p = 1 → Q (.int i) H'
theorem ok_inverse (T : Tx K mg) : FnG P w K mg base CX0 1 (He.ga K "inverse") spInverse := by
  refine mk_inverse T.d (fun vs H Q E h => ?_) (fun cdv A outer s H vs Q E hg hr h => ?_)
  · obtain ⟨n, p, rfl, _⟩ := h
    rfl
  · obtain ⟨n, p, rfl, m, n0, np, q⟩ := h
    have hlo := m.lo
    have hhi := m.hi
    refine ⟨_, pss_cons (ps_par (i := 2) (j := 3) rfl sc_inverse.nd rfl rfl (by decide) rfl rfl (pa_cons (pv 1) (pa_cons (pe_op op_mod (pv 0) (pv 1)) pa_nil)) (by rfl))
      (pss_cons (ps_asg (pe_tup (pa_cons pe_int (pa_cons pe_int pa_nil))) (pg_tup rfl (pgs_cons (pg_name (i := 4) sc_inverse.nd rfl (.inl rfl)) (pgs_cons (pg_name (i := 5) sc_inverse.nd rfl (.inl rfl)) pgs_nil))))
      (pss_cons (ps_while PassesOwn.never (pt_cmpR op_ne (pv 3) pe_int (nomark _))
        (pss_cons (ps_set (i := 6) sc_inverse.nd rfl (Or.inl rfl) (pe_op op_fdiv (pv 2) (pv 3)))
        (pss_cons (ps_par (i := 2) (j := 3) rfl sc_inverse.nd rfl rfl (by decide) rfl rfl (pa_cons (pv 3) (pa_cons (pe_op op_sub (pv 2) (pe_op op_mul (pv 6) (pv 3))) pa_nil)) (by rfl))
        (pss_one (ps_par (i := 4) (j := 5) rfl sc_inverse.nd rfl rfl (by decide) rfl rfl (pa_cons (pv 5) (pa_cons (pe_op op_sub (pv 4) (pe_op op_mul (pv 6) (pv 5))) pa_nil)) (by rfl))))))
      (pss_one (ps_ret (pe_op op_mod (pv 4) (pv 1)))))), ?_⟩
    refine ⟨_, rfl, _, rfl, _, rfl, _, _, rfl, rfl, (by show 0 < p; omega), _, _, rfl, ?_⟩
    refine ⟨by decide, fun tp ntp => ⟨tp, _, rfl, .inl (.inl upd_same), rfl, _, _, rfl, _, _, rfl, rfl, ?_⟩⟩
    have sm : Same H (upd H tp (.tup [V.int 0, V.int 1])) := same_up ntp
    refine ⟨fun k σ H' => ∃ (rest left past now : Int) (t : Option V), k = left.toNat ∧ H' = upd H tp (.tup [V.int 0, V.int 1]) ∧ σ = [some (.int n), some (.int p), some (.int rest), some (.int left), some (.int past), some (.int now), t] ∧ Eu p n rest left past now,
      ⟨_, p, n % p, 0, 1, none, rfl, rfl, rfl, Eu.start m n0 np⟩, ?_⟩
    rintro k σ H' ⟨rest, left, past, now, t, rfl, rfl, rfl, E⟩
    refine ⟨_, rfl, rfl, _, rfl, ?_⟩
    rw [iEq]
    by_cases h0 : left = 0
    · subst h0
      refine ifF (by decide) ?_
      obtain ⟨i0, i1, i2⟩ := Eu.inv m E
      exact ⟨_, rfl, _, rfl, _, _, rfl, rfl, (by show 0 < p; omega), q _ _ sm i0 i1 i2⟩
    · refine ifT (by rw [decide_eq_false h0]; rfl) ?_
      have hl := E.l0
      have hlp := E.lp
      obtain ⟨t0, t1⟩ := Eu.times E h0
      refine ⟨fun σ' H' => ∃ (rest' left' past' now' : Int) (t : Option V), left'.toNat < left.toNat ∧ H' = upd H tp (.tup [V.int 0, V.int 1]) ∧ σ' = [some (.int n), some (.int p), some (.int rest'), some (.int left'), some (.int past'), some (.int now'), t] ∧ Eu p n rest' left' past' now', ?_, ?_⟩
      · rintro σ' H' ⟨r', l', p', n', t', hlt, e1, e2, E'⟩
        exact ⟨_, hlt, r', l', p', n', t', rfl, e1, e2, E'⟩
      · refine ⟨_, rfl, _, rfl, _, _, rfl, rfl, ⟨by show 0 < left; omega, by show left < 1073741824; omega⟩, ?_⟩
        refine ⟨_, rfl, _, rfl, _, rfl, _, rfl, _, _, rfl, rfl, .inl ⟨by show -(2 ^ 64) < rest / left; omega, by show rest / left < 2 ^ 64; omega⟩, _, _, rfl, rfl, _, _, rfl, ?_⟩
        refine ⟨_, rfl, _, rfl, _, rfl, _, rfl, _, _, rfl, rfl, .inl ⟨by show -(2 ^ 64) < rest / left; omega, by show rest / left < 2 ^ 64; omega⟩, _, _, rfl, rfl, _, _, rfl, ?_⟩
        have E2 := Eu.step E h0
        refine ⟨_, _, _, _, _, ?_, rfl, rfl, E2⟩
        have e : rest - rest / left * left = rest % left := by
          have := Int.emod_def rest left
          rw [Int.mul_comm] at this
          omega
        have m1 : rest % left < left := Int.emod_lt_of_pos _ (by omega)
        have m0 : 0 ≤ rest % left := Int.emod_nonneg _ h0
        omega
end
end K05.M
namespace K05.M
open PySem PySem.Spec PyProof.Rows L2 Ver Num
section
variable {P : Program} {w : World} {K : PySem.W.Frag} {mg : Str → Option Value} {base : Heap}
/-! ### is_integer, is_between -/
def spIsInteger (K : PySem.W.Frag) : Sp := fun vs H Q _ => ∃ (x : V) (t : Value) (b1 b2 : Bool), vs = [x] ∧ TyX K H x t ∧ PySem.W.kitOne K t (.type "int") = some b1 ∧ PySem.W.kitOne K t (.type "bool") = some b2 ∧ Q (.bl (b1 && !b2)) H
theorem ok_is_integer (T : Tx K mg) : FnG P w K mg base CX0 1 (He.ga K "is_integer") (spIsInteger K) := by
  refine mk_is_integer T.d (fun vs H Q E h => ?_) (fun cdv A outer s H vs Q E hg hr h => ?_)
  · obtain ⟨x, t, b1, b2, rfl, _⟩ := h
    rfl
  · obtain ⟨x, t, b1, b2, rfl, ty, k1, k2, q⟩ := h
    have zi := T.z "isinstance" (by decide +kernel)
    refine ⟨_, pss_one (ps_ret (pe_and (pe_callB call_isi (by rfl) zi (by decide +kernel) (pa_cons (pv 0) (pa_cons (pe_bltn (v := .ty "int") (by rfl) (T.z "int" (by decide +kernel)) (by decide +kernel) rfl) pa_nil)))
      (pe_one (pe_not (pe_callB call_isi (by rfl) zi (by decide +kernel) (pa_cons (pv 0) (pa_cons (pe_bltn (v := .ty "bool") (by rfl) (T.z "bool" (by decide +kernel)) (by decide +kernel) rfl) pa_nil))))))), ?_⟩
    refine ⟨_, rfl, _, _, _, _, _, rfl, .ty "int", ty, k1, _, rfl, ?_⟩
    cases b1 with
    | false => exact ifF rfl q
    | true => exact ifT rfl ⟨_, rfl, _, _, _, _, _, rfl, .ty "bool", ty, k2, _, rfl, q⟩
def spIsBetween : Sp := fun vs H Q _ => ∃ (i lo hi : Int), vs = [.int i, .int lo, .int hi] ∧ Q (.bl (decide (lo ≤ i) && decide (i ≤ hi))) H
theorem ok_is_between (T : Tx K mg) : FnG P w K mg base CX0 2 (He.ga K "is_between") spIsBetween := by
  refine mk_is_between T.d (fun vs H Q E h => ?_) (fun cdv A outer s H vs Q E hg hr h => ?_)
  · obtain ⟨i, lo, hi, rfl, _⟩ := h
    rfl
  · obtain ⟨i, lo, hi, rfl, q⟩ := h
    refine ⟨_, pss_one (ps_ret (pe_and (pe_callG (ok_is_integer T) hr hg (by rfl) (T.g "is_integer" (by decide +kernel)) (kp_is_integer T.d) pass0 (pa_cons (pv 0) pa_nil))
      (pe_one (pe_chain op_le op_le (pv 1) (pv 0) (pv 2))))), ?_⟩
    refine ⟨_, rfl, _, _, true, false, rfl, .base (.int i), kit_ty (by decide +kernel), kit_ty (by decide +kernel), _, rfl, ?_⟩
    refine ifT rfl ⟨_, rfl, _, rfl, _, _, rfl, rfl, _, rfl, ?_⟩
    by_cases h : lo ≤ i
    · rw [decide_eq_true h] at q
      exact ifT (decide_eq_true h) ⟨_, rfl, _, _, rfl, rfl, q⟩
    · rw [decide_eq_false h] at q
      exact ifF (decide_eq_false h) q
/-! ### parts, is_longer: of whole numbers -/
/-- a number: an int, or a pair of ints at an address -/
def Num2 (K : PySem.W.Frag) (H : Hp) (x : V) (t b : Int) : Prop := (x = .int t ∧ b = 1) ∨ ∃ a, x = .ref a ∧ H a = some (.tup [.int t, .int b])
def spParts (K : PySem.W.Frag) : Sp := fun vs H Q _ => ∃ (x : V) (t b : Int), vs = [x] ∧ Num2 K H x t b ∧ ∀ (p : Addr) (H' : Hp), Same H H' → H' p = some (.tup [.int t, .int b]) → Q (.ref p) H'
theorem ok_parts (T : Tx K mg) : FnG P w K mg base CX0 1 (He.ga K "parts") (spParts K) := by
  refine mk_parts T.d (fun vs H Q E h => ?_) (fun cdv A outer s H vs Q E hg hr h => ?_)
  · obtain ⟨x, t, b, rfl, _⟩ := h
    rfl
  · obtain ⟨x, t, b, rfl, n, q⟩ := h
    refine ⟨_, pss_one (ps_ret (pe_ifExp (pt_val (pe_callB call_isi (by rfl) (T.z "isinstance" (by decide +kernel)) (by decide +kernel) (pa_cons (pv 0) (pa_cons (pe_bltn (v := .ty "tuple") (by rfl) (T.z "tuple" (by decide +kernel)) (by decide +kernel) rfl) pa_nil))))
      (pv 0) (pe_tup (pa_cons (pv 0) (pa_cons pe_int pa_nil))))), ?_⟩
    rcases n with ⟨rfl, rfl⟩ | ⟨a, rfl, ha⟩
    · refine ⟨_, rfl, _, _, _, _, false, rfl, .ty "tuple", .base (.int t), kit_ty (by decide +kernel), _, rfl, ?_⟩
      exact ifF rfl ⟨_, rfl, (by show 2 ≤ sizeLine; decide), fun p np => q p _ (same_up np) upd_same⟩
    · refine ⟨_, rfl, _, _, _, _, true, rfl, .ty "tuple", .base (.tup ha), kit_ty (by decide +kernel), _, rfl, ?_⟩
      exact ifT rfl ⟨_, rfl, q a H (Same.refl H) ha⟩
def absI (i : Int) : Int := if i < 0 then -i else i
def spIsLonger (K : PySem.W.Frag) : Sp := fun vs H Q _ => ∃ (x : V) (t b l : Int), vs = [x, .int l] ∧ Num2 K H x t b ∧ ∀ H' : Hp, Same H H' → Q (.bl (decide (l ≤ absI t) || decide (l ≤ b))) H'
theorem ok_is_longer (T : Tx K mg) : FnG P w K mg base CX0 2 (He.ga K "is_longer") (spIsLonger K) := by
  refine mk_is_longer T.d (fun vs H Q E h => ?_) (fun cdv A outer s H vs Q E hg hr h => ?_)
  · obtain ⟨x, t, b, l, rfl, _⟩ := h
    rfl
  · obtain ⟨x, t, b, l, rfl, n, q⟩ := h
    refine ⟨_, pss_cons (ps_asg (pe_callG (ok_parts T) hr hg (by rfl) (T.g "parts" (by decide +kernel)) (kp_parts T.d) pass0 (pa_cons (pv 0) pa_nil))
        (pg_tup rfl (pgs_cons (pg_name (i := 2) sc_is_longer.nd rfl (.inl rfl)) (pgs_cons (pg_name (i := 3) sc_is_longer.nd rfl (.inl rfl)) pgs_nil))))
      (pss_one (ps_ret (pe_or (pe_cmpR op_ge (pe_callB call_abs (by rfl) (T.z "abs" (by decide +kernel)) (by decide +kernel) (pa_cons (pv 2) pa_nil)) (pv 1) (nomark _))
        (pe_one (pe_cmpR op_ge (pv 3) (pv 1) (nomark _)))))), ?_⟩
    refine ⟨_, rfl, x, t, b, rfl, n, fun p H1 s1 hp => ?_⟩
    refine ⟨p, _, rfl, .inl (.inl hp), rfl, _, _, rfl, _, _, rfl, rfl, ?_⟩
    refine ⟨_, rfl, _, rfl, _, rfl, _, _, rfl, rfl, _, rfl, ?_⟩
    have q1 := q H1 s1
    by_cases h : l ≤ absI t
    · rw [decide_eq_true h] at q1
      exact ifT (decide_eq_true h) q1
    · rw [decide_eq_false h] at q1
      exact ifF (decide_eq_false h) ⟨_, rfl, _, rfl, _, _, rfl, rfl, q1⟩
/-! ### is_prime -/
theorem call_isqrt {X : Cx} : CallR X (.builtin "math.isqrt") (fun vs H Q => ∃ a : Int, vs = [.int a] ∧ 0 ≤ a ∧ a < 2 ^ 64 ∧ Q (.int ((Float64.isqrt a.toNat : Nat) : Int)) H) := by
  intro pins s σ H vs us Q I r h
  obtain ⟨a, rfl, h0, h1, q⟩ := h
  obtain ⟨u, rfl, t, rfl⟩ := vals1 r
  exact PySem.W.mg_isqrt h0 h1 ⟨.int _, H, I.tok _, ⟨_, rfl⟩, q⟩
def spIsPrime : Sp := fun vs H Q _ => ∃ v : Int, vs = [.int v] ∧ prB Float64.isqrt v = true ∧ Float64.isqrt v.toNat ≤ 1000000 ∧ Q (.bl true) H
theorem range_odd (r : Nat) : Builtin.Range.rangeSize 3 ((r : Int) + 1) 2 = (((r + 1 - 3 + 1) / 2 : Nat) : Int) := by
  unfold Builtin.Range.rangeSize
  rw [if_pos (by decide)]
  by_cases h : (3 : Int) < (r : Int) + 1
  · rw [if_pos h]
    omega
  · rw [if_neg h]
    omega
theorem small_odd {r : Nat} (h : r ≤ 1000000) : Builtin.Range.small 3 ((r : Int) + 1) 2 = true := by
  unfold Builtin.Range.small
  rw [range_odd]
  have h2 : (r + 1 - 3 + 1) / 2 ≤ 1000000 := by omega
  generalize (r + 1 - 3 + 1) / 2 = n at h2
  have f1 : ∀ i : Int, 0 ≤ i → i ≤ 2000000 → Builtin.Range.rangeFitsLong i = true := fun i h0 h1 => by
    unfold Builtin.Range.rangeFitsLong
    rw [decide_eq_true (show -(2 ^ 63 : Int) ≤ i by omega), decide_eq_true (show i < (2 ^ 63 : Int) by omega)]
    rfl
  rw [f1 3 (by omega) (by omega), f1 ((r : Int) + 1) (by omega) (by omega), f1 2 (by omega) (by omega), f1 (n : Int) (by omega) (by omega), if_pos (by decide), f1 ((r : Int) + 1 + (2 - 1)) (by omega) (by omega), Bool.or_true]
  rfl
theorem ok_is_prime (T : Tx K mg) : FnG P w K mg base CX0 3 (He.ga K "is_prime") spIsPrime := by
  refine mk_is_prime T.d (fun vs H Q E h => ?_) (fun cdv A outer s H vs Q E hg hr h => ?_)
  · obtain ⟨v, rfl, _⟩ := h
    rfl
  · obtain ⟨v, rfl, hp, hq, q⟩ := h
    obtain ⟨tg, gp⟩ := T.gp
    have hp1 : ((decide (2 ≤ v) && decide (v ≤ 1000000000)) && (if v % 2 = 0 then decide (v = 2) else oddOk v.toNat ((Float64.isqrt v.toNat + 1 - 3 + 1) / 2))) = true := hp
    rw [Bool.and_eq_true, Bool.and_eq_true] at hp1
    obtain ⟨⟨p1, p2⟩, p3⟩ := hp1
    have v2 : 2 ≤ v := of_decide_eq_true p1
    have v9 : v ≤ 1000000000 := of_decide_eq_true p2
    refine ⟨_, pss_cons (ps_if (pt_not (pt_val (pe_callG (ok_is_between T) hr hg (by rfl) (T.g "is_between" (by decide +kernel)) (kp_is_between T.d) pass0 (pa_cons (pv 0) (pa_cons pe_int (pa_cons (pe_glob (v := .int 1000000000) (by rfl) gp ⟨_, rfl⟩) pa_nil)))))) (pss_one (ps_ret pe_bl)) pss_nil)
      (pss_cons (ps_if (pt_cmpR op_eq (pe_op op_and (pv 0) pe_int) pe_int (nomark _)) (pss_one (ps_ret (pe_cmpR op_eq (pv 0) pe_int (nomark _)))) pss_nil)
      (pss_cons (ps_for PassesOwn.never rfl (pi_range3 (by rfl) (T.z "range" (by decide +kernel)) (pa_cons pe_int (pa_cons (pe_op op_add (pe_callBfun call_isqrt (by rfl) T.isq (pa_cons (pv 0) pa_nil)) pe_int) (pa_cons pe_int pa_nil)))) (pg_name (i := 1) sc_is_prime.nd rfl (.inl rfl))
        (pss_one (ps_if (pt_cmpR op_eq (pe_op op_mod (pv 0) (pv 1)) pe_int (nomark _)) (pss_one (ps_ret pe_bl)) pss_nil)))
      (pss_one (ps_ret pe_bl)))), ?_⟩
    refine ⟨_, rfl, v, 2, 1000000000, rfl, _, rfl, ?_⟩
    rw [p1, p2]
    refine ifF rfl ⟨_, rfl, _, _, rfl, rfl, rfl, _, rfl, ?_⟩
    rw [iEq, bitAnd_m1]
    by_cases e : v % 2 = 0
    · rw [if_pos e] at p3
      refine ifT (decide_eq_true e) ⟨_, rfl, rfl, ?_⟩
      rw [iEq, p3]
      exact q
    · rw [if_neg e] at p3
      refine ifF (decide_eq_false e) ⟨_, rfl, v, rfl, by omega, by omega, _, _, rfl, rfl, 3, _, 2, _, rfl, ⟨by decide, by decide, small_odd hq, range_odd _⟩, ?_⟩
      refine for_rangeC (lo := 3) (c := 2) (fun i σ H' => ∃ d : Option V, σ = [some (.int v), d] ∧ H' = H) ⟨none, rfl, rfl⟩ ?_ ?_
      · rintro i σ H' hi ⟨d, rfl, rfl⟩
        refine ⟨_, rfl, _, rfl, _, _, rfl, rfl, (by show (0 : Int) < 3 + (i : Int) * 2; omega), rfl, _, rfl, ?_⟩
        rw [iEq]
        refine ifF (decide_eq_false fun z => ?_) ⟨_, rfl, rfl⟩
        have o := List.all_eq_true.mp p3 i (List.mem_range.mpr hi)
        have z2 : v.toNat % (3 + 2 * i) = 0 := by
          have e1 : ((v.toNat % (3 + 2 * i) : Nat) : Int) = v % (3 + (i : Int) * 2) := by
            rw [Int.natCast_emod]
            congr 1
            · omega
            · rw [Int.natCast_add, Int.natCast_mul]
              omega
          omega
        rw [z2] at o
        cases o
      · rintro σ H' ⟨d, rfl, rfl⟩
        exact q
end
end K05.M
namespace K05.M
open PySem PySem.Spec PyProof.Rows L2 Ver Num
/-- a field modulo p stands at f -/
def FieldAt (K : PySem.W.Frag) (H : Hp) (f : Addr) (p : Int) : Prop := ∃ C dx, FC K C ∧ H f = some (.ins C dx [(("_prime" : Str), V.int p)])
theorem FieldAt.same {K : PySem.W.Frag} {H H' : Hp} {f : Addr} {p : Int} (F : FieldAt K H f p) (s : Same H H') : FieldAt K H' f p := by
  obtain ⟨C, dx, c, e⟩ := F
  exact ⟨C, dx, c, s _ _ e⟩
theorem pf_look (v : V) : ([(("_prime" : Str), v)] : List (Str × V)).lookup ("_prime" : Str) = some v := by simp [List.lookup]
theorem pf_no (v : V) {m : Str} (h : (m == ("_prime" : Str)) = false) : ([(("_prime" : Str), v)] : List (Str × V)).lookup m = none := by simp [List.lookup, h]
theorem rd_prime {K : PySem.W.Frag} {σ : L2.St} {H : Hp} {f : Addr} {p : Int} {i : Nat} {Q : VK} (h0 : σ[i]? = some (some (.ref f))) (F : FieldAt K H f p) (q : Q (.int p) H) : tFld K (tVar i) "_prime" σ H Q := by
  obtain ⟨C, dx, c, e⟩ := F
  exact ⟨.ref f, h0, f, C, dx, _, .int p, rfl, e, c.cl, c.np, pf_look _, q⟩
theorem go_meth {K : PySem.W.Frag} {σ : L2.St} {H : Hp} {f : Addr} {p : Int} {i : Nat} {Q : VK} {m : Str} {sp : Sp} {E : XK} {t : TA} (h0 : σ[i]? = some (some (.ref f))) (F : FieldAt K H f p)
    (hm : m ∈ (["is_number", "plus", "minus", "times", "over", "total", "holds", "ratio", "product_of", "sum_of", "difference_of", "quotient_of", "common", "_check"] : List Str)) (hn : (m == ("_prime" : Str)) = false)
    (q : t σ H fun vs H2 => sp (.ref f :: vs) H2 Q E) : tMethG K m (He.ma K (He.ga K "Field") m) sp E (tVar i) t σ H Q := by
  obtain ⟨C, dx, c, e⟩ := F
  exact ⟨.ref f, h0, f, C, dx, _, rfl, e, c.cl, c.m m hm, pf_no _ hn, q⟩
section
variable {P : Program} {w : World} {K : PySem.W.Frag} {mg : Str → Option Value} {base : Heap}
/-! ### holds, is_number, _check -/
def spHolds (K : PySem.W.Frag) : Sp := fun vs H Q _ => ∃ (f : Addr) (p a : Int), vs = [.ref f, .int a] ∧ FieldAt K H f p ∧ Q (.bl (decide (0 ≤ a) && decide (a ≤ p - 1))) H
theorem ok_holds (T : Tx K mg) : FnG P w K mg base CX0 3 (He.ma K (He.ga K "Field") "holds") (spHolds K) := by
  refine mk_Field_holds T.d (fun vs H Q E h => ?_) (fun cdv A outer s H vs Q E hg hr h => ?_)
  · obtain ⟨f, p, a, rfl, _⟩ := h
    rfl
  · obtain ⟨f, p, a, rfl, F, q⟩ := h
    refine ⟨_, pss_cons (ps_if (pt_cmp (pc_notN (pe_fld (pv 0) rfl))) (pss_one (ps_ret (pe_callG (ok_is_between T) hr hg (by rfl) (T.g "is_between" (by decide +kernel)) (kp_is_between T.d) pass0
        (pa_cons (pv 1) (pa_cons pe_int (pa_cons (pe_op op_sub (pe_fld (pv 0) rfl) pe_int) pa_nil)))))) pss_nil) pss_never, ?_⟩
    refine rd_prime rfl F ⟨_, rfl, ifT rfl ?_⟩
    obtain ⟨C, dx, c, e⟩ := id F
    exact ⟨_, rfl, _, rfl, f, C, dx, _, _, rfl, e, c.cl, c.np, pf_look _, _, _, rfl, rfl, a, 0, p - 1, rfl, q⟩
def spIsNumber (K : PySem.W.Frag) : Sp := fun vs H Q _ => ∃ (f : Addr) (p a : Int), vs = [.ref f, .int a] ∧ FieldAt K H f p ∧ p ≤ 1000000000 ∧ 0 ≤ a ∧ a < p ∧ ∀ H', Same H H' → Q (.bl true) H'
theorem ok_is_number (T : Tx K mg) : FnG P w K mg base CX0 4 (He.ma K (He.ga K "Field") "is_number") (spIsNumber K) := by
  refine mk_Field_is_number T.d (fun vs H Q E h => ?_) (fun cdv A outer s H vs Q E hg hr h => ?_)
  · obtain ⟨f, p, a, rfl, _⟩ := h
    rfl
  · obtain ⟨f, p, a, rfl, F, p9, a0, ap, q⟩ := h
    obtain ⟨tl, gl⟩ := T.fl
    refine ⟨_, pss_one (ps_ret (pe_and (pe_methG (pv 0) (kp_Field_holds T.d) (ok_holds T) hr hg pass0 (pa_cons (pv 1) pa_nil))
      (pe_one (pe_not (pe_callG (ok_is_longer T) (hr.mono (by decide)) hg (by rfl) (T.g "is_longer" (by decide +kernel)) (kp_is_longer T.d) pass0 (pa_cons (pv 1) (pa_cons (pe_glob (v := .int FL) (by rfl) gl ⟨_, rfl⟩) pa_nil))))))), ?_⟩
    refine go_meth rfl F (by decide +kernel) (by decide +kernel) ⟨_, rfl, f, p, a, rfl, F, _, rfl, ?_⟩
    rw [decide_eq_true a0, decide_eq_true (show a ≤ p - 1 by omega)]
    refine ifT rfl ⟨_, rfl, _, a, 1, FL, rfl, .inl ⟨rfl, rfl⟩, fun H' s' => ⟨_, rfl, ?_⟩⟩
    have e1 : decide (FL ≤ absI a) = false := decide_eq_false (by unfold absI FL; split <;> omega)
    have e2 : decide (FL ≤ (1 : Int)) = false := by decide
    rw [e1, e2]
    exact q H' s'
/-- numbers of the field, in a list or a tuple -/
def Nums (K : PySem.W.Frag) (H : Hp) (l : Addr) (ns : List Int) : Prop := SqL K H l (ns.map V.int) ∨ SqT K H l (ns.map V.int)
def spCheck (K : PySem.W.Frag) : Sp := fun vs H Q _ => ∃ (f l : Addr) (p : Int) (ns : List Int), vs = [.ref f, .ref l] ∧ FieldAt K H f p ∧ p ≤ 1000000000 ∧ Nums K H l ns ∧ (∀ a ∈ ns, 0 ≤ a ∧ a < p) ∧ ∀ H', Same H H' → Q .non H'
theorem sameT {H H' : Hp} {a : Addr} {xs : List V} (e : Same H H') (h : SqT K H a xs) : SqT K H' a xs := by
  rcases h with (h | ⟨o, h⟩) | h
  · exact .inl (.inl (e _ _ h))
  · exact .inl (.inr ⟨o, e _ _ h⟩)
  · exact .inr h
theorem int_at {ns : List Int} {i : Nat} {x : V} (h : (ns.map V.int)[i]? = some x) : ∃ a, x = V.int a ∧ a ∈ ns := by
  rw [List.getElem?_map] at h
  cases e : ns[i]? with
  | none =>
    rw [e] at h
    cases h
  | some a =>
    rw [e] at h
    exact ⟨a, (Option.some.inj h).symm, List.mem_of_getElem? e⟩
theorem ok_check (T : Tx K mg) : FnG P w K mg base CX0 5 (He.ma K (He.ga K "Field") "_check") (spCheck K) := by
  refine mk_Field__check T.d (fun vs H Q E h => ?_) (fun cdv A outer s H vs Q E hg hr h => ?_)
  · obtain ⟨f, l, p, ns, rfl, _⟩ := h
    rfl
  · obtain ⟨f, l, p, ns, rfl, F, p9, hl, hn, q⟩ := h
    rcases hl with hl | hl
    · refine ⟨_, pss_one (ps_for PassesOwn.never rfl (pi_list (pv 1)) (pg_name (i := 2) sc_Field__check.nd rfl (.inl rfl))
        (pss_one (ps_if (pt_not (pt_val (pe_methG (pv 0) (kp_Field_is_number T.d) (ok_is_number T) hr hg pass0 (pa_cons (pv 2) pa_nil)))) pss_never pss_nil))), ?_⟩
      refine ⟨_, rfl, l, rfl, ⟨_, hl⟩, for_list (K := K) (a := l) (xs := ns.map V.int) (fun i σ H' => ∃ v : Option V, σ = [some (.ref f), some (.ref l), v] ∧ Same H H') ⟨none, rfl, Same.refl H⟩ (fun i σ H' _ ⟨_, _, sm⟩ => sm.seq hl) ?_ ?_⟩
      · rintro i x σ H' hi ⟨v, rfl, sm⟩
        obtain ⟨a, rfl, ha⟩ := int_at hi
        obtain ⟨a0, ap⟩ := hn a ha
        exact go_meth rfl (F.same sm) (by decide +kernel) (by decide +kernel) ⟨_, rfl, f, p, a, rfl, F.same sm, p9, a0, ap, fun H2 s2 => ⟨_, rfl, ifF rfl ⟨_, rfl, sm.trans s2⟩⟩⟩
      · rintro σ H' ⟨v, rfl, sm⟩
        exact q H' sm
    · refine ⟨_, pss_one (ps_for PassesOwn.never rfl (pi_tup (pv 1)) (pg_name (i := 2) sc_Field__check.nd rfl (.inl rfl))
        (pss_one (ps_if (pt_not (pt_val (pe_methG (pv 0) (kp_Field_is_number T.d) (ok_is_number T) hr hg pass0 (pa_cons (pv 2) pa_nil)))) pss_never pss_nil))), ?_⟩
      refine ⟨_, rfl, l, rfl, ⟨_, hl⟩, for_tup (K := K) (a := l) (xs := ns.map V.int) (fun i σ H' => ∃ v : Option V, σ = [some (.ref f), some (.ref l), v] ∧ Same H H') ⟨none, rfl, Same.refl H⟩ (fun i σ H' _ ⟨_, _, sm⟩ => sameT sm hl) ?_ ?_⟩
      · rintro i x σ H' hi ⟨v, rfl, sm⟩
        obtain ⟨a, rfl, ha⟩ := int_at hi
        obtain ⟨a0, ap⟩ := hn a ha
        exact go_meth rfl (F.same sm) (by decide +kernel) (by decide +kernel) ⟨_, rfl, f, p, a, rfl, F.same sm, p9, a0, ap, fun H2 s2 => ⟨_, rfl, ifF rfl ⟨_, rfl, sm.trans s2⟩⟩⟩
      · rintro σ H' ⟨v, rfl, sm⟩
        exact q H' sm
/-! ### ratio, product_of -/
def spRatio (K : PySem.W.Frag) : Sp := fun vs H Q _ => ∃ (f : Addr) (p t b : Int), vs = [.ref f, .int t, .int b] ∧ FieldAt K H f p ∧ Md p ∧ -(2 ^ 62) ≤ t ∧ t ≤ 2 ^ 62 ∧ 0 < b ∧ b < p ∧
  ∀ (i : Int) (H' : Hp), Same H H' → 0 ≤ i → i < p → (i * b) % p = 1 → Q (.int (t * i % p)) H'
theorem ok_ratio (T : Tx K mg) : FnG P w K mg base CX0 2 (He.ma K (He.ga K "Field") "ratio") (spRatio K) := by
  refine mk_Field_ratio T.d (fun vs H Q E h => ?_) (fun cdv A outer s H vs Q E hg hr h => ?_)
  · obtain ⟨f, p, t, b, rfl, _⟩ := h
    rfl
  · obtain ⟨f, p, t, b, rfl, F, m, t0, t1, b0, bp, q⟩ := h
    have hlo := m.lo
    have hhi := m.hi
    refine ⟨_, pss_cons (ps_if (pt_cmp (pc_isN (pe_fld (pv 0) rfl))) pss_never pss_nil)
      (pss_cons (ps_if (pt_cmpR op_eq (pv 2) pe_int (nomark _)) (pss_one (ps_ret (pe_op op_mod (pv 1) (pe_fld (pv 0) rfl)))) pss_nil)
      (pss_one (ps_ret (pe_op op_mod (pe_op op_mul (pv 1) (pe_callG (ok_inverse T) hr hg (by rfl) (T.g "inverse" (by decide +kernel)) (kp_inverse T.d) pass0 (pa_cons (pv 2) (pa_cons (pe_fld (pv 0) rfl) pa_nil)))) (pe_fld (pv 0) rfl))))), ?_⟩
    refine rd_prime rfl F ⟨_, rfl, ifF rfl ⟨_, rfl, rfl, _, rfl, ?_⟩⟩
    rw [iEq]
    by_cases e : b = 1
    · subst e
      refine ifT (decide_eq_true rfl) ⟨_, rfl, rd_prime rfl F ⟨_, _, rfl, rfl, (by show 0 < p; omega), ?_⟩⟩
      have q1 := q 1 H (Same.refl H) (by omega) (by omega) (Int.emod_eq_of_lt (by omega) (by omega))
      rw [Int.mul_one] at q1
      exact q1
    · refine ifF (decide_eq_false e) ⟨_, rfl, _, rfl, rd_prime rfl F ⟨b, p, rfl, m, b0, bp, fun i H1 s1 i0 i1 i2 => ?_⟩⟩
      refine ⟨_, _, rfl, rfl, .inl ⟨by show -(2 ^ 64) < t; omega, by show t < 2 ^ 64; omega⟩, rd_prime rfl (F.same s1) ⟨_, _, rfl, rfl, (by show 0 < p; omega), q i H1 s1 i0 i1 i2⟩⟩
theorem one_inv {p i : Int} (hp : 2 ≤ p) (h0 : 0 ≤ i) (h1 : i < p) (h : (i * 1) % p = 1) : i = 1 := by
  rw [Int.mul_one, Int.emod_eq_of_lt h0 h1] at h
  exact h
theorem prod_bound {a b p : Int} (p9 : p ≤ 1000000000) (a0 : 0 ≤ a) (ap : a < p) (b0 : 0 ≤ b) (bp : b < p) : 0 ≤ a * b ∧ a * b ≤ 1000000000000000000 := by
  refine ⟨Int.mul_nonneg a0 b0, ?_⟩
  have h1 : a * b ≤ 1000000000 * 1000000000 := Int.mul_le_mul (by omega) (by omega) b0 (by omega)
  omega
def spProd (K : PySem.W.Frag) : Sp := fun vs H Q _ => ∃ (f : Addr) (p a b : Int), vs = [.ref f, .int a, .int b] ∧ FieldAt K H f p ∧ Md p ∧ 0 ≤ a ∧ a < p ∧ 0 ≤ b ∧ b < p ∧ ∀ H', Same H H' → Q (.int (a * b % p)) H'
theorem ok_product_of (T : Tx K mg) : FnG P w K mg base CX0 3 (He.ma K (He.ga K "Field") "product_of") (spProd K) := by
  refine mk_Field_product_of T.d (fun vs H Q E h => ?_) (fun cdv A outer s H vs Q E hg hr h => ?_)
  · obtain ⟨f, p, a, b, rfl, _⟩ := h
    rfl
  · obtain ⟨f, p, a, b, rfl, F, m, a0, ap, b0, bp, q⟩ := h
    have hlo := m.lo
    have hhi := m.hi
    obtain ⟨c0, c1⟩ := prod_bound hhi a0 ap b0 bp
    have gp := T.g "parts" (by decide +kernel)
    have nd := sc_Field_product_of.nd
    refine ⟨_, pss_cons (ps_asg (pe_tup (pa_cons (pe_callG (ok_parts T) (hr.mono (by decide)) hg (by rfl) gp (kp_parts T.d) pass0 (pa_cons (pv 1) pa_nil)) (pa_cons (pe_callG (ok_parts T) (hr.mono (by decide)) hg (by rfl) gp (kp_parts T.d) pass0 (pa_cons (pv 2) pa_nil)) pa_nil)))
        (pg_tup rfl (pgs_cons (pg_tup rfl (pgs_cons (pg_name (i := 3) nd rfl (.inl rfl)) (pgs_cons (pg_name (i := 4) nd rfl (.inl rfl)) pgs_nil))) (pgs_cons (pg_tup rfl (pgs_cons (pg_name (i := 5) nd rfl (.inl rfl)) (pgs_cons (pg_name (i := 6) nd rfl (.inl rfl)) pgs_nil))) pgs_nil))))
      (pss_one (ps_ret (pe_methG (pv 0) (kp_Field_ratio T.d) (ok_ratio T) hr hg pass0 (pa_cons (pe_op op_mul (pv 3) (pv 5)) (pa_cons (pe_op op_mul (pv 4) (pv 6)) pa_nil))))), ?_⟩
    refine ⟨_, rfl, _, a, 1, rfl, .inl ⟨rfl, rfl⟩, fun u H1 s1 hu => ⟨_, rfl, _, b, 1, rfl, .inl ⟨rfl, rfl⟩, fun v H2 s2 hv => ⟨by show 2 ≤ sizeLine; decide, fun r nr => ?_⟩⟩⟩
    have s3 := same_up (o := .tup [V.ref u, V.ref v]) nr
    refine ⟨r, _, rfl, .inl (.inl upd_same), rfl, _, _, rfl, ⟨u, _, rfl, .inl (.inl (s3 _ _ (s2 _ _ hu))), rfl, _, _, rfl, _, _, rfl, rfl, ?_⟩⟩
    refine ⟨_, _, rfl, ⟨v, _, rfl, .inl (.inl (s3 _ _ hv)), rfl, _, _, rfl, _, _, rfl, rfl, rfl, ?_⟩⟩
    have s4 := (s1.trans s2).trans s3
    refine go_meth rfl (F.same s4) (by decide +kernel) (by decide +kernel) ⟨_, rfl, _, rfl, _, _, rfl, rfl, .inl ⟨by show -(2 ^ 64) < a; omega, by show a < 2 ^ 64; omega⟩, _, rfl, _, rfl, _, _, rfl, rfl, .inl ⟨by decide, by decide⟩, ?_⟩
    refine ⟨f, p, a * b, 1, rfl, F.same s4, m, by omega, by omega, by omega, by omega, fun i H5 s5 i0 i1 i2 => ?_⟩
    rw [one_inv hlo i0 i1 i2, Int.mul_one]
    exact q H5 (s4.trans s5)
end
end K05.M
namespace K05.M
open PySem PySem.Spec PyProof.Rows L2 Ver Num
section
variable {P : Program} {w : World} {K : PySem.W.Frag} {mg : Str → Option Value} {base : Heap}
theorem nums2 {K : PySem.W.Frag} {H : Hp} {l : Addr} {a b : Int} (h : H l = some (.lst [V.int a, V.int b])) : Nums K H l [a, b] := .inl (.inl (.inl h))
theorem in2 {a b p : Int} (a0 : 0 ≤ a) (ap : a < p) (b0 : 0 ≤ b) (bp : b < p) : ∀ x ∈ [a, b], 0 ≤ x ∧ x < p := fun x hx => by
  rcases List.mem_cons.mp hx with e | hx
  · rw [e]; exact ⟨a0, ap⟩
  · rw [List.mem_singleton.mp hx]; exact ⟨b0, bp⟩
def spOp (K : PySem.W.Frag) (g : Int → Int → Int) : Sp := fun vs H Q _ => ∃ (f : Addr) (p a b : Int), vs = [.ref f, .int a, .int b] ∧ FieldAt K H f p ∧ Md p ∧ 0 ≤ a ∧ a < p ∧ 0 ≤ b ∧ b < p ∧ ∀ H', Same H H' → Q (.int (g a b % p)) H'
theorem ok_sum_of (T : Tx K mg) : FnG P w K mg base CX0 3 (He.ma K (He.ga K "Field") "sum_of") (spOp K fun a b => a + b) := by
  refine mk_Field_sum_of T.d (fun vs H Q E h => ?_) (fun cdv A outer s H vs Q E hg hr h => ?_)
  · obtain ⟨f, p, a, b, rfl, _⟩ := h
    rfl
  · obtain ⟨f, p, a, b, rfl, F, m, a0, ap, b0, bp, q⟩ := h
    have hlo := m.lo
    have hhi := m.hi
    have gp := T.g "parts" (by decide +kernel)
    have nd := sc_Field_sum_of.nd
    refine ⟨_, pss_cons (ps_asg (pe_tup (pa_cons (pe_callG (ok_parts T) (hr.mono (by decide)) hg (by rfl) gp (kp_parts T.d) pass0 (pa_cons (pv 1) pa_nil)) (pa_cons (pe_callG (ok_parts T) (hr.mono (by decide)) hg (by rfl) gp (kp_parts T.d) pass0 (pa_cons (pv 2) pa_nil)) pa_nil)))
        (pg_tup rfl (pgs_cons (pg_tup rfl (pgs_cons (pg_name (i := 3) nd rfl (.inl rfl)) (pgs_cons (pg_name (i := 4) nd rfl (.inl rfl)) pgs_nil))) (pgs_cons (pg_tup rfl (pgs_cons (pg_name (i := 5) nd rfl (.inl rfl)) (pgs_cons (pg_name (i := 6) nd rfl (.inl rfl)) pgs_nil))) pgs_nil))))
      (pss_one (ps_ret (pe_methG (pv 0) (kp_Field_ratio T.d) (ok_ratio T) (hr.mono (by decide)) hg pass0 (pa_cons (pe_op op_add (pe_op op_mul (pv 3) (pv 6)) (pe_op op_mul (pv 5) (pv 4))) (pa_cons (pe_op op_mul (pv 4) (pv 6)) pa_nil))))), ?_⟩
    refine ⟨_, rfl, _, a, 1, rfl, .inl ⟨rfl, rfl⟩, fun u H1 s1 hu => ⟨_, rfl, _, b, 1, rfl, .inl ⟨rfl, rfl⟩, fun v H2 s2 hv => ⟨by show 2 ≤ sizeLine; decide, fun r nr => ?_⟩⟩⟩
    have s3 := same_up (o := .tup [V.ref u, V.ref v]) nr
    refine ⟨r, _, rfl, .inl (.inl upd_same), rfl, _, _, rfl, ⟨u, _, rfl, .inl (.inl (s3 _ _ (s2 _ _ hu))), rfl, _, _, rfl, _, _, rfl, rfl, ?_⟩⟩
    refine ⟨_, _, rfl, ⟨v, _, rfl, .inl (.inl (s3 _ _ hv)), rfl, _, _, rfl, _, _, rfl, rfl, rfl, ?_⟩⟩
    have s4 := (s1.trans s2).trans s3
    refine go_meth rfl (F.same s4) (by decide +kernel) (by decide +kernel) ⟨_, rfl, _, rfl, _, _, rfl, rfl, .inl ⟨by show -(2 ^ 64) < a; omega, by show a < 2 ^ 64; omega⟩,
      _, rfl, _, rfl, _, _, rfl, rfl, .inl ⟨by show -(2 ^ 64) < b; omega, by show b < 2 ^ 64; omega⟩, _, _, rfl, rfl, _, rfl, _, rfl, _, _, rfl, rfl, .inl ⟨by decide, by decide⟩, ?_⟩
    refine ⟨f, p, a * 1 + b * 1, 1, rfl, F.same s4, m, by omega, by omega, by omega, by omega, fun i H5 s5 i0 i1 i2 => ?_⟩
    rw [one_inv hlo i0 i1 i2, Int.mul_one, Int.mul_one, Int.mul_one]
    exact q H5 (s4.trans s5)
theorem ok_plus (T : Tx K mg) : FnG P w K mg base CX0 6 (He.ma K (He.ga K "Field") "plus") (spOp K fun a b => a + b) := by
  refine mk_Field_plus T.d (fun vs H Q E h => ?_) (fun cdv A outer s H vs Q E hg hr h => ?_)
  · obtain ⟨f, p, a, b, rfl, _⟩ := h
    rfl
  · obtain ⟨f, p, a, b, rfl, F, m, a0, ap, b0, bp, q⟩ := h
    refine ⟨_, pss_cons (ps_expr (pe_methG (pv 0) (kp_Field__check T.d) (ok_check T) hr hg pass0 (pa_cons (pe_lst (pa_cons (pv 1) (pa_cons (pv 2) pa_nil))) pa_nil)))
      (pss_one (ps_ret (pe_methG (pv 0) (kp_Field_sum_of T.d) (ok_sum_of T) (hr.mono (by decide)) hg pass0 (pa_cons (pv 1) (pa_cons (pv 2) pa_nil))))), ?_⟩
    refine go_meth rfl F (by decide +kernel) (by decide +kernel) ⟨_, rfl, _, rfl, by show 2 ≤ sizeLine; decide, fun l nl => ?_⟩
    have s0 := same_up (o := .lst [V.int a, V.int b]) nl
    refine ⟨f, l, p, [a, b], rfl, F.same s0, m.hi, nums2 upd_same, in2 a0 ap b0 bp, fun H0 sx => ?_⟩
    have sH := s0.trans sx
    exact go_meth rfl (F.same sH) (by decide +kernel) (by decide +kernel) ⟨_, rfl, _, rfl, f, p, a, b, rfl, F.same sH, m, a0, ap, b0, bp, fun H1 s1 => q H1 (sH.trans s1)⟩
theorem ok_difference_of (T : Tx K mg) : FnG P w K mg base CX0 3 (He.ma K (He.ga K "Field") "difference_of") (spOp K fun a b => a - b) := by
  refine mk_Field_difference_of T.d (fun vs H Q E h => ?_) (fun cdv A outer s H vs Q E hg hr h => ?_)
  · obtain ⟨f, p, a, b, rfl, _⟩ := h
    rfl
  · obtain ⟨f, p, a, b, rfl, F, m, a0, ap, b0, bp, q⟩ := h
    have hlo := m.lo
    have hhi := m.hi
    have gp := T.g "parts" (by decide +kernel)
    have nd := sc_Field_difference_of.nd
    refine ⟨_, pss_cons (ps_asg (pe_tup (pa_cons (pe_callG (ok_parts T) (hr.mono (by decide)) hg (by rfl) gp (kp_parts T.d) pass0 (pa_cons (pv 1) pa_nil)) (pa_cons (pe_callG (ok_parts T) (hr.mono (by decide)) hg (by rfl) gp (kp_parts T.d) pass0 (pa_cons (pv 2) pa_nil)) pa_nil)))
        (pg_tup rfl (pgs_cons (pg_tup rfl (pgs_cons (pg_name (i := 3) nd rfl (.inl rfl)) (pgs_cons (pg_name (i := 4) nd rfl (.inl rfl)) pgs_nil))) (pgs_cons (pg_tup rfl (pgs_cons (pg_name (i := 5) nd rfl (.inl rfl)) (pgs_cons (pg_name (i := 6) nd rfl (.inl rfl)) pgs_nil))) pgs_nil))))
      (pss_one (ps_ret (pe_methG (pv 0) (kp_Field_ratio T.d) (ok_ratio T) (hr.mono (by decide)) hg pass0 (pa_cons (pe_op op_sub (pe_op op_mul (pv 3) (pv 6)) (pe_op op_mul (pv 5) (pv 4))) (pa_cons (pe_op op_mul (pv 4) (pv 6)) pa_nil))))), ?_⟩
    refine ⟨_, rfl, _, a, 1, rfl, .inl ⟨rfl, rfl⟩, fun u H1 s1 hu => ⟨_, rfl, _, b, 1, rfl, .inl ⟨rfl, rfl⟩, fun v H2 s2 hv => ⟨by show 2 ≤ sizeLine; decide, fun r nr => ?_⟩⟩⟩
    have s3 := same_up (o := .tup [V.ref u, V.ref v]) nr
    refine ⟨r, _, rfl, .inl (.inl upd_same), rfl, _, _, rfl, ⟨u, _, rfl, .inl (.inl (s3 _ _ (s2 _ _ hu))), rfl, _, _, rfl, _, _, rfl, rfl, ?_⟩⟩
    refine ⟨_, _, rfl, ⟨v, _, rfl, .inl (.inl (s3 _ _ hv)), rfl, _, _, rfl, _, _, rfl, rfl, rfl, ?_⟩⟩
    have s4 := (s1.trans s2).trans s3
    refine go_meth rfl (F.same s4) (by decide +kernel) (by decide +kernel) ⟨_, rfl, _, rfl, _, _, rfl, rfl, .inl ⟨by show -(2 ^ 64) < a; omega, by show a < 2 ^ 64; omega⟩,
      _, rfl, _, rfl, _, _, rfl, rfl, .inl ⟨by show -(2 ^ 64) < b; omega, by show b < 2 ^ 64; omega⟩, _, _, rfl, rfl, _, rfl, _, rfl, _, _, rfl, rfl, .inl ⟨by decide, by decide⟩, ?_⟩
    refine ⟨f, p, a * 1 - b * 1, 1, rfl, F.same s4, m, by omega, by omega, by omega, by omega, fun i H5 s5 i0 i1 i2 => ?_⟩
    rw [one_inv hlo i0 i1 i2, Int.mul_one, Int.mul_one, Int.mul_one]
    exact q H5 (s4.trans s5)
theorem ok_minus (T : Tx K mg) : FnG P w K mg base CX0 6 (He.ma K (He.ga K "Field") "minus") (spOp K fun a b => a - b) := by
  refine mk_Field_minus T.d (fun vs H Q E h => ?_) (fun cdv A outer s H vs Q E hg hr h => ?_)
  · obtain ⟨f, p, a, b, rfl, _⟩ := h
    rfl
  · obtain ⟨f, p, a, b, rfl, F, m, a0, ap, b0, bp, q⟩ := h
    refine ⟨_, pss_cons (ps_expr (pe_methG (pv 0) (kp_Field__check T.d) (ok_check T) hr hg pass0 (pa_cons (pe_lst (pa_cons (pv 1) (pa_cons (pv 2) pa_nil))) pa_nil)))
      (pss_one (ps_ret (pe_methG (pv 0) (kp_Field_difference_of T.d) (ok_difference_of T) (hr.mono (by decide)) hg pass0 (pa_cons (pv 1) (pa_cons (pv 2) pa_nil))))), ?_⟩
    refine go_meth rfl F (by decide +kernel) (by decide +kernel) ⟨_, rfl, _, rfl, by show 2 ≤ sizeLine; decide, fun l nl => ?_⟩
    have s0 := same_up (o := .lst [V.int a, V.int b]) nl
    refine ⟨f, l, p, [a, b], rfl, F.same s0, m.hi, nums2 upd_same, in2 a0 ap b0 bp, fun H0 sx => ?_⟩
    have sH := s0.trans sx
    exact go_meth rfl (F.same sH) (by decide +kernel) (by decide +kernel) ⟨_, rfl, _, rfl, f, p, a, b, rfl, F.same sH, m, a0, ap, b0, bp, fun H1 s1 => q H1 (sH.trans s1)⟩
theorem ok_times (T : Tx K mg) : FnG P w K mg base CX0 6 (He.ma K (He.ga K "Field") "times") (spOp K fun a b => a * b) := by
  refine mk_Field_times T.d (fun vs H Q E h => ?_) (fun cdv A outer s H vs Q E hg hr h => ?_)
  · obtain ⟨f, p, a, b, rfl, _⟩ := h
    rfl
  · obtain ⟨f, p, a, b, rfl, F, m, a0, ap, b0, bp, q⟩ := h
    refine ⟨_, pss_cons (ps_expr (pe_methG (pv 0) (kp_Field__check T.d) (ok_check T) hr hg pass0 (pa_cons (pe_lst (pa_cons (pv 1) (pa_cons (pv 2) pa_nil))) pa_nil)))
      (pss_one (ps_ret (pe_methG (pv 0) (kp_Field_product_of T.d) (ok_product_of T) (hr.mono (by decide)) hg pass0 (pa_cons (pv 1) (pa_cons (pv 2) pa_nil))))), ?_⟩
    refine go_meth rfl F (by decide +kernel) (by decide +kernel) ⟨_, rfl, _, rfl, by show 2 ≤ sizeLine; decide, fun l nl => ?_⟩
    have s0 := same_up (o := .lst [V.int a, V.int b]) nl
    refine ⟨f, l, p, [a, b], rfl, F.same s0, m.hi, nums2 upd_same, in2 a0 ap b0 bp, fun H0 sx => ?_⟩
    have sH := s0.trans sx
    exact go_meth rfl (F.same sH) (by decide +kernel) (by decide +kernel) ⟨_, rfl, _, rfl, f, p, a, b, rfl, F.same sH, m, a0, ap, b0, bp, fun H1 s1 => q H1 (sH.trans s1)⟩
end
end K05.M
namespace K05.M
open PySem PySem.Spec PyProof.Rows L2 Ver Num
section
variable {P : Program} {w : World} {K : PySem.W.Frag} {mg : Str → Option Value} {base : Heap}
/-! ### over, and its error -/
def spOver (K : PySem.W.Frag) : Sp := fun vs H Q _ => ∃ (f : Addr) (p a b : Int), vs = [.ref f, .int a, .int b] ∧ FieldAt K H f p ∧ Md p ∧ 0 ≤ a ∧ a < p ∧ 0 ≤ b ∧ b < p ∧
  b ≠ 0 ∧ ∀ (i : Int) (H' : Hp), Same H H' → 0 ≤ i → i < p → (i * b) % p = 1 → Q (.int (a * i % p)) H'
def spQuo (K : PySem.W.Frag) : Sp := fun vs H Q _ => ∃ (f : Addr) (p a b : Int), vs = [.ref f, .int a, .int b] ∧ FieldAt K H f p ∧ Md p ∧ 0 ≤ a ∧ a < p ∧ 0 ≤ b ∧ b < p ∧
  b ≠ 0 ∧ ∀ (i : Int) (H' : Hp), Same H H' → 0 ≤ i → i < p → (i * b) % p = 1 → Q (.int (a * i % p)) H'
theorem ok_quotient_of (T : Tx K mg) : FnG P w K mg base CX0 3 (He.ma K (He.ga K "Field") "quotient_of") (spQuo K) := by
  refine mk_Field_quotient_of T.d (fun vs H Q E h => ?_) (fun cdv A outer s H vs Q E hg hr h => ?_)
  · obtain ⟨f, p, a, b, rfl, _⟩ := h
    rfl
  · obtain ⟨f, p, a, b, rfl, F, m, a0, ap, b0, bp, bz, q⟩ := h
    have hlo := m.lo
    have hhi := m.hi
    have gp := T.g "parts" (by decide +kernel)
    have nd := sc_Field_quotient_of.nd
    refine ⟨_, pss_cons (ps_asg (pe_tup (pa_cons (pe_callG (ok_parts T) (hr.mono (by decide)) hg (by rfl) gp (kp_parts T.d) pass0 (pa_cons (pv 1) pa_nil)) (pa_cons (pe_callG (ok_parts T) (hr.mono (by decide)) hg (by rfl) gp (kp_parts T.d) pass0 (pa_cons (pv 2) pa_nil)) pa_nil)))
        (pg_tup rfl (pgs_cons (pg_tup rfl (pgs_cons (pg_name (i := 3) nd rfl (.inl rfl)) (pgs_cons (pg_name (i := 4) nd rfl (.inl rfl)) pgs_nil))) (pgs_cons (pg_tup rfl (pgs_cons (pg_name (i := 5) nd rfl (.inl rfl)) (pgs_cons (pg_name (i := 6) nd rfl (.inl rfl)) pgs_nil))) pgs_nil))))
      (pss_one (ps_ret (pe_methG (pv 0) (kp_Field_ratio T.d) (ok_ratio T) (hr.mono (by decide)) hg pass0 (pa_cons (pe_op op_mul (pv 3) (pv 6)) (pa_cons (pe_op op_mul (pv 4) (pv 5)) pa_nil))))), ?_⟩
    refine ⟨_, rfl, _, a, 1, rfl, .inl ⟨rfl, rfl⟩, fun u H1 s1 hu => ⟨_, rfl, _, b, 1, rfl, .inl ⟨rfl, rfl⟩, fun v H2 s2 hv => ⟨by show 2 ≤ sizeLine; decide, fun r nr => ?_⟩⟩⟩
    have s3 := same_up (o := .tup [V.ref u, V.ref v]) nr
    refine ⟨r, _, rfl, .inl (.inl upd_same), rfl, _, _, rfl, ⟨u, _, rfl, .inl (.inl (s3 _ _ (s2 _ _ hu))), rfl, _, _, rfl, _, _, rfl, rfl, ?_⟩⟩
    refine ⟨_, _, rfl, ⟨v, _, rfl, .inl (.inl (s3 _ _ hv)), rfl, _, _, rfl, _, _, rfl, rfl, rfl, ?_⟩⟩
    have s4 := (s1.trans s2).trans s3
    refine go_meth rfl (F.same s4) (by decide +kernel) (by decide +kernel) ⟨_, rfl, _, rfl, _, _, rfl, rfl, .inl ⟨by show -(2 ^ 64) < a; omega, by show a < 2 ^ 64; omega⟩,
      _, rfl, _, rfl, _, _, rfl, rfl, .inl ⟨by decide, by decide⟩, ?_⟩
    refine ⟨f, p, a * 1, 1 * b, rfl, F.same s4, m, by omega, by omega, by omega, by omega, fun i H5 s5 i0 i1 i2 => ?_⟩
    rw [Int.mul_one]
    rw [Int.one_mul] at i2
    exact q i H5 (s4.trans s5) i0 i1 i2
/-! ### making a field -/
theorem ok_over (T : Tx K mg) : FnG P w K mg base CX0 6 (He.ma K (He.ga K "Field") "over") (spOver K) := by
  refine mk_Field_over T.d (fun vs H Q E h => ?_) (fun cdv A outer s H vs Q E hg hr h => ?_)
  · obtain ⟨f, p, a, b, rfl, _⟩ := h
    rfl
  · obtain ⟨f, p, a, b, rfl, F, m, a0, ap, b0, bp, bz, q⟩ := h
    have hlo := m.lo
    have hhi := m.hi
    have gp := T.g "parts" (by decide +kernel)
    have nd := sc_Field_over.nd
    refine ⟨_, pss_cons (ps_expr (pe_methG (pv 0) (kp_Field__check T.d) (ok_check T) hr hg pass0 (pa_cons (pe_lst (pa_cons (pv 1) (pa_cons (pv 2) pa_nil))) pa_nil)))
      (pss_cons (ps_if (pt_cmpR op_eq (pv 2) pe_int (nomark _)) pss_never pss_nil)
      (pss_one (ps_ret (pe_methG (pv 0) (kp_Field_quotient_of T.d) (ok_quotient_of T) (hr.mono (by decide)) hg pass0 (pa_cons (pv 1) (pa_cons (pv 2) pa_nil)))))), ?_⟩
    refine go_meth rfl F (by decide +kernel) (by decide +kernel) ⟨_, rfl, _, rfl, by show 2 ≤ sizeLine; decide, fun l nl => ?_⟩
    have s0 := same_up (o := .lst [V.int a, V.int b]) nl
    refine ⟨f, l, p, [a, b], rfl, F.same s0, hhi, nums2 upd_same, in2 a0 ap b0 bp, fun H0 sx => ?_⟩
    have sH := s0.trans sx
    refine ⟨_, rfl, rfl, _, rfl, ?_⟩
    rw [iEq]
    have e := bz
    · refine ifF (decide_eq_false e) ?_
      exact go_meth rfl (F.same sH) (by decide +kernel) (by decide +kernel) ⟨_, rfl, _, rfl, f, p, a, b, rfl, F.same sH, m, a0, ap, b0, bp, e, fun i H5 s5 i0 i1 i2 => q i H5 (sH.trans s5) i0 i1 i2⟩
def spFInit (K : PySem.W.Frag) : Sp := fun vs H Q _ => ∃ (f C dx : Addr) (p : Int), vs = [.ref f, .int p] ∧ FC K C ∧ H f = some (.ins C dx []) ∧ Q .non (upd H f (.ins C dx [(("_prime" : Str), V.int p)]))
theorem ok_finit (T : Tx K mg) : FnG P w K mg base CX0 1 (He.ma K (He.ga K "Field") "__init__") (spFInit K) := by
  refine mk_Field___init__ T.d (fun vs H Q E h => ?_) (fun cdv A outer s H vs Q E hg hr h => ?_)
  · obtain ⟨f, C, dx, p, rfl, _⟩ := h
    rfl
  · obtain ⟨f, C, dx, p, rfl, c, hf, q⟩ := h
    exact ⟨_, pss_one (ps_fld (pv 0) (pv 1) rfl), ⟨_, rfl, _, rfl, f, C, dx, [], rfl, hf, c.cl, c.np, (by show 0 < 1000; decide), q⟩⟩
def spMInit (K : PySem.W.Frag) : Sp := fun vs H Q _ => ∃ (f dx : Addr) (p : Int), vs = [.ref f, .int p] ∧ prB Float64.isqrt p = true ∧ Float64.isqrt p.toNat ≤ 1000000 ∧ H f = some (.ins (He.ga K "Modulo") dx []) ∧ Q .non (upd H f (.ins (He.ga K "Modulo") dx [(("_prime" : Str), V.int p)]))
theorem ok_minit (T : Tx K mg) : FnG P w K mg base CX0 4 (He.ma K (He.ga K "Modulo") "__init__") (spMInit K) := by
  refine mk_Modulo___init__ T.d (fun vs H Q E h => ?_) (fun cdv A outer s H vs Q E hg hr h => ?_)
  · obtain ⟨f, dx, p, rfl, _⟩ := h
    rfl
  · obtain ⟨f, dx, p, rfl, p1, p2, hf, q⟩ := h
    refine ⟨_, pss_cons (ps_if (pt_not (pt_val (pe_callG (ok_is_prime T) hr hg (by rfl) (T.g "is_prime" (by decide +kernel)) (kp_is_prime T.d) pass0 (pa_cons (pv 1) pa_nil)))) pss_never pss_nil)
      (pss_one (ps_expr (pe_clsG (by rfl) (T.g "Field" (by decide +kernel)) T.rdF T.gaF T.fiF (kp_Field___init__ T.d) (ok_finit T) (hr.mono (by decide)) hg pass0 (pa_cons (pv 0) (pa_cons (pv 1) pa_nil))))), ?_⟩
    exact ⟨_, rfl, p, rfl, p1, p2, _, rfl, ifF rfl ⟨_, rfl, _, rfl, f, _, dx, p, rfl, T.fcM, hf, q⟩⟩
end
end K05.M
namespace K05.M
open PySem PySem.Spec PyProof.Rows L2 Ver Num
section
variable {P : Program} {w : World} {K : PySem.W.Frag} {mg : Str → Option Value} {base : Heap}
/-! ### common, total -/
def spCommon (K : PySem.W.Frag) : Sp := fun vs H Q _ => ∃ (f : Addr) (p : Int) (x : V), vs = [.ref f, x] ∧ FieldAt K H f p ∧ ∀ (t : Addr) (H' : Hp), Same H H' → H' t = some (.tup [x, .int 1]) → Q (.ref t) H'
theorem ok_common (T : Tx K mg) : FnG P w K mg base CX0 1 (He.ma K (He.ga K "Field") "common") (spCommon K) := by
  refine mk_Field_common T.d (fun vs H Q E h => ?_) (fun cdv A outer s H vs Q E hg hr h => ?_)
  · obtain ⟨f, p, x, rfl, _⟩ := h
    rfl
  · obtain ⟨f, p, x, rfl, F, q⟩ := h
    refine ⟨_, pss_cons (ps_if (pt_cmp (pc_notN (pe_fld (pv 0) rfl))) (pss_one (ps_ret (pe_tup (pa_cons (pv 1) (pa_cons pe_int pa_nil))))) pss_nil) pss_never, ?_⟩
    refine rd_prime rfl F ⟨_, rfl, ifT rfl ?_⟩
    exact ⟨_, rfl, by show 2 ≤ sizeLine; decide, fun t nt => q t _ (same_up nt) upd_same⟩
theorem small_sum {p : Int} (p9 : p ≤ 1000000000) : ∀ (ns : List Int), (∀ a ∈ ns, 0 ≤ a ∧ a < p) → 0 ≤ ns.sum ∧ ns.sum ≤ 1000000000 * (ns.length : Int)
  | [], _ => by simp
  | a :: ns, h => by
    have h1 := h a List.mem_cons_self
    have h2 := small_sum p9 ns fun b hb => h b (List.mem_cons_of_mem _ hb)
    rw [List.sum_cons, List.length_cons]
    omega
/-- total(*numbers), seen by its body: the numbers stand in a tuple -/
def spTotalB (K : PySem.W.Frag) : Sp := fun vs H Q _ => ∃ (f l : Addr) (p : Int) (ns : List Int), vs = [.ref f, .ref l] ∧ FieldAt K H f p ∧ Md p ∧ H l = some (.tup (ns.map V.int)) ∧ ns.length ≤ 1000 ∧ (∀ a ∈ ns, 0 ≤ a ∧ a < p) ∧ ∀ H', Same H H' → Q (.int (ns.sum % p)) H'
def spTotal (K : PySem.W.Frag) : Sp := fun vs H Q _ => ∃ (f : Addr) (p : Int) (ns : List Int), vs = V.ref f :: ns.map V.int ∧ FieldAt K H f p ∧ Md p ∧ ns.length ≤ 1000 ∧ (∀ a ∈ ns, 0 ≤ a ∧ a < p) ∧ ∀ H', Same H H' → Q (.int (ns.sum % p)) H'
theorem ok_total (T : Tx K mg) : FnG P w K mg base CX0 6 (He.ma K (He.ga K "Field") "total") (spTotal K) := by
  obtain ⟨fd, FD⟩ := T.d.def_ 8 (d := d_Field_total) rfl
  have star := okStar (P := P) (w := w) (mg := mg) (base := base) (k := 5) (sp := spTotalB K) (ps := ["self"]) (pr := "numbers") FD sc_Field_total
    (fun kV doc pm an cdv ct us rest hl => by
      match us, hl with
      | [a], _ => cases rest <;> rfl) (fun cdv A outer s H vs Q E hg hr h => by
      obtain ⟨f, l, p, ns, rfl, F, m, hl, hz, hn, q⟩ := h
      have hlo := m.lo
      have nd := sc_Field_total.nd
      refine ⟨_, pss_cons (ps_expr (pe_methG (pv 0) (kp_Field__check T.d) (ok_check T) hr hg pass0 (pa_cons (pv 1) pa_nil)))
        (pss_cons (ps_asg (pe_methG (pv 0) (kp_Field_common T.d) (ok_common T) (hr.mono (by decide)) hg pass0 (pa_cons (pv 1) pa_nil)) (pg_tup rfl (pgs_cons (pg_name (i := 2) nd rfl (.inl rfl)) (pgs_cons (pg_name (i := 3) nd rfl (.inl rfl)) pgs_nil))))
        (pss_one (ps_ret (pe_methG (pv 0) (kp_Field_ratio T.d) (ok_ratio T) (hr.mono (by decide)) hg pass0 (pa_cons (pe_callB (cr_sumT rfl) (by rfl) (T.z "sum" (by decide +kernel)) (by decide +kernel) (pa_cons (pv 2) pa_nil)) (pa_cons (pv 3) pa_nil)))))), ?_⟩
      refine go_meth rfl F (by decide +kernel) (by decide +kernel) ⟨_, rfl, f, l, p, ns, rfl, F, m.hi, .inr (.inl (.inl hl)), hn, fun H1 s1 => ?_⟩
      refine go_meth rfl (F.same s1) (by decide +kernel) (by decide +kernel) ⟨_, rfl, f, p, .ref l, rfl, F.same s1, fun t H2 s2 ht => ?_⟩
      have s12 := s1.trans s2
      refine ⟨t, _, rfl, .inl (.inl ht), rfl, _, _, rfl, _, _, rfl, rfl, ?_⟩
      have b := small_sum m.hi ns hn
      refine go_meth rfl (F.same s12) (by decide +kernel) (by decide +kernel) ⟨_, rfl, l, ns, rfl, .inl (.inl (s12 _ _ hl)), _, rfl, ?_⟩
      refine ⟨f, p, ns.sum, 1, rfl, F.same s12, m, by omega, by omega, by omega, by omega, fun i H3 s3 i0 i1 i2 => ?_⟩
      rw [one_inv hlo i0 i1 i2, Int.mul_one]
      exact q H3 (s12.trans s3))
  intro A outer s H us vs Q E hg hr e0 r h
  obtain ⟨f, p, ns, rfl, F, m, hz, hn, q⟩ := h
  refine star A outer s H us _ Q E hg hr e0 r ⟨[.ref f], ns.map V.int, rfl, rfl, ?_, fun t nt => ?_⟩
  · rw [List.length_map]
    exact Nat.le_of_lt (small1000 hz)
  · have s0 := same_up (o := .tup (ns.map V.int)) nt
    exact ⟨f, t, p, ns, rfl, F.same s0, m, upd_same, hz, hn, fun H' s' => q H' (s0.trans s')⟩
end
end K05.M

namespace K05
open PySem PySem.Spec PyProof.Rows L2 Ver Num F
/-! ### the pen: a dict of the script's cells, a place, a rest -/
def penL (c : Addr) (b l : Int) : List (Key × V) := [(.inr "cells", .ref c), (.inr "begun", .int b), (.inr "left", .int l)]
structure PenAt (H : Hp) (d : Addr) (k : Int) : Prop where
  ex : ∃ (c : Addr) (cells : List Int) (b l : Int), H d = some (.dK (penL c b l)) ∧ H c = some (.lst (cells.map V.int)) ∧ cells.length ≤ 63 ∧ 0 ≤ b ∧ b ≤ k ∧ 0 ≤ l
/-- all but what stands at d is kept; the pen's list of cells is the same object -/
def But (d : Addr) (H H' : Hp) : Prop := (∀ b o, H b = some o → b ≠ d → H' b = some o) ∧ ∀ c b l, H d = some (.dK (penL c b l)) → ∃ b' l', H' d = some (.dK (penL c b' l'))
theorem But.refl {d : Addr} {H : Hp} : But d H H := ⟨fun _ _ e _ => e, fun c b l e => ⟨b, l, e⟩⟩
theorem But.trans {d : Addr} {H H1 H2 : Hp} (a : But d H H1) (b : But d H1 H2) : But d H H2 := ⟨fun c o e n => b.1 c o (a.1 c o e n) n, fun c x l e => by
  obtain ⟨b1, l1, e1⟩ := a.2 c x l e
  exact b.2 c b1 l1 e1⟩
theorem But.same {d : Addr} {H H1 : Hp} (s : Same H H1) : But d H H1 := ⟨fun c o e _ => s c o e, fun c b l e => ⟨b, l, s _ _ e⟩⟩
theorem pen_inj {c c2 : Addr} {b b2 l l2 : Int} (h : penL c b l = penL c2 b2 l2) : c = c2 := by
  have h1 := (List.cons.inj h).1
  exact V.ref.inj (congrArg Prod.snd h1)
theorem but_up {d c : Addr} {H : Hp} {b l b' l' : Int} (h : H d = some (.dK (penL c b l))) : But d H (upd H d (.dK (penL c b' l'))) := ⟨fun b u e n => by rw [upd_ne n]; exact e, fun c2 b2 l2 e => by
  rw [h] at e
  have e2 : penL c b l = penL c2 b2 l2 := HO.dK.inj (Option.some.inj e)
  have ec := pen_inj e2
  subst ec
  exact ⟨b', l', upd_same⟩⟩
/-- the pen with its list of cells told -/
structure PenC (H : Hp) (d c : Addr) (k : Int) : Prop where
  ex : ∃ (cells : List Int) (b l : Int), H d = some (.dK (penL c b l)) ∧ H c = some (.lst (cells.map V.int)) ∧ cells.length ≤ 63 ∧ 0 ≤ b ∧ b ≤ k ∧ 0 ≤ l
theorem PenAt.c {H : Hp} {d : Addr} {k : Int} (p : PenAt H d k) : ∃ c, PenC H d c k := by
  obtain ⟨c, cells, b, l, h⟩ := p.ex
  exact ⟨c, cells, b, l, h⟩
theorem PenC.at_ {H : Hp} {d c : Addr} {k : Int} (p : PenC H d c k) : PenAt H d k := by
  obtain ⟨cells, b, l, h⟩ := p.ex
  exact ⟨c, cells, b, l, h⟩
theorem PenC.on {H H' : Hp} {d c : Addr} {k k' : Int} (p : PenC H d c k) (bt : But d H H') (q : PenAt H' d k') : PenC H' d c k' := by
  obtain ⟨cells, b, l, h1, _⟩ := p.ex
  obtain ⟨b1, l1, e1⟩ := bt.2 c b l h1
  obtain ⟨c2, cells2, b2, l2, g1, g⟩ := q.ex
  have e2 : penL c b1 l1 = penL c2 b2 l2 := HO.dK.inj (Option.some.inj (e1.symm.trans g1))
  have ec := pen_inj e2
  subst ec
  exact ⟨cells2, b2, l2, g1, g⟩
theorem PenC.up {H : Hp} {d c D : Addr} {k : Int} {o : HO} (p : PenC H d c k) (n1 : d ≠ D) (n2 : c ≠ D) : PenC (upd H D o) d c k := by
  obtain ⟨cells, b, l, h1, h2, h⟩ := p.ex
  exact ⟨cells, b, l, by rw [upd_ne n1]; exact h1, by rw [upd_ne n2]; exact h2, h⟩
theorem PenAt.same {H H' : Hp} {d : Addr} {k : Int} (p : PenAt H d k) (s : Same H H') : PenAt H' d k := by
  obtain ⟨c, cells, b, l, h1, h2, r⟩ := p.ex
  exact ⟨c, cells, b, l, s _ _ h1, s _ _ h2, r⟩
theorem PenAt.mono {H : Hp} {d : Addr} {j k : Int} (p : PenAt H d j) (h : j ≤ k) : PenAt H d k := by
  obtain ⟨c, cells, b, l, h1, h2, h3, h4, h5, h6⟩ := p.ex
  exact ⟨c, cells, b, l, h1, h2, h3, h4, by omega, h6⟩
theorem ks1 : ¬ (("cells" : Str) = "begun") := by decide +kernel
theorem ks2 : ¬ (("cells" : Str) = "left") := by decide +kernel
theorem ks3 : ¬ (("begun" : Str) = "left") := by decide +kernel
theorem nk {a b : Str} (h : ¬ a = b) : ¬ ((Sum.inr a : Key) = (Sum.inr b : Key)) := fun z => h (Sum.inr.inj z)
theorem pen_cells (c : Addr) (b l : Int) : valV (penL c b l) (.inr "cells") = some (.ref c) := valV_pos rfl
theorem pen_begun (c : Addr) (b l : Int) : valV (penL c b l) (.inr "begun") = some (.int b) := (valV_neg (nk ks1)).trans (valV_pos rfl)
theorem pen_left (c : Addr) (b l : Int) : valV (penL c b l) (.inr "left") = some (.int l) := (valV_neg (nk ks2)).trans ((valV_neg (nk ks3)).trans (valV_pos rfl))
theorem put_begun (c : Addr) (b l b' : Int) : putK (penL c b l) (.inr "begun") (.int b') = penL c b' l := by
  have n1 := nk ks1
  have n2 := nk (Ne.symm ks3)
  simp [putK, penL, n1, n2]
theorem put_left (c : Addr) (b l l' : Int) : putK (penL c b l) (.inr "left") (.int l') = penL c b l' := by
  have n1 := nk ks2
  have n2 := nk ks3
  simp [putK, penL, n1, n2]
theorem get_cells {H : Hp} {d c : Addr} {b l : Int} (h : H d = some (.dK (penL c b l))) : DGet H d (.str "cells") (some (.ref c)) := by
  have z := DGet.k (k := Sum.inr "cells") h
  rwa [pen_cells] at z
theorem get_begun {H : Hp} {d c : Addr} {b l : Int} (h : H d = some (.dK (penL c b l))) : DGet H d (.str "begun") (some (.int b)) := by
  have z := DGet.k (k := Sum.inr "begun") h
  rwa [pen_begun] at z
theorem get_left {H : Hp} {d c : Addr} {b l : Int} (h : H d = some (.dK (penL c b l))) : DGet H d (.str "left") (some (.int l)) := by
  have z := DGet.k (k := Sum.inr "left") h
  rwa [pen_left] at z
theorem dput_begun {H : Hp} {d c : Addr} {b l b' : Int} (h : H d = some (.dK (penL c b l))) : DPut H d (.str "begun") (.int b') (upd H d (.dK (penL c b' l))) := by
  have z := DPut.k (k := Sum.inr "begun") (v := .int b') h (by show 3 < sizeLine; decide)
  rwa [put_begun] at z
theorem dput_left {H : Hp} {d c : Addr} {b l l' : Int} (h : H d = some (.dK (penL c b l))) : DPut H d (.str "left") (.int l') (upd H d (.dK (penL c b l'))) := by
  have z := DPut.k (k := Sum.inr "left") (v := .int l') h (by show 3 < sizeLine; decide)
  rwa [put_left] at z
theorem merge_pen (c : Addr) (b l : Int) : mergeK [] (penL c b l) = penL c b l := by
  have n1 := nk ks1
  have n2 := nk ks2
  have n3 := nk ks3
  simp [mergeK, putK, penL, n1, n2, n3]
/-! ### lists of ints as data -/
theorem dp_ints {K : PySem.W.Frag} {H : Hp} : ∀ ns : List Int, DpAll K H (ns.map V.int) (ns.map PyData.int)
  | [] => .nil
  | n :: ns => .cons (.int n) (dp_ints ns)
theorem ints_depth : ∀ ns : List Int, PyData.depthAll (ns.map PyData.int) ≤ 1
  | [] => by simp [PyData.depthAll]
  | n :: ns => by
    have := ints_depth ns
    simp only [List.map_cons, PyData.depthAll, PyData.depth]
    omega
theorem ints_can : ∀ ns : List Int, PyData.canLayAll0 (ns.map PyData.int) = true
  | [] => by simp [PyData.canLayAll0]
  | n :: ns => by simp only [List.map_cons, PyData.canLayAll0, PyData.canLay0, ints_can ns, Bool.and_true]
theorem ints_shaped (ns : List Int) : SeqAt.shaped (.list (ns.map PyData.int)) = true := by
  unfold SeqAt.shaped
  have h1 := ints_depth ns
  have h2 := ints_can ns
  have e1 : (PyData.list (ns.map PyData.int)).canLay0 = true := by simp only [PyData.canLay0, h2]
  have e2 : (PyData.list (ns.map PyData.int)).depth ≤ 64 := by
    simp only [PyData.depth]
    omega
  rw [e1, decide_eq_true e2]
  rfl
theorem ints_empty : ∀ ns : List Int, PyData.eqv (.list (ns.map PyData.int)) (.list []) = decide (ns = [])
  | [] => by simp [PyData.eqv, PyData.eqvAll]
  | n :: ns => by simp [PyData.eqv, PyData.eqvAll]
end K05

namespace K05
open PySem PySem.Spec PyProof.Rows L2 Ver Num F
section
variable {P : Program} {w : World} {K : PySem.W.Frag} {mg : Str → Option Value} {base : Heap}
/-! ### _law_pen -/
theorem cut_ints (ns : List Int) (lo hi : Option Int) : cutV (ns.map V.int) lo hi = ((ns.drop (HT.sIx ns.length 0 lo)).take (HT.sIx ns.length ns.length hi - HT.sIx ns.length 0 lo)).map V.int := by
  unfold cutV
  rw [List.length_map, List.map_take, List.map_drop]
def spPen (K : PySem.W.Frag) : Sp := fun vs H Q _ => ∃ (a : Addr) (ns : List Int), vs = [.ref a] ∧ SqL K H a (ns.map V.int) ∧ ns.length ≤ 63 ∧ ∀ (d : Addr) (H' : Hp), Same H H' → H d = none → PenAt H' d 0 → Q (.ref d) H'
theorem ok_pen (T : Tx K mg) : FnG P w K mg base CX0 1 (He.ga K "_law_pen") (spPen K) := by
  refine mk__law_pen T.d (fun vs H Q E h => ?_) (fun cdv A outer s H vs Q E hg hr h => ?_)
  · obtain ⟨a, ns, rfl, _⟩ := h
    rfl
  · obtain ⟨a, ns, rfl, hs, hl, q⟩ := h
    refine ⟨_, pss_one (ps_ret (pe_disp (pps_cons pe_str (pe_callTy call_list_of (by rfl) (T.z "list" (by decide +kernel)) (by decide +kernel) (pa_cons (pe_slice sl_list (pv 0) po_none (po_some pe_int)) pa_nil))
      (pps_cons pe_str pe_int (pps_cons pe_str pe_int pps_nil))) (by rfl) (by rfl) (fun z => by cases z) (by decide))), ?_⟩
    intro d nd
    have s0 := same_up (o := .dK []) nd
    refine ⟨_, rfl, 63, rfl, a, _, rfl, s0.seq hs, fun m nm => ?_⟩
    have s1 := same_up (o := .lst (cutV (ns.map V.int) none (some 63))) nm
    refine ⟨m, _, rfl, .inl (.inl (.inl upd_same)), fun c nc => ?_⟩
    have s2 := same_up (o := .lst (cutV (ns.map V.int) none (some 63))) nc
    have sa := (s0.trans s1).trans s2
    have dd : H d = none := nd
    have dm : d ≠ m := ne_of_none upd_same nm
    have dc : d ≠ c := fun z => by
      rw [← z, upd_ne dm, upd_same] at nc
      cases nc
    refine ⟨?_, penL c 0 0, rfl, by show 3 ≤ 15; decide, ?_⟩
    · rw [upd_ne dc, upd_ne dm, upd_same]
    · rw [merge_pen]
      refine q d _ (fun b o e => ?_) nd ⟨c, (ns.drop (HT.sIx ns.length 0 none)).take (HT.sIx ns.length ns.length (some 63) - HT.sIx ns.length 0 none), 0, 0, upd_same, ?_, ?_, by omega, by omega, by omega⟩
      · rw [upd_ne (ne_of_none e nd)]
        exact sa _ _ e
      · rw [upd_ne (Ne.symm dc), upd_same, cut_ints]
      · rw [List.length_take, List.length_drop]
        omega
/-! ### _law_draw -/
theorem em1 {X m : Int} (h : 0 < m) (h2 : m ≤ 2 ^ 64) : -(2 ^ 64) < X % m ∧ X % m < 2 ^ 64 := by
  have a := Int.emod_nonneg X (show m ≠ 0 by omega)
  have b := Int.emod_lt_of_pos X h
  omega
def spDraw : Sp := fun vs H Q _ => ∃ (d : Addr) (k n : Int), vs = [.ref d, .int n] ∧ PenAt H d k ∧ k < 1000000000000 ∧ 0 < n ∧ n < 1073741824 ∧
  ∀ (i : Int) (H' : Hp), But d H H' → PenAt H' d (k + 1) → 0 ≤ i → i < n → Q (.int i) H'
theorem ok_draw (T : Tx K mg) : FnG P w K mg base CX0 1 (He.ga K "_law_draw") spDraw := by
  refine mk__law_draw T.d (fun vs H Q E h => ?_) (fun cdv A outer s H vs Q E hg hr h => ?_)
  · obtain ⟨d, k, n, rfl, _⟩ := h
    rfl
  · obtain ⟨d, k, n, rfl, pen, k9, n0, n9, q⟩ := h
    have hu := hu_of hr
    have nd := sc__law_draw.nd
    have zi := T.z "int" (by decide +kernel)
    have zl := T.z "len" (by decide +kernel)
    have za := T.z "abs" (by decide +kernel)
    have bi : bootBuiltins "int" = some (.type "int") := by decide +kernel
    have bl : bootBuiltins "len" = some (.builtin "len") := by decide +kernel
    have ba : bootBuiltins "abs" = some (.builtin "abs") := by decide +kernel
    obtain ⟨c, cells, b, l, hd, hc, cl, b0, bk, l0⟩ := pen.ex
    have dc : d ≠ c := ne_of hd hc (by intro z; cases z)
    refine ⟨_, pss_cons (ps_if (pt_cmpR op_gt (pe_dget hu (pv 0) pe_str (fun _ _ => rfl)) pe_int (nomark _))
        (pss_cons (ps_set (i := 2) nd rfl (Or.inl rfl) (pe_op op_mod (pe_callTy call_int1 (by rfl) zi bi (pa_cons (pe_dget hu (pv 0) pe_str (fun _ _ => rfl)) pa_nil)) (pv 1)))
        (pss_cons (ps_dput hu (pv 0) pe_str (pe_op op_fdiv (pe_dget hu (pv 0) pe_str (fun _ _ => rfl)) (pv 1)) rfl)
        (pss_one (ps_ret (pv 2))))) pss_nil)
      (pss_cons (ps_set (i := 3) nd rfl (Or.inl rfl) (pe_dget hu (pv 0) pe_str (fun _ _ => rfl)))
      (pss_cons (ps_dput hu (pv 0) pe_str (pe_op op_add (pv 3) pe_int) rfl)
      (pss_cons (ps_set (i := 4) nd rfl (Or.inl rfl) (pe_op op_add (pe_op op_mul pe_int (pv 3)) pe_int))
      (pss_cons (ps_if (pt_cmpR (op_neD hr.units) (pe_dget hu (pv 0) pe_str (fun _ _ => rfl)) (pe_lst pa_nil) (nomark _))
        (pss_one (ps_set (i := 4) nd rfl (Or.inl rfl) (pe_ix ix_list (pe_dget hu (pv 0) pe_str (fun _ _ => rfl))
          (pe_op op_mod (pe_callTy call_int1 (by rfl) zi bi (pa_cons (pv 3) pa_nil)) (pe_callB call_len_seq (by rfl) zl bl (pa_cons (pe_dget hu (pv 0) pe_str (fun _ _ => rfl)) pa_nil))) (fun _ _ => rfl)))) pss_nil)
      (pss_cons (ps_if (PW.pt (pw_and (pt_cmpR op_lt (pv 3) (pe_callB call_len_seq (by rfl) zl bl (pa_cons (pe_dget hu (pv 0) pe_str (fun _ _ => rfl)) pa_nil)) (nomark _))
          (pw_and1 (pt_cmpR op_ge (pe_callB call_abs (by rfl) za ba (pa_cons (pv 4) pa_nil)) (pe_op op_pow pe_int pe_int) (nomark _)))))
        (pss_cons (ps_dput hu (pv 0) pe_str (pe_op op_fdiv (pe_op op_sub (pe_callB call_abs (by rfl) za ba (pa_cons (pv 4) pa_nil)) (pe_op op_pow pe_int pe_int)) (pv 1)) rfl)
        (pss_one (ps_ret (pe_op op_mod (pe_callTy call_int1 (by rfl) zi bi (pa_cons (pe_op op_sub (pe_callB call_abs (by rfl) za ba (pa_cons (pv 4) pa_nil)) (pe_op op_pow pe_int pe_int)) pa_nil)) (pv 1))))) pss_nil)
      (pss_cons (ps_set (i := 5) nd rfl (Or.inl rfl) (pe_op op_mul (pe_op op_mod (pe_callTy call_int1 (by rfl) zi bi (pa_cons (pv 4) pa_nil)) pe_int) pe_int))
      (pss_cons (ps_set (i := 6) nd rfl (Or.inl rfl) (pe_op op_mod (pe_callTy call_int1 (by rfl) zi bi (pa_cons (pe_op op_add (pe_op op_add (pv 5) (pe_op op_mul (pv 3) (pe_op op_add (pe_op op_mul pe_int (pv 3)) pe_int))) pe_int) pa_nil)) pe_int))
      (pss_cons (ps_set (i := 6) nd rfl (Or.inl rfl) (pe_op op_mod (pe_callTy call_int1 (by rfl) zi bi (pa_cons (pe_op op_add (pe_op op_add (pe_op op_add (pe_op op_mul (pv 6) (pv 6)) (pe_op op_mul pe_int (pv 6))) (pe_op op_mul pe_int (pv 3))) pe_int) pa_nil)) pe_int))
      (pss_one (ps_ret (pe_op op_mod (pe_callTy call_int1 (by rfl) zi bi (pa_cons (pe_op op_fdiv (pe_op op_mod (pe_callTy call_int1 (by rfl) zi bi (pa_cons (pe_op op_mul (pv 6) (pe_op op_add (pv 6) pe_int)) pa_nil)) pe_int) pe_int) pa_nil)) (pv 1)))))))))))), ?_⟩
    refine ⟨_, rfl, d, _, rfl, get_left hd, _, _, rfl, rfl, _, rfl, ?_⟩
    refine ite2 (fun hz => ?_) (fun hz => ?_)
    · -- the rest of a great cell
      refine ⟨_, rfl, d, _, rfl, get_left hd, .inl ⟨_, rfl, _, rfl, _, _, rfl, rfl, (by show 0 < n; omega), ?_⟩⟩
      refine ⟨_, rfl, d, _, rfl, get_left hd, _, rfl, _, _, rfl, rfl, ⟨by show 0 < n; omega, by show n < 1073741824; omega⟩, _, rfl, d, _, rfl, dput_left hd, ?_⟩
      refine ⟨_, rfl, q _ _ (but_up hd) ⟨c, cells, b, l / n, upd_same, by rw [upd_ne (Ne.symm dc)]; exact hc, cl, b0, by omega, Int.ediv_nonneg l0 (by omega)⟩ (Int.emod_nonneg _ (by omega)) (Int.emod_lt_of_pos _ n0)⟩
    · -- a new cell
      have hd1 : (upd H d (.dK (penL c (b + 1) l))) d = some (.dK (penL c (b + 1) l)) := upd_same
      have hc1 : (upd H d (.dK (penL c (b + 1) l))) c = some (.lst (cells.map V.int)) := by rw [upd_ne (Ne.symm dc)]; exact hc
      refine ⟨_, rfl, d, _, rfl, get_begun hd, ?_⟩
      refine ⟨_, rfl, _, _, rfl, rfl, _, rfl, d, _, rfl, dput_begun hd, ?_⟩
      refine ⟨_, rfl, _, _, rfl, rfl, .inl ⟨by decide, by decide⟩, _, _, rfl, rfl, ?_⟩
      refine ⟨_, rfl, d, _, rfl, get_cells hd1, Nat.zero_le _, fun z nz => ?_⟩
      have sz := same_up (o := .lst []) nz
      have hd2 := sz _ _ hd1
      have hc2 := sz _ _ hc1
      have bt : But d H (upd (upd H d (.dK (penL c (b + 1) l))) z (.lst [])) := (but_up hd).trans (But.same sz)
      refine ⟨.list (cells.map PyData.int), .list [], .lst (SqL.of hc2) (dp_ints cells), .lst (SqL.of upd_same) .nil, ints_shaped cells, ints_shaped [], _, rfl, ?_⟩
      rw [ints_empty]
      generalize upd (upd H d (.dK (penL c (b + 1) l))) z (.lst []) = H2 at hd2 hc2 bt
      have pen2 : ∀ l' : Int, 0 ≤ l' → PenAt (upd H2 d (.dK (penL c (b + 1) l'))) d (k + 1) := fun l' z0 => ⟨c, cells, b + 1, l', upd_same, by rw [upd_ne (Ne.symm dc)]; exact hc2, cl, by omega, by omega, z0⟩
      have pen0 : PenAt H2 d (k + 1) := ⟨c, cells, b + 1, l, hd2, hc2, cl, by omega, by omega, l0⟩
      by_cases he : cells = []
      all_goals
        first
        | (refine ifF (by rw [decide_eq_true he]; rfl) ?_)
        | (have hlen : 0 < (cells.map V.int).length := by
            rw [List.length_map]
            exact List.length_pos_iff.mpr he
           have hm0 := Int.emod_nonneg b (show (((cells.map V.int).length : Nat) : Int) ≠ 0 by omega)
           have hm1 := Int.emod_lt_of_pos b (show (0 : Int) < (((cells.map V.int).length : Nat) : Int) by omega)
           obtain ⟨j, hj⟩ : ∃ j : Nat, b % (((cells.map V.int).length : Nat) : Int) = (j : Int) := ⟨(b % (((cells.map V.int).length : Nat) : Int)).toNat, by omega⟩
           have jl : j < cells.length := by
            rw [hj, List.length_map] at hm1
            omega
           have hat : atI (cells.map V.int) (b % (((cells.map V.int).length : Nat) : Int)) = some (V.int cells[j]) := by
            rw [hj]
            exact atI_nat (by rw [List.getElem?_map, List.getElem?_eq_getElem jl]; rfl)
           refine ifT (by rw [decide_eq_false he]; rfl) ?_
           refine ⟨_, rfl, d, _, rfl, get_cells hd2, _, rfl, .inl ⟨_, rfl, _, rfl, d, _, rfl, get_cells hd2, c, _, rfl, .inl (SqL.of hc2), _, _, rfl, rfl, (by show (0 : Int) < (((cells.map V.int).length : Nat) : Int); omega), c, _, _, _, rfl, rfl, SqL.of hc2, hat, ?_⟩⟩)
        refine ⟨_, rfl, _, rfl, d, _, rfl, get_cells hd2, c, _, rfl, .inl (SqL.of hc2), _, _, rfl, rfl, _, rfl, ?_⟩
        refine ite2 (fun h1 => ?_) (fun h1 => iteF ?_)
        all_goals
          first
          | (refine ⟨_, rfl, _, rfl, _, _, rfl, rfl, ⟨by decide, by decide, by decide⟩, _, _, rfl, rfl, _, rfl, ?_⟩
             refine ite2 (fun h2 => ?_) (fun h2 => ?_))
          | skip
        all_goals
          first
          | (have h3 := of_decide_eq_true h2
             refine ⟨_, rfl, _, rfl, _, _, rfl, rfl, ⟨by decide, by decide, by decide⟩, _, _, rfl, rfl, _, rfl, _, _, rfl, rfl, ⟨by show 0 < n; omega, by show n < 1073741824; omega⟩, _, rfl, d, _, rfl, dput_left hd2, ?_⟩
             refine ⟨_, rfl, _, rfl, _, _, rfl, rfl, ⟨by decide, by decide, by decide⟩, _, _, rfl, rfl, .inl ⟨_, rfl, _, rfl, _, _, rfl, rfl, (by show 0 < n; omega), ?_⟩⟩
             exact q _ _ (bt.trans (but_up hd2)) (pen2 _ (Int.ediv_nonneg (Int.sub_nonneg.mpr h3) (by omega))) (Int.emod_nonneg _ (by omega)) (Int.emod_lt_of_pos _ n0))
          | (refine ⟨_, rfl, .inl ⟨_, rfl, _, _, rfl, rfl, (by show (0 : Int) < 4294967197; decide), _, _, rfl, rfl, .inr ⟨by decide, by decide⟩, ?_⟩⟩
             refine ⟨_, rfl, _, rfl, _, rfl, _, _, rfl, rfl, .inl ⟨by decide, by decide⟩, _, _, rfl, rfl, _, _, rfl, rfl, .inl ⟨by show -(2 ^ 64) < b; omega, by show b < 2 ^ 64; omega⟩, _, _, rfl, rfl, _, _, rfl, rfl, .inl ⟨_, rfl, _, _, rfl, rfl, (by show (0 : Int) < 4294967189; decide), ?_⟩⟩
             refine ⟨_, rfl, _, rfl, _, _, rfl, rfl, .inl (em1 (by decide) (by decide)), _, rfl, _, _, rfl, rfl, .inl ⟨by decide, by decide⟩, _, _, rfl, rfl, _, rfl, _, _, rfl, rfl, .inl ⟨by decide, by decide⟩, _, _, rfl, rfl, _, _, rfl, rfl, .inl ⟨_, rfl, _, _, rfl, rfl, (by show (0 : Int) < 4294967161; decide), ?_⟩⟩
             refine ⟨_, rfl, _, rfl, _, _, rfl, rfl, _, _, rfl, rfl, .inl (em1 (by decide) (by decide)), .inl ⟨_, rfl, _, _, rfl, rfl, (by show (0 : Int) < 4294967143; decide), _, _, rfl, rfl, ⟨by decide, by decide⟩, .inl ⟨_, rfl, _, rfl, _, _, rfl, rfl, (by show 0 < n; omega), ?_⟩⟩⟩
             exact q _ _ bt pen0 (Int.emod_nonneg _ (by omega)) (Int.emod_lt_of_pos _ n0))
end
end K05

namespace K05
open PySem PySem.Spec PyProof.Rows L2 Ver Num F
section
variable {P : Program} {w : World} {K : PySem.W.Frag} {mg : Str → Option Value} {base : Heap}
theorem pen_ne {H : Hp} {d a : Addr} {k : Int} {xs : List V} (p : PenAt H d k) (h : H a = some (.lst xs)) : a ≠ d := by
  obtain ⟨c, cells, b, l, h1, _⟩ := p.ex
  exact ne_of h h1 (by intro z; cases z)
/-! ### _law_pick, _law_prime, _law_number -/
def spPick : Sp := fun vs H Q _ => ∃ (d a : Addr) (k : Int) (xs : List V), vs = [.ref d, .ref a] ∧ PenAt H d k ∧ k < 1000000000000 ∧ H a = some (.lst xs) ∧ 0 < xs.length ∧ xs.length < 1000 ∧
  ∀ (x : V) (H' : Hp), x ∈ xs → But d H H' → PenAt H' d (k + 1) → Q x H'
theorem ok_pick (T : Tx K mg) : FnG P w K mg base CX0 2 (He.ga K "_law_pick") spPick := by
  refine mk__law_pick T.d (fun vs H Q E h => ?_) (fun cdv A outer s H vs Q E hg hr h => ?_)
  · obtain ⟨d, a, k, xs, rfl, _⟩ := h
    rfl
  · obtain ⟨d, a, k, xs, rfl, pen, k9, ha, l0, l9, q⟩ := h
    refine ⟨_, pss_one (ps_ret (pe_ix ix_list (pv 1) (pe_callG (ok_draw T) hr hg (by rfl) (T.g "_law_draw" (by decide +kernel)) (kp__law_draw T.d) pass0
      (pa_cons (pv 0) (pa_cons (pe_callB call_len_seq (by rfl) (T.z "len" (by decide +kernel)) (by decide +kernel) (pa_cons (pv 1) pa_nil)) pa_nil))) (fun _ _ => rfl))), ?_⟩
    refine ⟨_, rfl, _, rfl, _, rfl, a, xs, rfl, .inl (SqL.of ha), d, k, _, rfl, pen, k9, by omega, by omega, fun i H1 bt pen1 i0 i1 => ?_⟩
    have ha1 := bt.1 a _ ha (pen_ne pen ha)
    obtain ⟨j, rfl⟩ : ∃ j : Nat, i = (j : Int) := ⟨i.toNat, by omega⟩
    have jl : j < xs.length := by omega
    refine ⟨a, xs, _, xs[j], rfl, rfl, SqL.of ha1, atI_nat (List.getElem?_eq_getElem jl), q _ H1 (List.getElem_mem jl) bt pen1⟩
/-- what the text asks of a prime that it draws -/
structure Pm (p : Int) : Prop where
  md : Md p
  pr : prB Float64.isqrt p = true
  sq : Float64.isqrt p.toNat ≤ 1000000
theorem pm2 : Pm 2 := ⟨md2, by decide +kernel, by decide +kernel⟩
theorem pm3 : Pm 3 := ⟨md3, by decide +kernel, by decide +kernel⟩
theorem pm5 : Pm 5 := ⟨md5, by decide +kernel, by decide +kernel⟩
theorem pm7 : Pm 7 := ⟨md7, by decide +kernel, by decide +kernel⟩
theorem pm101 : Pm 101 := ⟨md101, by decide +kernel, by decide +kernel⟩
theorem pm1000003 : Pm 1000003 := ⟨md1000003, by decide +kernel, by decide +kernel⟩
def spPrime : Sp := fun vs H Q _ => ∃ (d : Addr) (k : Int), vs = [.ref d] ∧ PenAt H d k ∧ k < 1000000000000 ∧ ∀ (p : Int) (H' : Hp), Pm p → But d H H' → PenAt H' d (k + 1) → Q (.int p) H'
theorem ok_lprime (T : Tx K mg) : FnG P w K mg base CX0 3 (He.ga K "_law_prime") spPrime := by
  refine mk__law_prime T.d (fun vs H Q E h => ?_) (fun cdv A outer s H vs Q E hg hr h => ?_)
  · obtain ⟨d, k, rfl, _⟩ := h
    rfl
  · obtain ⟨d, k, rfl, pen, k9, q⟩ := h
    refine ⟨_, pss_one (ps_ret (pe_callG (ok_pick T) hr hg (by rfl) (T.g "_law_pick" (by decide +kernel)) (kp__law_pick T.d) pass0
      (pa_cons (pv 0) (pa_cons (pe_lst (pa_cons pe_int (pa_cons pe_int (pa_cons pe_int (pa_cons pe_int (pa_cons pe_int (pa_cons pe_int (pa_cons pe_int (pa_cons pe_int pa_nil))))))))) pa_nil)))), ?_⟩
    refine ⟨_, rfl, by show 8 ≤ sizeLine; decide, fun l nl => ?_⟩
    have s0 := same_up (o := .lst [V.int 2, V.int 2, V.int 3, V.int 3, V.int 5, V.int 7, V.int 101, V.int 1000003]) nl
    refine ⟨d, l, k, _, rfl, pen.same s0, k9, upd_same, by show 0 < 8; decide, by show 8 < 1000; decide, fun x H1 hx bt pen1 => ?_⟩
    have b := (But.same s0).trans bt
    simp only [List.mem_cons, List.not_mem_nil, or_false] at hx
    rcases hx with rfl | rfl | rfl | rfl | rfl | rfl | rfl | rfl
    · exact q _ H1 pm2 b pen1
    · exact q _ H1 pm2 b pen1
    · exact q _ H1 pm3 b pen1
    · exact q _ H1 pm3 b pen1
    · exact q _ H1 pm5 b pen1
    · exact q _ H1 pm7 b pen1
    · exact q _ H1 pm101 b pen1
    · exact q _ H1 pm1000003 b pen1
def spNumber : Sp := fun vs H Q _ => ∃ (d : Addr) (k p : Int), vs = [.ref d, .int p] ∧ PenAt H d k ∧ k < 1000000000 ∧ Md p ∧ ∀ (a : Int) (H' : Hp), 0 ≤ a → a < p → But d H H' → PenAt H' d (k + 2) → Q (.int a) H'
theorem ok_number (T : Tx K mg) : FnG P w K mg base CX0 3 (He.ga K "_law_number") spNumber := by
  refine mk__law_number T.d (fun vs H Q E h => ?_) (fun cdv A outer s H vs Q E hg hr h => ?_)
  · obtain ⟨d, k, p, rfl, _⟩ := h
    rfl
  · obtain ⟨d, k, p, rfl, pen, k9, m, q⟩ := h
    have hlo := m.lo
    have hhi := m.hi
    refine ⟨_, pss_one (ps_ret (pe_callG (ok_pick T) hr hg (by rfl) (T.g "_law_pick" (by decide +kernel)) (kp__law_pick T.d) pass0
      (pa_cons (pv 0) (pa_cons (pe_lst (pa_cons pe_int (pa_cons pe_int (pa_cons pe_int (pa_cons (pe_op op_sub (pe_callTy call_int1 (by rfl) (T.z "int" (by decide +kernel)) (by decide +kernel) (pa_cons (pv 1) pa_nil)) pe_int)
        (pa_cons (pe_callG (ok_draw T) (hr.mono (by decide)) hg (by rfl) (T.g "_law_draw" (by decide +kernel)) (kp__law_draw T.d) pass0 (pa_cons (pv 0) (pa_cons (pv 1) pa_nil))) pa_nil)))))) pa_nil)))), ?_⟩
    refine ⟨_, rfl, _, rfl, .inl ⟨_, rfl, _, _, rfl, rfl, _, rfl, _, rfl, d, k, p, rfl, pen, by omega, by omega, by omega, fun i H1 bt pen1 i0 i1 => ⟨by show 5 ≤ sizeLine; decide, fun l nl => ?_⟩⟩⟩
    have s0 := same_up (o := .lst [V.int 0, V.int 0, V.int 1, V.int (p - 1), V.int i]) nl
    refine ⟨d, l, k + 1, _, rfl, pen1.same s0, by omega, upd_same, by show 0 < 5; decide, by show 5 < 1000; decide, fun x H2 hx bt2 pen2 => ?_⟩
    have b := bt.trans ((But.same s0).trans bt2)
    have pen3 : PenAt H2 d (k + 2) := pen2.mono (by omega)
    simp only [List.mem_cons, List.not_mem_nil, or_false] at hx
    rcases hx with rfl | rfl | rfl | rfl | rfl
    · exact q _ H2 (by omega) (by omega) b pen3
    · exact q _ H2 (by omega) (by omega) b pen3
    · exact q _ H2 (by omega) (by omega) b pen3
    · exact q _ H2 (by omega) (by omega) b pen3
    · exact q _ H2 i0 i1 b pen3
end
end K05

namespace Num
theorem fmod_lt {a b : Int} (h : b ≠ 0) : (a.fmod b).natAbs < b.natAbs := by
  rw [Int.fmod_eq_emod]
  have h0 := Int.emod_nonneg a h
  by_cases c : 0 ≤ b
  · have h1 := Int.emod_lt_of_pos a (show 0 < b by omega)
    rw [if_pos (.inl c)]
    omega
  · have h1 := Int.emod_lt_of_neg a (show b < 0 by omega)
    by_cases d : b ∣ a
    · rw [if_pos (.inr d), Int.emod_eq_zero_of_dvd d]
      omega
    · have h2 : a % b ≠ 0 := fun z => d (Int.dvd_of_emod_eq_zero z)
      rw [if_neg (by rintro (z | z); exact c z; exact d z)]
      omega
theorem gcd_fmod (a b : Int) : Int.gcd b (a.fmod b) = Int.gcd a b := by
  rw [Int.fmod_def, Int.gcd_sub_mul_left_right, Int.gcd_comm]
end Num
namespace Ver
open PySem PySem.Spec PyProof.Rows L2
/-- a part that is not run -/
theorem pe_dead {X : Cx} {e : Expr} : PE X e (fun _ _ _ => False) := ⟨fun _ _ _ _ _ _ h => h.elim⟩
end Ver
namespace K05
open PySem PySem.Spec PyProof.Rows L2 Ver Num F
section
variable {P : Program} {w : World} {K : PySem.W.Frag} {mg : Str → Option Value} {base : Heap}
/-! ### _law_two, _law_tens, _law_signed, _law_gcd, _law_told -/
theorem ok_two (T : Tx K mg) : FnG P w K mg base CX0 1 (He.ga K "_law_two") (spParts K) := by
  refine mk__law_two T.d (fun vs H Q E h => ?_) (fun cdv A outer s H vs Q E hg hr h => ?_)
  · obtain ⟨x, t, b, rfl, _⟩ := h
    rfl
  · obtain ⟨x, t, b, rfl, n, q⟩ := h
    refine ⟨_, pss_one (ps_ret (pe_ifExp (pt_val (pe_callB call_isi (by rfl) (T.z "isinstance" (by decide +kernel)) (by decide +kernel) (pa_cons (pv 0) (pa_cons (pe_bltn (v := .ty "tuple") (by rfl) (T.z "tuple" (by decide +kernel)) (by decide +kernel) rfl) pa_nil))))
      (pv 0) (pe_tup (pa_cons (pv 0) (pa_cons pe_int pa_nil))))), ?_⟩
    rcases n with ⟨rfl, rfl⟩ | ⟨a, rfl, ha⟩
    · refine ⟨_, rfl, _, _, _, _, false, rfl, .ty "tuple", .base (.int t), kit_ty (by decide +kernel), _, rfl, ?_⟩
      exact ifF rfl ⟨_, rfl, (by show 2 ≤ sizeLine; decide), fun p np => q p _ (same_up np) upd_same⟩
    · refine ⟨_, rfl, _, _, _, _, true, rfl, .ty "tuple", .base (.tup ha), kit_ty (by decide +kernel), _, rfl, ?_⟩
      exact ifT rfl ⟨_, rfl, q a H (Same.refl H) ha⟩
def spSigned : Sp := fun vs H Q _ => ∃ (d : Addr) (k n : Int), vs = [.ref d, .int n] ∧ PenAt H d k ∧ k < 1000000 ∧ ∀ (m : Int) (H' : Hp), absI m = absI n → But d H H' → PenAt H' d (k + 1) → Q (.int m) H'
theorem ok_signed (T : Tx K mg) : FnG P w K mg base CX0 2 (He.ga K "_law_signed") spSigned := by
  refine mk__law_signed T.d (fun vs H Q E h => ?_) (fun cdv A outer s H vs Q E hg hr h => ?_)
  · obtain ⟨d, k, n, rfl, _⟩ := h
    rfl
  · obtain ⟨d, k, n, rfl, pen, k9, q⟩ := h
    refine ⟨_, pss_one (ps_ret (pe_ifExp (pt_cmpR op_eq (pe_callG (ok_draw T) hr hg (by rfl) (T.g "_law_draw" (by decide +kernel)) (kp__law_draw T.d) pass0 (pa_cons (pv 0) (pa_cons pe_int pa_nil))) pe_int (nomark _))
      (pv 1) (pe_op op_sub pe_int (pv 1)))), ?_⟩
    refine ⟨_, rfl, d, k, 2, rfl, pen, by omega, by decide, by decide, fun i H1 bt pen1 i0 i1 => ⟨rfl, _, rfl, ?_⟩⟩
    rw [iEq]
    by_cases e : i = 0
    · exact ifT (decide_eq_true e) ⟨_, rfl, q _ H1 rfl bt pen1⟩
    · refine ifF (decide_eq_false e) ⟨_, rfl, _, _, rfl, rfl, q _ H1 ?_ bt pen1⟩
      unfold absI
      split <;> split <;> omega
def spGcd : Sp := fun vs H Q _ => ∃ (a b : Int), vs = [.int a, .int b] ∧ Q (.int ((Nat.gcd a.natAbs b.natAbs : Nat) : Int)) H
theorem ok_gcd (T : Tx K mg) : FnG P w K mg base CX0 1 (He.ga K "_law_gcd") spGcd := by
  refine mk__law_gcd T.d (fun vs H Q E h => ?_) (fun cdv A outer s H vs Q E hg hr h => ?_)
  · obtain ⟨a, b, rfl, _⟩ := h
    rfl
  · obtain ⟨a, b, rfl, q⟩ := h
    refine ⟨_, pss_cons (ps_while PassesOwn.never (pt_cmpR op_ne (pv 1) pe_int (nomark _))
        (pss_one (ps_par (i := 0) (j := 1) rfl sc__law_gcd.nd rfl rfl (by decide) rfl rfl (pa_cons (pv 1) (pa_cons (pe_op op_modN (pe_callTy call_int1 (by rfl) (T.z "int" (by decide +kernel)) (by decide +kernel) (pa_cons (pv 0) pa_nil)) (pv 1)) pa_nil)) (by rfl))))
      (pss_one (ps_ret (pe_callB call_abs (by rfl) (T.z "abs" (by decide +kernel)) (by decide +kernel) (pa_cons (pv 0) pa_nil)))), ?_⟩
    refine ⟨fun k σ H' => ∃ x y : Int, k = y.natAbs ∧ H' = H ∧ σ = [some (.int x), some (.int y)] ∧ Int.gcd x y = Int.gcd a b, ⟨_, a, b, rfl, rfl, rfl, rfl⟩, ?_⟩
    rintro k σ H' ⟨x, y, rfl, rfl, rfl, g⟩
    refine ⟨_, rfl, rfl, _, rfl, ?_⟩
    rw [iEq]
    by_cases y0 : y = 0
    · subst y0
      refine ifF (by decide) ⟨_, rfl, _, rfl, ?_⟩
      have e : (if x < 0 then -x else x) = ((Nat.gcd a.natAbs b.natAbs : Nat) : Int) := by
        have g2 : x.natAbs = Nat.gcd a.natAbs b.natAbs := by
          rw [Int.gcd_zero_right] at g
          exact g
        rw [← g2]
        split <;> omega
      rw [e]
      exact q
    · refine ifT (by rw [decide_eq_false y0]; rfl) ?_
      refine ⟨fun σ' H'' => ∃ x' y' : Int, y'.natAbs < y.natAbs ∧ H'' = H' ∧ σ' = [some (.int x'), some (.int y')] ∧ Int.gcd x' y' = Int.gcd a b, ?_, ?_⟩
      · rintro σ' H' ⟨x', y', hlt, e1, e2, e3⟩
        exact ⟨_, hlt, x', y', rfl, e1, e2, e3⟩
      · refine ⟨_, rfl, _, rfl, .inl ⟨_, rfl, _, rfl, _, _, rfl, rfl, y0, _, _, rfl, ?_⟩⟩
        exact ⟨_, _, fmod_lt y0, rfl, rfl, by rw [gcd_fmod]; exact g⟩
theorem dvs_neg0 {t b : Int} (h : b < 0) : dvs t b = 0 - ((Nat.gcd t.natAbs b.natAbs : Nat) : Int) := by
  rw [dvs_neg h]
  omega
theorem ok_told (T : Tx K mg) : FnG P w K mg base CX0 2 (He.ga K "_law_told") spShort := by
  refine mk__law_told T.d (fun vs H Q E h => ?_) (fun cdv A outer s H vs Q E hg hr h => ?_)
  · obtain ⟨t, b, rfl, _⟩ := h
    rfl
  · obtain ⟨t, b, rfl, b0, bb, q⟩ := h
    have nd := sc__law_told.nd
    have gg := T.g "_law_gcd" (by decide +kernel)
    refine ⟨_, pss_cons (ps_set (i := 2) nd rfl (Or.inl rfl) (pe_ifExp (pt_cmpR op_gt (pv 1) pe_int (nomark _)) (pe_callG (ok_gcd T) hr hg (by rfl) gg (kp__law_gcd T.d) pass0 (pa_cons (pv 0) (pa_cons (pv 1) pa_nil)))
        (pe_op op_sub pe_int (pe_callG (ok_gcd T) hr hg (by rfl) gg (kp__law_gcd T.d) pass0 (pa_cons (pv 0) (pa_cons (pv 1) pa_nil))))))
      (pss_one (ps_ret (pe_ifExp (pt_cmpR op_eq (pv 1) (pv 2) (nomark _)) (pe_op op_fdivZ (pv 0) (pv 2)) (pe_tup (pa_cons (pe_op op_fdivZ (pv 0) (pv 2)) (pa_cons (pe_op op_fdivZ (pv 1) (pv 2)) pa_nil)))))), ?_⟩
    obtain ⟨o1, o2, o3, o4, _, _⟩ := dvs_out (t := t) b0
    have o5 := dvs_log (t := t) b0 bb (by decide) (by decide)
    refine ⟨_, rfl, _, _, rfl, rfl, _, rfl, ?_⟩
    by_cases hn : b < 0
    · rw [dvs_neg0 hn] at o1 o2 o3 o4 o5
      refine ifF (decide_eq_false (by omega)) ⟨_, rfl, _, rfl, t, b, rfl, _, _, rfl, rfl, ?_⟩
      refine ⟨_, rfl, _, rfl, rfl, _, rfl, ?_⟩
      rw [iEq]
      by_cases e : b = 0 - ((Nat.gcd t.natAbs b.natAbs : Nat) : Int)
      · exact ifT (decide_eq_true e) ⟨_, rfl, _, rfl, _, _, rfl, rfl, ⟨o1, o5⟩, q _ H (Same.refl H) (NumQ.int o2.symm (o4.mp e) rfl)⟩
      · refine ifF (decide_eq_false e) ⟨_, rfl, _, rfl, _, _, rfl, rfl, ⟨o1, o5⟩, _, rfl, _, rfl, _, _, rfl, rfl, ⟨o1, o5⟩, by show 2 ≤ sizeLine; decide, fun p np => q _ _ (same_up np) (.inr ⟨fun z => e (o4.mpr z), p, rfl, ?_⟩)⟩
        rw [← o2, ← o3]
        exact upd_same
    · rw [dvs_nn hn] at o1 o2 o3 o4 o5
      refine ifT (decide_eq_true (by omega)) ⟨_, rfl, _, rfl, t, b, rfl, ?_⟩
      refine ⟨_, rfl, _, rfl, rfl, _, rfl, ?_⟩
      rw [iEq]
      by_cases e : b = ((Nat.gcd t.natAbs b.natAbs : Nat) : Int)
      · exact ifT (decide_eq_true e) ⟨_, rfl, _, rfl, _, _, rfl, rfl, ⟨o1, o5⟩, q _ H (Same.refl H) (NumQ.int o2.symm (o4.mp e) rfl)⟩
      · refine ifF (decide_eq_false e) ⟨_, rfl, _, rfl, _, _, rfl, rfl, ⟨o1, o5⟩, _, rfl, _, rfl, _, _, rfl, rfl, ⟨o1, o5⟩, by show 2 ≤ sizeLine; decide, fun p np => q _ _ (same_up np) (.inr ⟨fun z => e (o4.mpr z), p, rfl, ?_⟩)⟩
        rw [← o2, ← o3]
        exact upd_same
end
end K05

/-! Both kinds of fields over Rat: their operations, the rules of numbers, remainders of fractions. -/
namespace Num
open Rat
inductive Fk where
  | fr
  | md (p : Int)
def Fk.code : Fk → Int
  | .fr => 0
  | .md p => p
def Fk.ok : Fk → Prop
  | .fr => True
  | .md p => Md p
def iq (i : Int) : Rat := ((i : Int) : Rat)
theorem iq_num (i : Int) : (iq i).num = i := rfl
theorem iq_den (i : Int) : (iq i).den = 1 := rfl
theorem iq_eq {q : Rat} (h : q.den = 1) : q = iq q.num := by
  apply Rat.ext
  · rfl
  · exact h
def addG : Fk → Rat → Rat → Rat
  | .fr, a, b => a + b
  | .md p, a, b => iq ((a.num + b.num) % p)
def subG : Fk → Rat → Rat → Rat
  | .fr, a, b => a - b
  | .md p, a, b => iq ((a.num - b.num) % p)
def mulG : Fk → Rat → Rat → Rat
  | .fr, a, b => a * b
  | .md p, a, b => iq ((a.num * b.num) % p)
def Sz : Fk → Nat → Rat → Prop
  | .fr, n, q => Bq n q
  | .md p, _, q => q.den = 1 ∧ 0 ≤ q.num ∧ q.num < p
theorem Sz.mono {φ : Fk} {m n : Nat} {q : Rat} (h : Sz φ m q) (hl : m ≤ n) : Sz φ n q := by
  cases φ with
  | fr => exact Bq.mono h hl
  | md p => exact h
theorem emod_r (a b n : Int) : (a * (b % n)) % n = (a * b) % n := by
  rw [Int.mul_emod, Int.emod_emod, ← Int.mul_emod]
theorem emod_l (a b n : Int) : (a % n * b) % n = (a * b) % n := by
  rw [Int.mul_emod, Int.emod_emod, ← Int.mul_emod]
theorem sz_md {p i : Int} {n : Nat} (h : Md p) : Sz (.md p) n (iq (i % p)) := by
  have := h.lo
  exact ⟨rfl, Int.emod_nonneg _ (by omega), Int.emod_lt_of_pos _ (by omega)⟩
theorem md_self {p : Int} {n : Nat} {a : Rat} (h : Sz (.md p) n a) : iq (a.num % p) = a := by
  obtain ⟨h1, h2, h3⟩ := h
  rw [Int.emod_eq_of_lt h2 h3]
  exact (iq_eq h1).symm
theorem addG_comm (φ : Fk) (a b : Rat) : addG φ a b = addG φ b a := by
  cases φ with
  | fr => exact Rat.add_comm a b
  | md p => simp only [addG, Int.add_comm]
theorem mulG_comm (φ : Fk) (a b : Rat) : mulG φ a b = mulG φ b a := by
  cases φ with
  | fr => exact Rat.mul_comm a b
  | md p => simp only [mulG, Int.mul_comm]
theorem addG_assoc (φ : Fk) (a b c : Rat) : addG φ (addG φ a b) c = addG φ a (addG φ b c) := by
  cases φ with
  | fr => exact Rat.add_assoc a b c
  | md p => simp only [addG, iq_num, Int.emod_add_emod, Int.add_emod_emod, Int.add_assoc]
theorem mulG_assoc (φ : Fk) (a b c : Rat) : mulG φ (mulG φ a b) c = mulG φ a (mulG φ b c) := by
  cases φ with
  | fr => exact Rat.mul_assoc a b c
  | md p => simp only [mulG, iq_num, emod_l, emod_r, Int.mul_assoc]
theorem mulG_add (φ : Fk) (a b c : Rat) : mulG φ a (addG φ b c) = addG φ (mulG φ a b) (mulG φ a c) := by
  cases φ with
  | fr => exact Rat.mul_add a b c
  | md p => simp only [mulG, addG, iq_num, emod_r, Int.emod_add_emod, Int.add_emod_emod, Int.mul_add]
theorem subG_add {φ : Fk} {n : Nat} {a b : Rat} (h : Sz φ n a) : addG φ (subG φ a b) b = a := by
  cases φ with
  | fr => exact Rat.sub_add_cancel
  | md p =>
    simp only [addG, subG, iq_num, Int.emod_add_emod, Int.sub_add_cancel]
    exact md_self h
theorem subG_self (φ : Fk) (a : Rat) : subG φ a a = 0 := by
  cases φ with
  | fr => exact Rat.sub_self
  | md p =>
    simp only [subG, Int.sub_self, Int.zero_emod]
    rfl
theorem addG_zero {φ : Fk} {n : Nat} {a : Rat} (h : Sz φ n a) : addG φ a 0 = a := by
  cases φ with
  | fr => exact Rat.add_zero a
  | md p =>
    have e : (0 : Rat).num = 0 := rfl
    simp only [addG, e, Int.add_zero]
    exact md_self h
theorem mulG_one {φ : Fk} {n : Nat} {a : Rat} (h : Sz φ n a) : mulG φ a 1 = a := by
  cases φ with
  | fr => exact Rat.mul_one a
  | md p =>
    have e : (1 : Rat).num = 1 := rfl
    simp only [mulG, e, Int.mul_one]
    exact md_self h
theorem mulG_zero (φ : Fk) (a : Rat) : mulG φ a 0 = 0 := by
  cases φ with
  | fr => exact Rat.mul_zero a
  | md p =>
    have e : (0 : Rat).num = 0 := rfl
    simp only [mulG, e, Int.mul_zero, Int.zero_emod]
    rfl
theorem sub_sub {φ : Fk} {n : Nat} {a : Rat} (h : Sz φ n a) : subG φ 0 (subG φ 0 a) = a := by
  cases φ with
  | fr =>
    show (0 : Rat) - (0 - a) = a
    rw [Rat.sub_eq_add_neg, Rat.sub_eq_add_neg, Rat.zero_add, Rat.zero_add, Rat.neg_neg]
  | md p =>
    have e : (0 : Rat).num = 0 := rfl
    simp only [subG, e, iq_num, Int.sub_emod_emod]
    have e2 : (0 : Int) - (0 - a.num) = a.num := by omega
    rw [e2]
    exact md_self h
/-! ### coprime to the modulus -/
theorem cop {p x : Int} (m : Md p) (h : ¬ p ∣ x) : Nat.gcd p.natAbs x.natAbs = 1 := by
  have hlo := m.lo
  have h0 := Int.emod_nonneg x (show p ≠ 0 by omega)
  have h1 := Int.emod_lt_of_pos x (show 0 < p by omega)
  have hz : x % p ≠ 0 := fun z => h (Int.dvd_of_emod_eq_zero z)
  have g := m.pr (x % p) (by omega) h1
  have e : Int.gcd (x % p) p = Int.gcd x p := by
    rw [Int.emod_def, Int.gcd_sub_mul_left_left]
  rw [e] at g
  rw [Nat.gcd_comm]
  exact g
theorem dvd_mul_cop {p x y : Int} (m : Md p) (hy : ¬ p ∣ y) (h : p ∣ x * y) : p ∣ x := by
  have c := cop m hy
  rw [← Int.natAbs_dvd_natAbs] at h ⊢
  rw [Int.natAbs_mul] at h
  exact Nat.Coprime.dvd_of_dvd_mul_right c h
theorem not_dvd_mul {p x y : Int} (m : Md p) (hx : ¬ p ∣ x) (hy : ¬ p ∣ y) : ¬ p ∣ x * y := fun h => hx (dvd_mul_cop m hy h)
theorem eq_of_dvd {p a b : Int} (a0 : 0 ≤ a) (ap : a < p) (b0 : 0 ≤ b) (bp : b < p) (h : p ∣ a - b) : a = b := by
  have e : (a - b) % p = 0 := Int.emod_eq_zero_of_dvd h
  have e2 : a % p = b % p := Int.emod_eq_emod_iff_emod_sub_eq_zero.mpr e
  rw [Int.emod_eq_of_lt a0 ap, Int.emod_eq_of_lt b0 bp] at e2
  exact e2
theorem dvd_of_emod {p a b : Int} (h : a % p = b % p) : p ∣ a - b := Int.dvd_of_emod_eq_zero (Int.emod_eq_emod_iff_emod_sub_eq_zero.mp h)
/-! ### quotients -/
theorem mulG_cancel {φ : Fk} {n m : Nat} {a b c : Rat} (ok : φ.ok) (ha : Sz φ n a) (hc : Sz φ m c) (hb : Sz φ n b) (b0 : b ≠ 0) (h : mulG φ c b = mulG φ a b) : c = a := by
  cases φ with
  | fr =>
    have h2 : c * b = a * b := h
    have e : c * b * b⁻¹ = a * b * b⁻¹ := by rw [h2]
    rwa [Rat.mul_assoc, Rat.mul_assoc, Rat.mul_inv_cancel b b0, Rat.mul_one, Rat.mul_one] at e
  | md p =>
    have ok : Md p := ok
    obtain ⟨a1, a2, a3⟩ := ha
    obtain ⟨b1, b2, b3⟩ := hb
    obtain ⟨c1, c2, c3⟩ := hc
    have h2 : (c.num * b.num) % p = (a.num * b.num) % p := congrArg Rat.num h
    have nb : ¬ p ∣ b.num := fun z => by
      have z2 := Int.emod_eq_zero_of_dvd z
      rw [Int.emod_eq_of_lt b2 b3] at z2
      exact b0 (Rat.num_eq_zero.mp z2)
    have d := dvd_of_emod h2
    rw [← Int.sub_mul] at d
    have e := eq_of_dvd c2 c3 a2 a3 (dvd_mul_cop ok nb d)
    rw [iq_eq c1, iq_eq a1, e]
theorem div_mul {a b : Rat} (b0 : b ≠ 0) : (a.num * b.den) /. ((a.den : Int) * b.num) * b = a := by
  have bn : b.num ≠ 0 := fun z => b0 (Rat.num_eq_zero.mp z)
  have bd : (b.den : Int) ≠ 0 := by have := den_pos' b; omega
  conv => lhs; rhs; rw [← Rat.num_divInt_den b]
  rw [Rat.divInt_mul_divInt]
  have e1 : a.num * (b.den : Int) * b.num = a.num * ((b.den : Int) * b.num) := Int.mul_assoc _ _ _
  have e2 : (a.den : Int) * b.num * (b.den : Int) = a.den * ((b.den : Int) * b.num) := by rw [Int.mul_assoc, Int.mul_comm b.num]
  rw [e1, e2, Rat.divInt_mul_right (Int.mul_ne_zero bd bn), Rat.num_divInt_den]
/-! ### remainders of fractions -/
/-- c is the remainder of q modulo p -/
def Rem (p : Int) (q : Rat) (c : Int) : Prop := ¬ p ∣ (q.den : Int) ∧ 0 ≤ c ∧ c < p ∧ (c * q.den) % p = q.num % p
theorem cross {N D : Int} (hD : D ≠ 0) : N * ((N /. D).den : Int) = (N /. D).num * D := by
  obtain ⟨t', b', h1, h2, h3, h4, h5, h6⟩ := dvs_ex (t := N) hD
  rw [h5, h6]
  generalize dvs N D = d at *
  rw [h1, h2, Int.mul_assoc, ← Int.mul_assoc t' d b', Int.mul_comm t' d, Int.mul_assoc]
theorem den_dvd {N D : Int} (hD : D ≠ 0) : ((N /. D).den : Int) ∣ D := by
  obtain ⟨t', b', h1, h2, h3, h4, h5, h6⟩ := dvs_ex (t := N) hD
  rw [h6]
  exact ⟨dvs N D, by rw [Int.mul_comm]; exact h2⟩
theorem rem_nd {p N D : Int} (hD : D ≠ 0) (h : ¬ p ∣ D) : ¬ p ∣ ((N /. D).den : Int) := fun z => h (Int.dvd_trans z (den_dvd hD))
theorem rem_is {p N D c c' : Int} (m : Md p) (hD : D ≠ 0) (nD : ¬ p ∣ D) (c0 : 0 ≤ c) (cp : c < p) (h : (c * D) % p = N % p) (r : Rem p (N /. D) c') : c' = c := by
  obtain ⟨r1, r2, r3, r4⟩ := r
  have x := cross (N := N) hD
  generalize (N /. D).num = n at *
  generalize ((N /. D).den : Int) = d at *
  refine eq_of_dvd r2 r3 c0 cp (dvd_mul_cop m (not_dvd_mul m r1 nD) ?_)
  obtain ⟨u, hu⟩ := dvd_of_emod r4
  obtain ⟨v, hv⟩ := dvd_of_emod h
  have e1 : c' * d = n + p * u := by omega
  have e2 : c * D = N + p * v := by omega
  refine ⟨u * D - v * d, ?_⟩
  have e3 : (c' - c) * (d * D) = c' * d * D - c * D * d := by
    rw [Int.sub_mul, Int.mul_assoc c' d D, Int.mul_assoc c D d, Int.mul_comm D d]
  rw [e3, e1, e2, Int.add_mul, Int.add_mul, x, Int.mul_sub, Int.mul_assoc, Int.mul_assoc]
  omega
theorem dd_ne0 (a b : Rat) : (a.den : Int) * b.den ≠ 0 := Int.mul_ne_zero (by have := den_pos' a; omega) (by have := den_pos' b; omega)
theorem rem_add {p : Int} {a b : Rat} {c e f : Int} (m : Md p) (ha : Rem p a c) (hb : Rem p b e) (h : Rem p (a + b) f) : f = (c + e) % p := by
  obtain ⟨a1, a2, a3, a4⟩ := ha
  obtain ⟨b1, b2, b3, b4⟩ := hb
  have hlo := m.lo
  rw [← add_is] at h
  refine rem_is m (dd_ne0 a b) (not_dvd_mul m a1 b1) (Int.emod_nonneg _ (by omega)) (Int.emod_lt_of_pos _ (by omega)) ?_ h
  rw [emod_l, Int.add_mul, Int.add_emod, ← Int.mul_assoc, Int.mul_comm (a.den : Int), ← Int.mul_assoc, Int.mul_emod (c * (a.den : Int)), a4, ← Int.mul_emod, Int.mul_emod (e * (b.den : Int)), b4, ← Int.mul_emod, ← Int.add_emod]
theorem rem_mul {p : Int} {a b : Rat} {c e f : Int} (m : Md p) (ha : Rem p a c) (hb : Rem p b e) (h : Rem p (a * b) f) : f = (c * e) % p := by
  obtain ⟨a1, a2, a3, a4⟩ := ha
  obtain ⟨b1, b2, b3, b4⟩ := hb
  have hlo := m.lo
  rw [← mul_is] at h
  refine rem_is m (dd_ne0 a b) (not_dvd_mul m a1 b1) (Int.emod_nonneg _ (by omega)) (Int.emod_lt_of_pos _ (by omega)) ?_ h
  have e1 : c * e * ((a.den : Int) * b.den) = c * a.den * (e * b.den) := by
    rw [Int.mul_assoc, Int.mul_assoc, ← Int.mul_assoc e, Int.mul_comm e (a.den : Int), Int.mul_assoc (a.den : Int)]
  rw [emod_l, e1, Int.mul_emod (c * (a.den : Int)), a4, b4, ← Int.mul_emod]
theorem num_nd {p : Int} {b : Rat} {e : Int} (m : Md p) (hb : Rem p b e) (e0 : e ≠ 0) : ¬ p ∣ b.num := fun z => by
  obtain ⟨b1, b2, b3, b4⟩ := hb
  rw [Int.emod_eq_zero_of_dvd z] at b4
  have d := dvd_mul_cop m b1 (Int.dvd_of_emod_eq_zero b4)
  have := Int.le_of_dvd (by omega) d
  omega
theorem rem_div {p : Int} {a b : Rat} {c e f g : Int} (m : Md p) (ha : Rem p a c) (hb : Rem p b e) (e0 : e ≠ 0) (g0 : 0 ≤ g) (gp : g < p) (hg : (g * e) % p = c) (h : Rem p ((a.num * b.den) /. ((a.den : Int) * b.num)) f) : f = g := by
  have nb := num_nd m hb e0
  obtain ⟨a1, a2, a3, a4⟩ := ha
  obtain ⟨b1, b2, b3, b4⟩ := hb
  have bn : b.num ≠ 0 := fun z => nb (by rw [z]; exact Int.dvd_zero p)
  refine rem_is m (Int.mul_ne_zero (by have := den_pos' a; omega) bn) (not_dvd_mul m a1 nb) g0 gp ?_ h
  have x1 : (g * ((a.den : Int) * b.num)) % p = (g * ((a.den : Int) * (e * b.den))) % p := by
    rw [Int.mul_emod g, Int.mul_emod (a.den : Int) b.num, ← b4, ← Int.mul_emod (a.den : Int), ← Int.mul_emod g]
  have x2 : g * ((a.den : Int) * (e * b.den)) = g * e * (a.den * b.den) := by
    rw [Int.mul_assoc g e, ← Int.mul_assoc e (a.den : Int), Int.mul_comm e (a.den : Int), Int.mul_assoc (a.den : Int)]
  have x3 : (g * e * ((a.den : Int) * b.den)) % p = (c * (a.den * b.den)) % p := by
    rw [Int.mul_emod (g * e), hg]
    exact emod_r c _ p
  rw [x1, x2, x3, ← Int.mul_assoc, Int.mul_emod (c * (a.den : Int)), a4, ← Int.mul_emod]
end Num

namespace Ver
open PySem PySem.Spec PyProof.Rows L2
section
variable {P : Program} {w : World} {K : PySem.W.Frag} {mg : Str → Option Value} {base : Heap} {CX : CXT} {k : Nat} {f : Addr} {sp sp1 sp2 : Sp}
theorem FnG.either (F1 : FnG P w K mg base CX k f sp1) (F2 : FnG P w K mg base CX k f sp2) (h : ∀ vs H Q E, sp vs H Q E → sp1 vs H Q E ∨ sp2 vs H Q E) : FnG P w K mg base CX k f sp := fun A outer s H us vs Q E g hr e0 r q =>
  (h vs H Q E q).elim (F1 A outer s H us vs Q E g hr e0 r) (F2 A outer s H us vs Q E g hr e0 r)
end
section
variable {X : Cx} {CX : CXT} {k : Nat} {f C : Addr} {sp : Sp} {E : XK} {x : Str} {p pos : Pos}
/-- C() -/
theorem pe_makeG0 (M : Mk X.K C f) (F : FnG X.prog X.w X.K X.mg X.base CX k f sp) (hr : Room (k + 1) X.A) (hgd : X.A.guards = some []) (hg : Gl X x) (hm : X.mg x = some (.ref C)) (hx : Passes CX X E)
    (hdb : (x == ("__debug__" : Str)) = false := by decide) : PE X (.Call (.Name x p) [] [] pos) (StX.tMakeR C sp E tNil) := by
  refine ⟨fun pins s σ H Q I q => wpAny_Call_Name_kw (ld_glob I hg hm (PySem.W.callWith_K0 I.kIn M.kp ?_) hdb)⟩
  show wpAny _ _ (call (.ref C) []) _ _ _
  refine wpAny_call (make_map (f := f) I.kIn M.makes M.init (beq_iff_eq.mp M.fn) ?_)
  have q2 := q (s.heap.objs.size + 1) s.heap.objs.size (I.hok.fresh (Nat.le_succ _)) (I.hok.fresh (Nat.le_refl _)) (Nat.ne_of_lt (Nat.lt_succ_self _))
  have I2 := Inv.made (C := C) I
  refine codeAny_mono (F _ X.stack _ _ (Value.ref (s.heap.objs.size + 1) :: []) (V.ref (s.heap.objs.size + 1) :: []) _ E (made_guards hgd C []) (hr.make C [] []) (I2.env0.make C [] []) (.cons rfl .nil) q2) fun rs s' hq => ?_
  match rs, hq with
  | .error e', hq => exact hx pins σ _ _ e' s' I2 hq
  | .ok (.ret u), hq =>
    obtain ⟨v, H', I3, rv, ev, q3⟩ := I2.after hq
    subst ev
    exact ⟨rv, V.ref (s.heap.objs.size + 1), H', I3, rfl, q3⟩
  | .ok .next, hq => exact hq.elim
  | .ok .brk, hq => exact hq.elim
  | .ok .cont, hq => exact hq.elim
end
end Ver
namespace K05
open PySem PySem.Spec PyProof.Rows L2 Ver Num F
theorem made_same {H : Hp} {x dx : Addr} {o1 o2 o3 : HO} (hx : H x = none) (hd : H dx = none) : Same H (upd (upd (upd H dx o1) x o2) x o3) := fun b o e => by
  rw [upd_ne (ne_of_none e hx), upd_ne (ne_of_none e hx), upd_ne (ne_of_none e hd)]
  exact e
theorem bq_add {n : Nat} {a b : Rat} (ha : Bq n a) (hb : Bq n b) : Bq (n + n + 1) (a + b) := by
  rw [← add_is]
  refine bq_div (F.dd_ne a b) (Num.add_lt (wide_lt ha.1 (den_bq hb)) (wide_lt hb.1 (den_bq ha))) ?_
  exact Nat.lt_of_lt_of_le (wide_lt (den_bq ha) (den_bq hb)) (Nat.pow_le_pow_right (by decide) (by omega))
theorem bq_sub {n : Nat} {a b : Rat} (ha : Bq n a) (hb : Bq n b) : Bq (n + n + 1) (a - b) := by
  rw [← sub_is]
  refine bq_div (F.dd_ne a b) (Num.sub_lt (wide_lt ha.1 (den_bq hb)) (wide_lt hb.1 (den_bq ha))) ?_
  exact Nat.lt_of_lt_of_le (wide_lt (den_bq ha) (den_bq hb)) (Nat.pow_le_pow_right (by decide) (by omega))
theorem bq_mul {n : Nat} {a b : Rat} (ha : Bq n a) (hb : Bq n b) : Bq (n + n + 1) (a * b) := by
  rw [← mul_is]
  exact Bq.mono (bq_div (F.dd_ne a b) (wide_lt ha.1 hb.1) (wide_lt (den_bq ha) (den_bq hb))) (by omega)
theorem bq_over {n : Nat} {a b : Rat} (ha : Bq n a) (hb : Bq n b) (h : b ≠ 0) : Bq (n + n + 1) (Rat.divInt (a.num * b.den) (a.den * b.num)) :=
  Bq.mono (bq_div (Int.mul_ne_zero (by have := den_pos' a; omega) fun z => h (Rat.num_eq_zero.mp z)) (wide_lt ha.1 (den_bq hb)) (wide_lt (den_bq ha) hb.1)) (by omega)
theorem abs_nat {n : Int} : absI n = (n.natAbs : Int) := by
  unfold absI
  split <;> omega
theorem fl_bits : (2 : Int) ^ 330 < FL := by
  unfold FL
  decide
theorem nat_fl {n : Nat} (h : n < 2 ^ 330) : (n : Int) < FL := by
  refine Int.lt_trans ?_ fl_bits
  have e : ((2 : Int) ^ 330) = ((2 ^ 330 : Nat) : Int) := by rw [Int.natCast_pow]; rfl
  rw [e]
  exact Int.ofNat_lt.mpr h
theorem bq_ok {q : Rat} (h : Bq 330 q) : Ok100 q := ⟨by rw [abs_nat]; exact nat_fl h.1, nat_fl h.2⟩
/-! ### both kinds of fields -/
def pval : Fk → V
  | .fr => .non
  | .md p => .int p
def okP : Fk → Prop
  | .fr => True
  | .md p => Pm p
theorem okP.ok {φ : Fk} (h : okP φ) : φ.ok := by
  cases φ with
  | fr => trivial
  | md p => exact Pm.md h
def FieldC (K : PySem.W.Frag) (H : Hp) (f : Addr) (φ : Fk) : Prop := ∃ C dx, FC K C ∧ MC K C ∧ H f = some (.ins C dx [(("_prime" : Str), pval φ)]) ∧ ∀ p, φ = .md p → C = He.ga K "Modulo"
theorem FieldC.same {K : PySem.W.Frag} {H H' : Hp} {f : Addr} {φ : Fk} (F : FieldC K H f φ) (s : Same H H') : FieldC K H' f φ := by
  obtain ⟨C, dx, c, m, e, r⟩ := F
  exact ⟨C, dx, c, m, s _ _ e, r⟩
theorem FieldC.but {K : PySem.W.Frag} {H H' : Hp} {f d : Addr} {φ : Fk} {k : Int} (F : FieldC K H f φ) (pen : PenAt H d k) (b : But d H H') : FieldC K H' f φ := by
  obtain ⟨C, dx, c, m, e, r⟩ := F
  obtain ⟨cc, cells, b1, l, h1, _⟩ := pen.ex
  exact ⟨C, dx, c, m, b.1 _ _ e (ne_of e h1 (by intro z; cases z)), r⟩
theorem FieldC.fr {K : PySem.W.Frag} {H : Hp} {f : Addr} (G : FieldC K H f .fr) : FieldF K H f := by
  obtain ⟨C, dx, c, m, e, r⟩ := G
  exact ⟨C, dx, c, e⟩
theorem FieldC.md {K : PySem.W.Frag} {H : Hp} {f : Addr} {p : Int} (F : FieldC K H f (.md p)) : M.FieldAt K H f p := by
  obtain ⟨C, dx, c, m, e, r⟩ := F
  exact ⟨C, dx, c, e⟩
theorem go_methG {K : PySem.W.Frag} {σ : L2.St} {H : Hp} {f : Addr} {φ : Fk} {i : Nat} {Q : VK} {m : Str} {sp : Sp} {E : XK} {t : TA} (h0 : σ[i]? = some (some (.ref f))) (F : FieldC K H f φ)
    (hm : m ∈ (["is_number", "plus", "minus", "times", "over", "total", "holds", "ratio", "product_of", "sum_of", "difference_of", "quotient_of", "common", "_check"] : List Str)) (hn : (m == ("_prime" : Str)) = false)
    (q : t σ H fun vs H2 => sp (.ref f :: vs) H2 Q E) : tMethG K m (He.ma K (He.ga K "Field") m) sp E (tVar i) t σ H Q := by
  obtain ⟨C, dx, c, mm, e, r⟩ := F
  exact ⟨.ref f, h0, f, C, dx, _, rfl, e, c.cl, c.m m hm, pf_no _ hn, q⟩
theorem NumQ.but {H H' : Hp} {x : V} {q : Rat} {d : Addr} {k : Int} (h : NumQ H x q) (pen : PenAt H d k) (b : But d H H') : NumQ H' x q := by
  obtain ⟨cc, cells, b1, l, h1, _⟩ := pen.ex
  rcases h with h | ⟨e, a, ex, h⟩
  · exact .inl h
  · exact .inr ⟨e, a, ex, b.1 _ _ h (ne_of h h1 (by intro z; cases z))⟩
theorem num_md {H : Hp} {x : V} {a : Rat} {p : Int} {n : Nat} (h : NumQ H x a) (s : Sz (.md p) n a) : x = .int a.num := by
  rcases h with ⟨_, e⟩ | ⟨z, _⟩
  · exact e
  · exact absurd s.1 z
theorem sz_add {φ : Fk} {n : Nat} {a b : Rat} (ok : φ.ok) (ha : Sz φ n a) (hb : Sz φ n b) : Sz φ (n + n + 1) (addG φ a b) := by
  cases φ with
  | fr => exact bq_add ha hb
  | md p => exact sz_md ok
theorem sz_sub {φ : Fk} {n : Nat} {a b : Rat} (ok : φ.ok) (ha : Sz φ n a) (hb : Sz φ n b) : Sz φ (n + n + 1) (subG φ a b) := by
  cases φ with
  | fr => exact bq_sub ha hb
  | md p => exact sz_md ok
theorem sz_mul {φ : Fk} {n : Nat} {a b : Rat} (ok : φ.ok) (ha : Sz φ n a) (hb : Sz φ n b) : Sz φ (n + n + 1) (mulG φ a b) := by
  cases φ with
  | fr => exact bq_mul ha hb
  | md p => exact sz_md ok
section
variable {P : Program} {w : World} {K : PySem.W.Frag} {mg : Str → Option Value} {base : Heap}
def spG2 (K : PySem.W.Frag) (g : Fk → Rat → Rat → Rat) : Sp := fun vs H Q _ => ∃ (f : Addr) (x y : V) (φ : Fk) (a b : Rat), vs = [.ref f, x, y] ∧ FieldC K H f φ ∧ okP φ ∧ NumQ H x a ∧ NumQ H y b ∧ Sz φ 330 a ∧ Sz φ 330 b ∧ ∀ (z : V) (H' : Hp), Same H H' → NumQ H' z (g φ a b) → Q z H'
theorem ok_plusG (T : Tx K mg) : FnG P w K mg base CX0 6 (He.ma K (He.ga K "Field") "plus") (spG2 K addG) := FnG.either (F.ok_plus T) (M.ok_plus T) fun vs H Q E h => by
  obtain ⟨f, x, y, φ, a, b, rfl, F, o, nx, ny, sa, sb, q⟩ := h
  cases φ with
  | fr => exact .inl ⟨f, x, y, a, b, rfl, F.fr, nx, ny, bq_ok sa, bq_ok sb, q⟩
  | md p => exact .inr ⟨f, p, a.num, b.num, by rw [num_md nx sa, num_md ny sb], F.md, o.md, sa.2.1, sa.2.2, sb.2.1, sb.2.2, fun H' s' => q _ H' s' (.inl ⟨rfl, rfl⟩)⟩
theorem ok_minusG (T : Tx K mg) : FnG P w K mg base CX0 6 (He.ma K (He.ga K "Field") "minus") (spG2 K subG) := FnG.either (F.ok_minus T) (M.ok_minus T) fun vs H Q E h => by
  obtain ⟨f, x, y, φ, a, b, rfl, F, o, nx, ny, sa, sb, q⟩ := h
  cases φ with
  | fr => exact .inl ⟨f, x, y, a, b, rfl, F.fr, nx, ny, bq_ok sa, bq_ok sb, q⟩
  | md p => exact .inr ⟨f, p, a.num, b.num, by rw [num_md nx sa, num_md ny sb], F.md, o.md, sa.2.1, sa.2.2, sb.2.1, sb.2.2, fun H' s' => q _ H' s' (.inl ⟨rfl, rfl⟩)⟩
theorem ok_timesG (T : Tx K mg) : FnG P w K mg base CX0 6 (He.ma K (He.ga K "Field") "times") (spG2 K mulG) := FnG.either (F.ok_times T) (M.ok_times T) fun vs H Q E h => by
  obtain ⟨f, x, y, φ, a, b, rfl, F, o, nx, ny, sa, sb, q⟩ := h
  cases φ with
  | fr => exact .inl ⟨f, x, y, a, b, rfl, F.fr, nx, ny, bq_ok sa, bq_ok sb, q⟩
  | md p => exact .inr ⟨f, p, a.num, b.num, by rw [num_md nx sa, num_md ny sb], F.md, o.md, sa.2.1, sa.2.2, sb.2.1, sb.2.2, fun H' s' => q _ H' s' (.inl ⟨rfl, rfl⟩)⟩
def spOverG (K : PySem.W.Frag) : Sp := fun vs H Q _ => ∃ (f : Addr) (x y : V) (φ : Fk) (n : Nat) (a b : Rat), vs = [.ref f, x, y] ∧ FieldC K H f φ ∧ okP φ ∧ NumQ H x a ∧ NumQ H y b ∧ n ≤ 330 ∧ Sz φ n a ∧ Sz φ n b ∧ b ≠ 0 ∧
  ∀ (z : V) (c : Rat) (H' : Hp), Same H H' → NumQ H' z c → Sz φ (n + n + 1) c → mulG φ c b = a → (φ = .fr → c = Rat.divInt (a.num * b.den) (a.den * b.num)) → Q z H'
theorem ok_overG (T : Tx K mg) : FnG P w K mg base CX0 6 (He.ma K (He.ga K "Field") "over") (spOverG K) := FnG.either (F.ok_over T) (M.ok_over T) fun vs H Q E h => by
  obtain ⟨f, x, y, φ, n, a, b, rfl, F, o, nx, ny, hn, sa, sb, b0, q⟩ := h
  cases φ with
  | fr => exact .inl ⟨f, x, y, a, b, rfl, F.fr, nx, ny, bq_ok (Bq.mono sa hn), bq_ok (Bq.mono sb hn), b0, fun z H' s' nz => q z _ H' s' nz (bq_over sa sb b0) (div_mul b0) fun _ => rfl⟩
  | md p =>
    have hlo := o.md.lo
    refine .inr ⟨f, p, a.num, b.num, by rw [num_md nx sa, num_md ny sb], F.md, o.md, sa.2.1, sa.2.2, sb.2.1, sb.2.2, fun z => b0 (Rat.num_eq_zero.mp z), fun i H' s' i0 i1 i2 => q _ (iq (a.num * i % p)) H' s' (.inl ⟨rfl, rfl⟩) (sz_md o.md) ?_ (fun z => by cases z)⟩
    show iq ((a.num * i % p * b.num) % p) = a
    rw [over_back ⟨sa.2.1, sa.2.2⟩ (by rw [i2, Int.emod_eq_of_lt (by decide) (by omega)])]
    exact (iq_eq sa.1).symm
def totG : Fk → List Rat → Rat
  | .fr, qs => qs.sum
  | .md p, qs => iq ((qs.map fun q => q.num).sum % p)
theorem nums_md {H : Hp} {p : Int} {n : Nat} : ∀ {xs : List V} {qs : List Rat}, NumsQ H xs qs → (∀ q ∈ qs, Sz (.md p) n q) → xs = (qs.map fun q => q.num).map V.int
  | [], [], _, _ => rfl
  | x :: xs, q :: qs, h, hs => by
    have h0 : NumQ H x q := h.2 0 x q rfl rfl
    have ht : NumsQ H xs qs := ⟨by have := h.1; rw [List.length_cons, List.length_cons] at this; omega, fun i y r e1 e2 => h.2 (i + 1) y r e1 e2⟩
    rw [List.map_cons, List.map_cons, ← nums_md ht fun r hr => hs r (List.mem_cons_of_mem _ hr), num_md h0 (hs q List.mem_cons_self)]
  | [], _ :: _, h, _ => by have := h.1; cases this
  | _ :: _, [], h, _ => by have := h.1; cases this
def spTotalG (K : PySem.W.Frag) : Sp := fun vs H Q _ => ∃ (f : Addr) (xs : List V) (qs : List Rat) (φ : Fk), vs = V.ref f :: xs ∧ FieldC K H f φ ∧ okP φ ∧ NumsQ H xs qs ∧ qs.length ≤ 10 ∧ (∀ q ∈ qs, Sz φ 330 q) ∧ ∀ (z : V) (H' : Hp), Same H H' → NumQ H' z (totG φ qs) → Q z H'
theorem ok_totalG (T : Tx K mg) : FnG P w K mg base CX0 6 (He.ma K (He.ga K "Field") "total") (spTotalG K) := FnG.either (F.ok_total T) (M.ok_total T) fun vs H Q E h => by
  obtain ⟨f, xs, qs, φ, rfl, F, o, hn, hz, hs, q⟩ := h
  cases φ with
  | fr => exact .inl ⟨f, xs, qs, rfl, F.fr, hn, hz, fun r hr => bq_ok (hs r hr), q⟩
  | md p =>
    refine .inr ⟨f, p, qs.map fun q => q.num, by rw [← nums_md hn hs], F.md, o.md, by rw [List.length_map]; omega, fun a ha => ?_, fun H' s' => q _ H' s' (.inl ⟨rfl, rfl⟩)⟩
    obtain ⟨r, hr, rfl⟩ := List.mem_map.mp ha
    exact ⟨(hs r hr).2.1, (hs r hr).2.2⟩
theorem tot4 (φ : Fk) (a b c : Rat) : totG φ [a, b, c, a] = addG φ (addG φ a b) (addG φ c a) := by
  cases φ with
  | fr =>
    show [a, b, c, a].sum = a + b + (c + a)
    rw [List.sum_cons, List.sum_cons, List.sum_cons, List.sum_cons, List.sum_nil, Rat.add_zero, Rat.add_assoc]
  | md p =>
    simp only [totG, addG, iq_num, Int.emod_add_emod, Int.add_emod_emod, List.map_cons, List.map_nil, List.sum_cons, List.sum_nil, Int.add_zero, Int.add_assoc]
end
end K05

namespace K05
open PySem PySem.Spec PyProof.Rows L2 Ver Num F
theorem eqv_self (q : Rat) : PyData.eqv (dq q) (dq q) = true := by
  by_cases h : q.den = 1
  · rw [dq_int h]
    simp [PyData.eqv]
  · rw [dq_tup h]
    simp [PyData.eqv, PyData.eqvAll]
section
variable {P : Program} {w : World} {K : PySem.W.Frag} {mg : Str → Option Value} {base : Heap}
theorem ten9 : (10 : Int) ^ (9 : Int).toNat = 1000000000 := by decide
def spAny : Sp := fun vs H Q _ => ∃ (d : Addr) (k : Int) (φ : Fk), vs = [.ref d, .int φ.code, .bl true] ∧ okP φ ∧ PenAt H d k ∧ k < 100000 ∧ ∀ (x : V) (r : Rat) (H' : Hp), NumQ H' x r → Sz φ 31 r → But d H H' → PenAt H' d (k + 10) → Q x H'
theorem ok_any (T : Tx K mg) : FnG P w K mg base CX0 4 (He.ga K "_law_any_number") spAny := by
  refine mk__law_any_number T.d (fun vs H Q E h => ?_) (fun cdv A outer s H vs Q E hg hr h => ?_)
  · obtain ⟨d, k, φ, rfl, _⟩ := h
    rfl
  · obtain ⟨d, k, φ, rfl, ok, pen, k9, q⟩ := h
    have nd := sc__law_any_number.nd
    have gp := T.g "_law_pick" (by decide +kernel)
    have gd := T.g "_law_draw" (by decide +kernel)
    have gs := T.g "_law_signed" (by decide +kernel)
    refine ⟨_, pss_cons (ps_if (pt_cmpR op_gt (pv 1) pe_int (nomark _)) (pss_one (ps_ret (pe_callG (ok_number T) hr hg (by rfl) (T.g "_law_number" (by decide +kernel)) (kp__law_number T.d) pass0 (pa_cons (pv 0) (pa_cons (pv 1) pa_nil))))) pss_nil)
      (pss_cons (ps_set (i := 3) nd rfl (Or.inl rfl) (pe_callG (ok_signed T) (hr.mono (by decide)) hg (by rfl) gs (kp__law_signed T.d) pass0 (pa_cons (pv 0) (pa_cons (pe_callG (ok_pick T) (hr.mono (by decide)) hg (by rfl) gp (kp__law_pick T.d) pass0 (pa_cons (pv 0) (pa_cons (pe_lst (pa_cons pe_int (pa_cons pe_int
          (pa_cons (pe_callG (ok_draw T) (hr.mono (by decide)) hg (by rfl) gd (kp__law_draw T.d) pass0 (pa_cons (pv 0) (pa_cons pe_int pa_nil)))
          (pa_cons (pe_callG (ok_draw T) (hr.mono (by decide)) hg (by rfl) gd (kp__law_draw T.d) pass0 (pa_cons (pv 0) (pa_cons (pe_op op_pow pe_int pe_int) pa_nil))) pa_nil))))) pa_nil))) pa_nil))))
      (pss_cons (ps_set (i := 4) nd rfl (Or.inl rfl) (pe_callG (ok_pick T) (hr.mono (by decide)) hg (by rfl) gp (kp__law_pick T.d) pass0 (pa_cons (pv 0) (pa_cons (pe_lst (pa_cons pe_int (pa_cons pe_int
          (pa_cons (pe_op op_add pe_int (pe_callG (ok_draw T) (hr.mono (by decide)) hg (by rfl) gd (kp__law_draw T.d) pass0 (pa_cons (pv 0) (pa_cons pe_int pa_nil))))
          (pa_cons (pe_op op_add pe_int (pe_callG (ok_draw T) (hr.mono (by decide)) hg (by rfl) gd (kp__law_draw T.d) pass0 (pa_cons (pv 0) (pa_cons (pe_op op_pow pe_int pe_int) pa_nil)))) pa_nil))))) pa_nil))))
      (pss_cons (ps_if (PW.pt (pw_and (pt_not (pt_val (pv 2))) (pw_and1 (pt_cmpR op_eq (pe_callG (ok_draw T) (hr.mono (by decide)) hg (by rfl) gd (kp__law_draw T.d) pass0 (pa_cons (pv 0) (pa_cons pe_int pa_nil))) pe_int (nomark _))))) pss_never pss_nil)
      (pss_one (ps_ret (pe_callG (ok_told T) (hr.mono (by decide)) hg (by rfl) (T.g "_law_told" (by decide +kernel)) (kp__law_told T.d) pass0 (pa_cons (pv 3) (pa_cons (pv 4) pa_nil)))))))), ?_⟩
    refine ⟨_, rfl, _, _, rfl, rfl, _, rfl, ?_⟩
    cases φ with
    | md p =>
      have hlo := ok.md.lo
      refine ifT (decide_eq_true (show (0 : Int) < p by omega)) ?_
      exact ⟨_, rfl, _, rfl, d, k, p, rfl, pen, by omega, ok.md, fun a H1 a0 ap bt pen1 => q _ (iq a) H1 (.inl ⟨rfl, rfl⟩) ⟨rfl, a0, ap⟩ bt (pen1.mono (by omega))⟩
    | fr =>
      refine ifF (by decide) ?_
      refine ⟨_, rfl, _, rfl, _, rfl, d, k, 12, rfl, pen, by omega, by decide, by decide, fun x1 H1 bt1 pen1 x10 x11 => ?_⟩
      refine ⟨_, rfl, _, _, rfl, rfl, ⟨by decide, by decide, by decide⟩, d, _, _, rfl, pen1, by omega, by rw [ten9]; decide, by rw [ten9]; decide, fun x2 H2 bt2 pen2 x20 x21 => ⟨by show 4 ≤ sizeLine; decide, fun l nl => ?_⟩⟩
      rw [ten9] at x21
      have s2 := same_up (o := .lst [V.int 0, V.int 1, V.int x1, V.int x2]) nl
      refine ⟨d, l, _, _, rfl, pen2.same s2, by omega, upd_same, by show 0 < 4; decide, by show 4 < 1000; decide, fun y H3 hy bt3 pen3 => ?_⟩
      obtain ⟨t0, rfl, t00, t09⟩ : ∃ t0 : Int, y = .int t0 ∧ 0 ≤ t0 ∧ t0 < 1000000000 := by
        simp only [List.mem_cons, List.not_mem_nil, or_false] at hy
        rcases hy with rfl | rfl | rfl | rfl
        · exact ⟨0, rfl, by decide, by decide⟩
        · exact ⟨1, rfl, by decide, by decide⟩
        · exact ⟨x1, rfl, x10, by omega⟩
        · exact ⟨x2, rfl, x20, x21⟩
      have c3 := (bt1.trans bt2).trans ((But.same s2).trans bt3)
      refine ⟨d, _, t0, rfl, pen3, by omega, fun t H4 ht bt4 pen4 => ?_⟩
      have c4 := c3.trans bt4
      rw [abs_nat, abs_nat] at ht
      refine ⟨_, rfl, _, rfl, d, _, 12, rfl, pen4, by omega, by decide, by decide, fun z1 H5 bt5 pen5 z10 z11 => ?_⟩
      refine ⟨_, _, rfl, rfl, _, rfl, _, _, rfl, rfl, ⟨by decide, by decide, by decide⟩, d, _, _, rfl, pen5, by omega, by rw [ten9]; decide, by rw [ten9]; decide, fun z2 H6 bt6 pen6 z20 z21 => ?_⟩
      rw [ten9] at z21
      refine ⟨_, _, rfl, rfl, by show 4 ≤ sizeLine; decide, fun l2 nl2 => ?_⟩
      have s6 := same_up (o := .lst [V.int 1, V.int 1, V.int (1 + z1), V.int (1 + z2)]) nl2
      refine ⟨d, l2, _, _, rfl, pen6.same s6, by omega, upd_same, by show 0 < 4; decide, by show 4 < 1000; decide, fun y2 H7 hy2 bt7 pen7 => ?_⟩
      obtain ⟨b, rfl, b0, b9⟩ : ∃ b : Int, y2 = .int b ∧ 0 < b ∧ b ≤ 1000000000 := by
        simp only [List.mem_cons, List.not_mem_nil, or_false] at hy2
        rcases hy2 with rfl | rfl | rfl | rfl
        · exact ⟨1, rfl, by decide, by decide⟩
        · exact ⟨1, rfl, by decide, by decide⟩
        · exact ⟨_, rfl, by omega, by omega⟩
        · exact ⟨_, rfl, by omega, by omega⟩
      have c7 := (c4.trans (bt5.trans bt6)).trans ((But.same s6).trans bt7)
      have e31 : (2 : Nat) ^ 31 = 2147483648 := by decide
      have tb : t.natAbs < 2 ^ 31 := by rw [e31]; omega
      have bb : b.natAbs < 2 ^ 31 := by rw [e31]; omega
      refine ⟨_, rfl, _, rfl, ?_⟩
      refine ifF rfl (ifF rfl ?_)
      refine ⟨_, rfl, _, rfl, t, b, rfl, by omega, to4000 bb (by decide), fun x H8 s8 n8 => q x _ H8 n8 (bq_div (by omega) tb bb) (c7.trans (But.same s8)) ((pen7.same s8).mono (by omega))⟩
def spMade (K : PySem.W.Frag) : Sp := fun vs H Q _ => ∃ φ : Fk, vs = [.int φ.code] ∧ okP φ ∧ ∀ (f : Addr) (H' : Hp), Same H H' → FieldC K H' f φ → Q (.ref f) H'
theorem ok_made (T : Tx K mg) : FnG P w K mg base CX0 6 (He.ga K "_law_made_field") (spMade K) := by
  refine mk__law_made_field T.d (fun vs H Q E h => ?_) (fun cdv A outer s H vs Q E hg hr h => ?_)
  · obtain ⟨φ, rfl, _⟩ := h
    rfl
  · obtain ⟨φ, rfl, ok, q⟩ := h
    refine ⟨_, pss_one (ps_ret (pe_ifExp (pt_cmpR op_eq (pv 0) pe_int (nomark _)) (pe_makeG0 T.mF.mkr (F.ok_fracinit T) (hr.mono (by decide)) hg (by rfl) (T.g "Fractions" (by decide +kernel)) pass0)
      (pe_makeG T.mM.mkr (M.ok_minit T) hr hg (by rfl) (T.g "Modulo" (by decide +kernel)) pass0 (pa_cons (pv 0) pa_nil)))), ?_⟩
    refine ⟨_, rfl, rfl, _, rfl, ?_⟩
    rw [iEq]
    cases φ with
    | fr => exact ifT (by decide) fun x dx nx nd ne => ⟨x, dx, rfl, upd_same, rfl, q x _ (made_same nx nd) ⟨_, dx, T.fcF, T.mF, upd_same, fun p z => by cases z⟩⟩
    | md p =>
      have hlo := ok.md.lo
      refine ifF (decide_eq_false (show ¬ p = 0 by omega)) ⟨_, rfl, fun x dx nx nd ne => ⟨x, dx, p, rfl, ok.pr, ok.sq, upd_same, rfl, q x _ (made_same nx nd) ⟨_, dx, T.fcM, T.mM, upd_same, fun p _ => rfl⟩⟩⟩
def spAnyPrime : Sp := fun vs H Q _ => ∃ (d : Addr) (k : Int), vs = [.ref d] ∧ PenAt H d k ∧ k < 100000 ∧ ∀ (φ : Fk) (H' : Hp), okP φ → But d H H' → PenAt H' d (k + 2) → Q (.int φ.code) H'
theorem ok_any_prime (T : Tx K mg) : FnG P w K mg base CX0 4 (He.ga K "_law_any_prime") spAnyPrime := by
  refine mk__law_any_prime T.d (fun vs H Q E h => ?_) (fun cdv A outer s H vs Q E hg hr h => ?_)
  · obtain ⟨d, k, rfl, _⟩ := h
    rfl
  · obtain ⟨d, k, rfl, pen, k9, q⟩ := h
    refine ⟨_, pss_one (ps_ret (pe_callG (ok_pick T) (hr.mono (by decide)) hg (by rfl) (T.g "_law_pick" (by decide +kernel)) (kp__law_pick T.d) pass0
      (pa_cons (pv 0) (pa_cons (pe_lst (pa_cons pe_int (pa_cons (pe_callG (ok_lprime T) hr hg (by rfl) (T.g "_law_prime" (by decide +kernel)) (kp__law_prime T.d) pass0 (pa_cons (pv 0) pa_nil)) pa_nil))) pa_nil)))), ?_⟩
    refine ⟨_, rfl, _, rfl, d, k, rfl, pen, by omega, fun p H1 pm bt1 pen1 => ⟨by show 2 ≤ sizeLine; decide, fun l nl => ?_⟩⟩
    have s1 := same_up (o := .lst [V.int 0, V.int p]) nl
    refine ⟨d, l, _, _, rfl, pen1.same s1, by omega, upd_same, by show 0 < 2; decide, by show 2 < 1000; decide, fun x H2 hx bt2 pen2 => ?_⟩
    have c := bt1.trans ((But.same s1).trans bt2)
    simp only [List.mem_cons, List.not_mem_nil, or_false] at hx
    rcases hx with rfl | rfl
    · exact q .fr H2 trivial c (pen2.mono (by omega))
    · exact q (.md p) H2 pm c (pen2.mono (by omega))
/-! ### _law_groups_right -/
abbrev Ok3 (H : Hp) (φ : Fk) (x : V) (a : Rat) : Prop := NumQ H x a ∧ Sz φ 31 a
def spGroups (K : PySem.W.Frag) : Sp := fun vs H Q _ => ∃ (f : Addr) (x y z : V) (φ : Fk) (a b c : Rat), vs = [.ref f, x, y, z] ∧ FieldC K H f φ ∧ okP φ ∧ Ok3 H φ x a ∧ Ok3 H φ y b ∧ Ok3 H φ z c ∧ ∀ H', Same H H' → Q (.bl true) H'
theorem ok_groups (T : Tx K mg) : FnG P w K mg base CX0 7 (He.ga K "_law_groups_right") (spGroups K) := by
  refine mk__law_groups_right T.d (fun vs H Q E h => ?_) (fun cdv A outer s H vs Q E hg hr h => ?_)
  · obtain ⟨f, x, y, z, φ, a, b, c, rfl, _⟩ := h
    rfl
  · obtain ⟨f, x, y, z, φ, a, b, c, rfl, F, o, ⟨nx, sa⟩, ⟨ny, sb⟩, ⟨nz, sc⟩, q⟩ := h
    have ok := o.ok
    have hu := hr.units
    have mp : ∀ m ∈ (["is_number", "plus", "minus", "times", "over", "total", "holds", "ratio", "product_of", "sum_of", "difference_of", "quotient_of", "common", "_check"] : List Str), (m == ("_prime" : Str)) = false := by decide +kernel
    have i1 : ("plus" : Str) ∈ (["is_number", "plus", "minus", "times", "over", "total", "holds", "ratio", "product_of", "sum_of", "difference_of", "quotient_of", "common", "_check"] : List Str) := by decide +kernel
    have i2 : ("times" : Str) ∈ (["is_number", "plus", "minus", "times", "over", "total", "holds", "ratio", "product_of", "sum_of", "difference_of", "quotient_of", "common", "_check"] : List Str) := by decide +kernel
    refine ⟨_, pss_cons (ps_if (PW.pt (pw_or
          (pt_cmpR (op_neD hu) (pe_methG (pv 0) (kp_Field_plus T.d) (ok_plusG T) hr hg pass0 (pa_cons (pv 1) (pa_cons (pv 2) pa_nil))) (pe_methG (pv 0) (kp_Field_plus T.d) (ok_plusG T) hr hg pass0 (pa_cons (pv 2) (pa_cons (pv 1) pa_nil))) (nomark _))
          (pw_or1 (pt_cmpR (op_neD hu) (pe_methG (pv 0) (kp_Field_times T.d) (ok_timesG T) hr hg pass0 (pa_cons (pv 1) (pa_cons (pv 2) pa_nil))) (pe_methG (pv 0) (kp_Field_times T.d) (ok_timesG T) hr hg pass0 (pa_cons (pv 2) (pa_cons (pv 1) pa_nil))) (nomark _))))) pss_never pss_nil)
      (pss_cons (ps_if (pt_cmpR (op_neD hu) (pe_methG (pv 0) (kp_Field_plus T.d) (ok_plusG T) hr hg pass0 (pa_cons (pe_methG (pv 0) (kp_Field_plus T.d) (ok_plusG T) hr hg pass0 (pa_cons (pv 1) (pa_cons (pv 2) pa_nil))) (pa_cons (pv 3) pa_nil)))
          (pe_methG (pv 0) (kp_Field_plus T.d) (ok_plusG T) hr hg pass0 (pa_cons (pv 1) (pa_cons (pe_methG (pv 0) (kp_Field_plus T.d) (ok_plusG T) hr hg pass0 (pa_cons (pv 2) (pa_cons (pv 3) pa_nil))) pa_nil))) (nomark _)) pss_never pss_nil)
      (pss_cons (ps_if (pt_cmpR (op_neD hu) (pe_methG (pv 0) (kp_Field_times T.d) (ok_timesG T) hr hg pass0 (pa_cons (pe_methG (pv 0) (kp_Field_times T.d) (ok_timesG T) hr hg pass0 (pa_cons (pv 1) (pa_cons (pv 2) pa_nil))) (pa_cons (pv 3) pa_nil)))
          (pe_methG (pv 0) (kp_Field_times T.d) (ok_timesG T) hr hg pass0 (pa_cons (pv 1) (pa_cons (pe_methG (pv 0) (kp_Field_times T.d) (ok_timesG T) hr hg pass0 (pa_cons (pv 2) (pa_cons (pv 3) pa_nil))) pa_nil))) (nomark _)) pss_never pss_nil)
      (pss_one (ps_ret (pe_cmpR (op_eqD hu) (pe_methG (pv 0) (kp_Field_times T.d) (ok_timesG T) hr hg pass0 (pa_cons (pv 1) (pa_cons (pe_methG (pv 0) (kp_Field_plus T.d) (ok_plusG T) hr hg pass0 (pa_cons (pv 2) (pa_cons (pv 3) pa_nil))) pa_nil)))
        (pe_methG (pv 0) (kp_Field_plus T.d) (ok_plusG T) hr hg pass0 (pa_cons (pe_methG (pv 0) (kp_Field_times T.d) (ok_timesG T) hr hg pass0 (pa_cons (pv 1) (pa_cons (pv 2) pa_nil)))
          (pa_cons (pe_methG (pv 0) (kp_Field_times T.d) (ok_timesG T) hr hg pass0 (pa_cons (pv 1) (pa_cons (pv 3) pa_nil))) pa_nil))) (nomark _)))))), ?_⟩
    have S : ∀ {r : Rat}, Sz φ 31 r → Sz φ 330 r := fun h => h.mono (by decide)
    have S2 : ∀ {r : Rat}, Sz φ (31 + 31 + 1) r → Sz φ 330 r := fun h => h.mono (by decide)
    -- a + b, b + a
    refine go_methG rfl F i1 (mp _ i1) ⟨_, rfl, _, rfl, f, x, y, φ, a, b, rfl, F, o, nx, ny, S sa, S sb, fun z1 H1 s1 n1 => ?_⟩
    refine go_methG rfl (F.same s1) i1 (mp _ i1) ⟨_, rfl, _, rfl, f, y, x, φ, b, a, rfl, F.same s1, o, ny.same s1, nx.same s1, S sb, S sa, fun z2 H2 s2 n2 => ?_⟩
    rw [addG_comm] at n2
    refine ⟨_, _, dp_q (n1.same s2), dp_q n2, shaped_q _, shaped_q _, _, rfl, ?_⟩
    rw [eqv_self]
    refine ifF rfl ?_
    have t2 := s1.trans s2
    refine go_methG rfl (F.same t2) i2 (mp _ i2) ⟨_, rfl, _, rfl, f, x, y, φ, a, b, rfl, F.same t2, o, nx.same t2, ny.same t2, S sa, S sb, fun z3 H3 s3 n3 => ?_⟩
    have t3 := t2.trans s3
    refine go_methG rfl (F.same t3) i2 (mp _ i2) ⟨_, rfl, _, rfl, f, y, x, φ, b, a, rfl, F.same t3, o, ny.same t3, nx.same t3, S sb, S sa, fun z4 H4 s4 n4 => ?_⟩
    rw [mulG_comm] at n4
    refine ⟨_, _, dp_q (n3.same s4), dp_q n4, shaped_q _, shaped_q _, _, rfl, ?_⟩
    rw [eqv_self]
    refine ifF rfl ?_
    have t4 := t3.trans s4
    -- (a + b) + c, a + (b + c)
    refine go_methG rfl (F.same t4) i1 (mp _ i1) (go_methG rfl (F.same t4) i1 (mp _ i1) ⟨_, rfl, _, rfl, f, x, y, φ, a, b, rfl, F.same t4, o, nx.same t4, ny.same t4, S sa, S sb, fun z5 H5 s5 n5 => ?_⟩)
    have t5 := t4.trans s5
    refine ⟨_, rfl, f, z5, z, φ, _, c, rfl, F.same t5, o, n5, nz.same t5, S2 (sz_add ok sa sb), S sc, fun z6 H6 s6 n6 => ?_⟩
    have t6 := t5.trans s6
    refine go_methG rfl (F.same t6) i1 (mp _ i1) ⟨_, rfl, go_methG rfl (F.same t6) i1 (mp _ i1) ⟨_, rfl, _, rfl, f, y, z, φ, b, c, rfl, F.same t6, o, ny.same t6, nz.same t6, S sb, S sc, fun z7 H7 s7 n7 => ?_⟩⟩
    have t7 := t6.trans s7
    refine ⟨f, x, z7, φ, a, _, rfl, F.same t7, o, nx.same t7, n7, S sa, S2 (sz_add ok sb sc), fun z8 H8 s8 n8 => ?_⟩
    rw [← addG_assoc] at n8
    refine ⟨_, _, dp_q ((n6.same s7).same s8), dp_q n8, shaped_q _, shaped_q _, _, rfl, ?_⟩
    rw [eqv_self]
    refine ifF rfl ?_
    have t8 := t7.trans s8
    -- (a b) c, a (b c)
    refine go_methG rfl (F.same t8) i2 (mp _ i2) (go_methG rfl (F.same t8) i2 (mp _ i2) ⟨_, rfl, _, rfl, f, x, y, φ, a, b, rfl, F.same t8, o, nx.same t8, ny.same t8, S sa, S sb, fun z5 H9 s9 n9 => ?_⟩)
    have t9 := t8.trans s9
    refine ⟨_, rfl, f, z5, z, φ, _, c, rfl, F.same t9, o, n9, nz.same t9, S2 (sz_mul ok sa sb), S sc, fun z6 H10 s10 n10 => ?_⟩
    have t10 := t9.trans s10
    refine go_methG rfl (F.same t10) i2 (mp _ i2) ⟨_, rfl, go_methG rfl (F.same t10) i2 (mp _ i2) ⟨_, rfl, _, rfl, f, y, z, φ, b, c, rfl, F.same t10, o, ny.same t10, nz.same t10, S sb, S sc, fun z7 H11 s11 n11 => ?_⟩⟩
    have t11 := t10.trans s11
    refine ⟨f, x, z7, φ, a, _, rfl, F.same t11, o, nx.same t11, n11, S sa, S2 (sz_mul ok sb sc), fun z8 H12 s12 n12 => ?_⟩
    rw [← mulG_assoc] at n12
    refine ⟨_, _, dp_q ((n10.same s11).same s12), dp_q n12, shaped_q _, shaped_q _, _, rfl, ?_⟩
    rw [eqv_self]
    refine ifF rfl ?_
    have t12 := t11.trans s12
    -- a (b + c), a b + a c
    refine go_methG rfl (F.same t12) i2 (mp _ i2) ⟨_, rfl, go_methG rfl (F.same t12) i1 (mp _ i1) ⟨_, rfl, _, rfl, f, y, z, φ, b, c, rfl, F.same t12, o, ny.same t12, nz.same t12, S sb, S sc, fun z7 H13 s13 n13 => ?_⟩⟩
    have t13 := t12.trans s13
    refine ⟨f, x, z7, φ, a, _, rfl, F.same t13, o, nx.same t13, n13, S sa, S2 (sz_add ok sb sc), fun z8 H14 s14 n14 => ?_⟩
    have t14 := t13.trans s14
    refine go_methG rfl (F.same t14) i1 (mp _ i1) (go_methG rfl (F.same t14) i2 (mp _ i2) ⟨_, rfl, _, rfl, f, x, y, φ, a, b, rfl, F.same t14, o, nx.same t14, ny.same t14, S sa, S sb, fun z5 H15 s15 n15 => ?_⟩)
    have t15 := t14.trans s15
    refine go_methG rfl (F.same t15) i2 (mp _ i2) ⟨_, rfl, _, rfl, f, x, z, φ, a, c, rfl, F.same t15, o, nx.same t15, nz.same t15, S sa, S sc, fun z6 H16 s16 n16 => ?_⟩
    have t16 := t15.trans s16
    refine ⟨f, z5, z6, φ, _, _, rfl, F.same t16, o, n15.same s16, n16, S2 (sz_mul ok sa sb), S2 (sz_mul ok sa sc), fun z9 H17 s17 n17 => ?_⟩
    rw [← mulG_add] at n17
    refine ⟨_, _, dp_q (((n14.same s15).same s16).same s17), dp_q n17, shaped_q _, shaped_q _, ?_⟩
    rw [eqv_self]
    exact q H17 (t16.trans s17)
end
end K05

namespace K05
open PySem PySem.Spec PyProof.Rows L2 Ver Num F
theorem scP : FnScope ["self"] ["self"] (defScope s_Field_prime) := ⟨rfl, rfl, rfl, by decide +kernel, rfl, by decide +kernel, by decide +kernel⟩
theorem rd_propP {K : PySem.W.Frag} {σ : L2.St} {H : Hp} {h : Addr} {p : Int} {i : Nat} {Q : VK} (h0 : σ[i]? = some (some (.ref h))) (F : FieldC K H h (.md p)) (q : Q (.int p) H) :
    tProp (He.ga K "Modulo") (getSp (He.ga K "Modulo") "_prime") [] E0 (tVar i) σ H Q := by
  obtain ⟨C, dx, c, m, e, r⟩ := F
  have eC := r p rfl
  subst eC
  exact ⟨.ref h, h0, h, dx, _, rfl, e, h, dx, _, .int p, rfl, e, pf_look _, q⟩
section
variable {P : Program} {w : World} {K : PySem.W.Frag} {mg : Str → Option Value} {base : Heap}
/-! ### _law_rest -/
def spRest (K : PySem.W.Frag) : Sp := fun vs H Q _ => ∃ (h : Addr) (x : V) (p : Int) (q : Rat), vs = [.ref h, x] ∧ FieldC K H h (.md p) ∧ Pm p ∧ NumQ H x q ∧
  ∀ (v : V) (H' : Hp), Same H H' → ((v = .non ∧ p ∣ (q.den : Int)) ∨ ∃ c, v = .int c ∧ Rem p q c) → Q v H'
theorem ok_rest (T : Tx K mg) : FnG P w K mg base CX0 7 (He.ga K "_law_rest") (spRest K) := by
  refine mk__law_rest T.d (fun vs H Q E h => ?_) (fun cdv A outer s H vs Q E hg hr h => ?_)
  · obtain ⟨h, x, p, r, rfl, _⟩ := h
    rfl
  · obtain ⟨h, x, p, r, rfl, F, pm, nx, q⟩ := h
    have hlo := pm.md.lo
    have nd := sc__law_rest.nd
    have zi := T.z "int" (by decide +kernel)
    have bi : bootBuiltins "int" = some (.type "int") := by decide +kernel
    obtain ⟨pa, pg, fd, hp, FD⟩ := T.pr
    have hb : Binds K fd ["self"] [] := FD.bindsN fun _ _ _ _ _ _ us hl => match us, hl with | [_], _ => rfl
    obtain ⟨⟨oc, od, dV, kV, doc, pmm, an, cd2, ct, osl, rfl, lk, hcd, _⟩, _⟩ := FD
    have G : FnOk P w K mg base CX0 (0 + 1) pg _ ["self"] (getSp (He.ga K "Modulo") "_prime") := fn_getter lk hcd scP rfl (by rfl) T.fcM.cl T.fcM.np
    refine ⟨_, pss_cons (ps_asg (pe_callG (ok_two T) (hr.mono (by decide)) hg (by rfl) (T.g "_law_two" (by decide +kernel)) (kp__law_two T.d) pass0 (pa_cons (pv 1) pa_nil))
        (pg_tup rfl (pgs_cons (pg_name (i := 2) nd rfl (.inl rfl)) (pgs_cons (pg_name (i := 3) nd rfl (.inl rfl)) pgs_nil))))
      (pss_cons (ps_if (pt_cmpR op_eq (pe_op op_mod (pe_callTy call_int1 (by rfl) zi bi (pa_cons (pv 3) pa_nil)) (pe_prop (pv 0) T.fcM.cl hp G (hr.mono (by decide)) hb .nil pass0 (by rfl))) pe_int (nomark _)) (pss_one (ps_ret pe_non)) pss_nil)
      (pss_one (ps_ret (pe_methG (pv 0) (kp_Field_over T.d) (ok_overG T) hr hg pass0
        (pa_cons (pe_op op_mod (pe_callTy call_int1 (by rfl) zi bi (pa_cons (pv 2) pa_nil)) (pe_prop (pv 0) T.fcM.cl hp G (hr.mono (by decide)) hb .nil pass0 (by rfl)))
        (pa_cons (pe_op op_mod (pe_callTy call_int1 (by rfl) zi bi (pa_cons (pv 3) pa_nil)) (pe_prop (pv 0) T.fcM.cl hp G (hr.mono (by decide)) hb .nil pass0 (by rfl))) pa_nil)))))), ?_⟩
    refine ⟨_, rfl, x, _, _, rfl, nx.two, fun u H1 s1 hu => ?_⟩
    refine ⟨u, _, rfl, .inl (.inl hu), rfl, _, _, rfl, _, _, rfl, rfl, ?_⟩
    have F1 := F.same s1
    refine ⟨_, rfl, .inl ⟨_, rfl, rd_propP rfl F1 ⟨_, _, rfl, rfl, (by show 0 < p; omega), rfl, _, rfl, ?_⟩⟩⟩
    rw [iEq]
    by_cases e : (r.den : Int) % p = 0
    · exact ifT (decide_eq_true e) (q _ H1 s1 (.inl ⟨rfl, Int.dvd_of_emod_eq_zero e⟩))
    · refine ifF (decide_eq_false e) ?_
      refine go_methG rfl F1 (by decide +kernel) (by decide +kernel) ⟨_, rfl, .inl ⟨_, rfl, rd_propP rfl F1 ⟨_, _, rfl, rfl, (by show 0 < p; omega), _, rfl, .inl ⟨_, rfl, rd_propP rfl F1 ⟨_, _, rfl, rfl, (by show 0 < p; omega), ?_⟩⟩⟩⟩⟩
      refine ⟨h, _, _, .md p, 330, iq (r.num % p), iq ((r.den : Int) % p), rfl, F1, pm, .inl ⟨rfl, rfl⟩, .inl ⟨rfl, rfl⟩, by decide, sz_md pm.md, sz_md pm.md, fun z => e (congrArg Rat.num z), fun z c H2 s2 nz sc ec _ => ?_⟩
      rw [num_md nz sc]
      refine q _ H2 (s1.trans s2) (.inr ⟨c.num, rfl, fun z => e (Int.emod_eq_zero_of_dvd z), sc.2.1, sc.2.2, ?_⟩)
      have e2 : (c.num * ((r.den : Int) % p)) % p = r.num % p := congrArg Rat.num ec
      rw [emod_r] at e2
      exact e2
/-! ### _law_rests_right -/
theorem sz_rem {p : Int} {q : Rat} {c : Int} {n : Nat} (h : Rem p q c) : Sz (.md p) n (iq c) := ⟨rfl, h.2.1, h.2.2.1⟩
def spRests (K : PySem.W.Frag) : Sp := fun vs H Q _ => ∃ (h f : Addr) (x y : V) (p : Int) (a b : Rat), vs = [.ref h, .ref f, x, y] ∧ FieldC K H h (.md p) ∧ Pm p ∧ FieldC K H f .fr ∧ NumQ H x a ∧ NumQ H y b ∧ Bq 31 a ∧ Bq 31 b ∧ ∀ H', Same H H' → Q (.bl true) H'
theorem ok_rests (T : Tx K mg) : FnG P w K mg base CX0 8 (He.ga K "_law_rests_right") (spRests K) := by
  refine mk__law_rests_right T.d (fun vs H Q E h => ?_) (fun cdv A outer s H vs Q E hg hr h => ?_)
  · obtain ⟨h, f, x, y, p, a, b, rfl, _⟩ := h
    rfl
  · obtain ⟨h, f, x, y, p, a, b, rfl, Fh, pm, Ff, nx, ny, ba, bb, q⟩ := h
    have m := pm.md
    have nd := sc__law_rests_right.nd
    have gr := T.g "_law_rest" (by decide +kernel)
    have S1 : Sz .fr 330 a := Bq.mono ba (by decide)
    have S2 : Sz .fr 330 b := Bq.mono bb (by decide)
    refine ⟨_, pss_cons (ps_set (i := 4) nd rfl (Or.inl rfl) (pe_lst (pa_cons (pe_callG (ok_rest T) hr hg (by rfl) gr (kp__law_rest T.d) pass0 (pa_cons (pv 0) (pa_cons (pv 2) pa_nil)))
        (pa_cons (pe_callG (ok_rest T) hr hg (by rfl) gr (kp__law_rest T.d) pass0 (pa_cons (pv 0) (pa_cons (pv 3) pa_nil))) pa_nil))))
      (pss_cons (ps_if (pt_cmpR op_in_seq pe_non (pv 4) (by rfl)) (pss_one (ps_ret pe_bl)) pss_nil)
      (pss_cons (ps_if (pt_cmpR op_ne (pe_callG (ok_rest T) hr hg (by rfl) gr (kp__law_rest T.d) pass0 (pa_cons (pv 0) (pa_cons (pe_methG (pv 1) (kp_Field_plus T.d) (ok_plusG T) (hr.mono (by decide)) hg pass0 (pa_cons (pv 2) (pa_cons (pv 3) pa_nil))) pa_nil)))
          (pe_methG (pv 0) (kp_Field_plus T.d) (ok_plusG T) (hr.mono (by decide)) hg pass0 (pa_cons (pe_ix ix_list (pv 4) pe_int (fun _ _ => rfl)) (pa_cons (pe_ix ix_list (pv 4) pe_int (fun _ _ => rfl)) pa_nil))) (nomark _)) pss_never pss_nil)
      (pss_cons (ps_if (pt_cmpR op_ne (pe_callG (ok_rest T) hr hg (by rfl) gr (kp__law_rest T.d) pass0 (pa_cons (pv 0) (pa_cons (pe_methG (pv 1) (kp_Field_times T.d) (ok_timesG T) (hr.mono (by decide)) hg pass0 (pa_cons (pv 2) (pa_cons (pv 3) pa_nil))) pa_nil)))
          (pe_methG (pv 0) (kp_Field_times T.d) (ok_timesG T) (hr.mono (by decide)) hg pass0 (pa_cons (pe_ix ix_list (pv 4) pe_int (fun _ _ => rfl)) (pa_cons (pe_ix ix_list (pv 4) pe_int (fun _ _ => rfl)) pa_nil))) (nomark _)) pss_never pss_nil)
      (pss_cons (ps_if (pt_cmpR op_eq (pe_ix ix_list (pv 4) pe_int (fun _ _ => rfl)) pe_int (nomark _)) (pss_one (ps_ret pe_bl)) pss_nil)
      (pss_one (ps_ret (pe_cmpR op_eq (pe_callG (ok_rest T) hr hg (by rfl) gr (kp__law_rest T.d) pass0 (pa_cons (pv 0) (pa_cons (pe_methG (pv 1) (kp_Field_over T.d) (ok_overG T) (hr.mono (by decide)) hg pass0 (pa_cons (pv 2) (pa_cons (pv 3) pa_nil))) pa_nil)))
          (pe_methG (pv 0) (kp_Field_over T.d) (ok_overG T) (hr.mono (by decide)) hg pass0 (pa_cons (pe_ix ix_list (pv 4) pe_int (fun _ _ => rfl)) (pa_cons (pe_ix ix_list (pv 4) pe_int (fun _ _ => rfl)) pa_nil))) (nomark _)))))))), ?_⟩
    refine ⟨_, rfl, _, rfl, h, x, p, a, rfl, Fh, pm, nx, fun v1 H1 s1 hv1 => ?_⟩
    refine ⟨_, rfl, _, rfl, h, y, p, b, rfl, Fh.same s1, pm, ny.same s1, fun v2 H2 s2 hv2 => ⟨by show 2 ≤ sizeLine; decide, fun l nl => ?_⟩⟩
    have u2 := same_up (o := .lst [v1, v2]) nl
    have t2 := (s1.trans s2).trans u2
    have hl : (upd H2 l (.lst [v1, v2])) l = some (.lst [v1, v2]) := upd_same
    rcases hv1 with ⟨rfl, _⟩ | ⟨c1, rfl, R1⟩
    · rcases hv2 with ⟨rfl, _⟩ | ⟨c2, rfl, _⟩
      · exact ⟨_, rfl, l, _, rfl, .inl (SqL.of hl), rfl, rfl, _, rfl, ifT rfl (q _ t2)⟩
      · exact ⟨_, rfl, l, _, rfl, .inl (SqL.of hl), rfl, rfl, _, rfl, ifT rfl (q _ t2)⟩
    rcases hv2 with ⟨rfl, _⟩ | ⟨c2, rfl, R2⟩
    · exact ⟨_, rfl, l, _, rfl, .inl (SqL.of hl), rfl, rfl, _, rfl, ifT rfl (q _ t2)⟩
    refine ⟨_, rfl, l, _, rfl, .inl (SqL.of hl), rfl, rfl, _, rfl, ifF rfl ?_⟩
    have nab := not_dvd_mul m R1.1 R2.1
    -- sums
    refine ⟨_, rfl, go_methG rfl (Ff.same t2) (by decide +kernel) (by decide +kernel) ⟨_, rfl, _, rfl, f, x, y, .fr, a, b, rfl, Ff.same t2, trivial, nx.same t2, ny.same t2, S1, S2, fun z3 H3 s3 n3 => ?_⟩⟩
    have t3 := t2.trans s3
    refine ⟨h, z3, p, _, rfl, Fh.same t3, pm, n3, fun v3 H4 s4 hv3 => ?_⟩
    have nd3 : ¬ p ∣ ((addG .fr a b).den : Int) := by
      show ¬ p ∣ (((a + b : Rat).den : Nat) : Int)
      rw [← add_is]
      exact rem_nd (Num.dd_ne0 a b) nab
    rcases hv3 with ⟨_, z⟩ | ⟨c3, rfl, R3⟩
    · exact absurd z nd3
    have t4 := t3.trans s4
    have hl4 := s4 _ _ (s3 _ _ hl)
    refine go_methG rfl (Fh.same t4) (by decide +kernel) (by decide +kernel) ⟨_, rfl, l, _, _, _, rfl, rfl, SqL.of hl4, rfl, _, rfl, l, _, _, _, rfl, rfl, SqL.of hl4, rfl, ?_⟩
    refine ⟨h, .int c1, .int c2, .md p, iq c1, iq c2, rfl, Fh.same t4, pm, .inl ⟨rfl, rfl⟩, .inl ⟨rfl, rfl⟩, sz_rem R1, sz_rem R2, fun z5 H5 s5 n5 => ?_⟩
    have e5 : z5 = .int ((c1 + c2) % p) := num_md (n := 330) n5 (sz_md m)
    subst e5
    refine ⟨rfl, _, rfl, ifF (by rw [rem_add m R1 R2 R3, decide_eq_true rfl]; rfl) ?_⟩
    have t5 := t4.trans s5
    have hl5 := s5 _ _ hl4
    -- products
    refine ⟨_, rfl, go_methG rfl (Ff.same t5) (by decide +kernel) (by decide +kernel) ⟨_, rfl, _, rfl, f, x, y, .fr, a, b, rfl, Ff.same t5, trivial, nx.same t5, ny.same t5, S1, S2, fun z6 H6 s6 n6 => ?_⟩⟩
    have t6 := t5.trans s6
    refine ⟨h, z6, p, _, rfl, Fh.same t6, pm, n6, fun v6 H7 s7 hv6 => ?_⟩
    have nd6 : ¬ p ∣ ((mulG .fr a b).den : Int) := by
      show ¬ p ∣ (((a * b : Rat).den : Nat) : Int)
      rw [← mul_is]
      exact rem_nd (Num.dd_ne0 a b) nab
    rcases hv6 with ⟨_, z⟩ | ⟨c6, rfl, R6⟩
    · exact absurd z nd6
    have t7 := t6.trans s7
    have hl7 := s7 _ _ (s6 _ _ hl5)
    refine go_methG rfl (Fh.same t7) (by decide +kernel) (by decide +kernel) ⟨_, rfl, l, _, _, _, rfl, rfl, SqL.of hl7, rfl, _, rfl, l, _, _, _, rfl, rfl, SqL.of hl7, rfl, ?_⟩
    refine ⟨h, .int c1, .int c2, .md p, iq c1, iq c2, rfl, Fh.same t7, pm, .inl ⟨rfl, rfl⟩, .inl ⟨rfl, rfl⟩, sz_rem R1, sz_rem R2, fun z8 H8 s8 n8 => ?_⟩
    have e8 : z8 = .int ((c1 * c2) % p) := num_md (n := 330) n8 (sz_md m)
    subst e8
    refine ⟨rfl, _, rfl, ifF (by rw [rem_mul m R1 R2 R6, decide_eq_true rfl]; rfl) ?_⟩
    have t8 := t7.trans s8
    have hl8 := s8 _ _ hl7
    -- quotients
    refine ⟨_, rfl, l, _, _, _, rfl, rfl, SqL.of hl8, rfl, rfl, _, rfl, ?_⟩
    rw [iEq]
    by_cases c20 : c2 = 0
    · exact ifT (decide_eq_true c20) (q _ t8)
    · refine ifF (decide_eq_false c20) ?_
      have nb := num_nd m R2 c20
      have b0 : b ≠ 0 := fun z => nb (by rw [z]; exact Int.dvd_zero p)
      have bn : b.num ≠ 0 := fun z => nb (by rw [z]; exact Int.dvd_zero p)
      refine ⟨_, rfl, go_methG rfl (Ff.same t8) (by decide +kernel) (by decide +kernel) ⟨_, rfl, _, rfl, f, x, y, .fr, 330, a, b, rfl, Ff.same t8, trivial, nx.same t8, ny.same t8, by decide, S1, S2, b0, fun z9 q9 H9 s9 n9 _ _ e9 => ?_⟩⟩
      have t9 := t8.trans s9
      have e9 := e9 rfl
      subst e9
      refine ⟨h, z9, p, _, rfl, Fh.same t9, pm, n9, fun v9 H10 s10 hv9 => ?_⟩
      have nd9 : ¬ p ∣ ((Rat.divInt (a.num * b.den) (a.den * b.num)).den : Int) := rem_nd (Int.mul_ne_zero (by have := den_pos' a; omega) bn) (not_dvd_mul m R1.1 nb)
      rcases hv9 with ⟨_, z⟩ | ⟨c9, rfl, R9⟩
      · exact absurd z nd9
      have t10 := t9.trans s10
      have hl10 := s10 _ _ (s9 _ _ hl8)
      refine go_methG rfl (Fh.same t10) (by decide +kernel) (by decide +kernel) ⟨_, rfl, l, _, _, _, rfl, rfl, SqL.of hl10, rfl, _, rfl, l, _, _, _, rfl, rfl, SqL.of hl10, rfl, ?_⟩
      refine ⟨h, .int c1, .int c2, .md p, 330, iq c1, iq c2, rfl, Fh.same t10, pm, .inl ⟨rfl, rfl⟩, .inl ⟨rfl, rfl⟩, by decide, sz_rem R1, sz_rem R2, fun z => c20 (congrArg Rat.num z), fun z11 g H11 s11 n11 sg eg _ => ?_⟩
      have e11 := num_md n11 sg
      subst e11
      have eg2 : (g.num * c2) % p = c1 := congrArg Rat.num eg
      refine ⟨rfl, ?_⟩
      rw [rem_div m R1 R2 c20 sg.2.1 sg.2.2 eg2 R9, decide_eq_true rfl]
      exact q _ (t10.trans s11)
end
end K05

namespace K05.F
open PySem PySem.Spec PyProof.Rows L2 Ver Num
theorem NumsQ.nil {H : Hp} : NumsQ H [] [] := ⟨rfl, fun i x q h => by simp at h⟩
theorem NumsQ.cons {H : Hp} {x : V} {q : Rat} {xs : List V} {qs : List Rat} (h : NumQ H x q) (t : NumsQ H xs qs) : NumsQ H (x :: xs) (q :: qs) := by
  refine ⟨by rw [List.length_cons, List.length_cons, t.1], fun i y r e1 e2 => ?_⟩
  cases i with
  | zero =>
    cases e1
    cases e2
    exact h
  | succ i => exact t.2 i y r e1 e2
end K05.F
namespace K05
open PySem PySem.Spec PyProof.Rows L2 Ver Num F
theorem num_zero {H : Hp} : NumQ H (.int 0) 0 := .inl ⟨rfl, rfl⟩
theorem num_one {H : Hp} : NumQ H (.int 1) 1 := .inl ⟨rfl, rfl⟩
theorem sz_zero {φ : Fk} (ok : φ.ok) : Sz φ 330 0 := by
  cases φ with
  | fr => exact ⟨Nat.pow_pos (by decide), Nat.one_lt_two_pow (by decide)⟩
  | md p =>
    have := Md.lo ok
    exact ⟨rfl, Int.le_refl 0, show (0 : Int) < p by omega⟩
theorem sz_one {φ : Fk} (ok : φ.ok) : Sz φ 330 1 := by
  cases φ with
  | fr => exact ⟨Nat.one_lt_two_pow (by decide), Nat.one_lt_two_pow (by decide)⟩
  | md p =>
    have := Md.lo ok
    exact ⟨rfl, show (0 : Int) ≤ 1 by decide, show (1 : Int) < p by omega⟩
theorem PenC.same {H H' : Hp} {d c : Addr} {k : Int} (p : PenC H d c k) (s : Same H H') : PenC H' d c k := p.on (But.same s) (p.at_.same s)
theorem NumQ.up {H : Hp} {x : V} {q : Rat} {D : Addr} {xs : List V} {o : HO} (h : NumQ H x q) (hD : H D = some (.lst xs)) : NumQ (upd H D o) x q := by
  rcases h with h | ⟨e, a, ex, h⟩
  · exact .inl h
  · exact .inr ⟨e, a, ex, by rw [upd_ne (ne_of h hD (by intro z; cases z))]; exact h⟩
theorem FieldC.up {K : PySem.W.Frag} {H : Hp} {f D : Addr} {φ : Fk} {xs : List V} {o : HO} (F : FieldC K H f φ) (hD : H D = some (.lst xs)) : FieldC K (upd H D o) f φ := by
  obtain ⟨C, dx, c, m, e, r⟩ := F
  exact ⟨C, dx, c, m, by rw [upd_ne (ne_of e hD (by intro z; cases z))]; exact e, r⟩
section
variable {P : Program} {w : World} {K : PySem.W.Frag} {mg : Str → Option Value} {base : Heap}
def spLaw (K : PySem.W.Frag) : Sp := fun vs H Q _ => ∃ (a : Addr) (ns : List Int), vs = [.ref a] ∧ SqL K H a (ns.map V.int) ∧ ns.length ≤ 63 ∧ ∀ H', Q (.bl true) H'
theorem ok_law (T : Tx K mg) : FnG P w K mg base CX0 9 (He.ga K "law") (spLaw K) := by
  refine mk_law T.d (fun vs H Q E h => ?_) (fun cdv A outer s H vs Q E hg hr h => ?_)
  · obtain ⟨a, ns, rfl, _⟩ := h
    rfl
  · obtain ⟨ad, ns, rfl, hs, hl, q⟩ := h
    have nd := sc_law.nd
    have zg := T.z "range" (by decide +kernel)
    have hu := hr.units
    have mp : ∀ m ∈ (["is_number", "plus", "minus", "times", "over", "total", "holds", "ratio", "product_of", "sum_of", "difference_of", "quotient_of", "common", "_check"] : List Str), (m == ("_prime" : Str)) = false := by decide +kernel
    have i1 : ("plus" : Str) ∈ (["is_number", "plus", "minus", "times", "over", "total", "holds", "ratio", "product_of", "sum_of", "difference_of", "quotient_of", "common", "_check"] : List Str) := by decide +kernel
    have i2 : ("times" : Str) ∈ (["is_number", "plus", "minus", "times", "over", "total", "holds", "ratio", "product_of", "sum_of", "difference_of", "quotient_of", "common", "_check"] : List Str) := by decide +kernel
    have i3 : ("minus" : Str) ∈ (["is_number", "plus", "minus", "times", "over", "total", "holds", "ratio", "product_of", "sum_of", "difference_of", "quotient_of", "common", "_check"] : List Str) := by decide +kernel
    have i4 : ("over" : Str) ∈ (["is_number", "plus", "minus", "times", "over", "total", "holds", "ratio", "product_of", "sum_of", "difference_of", "quotient_of", "common", "_check"] : List Str) := by decide +kernel
    have iT : ("total" : Str) ∈ (["is_number", "plus", "minus", "times", "over", "total", "holds", "ratio", "product_of", "sum_of", "difference_of", "quotient_of", "common", "_check"] : List Str) := by decide +kernel
    refine ⟨_, pss_cons (ps_set (i := 1) nd rfl (Or.inr rfl) (pe_callG (ok_pen T) (hr.mono (by decide)) hg (by rfl) (T.g "_law_pen" (by decide +kernel)) (kp__law_pen T.d) pass0 (pa_cons (pv 0) pa_nil)))
      (pss_cons (ps_for PassesOwn.never rfl (pi_range1 (by rfl) zg (pa_cons pe_int pa_nil)) (pg_name (i := 2) nd rfl (.inl rfl))
        (pss_cons (ps_set (i := 3) nd rfl (Or.inr rfl) (pe_callG (ok_any_prime T) (hr.mono (by decide)) hg (by rfl) (T.g "_law_any_prime" (by decide +kernel)) (kp__law_any_prime T.d) pass0 (pa_cons (pv 1) pa_nil)))
        (pss_cons (ps_set (i := 4) nd rfl (Or.inl rfl) (pe_callG (ok_made T) (hr.mono (by decide)) hg (by rfl) (T.g "_law_made_field" (by decide +kernel)) (kp__law_made_field T.d) pass0 (pa_cons (pv 3) pa_nil)))
        (pss_cons (ps_if (pt_not (pt_val (pe_callB call_isi (by rfl) (T.z "isinstance" (by decide +kernel)) (by decide +kernel) (pa_cons (pv 4) (pa_cons (pe_glob (v := .ref (He.ga K "Field")) (by rfl) (T.g "Field" (by decide +kernel)) rfl) pa_nil))))) pss_never pss_nil)
        (pss_cons (ps_asg (pe_lc (own := [("_law_k", 8)]) (g := gName 8) (tt := tYes) rfl nd (pi_range1 (by rfl) zg (pa_cons pe_int pa_nil)) (blkOk_by (N := n_law) (sc := defScope s_law) (by decide +kernel)) (fun _ _ _ _ _ => pg_name (i := 8) nd rfl (Or.inl rfl)) (fun _ _ _ _ _ => pts_nil)
            (fun _ _ _ _ _ => pe_callG (ok_any T) (hr.mono (by decide)) hg (by rfl) (T.g "_law_any_number" (by decide +kernel)) (kp__law_any_number T.d) pass0 (pa_cons (pv 1) (pa_cons (pv 3) (pa_cons pe_bl pa_nil)))))
          (pg_lst rfl (pgs_cons (pg_name (i := 5) nd rfl (.inl rfl)) (pgs_cons (pg_name (i := 6) nd rfl (.inl rfl)) (pgs_cons (pg_name (i := 7) nd rfl (.inl rfl)) pgs_nil)))))
        (pss_cons (ps_if (pt_not (pt_val (pe_callG (ok_groups T) (hr.mono (by decide)) hg (by rfl) (T.g "_law_groups_right" (by decide +kernel)) (kp__law_groups_right T.d) pass0 (pa_cons (pv 4) (pa_cons (pv 5) (pa_cons (pv 6) (pa_cons (pv 7) pa_nil))))))) pss_never pss_nil)
        (pss_cons (ps_if (PW.pt (pw_or (pt_cmpR (op_neD hu) (pe_methG (pv 4) (kp_Field_plus T.d) (ok_plusG T) (hr.mono (by decide)) hg pass0 (pa_cons (pe_methG (pv 4) (kp_Field_minus T.d) (ok_minusG T) (hr.mono (by decide)) hg pass0 (pa_cons (pv 5) (pa_cons (pv 6) pa_nil))) (pa_cons (pv 6) pa_nil))) (pv 5) (nomark _))
            (pw_or (pt_cmpR (op_neD hu) (pe_methG (pv 4) (kp_Field_minus T.d) (ok_minusG T) (hr.mono (by decide)) hg pass0 (pa_cons (pv 5) (pa_cons (pv 5) pa_nil))) pe_int (nomark _))
            (pw_or1 (pt_cmpR (op_neD hu) (pe_methG (pv 4) (kp_Field_plus T.d) (ok_plusG T) (hr.mono (by decide)) hg pass0 (pa_cons (pv 5) (pa_cons pe_int pa_nil))) (pv 5) (nomark _)))))) pss_never pss_nil)
        (pss_cons (ps_if (PW.pt (pw_or (pt_cmpR (op_neD hu) (pe_methG (pv 4) (kp_Field_times T.d) (ok_timesG T) (hr.mono (by decide)) hg pass0 (pa_cons (pv 5) (pa_cons pe_int pa_nil))) (pv 5) (nomark _))
            (pw_or (pt_cmpR (op_neD hu) (pe_methG (pv 4) (kp_Field_times T.d) (ok_timesG T) (hr.mono (by decide)) hg pass0 (pa_cons (pv 5) (pa_cons pe_int pa_nil))) pe_int (nomark _))
            (pw_or1 (pt_cmpR (op_neD hu) (pe_methG (pv 4) (kp_Field_minus T.d) (ok_minusG T) (hr.mono (by decide)) hg pass0 (pa_cons pe_int (pa_cons (pe_methG (pv 4) (kp_Field_minus T.d) (ok_minusG T) (hr.mono (by decide)) hg pass0 (pa_cons pe_int (pa_cons (pv 5) pa_nil))) pa_nil))) (pv 5) (nomark _)))))) pss_never pss_nil)
        (pss_cons (ps_if (pt_cmpR (op_neD hu) (pv 6) pe_int (nomark _))
          (pss_cons (ps_set (i := 9) nd rfl (Or.inl rfl) (pe_methG (pv 4) (kp_Field_times T.d) (ok_timesG T) (hr.mono (by decide)) hg pass0 (pa_cons (pe_methG (pv 4) (kp_Field_over T.d) (ok_overG T) (hr.mono (by decide)) hg pass0 (pa_cons (pv 5) (pa_cons (pv 6) pa_nil))) (pa_cons (pv 6) pa_nil))))
          (pss_one (ps_if (PW.pt (pw_or (pt_cmpR (op_neD hu) (pv 9) (pv 5) (nomark _))
            (pw_or1 (pt_cmpR (op_neD hu) (pe_methG (pv 4) (kp_Field_over T.d) (ok_overG T) (hr.mono (by decide)) hg pass0 (pa_cons (pe_methG (pv 4) (kp_Field_times T.d) (ok_timesG T) (hr.mono (by decide)) hg pass0 (pa_cons (pv 5) (pa_cons (pv 6) pa_nil))) (pa_cons (pv 6) pa_nil))) (pv 5) (nomark _))))) pss_never pss_nil))) pss_nil)
        (pss_cons (ps_if (pt_cmpR (op_neD hu) (pe_methG (pv 4) (kp_Field_total T.d) (ok_totalG T) (hr.mono (by decide)) hg pass0 (pa_cons (pv 5) (pa_cons (pv 6) (pa_cons (pv 7) (pa_cons (pv 5) pa_nil)))))
          (pe_methG (pv 4) (kp_Field_plus T.d) (ok_plusG T) (hr.mono (by decide)) hg pass0 (pa_cons (pe_methG (pv 4) (kp_Field_plus T.d) (ok_plusG T) (hr.mono (by decide)) hg pass0 (pa_cons (pv 5) (pa_cons (pv 6) pa_nil)))
            (pa_cons (pe_methG (pv 4) (kp_Field_plus T.d) (ok_plusG T) (hr.mono (by decide)) hg pass0 (pa_cons (pv 7) (pa_cons (pv 5) pa_nil))) pa_nil))) (nomark _)) pss_never pss_nil)
        (pss_one (ps_if (PW.pt (pw_and (pt_cmpR op_eq (pv 3) pe_int (nomark _)) (pw_and1 (pt_not (pt_val (pe_callG (ok_rests T) hr hg (by rfl) (T.g "_law_rests_right" (by decide +kernel)) (kp__law_rests_right T.d) pass0
          (pa_cons (pe_makeG T.mM.mkr (M.ok_minit T) (hr.mono (by decide)) hg (by rfl) (T.g "Modulo" (by decide +kernel)) pass0 (pa_cons (pe_callG (ok_lprime T) (hr.mono (by decide)) hg (by rfl) (T.g "_law_prime" (by decide +kernel)) (kp__law_prime T.d) pass0 (pa_cons (pv 1) pa_nil)) pa_nil))
            (pa_cons (pv 4) (pa_cons (pv 5) (pa_cons (pv 6) pa_nil)))))))))) pss_never pss_nil))))))))))))
      (pss_one (ps_ret pe_bl))), ?_⟩
    refine ⟨_, rfl, ad, ns, rfl, hs, hl, fun d H1 s1 hd pen1 => ?_⟩
    refine ⟨_, rfl, by decide, by decide, ?_⟩
    refine for_range (lo := 0) (fun i σ H' => ∃ v2 v3 v4 v5 v6 v7 v9 : Option V, PenAt H' d (40 * (i : Int)) ∧ σ = [some (.ref ad), some (.ref d), v2, v3, v4, v5, v6, v7, none, v9]) ⟨_, _, _, _, _, _, _, pen1.mono (by omega), rfl⟩ ?_ ?_
    · rintro i σ H0 hi ⟨v2, v3, v4, v5, v6, v7, v9, pen0, rfl⟩
      have hi16 : i < 16 := hi
      refine ⟨_, rfl, d, _, rfl, pen0, by omega, fun φ H2 o bt2 pen2 => ?_⟩
      have ok := o.ok
      refine ⟨_, rfl, φ, rfl, o, fun f H3 s3 F3 => ?_⟩
      have pen3 := pen2.same s3
      obtain ⟨C, dx, fc, mc, hf, hM⟩ := id F3
      refine ⟨_, rfl, _, _, _, _, true, rfl, .own _, .base (.ins hf fc.cl mc.cl T.clS T.clT mc.ob), mc.isF, _, rfl, ifF rfl ?_⟩
      obtain ⟨cc, penC3⟩ := pen3.c
      obtain ⟨cells, b0, l0, hd3, hc3, _⟩ := id penC3.ex
      -- three numbers
      refine ⟨_, rfl, by decide, by decide, fun D nD => lc_range (lo := 0) (g := gName 8) (tt := tYes) (te := fun σ H Q => tCons (tVar 1) (tCons (tVar 3) (tCons (tC (.bl true)) tNil)) σ H fun vs H1 => spAny vs H1 Q E0) (vs := [8])
        (fun j H4 => ∃ (xs : List V) (qs : List Rat), xs.length = j ∧ qs.length = j ∧ H4 D = some (.lst xs) ∧ (∀ (n : Nat) (x : V) (r : Rat), xs[n]? = some x → qs[n]? = some r → NumQ H4 x r ∧ Sz φ 31 r) ∧ FieldC K H4 f φ ∧ PenC H4 d cc (40 * (i : Int) + 2 + 10 * (j : Int)))
        ⟨[], [], rfl, rfl, upd_same, (fun n x r h => by simp at h), F3.same (same_up nD), ?_⟩ ?_ ?_⟩
      · have z := penC3.up (o := .lst []) (ne_of_none hd3 nD) (ne_of_none hc3 nD)
        exact ⟨by obtain ⟨a1, a2, a3, a4, a5, a6, a7, a8, a9⟩ := z.ex; exact ⟨a1, a2, a3, a4, a5, a6, a7, by omega, a9⟩⟩
      · rintro j H4 hj ⟨xs, qs, lx, lq, hD, hn, F4, penC4⟩
        have hj3 : j < 3 := hj
        obtain ⟨e1, e2, e3, e4, e5, _⟩ := id penC4.ex
        refine ⟨rfl, ?_⟩
        refine ⟨_, rfl, _, rfl, d, _, φ, rfl, o, penC4.at_, by omega, fun x r H5 nx sx bt5 pen5 => ?_⟩
        have hD5 := bt5.1 D _ hD (ne_of hD e4 (by intro z; cases z))
        have penC5 := penC4.on bt5 pen5
        refine ⟨xs, hD5, by rw [lx]; exact Nat.lt_of_lt_of_le hj3 (by decide), xs ++ [x], qs ++ [r], by rw [List.length_append, lx]; rfl, by rw [List.length_append, lq]; rfl, upd_same, fun n y t h1 h2 => ?_, (F4.but penC4.at_ bt5).up hD5, ?_⟩
        · by_cases c : n < j
          · rw [List.getElem?_append_left (by omega)] at h1 h2
            obtain ⟨n1, n2⟩ := hn n y t h1 h2
            exact ⟨NumQ.up (NumQ.but n1 penC4.at_ bt5) hD5, n2⟩
          · have hlt := (List.getElem?_eq_some_iff.mp h1).1
            rw [List.length_append] at hlt
            have l1 : [x].length = 1 := rfl
            have en : n = j := by omega
            rw [List.getElem?_append_right (by omega), en, lx, Nat.sub_self] at h1
            rw [List.getElem?_append_right (by omega), en, lq, Nat.sub_self] at h2
            cases h1
            cases h2
            exact ⟨NumQ.up nx hD5, sx⟩
        · have z := penC5.up (D := D) (o := .lst (xs ++ [x])) (fun w => by rw [w, hD] at e4; cases e4) (fun w => ?_)
          · exact ⟨by obtain ⟨a1, a2, a3, a4, a5, a6, a7, a8, a9⟩ := z.ex; exact ⟨a1, a2, a3, a4, a5, a6, a7, by omega, a9⟩⟩
          · rw [← w] at nD
            exact absurd (nD.symm.trans hc3) (by intro z; cases z)
      rintro H4 ⟨xs, qs, lx, lq, hD, hn, F, pen⟩
      have lx3 : xs.length = 3 := lx
      have lq3 : qs.length = 3 := lq
      obtain ⟨x, y, z, rfl⟩ : ∃ x y z, xs = [x, y, z] := by
        match xs, lx3 with
        | [x, y, z], _ => exact ⟨x, y, z, rfl⟩
      obtain ⟨a, b, c, rfl⟩ : ∃ a b c, qs = [a, b, c] := by
        match qs, lq3 with
        | [a, b, c], _ => exact ⟨a, b, c, rfl⟩
      obtain ⟨nx, sa⟩ := hn 0 x a rfl rfl
      obtain ⟨ny, sb⟩ := hn 1 y b rfl rfl
      obtain ⟨nz, sc⟩ := hn 2 z c rfl rfl
      refine ⟨D, _, rfl, SqL.of hD, rfl, _, _, rfl, _, _, rfl, _, _, rfl, rfl, ?_⟩
      have S : ∀ {r : Rat}, Sz φ 31 r → Sz φ 330 r := fun h => h.mono (by decide)
      have S2 : ∀ {r : Rat}, Sz φ (31 + 31 + 1) r → Sz φ 330 r := fun h => h.mono (by decide)
      -- groups
      refine ⟨_, rfl, _, rfl, _, rfl, _, rfl, f, x, y, z, φ, a, b, c, rfl, F, o, ⟨nx, sa⟩, ⟨ny, sb⟩, ⟨nz, sc⟩, fun H5 s5 => ⟨_, rfl, ifF rfl ?_⟩⟩
      -- taken off
      refine go_methG rfl (F.same s5) i1 (mp _ i1) (go_methG rfl (F.same s5) i3 (mp _ i3) ⟨_, rfl, _, rfl, f, x, y, φ, a, b, rfl, F.same s5, o, nx.same s5, ny.same s5, S sa, S sb, fun z1 H6 s6 n6 => ?_⟩)
      have t6 := s5.trans s6
      refine ⟨_, rfl, f, z1, y, φ, _, b, rfl, F.same t6, o, n6, ny.same t6, S2 (sz_sub ok sa sb), S sb, fun z2 H7 s7 n7 => ?_⟩
      rw [subG_add sa] at n7
      have t7 := t6.trans s7
      refine ⟨_, rfl, _, _, dp_q n7, dp_q (nx.same t7), shaped_q _, shaped_q _, _, rfl, ?_⟩
      rw [eqv_self]
      refine ifF rfl ?_
      refine go_methG rfl (F.same t7) i3 (mp _ i3) ⟨_, rfl, _, rfl, f, x, x, φ, a, a, rfl, F.same t7, o, nx.same t7, nx.same t7, S sa, S sa, fun z3 H8 s8 n8 => ?_⟩
      rw [subG_self] at n8
      have t8 := t7.trans s8
      refine ⟨_, _, dp_q n8, dp_q num_zero, shaped_q _, shaped_q _, _, rfl, ?_⟩
      rw [eqv_self]
      refine ifF rfl ?_
      refine go_methG rfl (F.same t8) i1 (mp _ i1) ⟨_, rfl, f, x, .int 0, φ, a, 0, rfl, F.same t8, o, nx.same t8, num_zero, S sa, sz_zero ok, fun z4 H9 s9 n9 => ?_⟩
      rw [addG_zero sa] at n9
      have t9 := t8.trans s9
      refine ⟨_, rfl, _, _, dp_q n9, dp_q (nx.same t9), shaped_q _, shaped_q _, _, rfl, ?_⟩
      rw [eqv_self]
      refine ifF rfl ?_
      -- by one and zero
      refine go_methG rfl (F.same t9) i2 (mp _ i2) ⟨_, rfl, f, x, .int 1, φ, a, 1, rfl, F.same t9, o, nx.same t9, num_one, S sa, sz_one ok, fun z5 H10 s10 n10 => ?_⟩
      rw [mulG_one sa] at n10
      have t10 := t9.trans s10
      refine ⟨_, rfl, _, _, dp_q n10, dp_q (nx.same t10), shaped_q _, shaped_q _, _, rfl, ?_⟩
      rw [eqv_self]
      refine ifF rfl ?_
      refine go_methG rfl (F.same t10) i2 (mp _ i2) ⟨_, rfl, f, x, .int 0, φ, a, 0, rfl, F.same t10, o, nx.same t10, num_zero, S sa, sz_zero ok, fun z6 H11 s11 n11 => ?_⟩
      rw [mulG_zero] at n11
      have t11 := t10.trans s11
      refine ⟨_, _, dp_q n11, dp_q num_zero, shaped_q _, shaped_q _, _, rfl, ?_⟩
      rw [eqv_self]
      refine ifF rfl ?_
      refine go_methG rfl (F.same t11) i3 (mp _ i3) (go_methG rfl (F.same t11) i3 (mp _ i3) ⟨_, rfl, f, .int 0, x, φ, 0, a, rfl, F.same t11, o, num_zero, nx.same t11, sz_zero ok, S sa, fun z7 H12 s12 n12 => ?_⟩)
      have t12 := t11.trans s12
      have sz0 : Sz φ 330 (subG φ 0 a) := by
        cases φ with
        | fr =>
          have e0 : Bq 31 (0 : Rat) := ⟨Nat.pow_pos (by decide), Nat.one_lt_two_pow (by decide)⟩
          exact S2 (sz_sub ok e0 sa)
        | md p => exact sz_md ok
      refine ⟨f, .int 0, z7, φ, 0, _, rfl, F.same t12, o, num_zero, n12, sz_zero ok, sz0, fun z8 H13 s13 n13 => ?_⟩
      rw [sub_sub sa] at n13
      have t13 := t12.trans s13
      refine ⟨_, rfl, _, _, dp_q n13, dp_q (nx.same t13), shaped_q _, shaped_q _, _, rfl, ?_⟩
      rw [eqv_self]
      refine ifF rfl ?_
      -- divided
      refine ⟨_, rfl, dq b, .int 0, dp_q (ny.same t13), .int 0, shaped_q b, (by simp [SeqAt.shaped, PyData.canLay0, PyData.depth]), _, rfl, ?_⟩
      rw [eqv_q0]
      by_cases bz : b = 0
      · refine ifF (by rw [decide_eq_true bz]; rfl) ?_
        have tt := t13
        -- total
        refine go_methG rfl (F.same tt) iT (mp _ iT) ⟨_, rfl, _, rfl, _, rfl, _, rfl, f, [x, y, z, x], [a, b, c, a], φ, rfl, F.same tt, o, .cons (nx.same tt) (.cons (ny.same tt) (.cons (nz.same tt) (.cons (nx.same tt) .nil))), (by show 4 ≤ 10; decide), (fun r hr => by
          simp only [List.mem_cons, List.not_mem_nil, or_false] at hr
          rcases hr with rfl | rfl | rfl | rfl
          · exact S sa
          · exact S sb
          · exact S sc
          · exact S sa), fun w1 J1 j1 m1 => ?_⟩
        rw [tot4] at m1
        have k1 := tt.trans j1
        refine go_methG rfl (F.same k1) i1 (mp _ i1) (go_methG rfl (F.same k1) i1 (mp _ i1) ⟨_, rfl, _, rfl, f, x, y, φ, a, b, rfl, F.same k1, o, nx.same k1, ny.same k1, S sa, S sb, fun w2 J2 j2 m2 => ?_⟩)
        have k2 := k1.trans j2
        refine go_methG rfl (F.same k2) i1 (mp _ i1) ⟨_, rfl, _, rfl, f, z, x, φ, c, a, rfl, F.same k2, o, nz.same k2, nx.same k2, S sc, S sa, fun w3 J3 j3 m3 => ?_⟩
        have k3 := k2.trans j3
        refine ⟨f, w2, w3, φ, _, _, rfl, F.same k3, o, m2.same j3, m3, S2 (sz_add ok sa sb), S2 (sz_add ok sc sa), fun w4 J4 j4 m4 => ?_⟩
        refine ⟨_, _, dp_q (((m1.same j2).same j3).same j4), dp_q m4, shaped_q _, shaped_q _, _, rfl, ?_⟩
        rw [eqv_self]
        refine ifF rfl ?_
        have k4 := k3.trans j4
        have pen4 := pen.same k4
        -- remainders
        refine ⟨_, rfl, rfl, _, rfl, ?_⟩
        rw [iEq]
        cases φ with
        | md p =>
          have hlo := o.md.lo
          refine ifF (decide_eq_false (show ¬ p = 0 by omega)) (ifF rfl ?_)
          exact ⟨_, _, _, _, _, _, _, pen4.at_.mono (by omega), rfl⟩
        | fr =>
          refine ifT (by decide) ?_
          refine ⟨_, rfl, d, _, rfl, pen4.at_, by omega, fun p J5 pm bt5 pen5 => ?_⟩
          refine fun h dx nh ndx ne => ⟨h, dx, p, rfl, pm.pr, pm.sq, upd_same, rfl, ?_⟩
          have s5 := made_same (o1 := .own h) (o2 := .ins (He.ga K "Modulo") dx []) (o3 := .ins (He.ga K "Modulo") dx [(("_prime" : Str), V.int p)]) nh ndx
          have p4 := pen4.at_
          refine ⟨_, rfl, _, rfl, _, rfl, h, f, x, y, p, a, b, rfl, ⟨_, dx, T.fcM, T.mM, upd_same, fun p _ => rfl⟩, pm, ((F.same k4).but p4 bt5).same s5, (NumQ.but (nx.same k4) p4 bt5).same s5, (NumQ.but (ny.same k4) p4 bt5).same s5, sa, sb, fun J6 s6 => ⟨_, rfl, ?_⟩⟩
          refine ifF rfl ?_
          exact ⟨_, _, _, _, _, _, _, ((pen5.same s5).same s6).mono (by omega), rfl⟩

      · refine ifT (by rw [decide_eq_false bz]; rfl) ?_
        refine go_methG rfl (F.same t13) i2 (mp _ i2) (go_methG rfl (F.same t13) i4 (mp _ i4) ⟨_, rfl, _, rfl, f, x, y, φ, 31, a, b, rfl, F.same t13, o, nx.same t13, ny.same t13, by decide, sa, sb, bz, fun z9 g H14 s14 n14 sg eg _ => ?_⟩)
        have t14 := t13.trans s14
        refine ⟨_, rfl, f, z9, y, φ, g, b, rfl, F.same t14, o, n14, ny.same t14, S2 sg, S sb, fun z10 H15 s15 n15 => ?_⟩
        rw [eg] at n15
        have t15 := t14.trans s15
        refine ⟨_, rfl, _, rfl, _, _, dp_q n15, dp_q (nx.same t15), shaped_q _, shaped_q _, _, rfl, ?_⟩
        rw [eqv_self]
        refine ifF rfl ?_
        refine go_methG rfl (F.same t15) i4 (mp _ i4) (go_methG rfl (F.same t15) i2 (mp _ i2) ⟨_, rfl, _, rfl, f, x, y, φ, a, b, rfl, F.same t15, o, nx.same t15, ny.same t15, S sa, S sb, fun z11 H16 s16 n16 => ?_⟩)
        have t16 := t15.trans s16
        refine ⟨_, rfl, f, z11, y, φ, 63, _, b, rfl, F.same t16, o, n16, ny.same t16, by decide, sz_mul ok sa sb, sb.mono (by decide), bz, fun z12 g2 H17 s17 n17 sg2 eg2 _ => ?_⟩
        rw [mulG_cancel ok sa sg2 sb bz eg2] at n17
        have t17 := t16.trans s17
        refine ⟨_, rfl, _, _, dp_q n17, dp_q (nx.same t17), shaped_q _, shaped_q _, _, rfl, ?_⟩
        rw [eqv_self]
        refine ifF rfl ?_
        have tt := t17
        -- total
        refine go_methG rfl (F.same tt) iT (mp _ iT) ⟨_, rfl, _, rfl, _, rfl, _, rfl, f, [x, y, z, x], [a, b, c, a], φ, rfl, F.same tt, o, .cons (nx.same tt) (.cons (ny.same tt) (.cons (nz.same tt) (.cons (nx.same tt) .nil))), (by show 4 ≤ 10; decide), (fun r hr => by
          simp only [List.mem_cons, List.not_mem_nil, or_false] at hr
          rcases hr with rfl | rfl | rfl | rfl
          · exact S sa
          · exact S sb
          · exact S sc
          · exact S sa), fun w1 J1 j1 m1 => ?_⟩
        rw [tot4] at m1
        have k1 := tt.trans j1
        refine go_methG rfl (F.same k1) i1 (mp _ i1) (go_methG rfl (F.same k1) i1 (mp _ i1) ⟨_, rfl, _, rfl, f, x, y, φ, a, b, rfl, F.same k1, o, nx.same k1, ny.same k1, S sa, S sb, fun w2 J2 j2 m2 => ?_⟩)
        have k2 := k1.trans j2
        refine go_methG rfl (F.same k2) i1 (mp _ i1) ⟨_, rfl, _, rfl, f, z, x, φ, c, a, rfl, F.same k2, o, nz.same k2, nx.same k2, S sc, S sa, fun w3 J3 j3 m3 => ?_⟩
        have k3 := k2.trans j3
        refine ⟨f, w2, w3, φ, _, _, rfl, F.same k3, o, m2.same j3, m3, S2 (sz_add ok sa sb), S2 (sz_add ok sc sa), fun w4 J4 j4 m4 => ?_⟩
        refine ⟨_, _, dp_q (((m1.same j2).same j3).same j4), dp_q m4, shaped_q _, shaped_q _, _, rfl, ?_⟩
        rw [eqv_self]
        refine ifF rfl ?_
        have k4 := k3.trans j4
        have pen4 := pen.same k4
        -- remainders
        refine ⟨_, rfl, rfl, _, rfl, ?_⟩
        rw [iEq]
        cases φ with
        | md p =>
          have hlo := o.md.lo
          refine ifF (decide_eq_false (show ¬ p = 0 by omega)) (ifF rfl ?_)
          exact ⟨_, _, _, _, _, _, _, pen4.at_.mono (by omega), rfl⟩
        | fr =>
          refine ifT (by decide) ?_
          refine ⟨_, rfl, d, _, rfl, pen4.at_, by omega, fun p J5 pm bt5 pen5 => ?_⟩
          refine fun h dx nh ndx ne => ⟨h, dx, p, rfl, pm.pr, pm.sq, upd_same, rfl, ?_⟩
          have s5 := made_same (o1 := .own h) (o2 := .ins (He.ga K "Modulo") dx []) (o3 := .ins (He.ga K "Modulo") dx [(("_prime" : Str), V.int p)]) nh ndx
          have p4 := pen4.at_
          refine ⟨_, rfl, _, rfl, _, rfl, h, f, x, y, p, a, b, rfl, ⟨_, dx, T.fcM, T.mM, upd_same, fun p _ => rfl⟩, pm, ((F.same k4).but p4 bt5).same s5, (NumQ.but (nx.same k4) p4 bt5).same s5, (NumQ.but (ny.same k4) p4 bt5).same s5, sa, sb, fun J6 s6 => ⟨_, rfl, ?_⟩⟩
          refine ifF rfl ?_
          exact ⟨_, _, _, _, _, _, _, ((pen5.same s5).same s6).mono (by omega), rfl⟩

    · rintro σ H' ⟨v2, v3, v4, v5, v6, v7, v9, pen0, rfl⟩
      exact q H'
end
end K05

namespace K05
open PySem PySem.Spec PyProof.Rows L2 Ver Num
/-! ### the head: what it tells -/
abbrev R : PySem.W.OpenRow := PySem.W.OpenLaw.row PySem.Challenge.rw_firstanswers_k05_whole_rules_of_numbers
def ads (g : Addr → Option Obj) : List Addr := (PySem.cStatics :: He.asD g 5).eraseDups
def KF (g : Addr → Option Obj) : PySem.W.Frag := He.frG g (ads g)
def fms : List Str := ["is_number", "plus", "minus", "times", "over", "total", "holds", "ratio", "product_of", "sum_of", "difference_of", "quotient_of", "common", "_check"]
def fcls (K : PySem.W.Frag) (C a : Addr) (m : Str) : Bool := match PySem.W.findCls K (.ref C) (.type "type") m with
  | some (.val (.ref b)) => decide (b = a)
  | _ => false
theorem fcls_ok {K : PySem.W.Frag} {C a : Addr} {m : Str} (h : fcls K C a m = true) : PySem.W.findCls K (.ref C) (.type "type") m = some (.val (.ref a)) := by
  unfold fcls at h
  split at h
  · rename_i b e
    rw [e, of_decide_eq_true h]
  · cases h
/-- a class of fields -/
def xc (K : PySem.W.Frag) (x : Str) : List Bool := [(He.Fa.cls x).ok K, (He.Fa.noat x "_prime").ok K,
  fms.all fun m => He.eqO (PySem.W.findIn K (.ref (He.ga K x)) m) (some (some (.ref (He.ma K (He.ga K "Field") m)))) && (PySem.W.isFn K (.ref (He.ma K (He.ga K "Field") m)) && PySem.W.keepIn K (.ref (He.ma K (He.ga K "Field") m))),
  (He.Fa.mkr x).ok K, decide (PySem.W.kitOne K (.ref (He.ga K x)) (.ref (He.ga K "Field")) = some true),
  He.eqO (PySem.W.findIn K (.ref (He.ga K x)) "__class__") (some (some (.builtin "object.__class__"))), decide (PySem.W.mroIn K (He.ga K x) (.type "object") = some true)]
/-- the property and its getter -/
def pP (K : PySem.W.Frag) : Addr := He.ma K (He.ga K "Modulo") "prime"
def gP (K : PySem.W.Frag) : Addr := match PySem.W.recIn K (pP K) "property" with
  | some (.ref g :: _) => g
  | _ => 0
def gOk (K : PySem.W.Frag) : Bool := match PySem.W.recIn K (pP K) "property" with
  | some (.ref _ :: _) => true
  | _ => false
theorem gOk_ex {K : PySem.W.Frag} (h : gOk K = true) : ∃ rest, PySem.W.recIn K (pP K) "property" = some (.ref (gP K) :: rest) := by
  unfold gOk at h
  split at h
  · rename_i g rest e
    refine ⟨rest, ?_⟩
    have eg : gP K = g := by
      unfold gP
      rw [e]
    rw [eg]
    exact e
  · cases h
def dP : He.DefD := ⟨("Field", some "prime"), "prime", "Field.prime", defArgs s_Field_prime, defBody s_Field_prime, defScope s_Field_prime, [], []⟩
/-- what stands at g, a def -/
def fnA (K : PySem.W.Frag) (g : Addr) : He.FnW := match K.lookup g with
  | some ⟨_, _, .func u, _⟩ => some (u.name, u.qualname, u.params, u.body, u.scope, u.globals, u.closure, u.builtins)
  | _ => none
def okA (K : PySem.W.Frag) (g : Addr) (q : Str) : Bool := PySem.W.keepIn K (.ref g) && match K.lookup g with
  | some ⟨_, _, .func u, _⟩ => (PySem.W.codeIn K u.code q && He.dflB K u.defaults []) && He.kwdB K u.kwdefaults []
  | _ => false
theorem fun_at {K : PySem.W.Frag} {g : Addr} (e : fnA K g = dP.val) (c : okA K g "Field.prime" = true) : ∃ fd, FunD K "prime" "Field.prime" (defArgs s_Field_prime) (defBody s_Field_prime) (defScope s_Field_prime) [] [] g fd := by
  obtain ⟨kp, c2⟩ := He.ba c
  unfold fnA at e
  split at c2
  · rename_i oc od u osl hl
    rw [hl] at e
    obtain ⟨u1, u2, u3, u4, u5, u6, u7, u8, u9, u10, u11, u12, u13, u14, u15⟩ := u
    obtain ⟨c3, k4⟩ := He.ba c2
    obtain ⟨k1, k3⟩ := He.ba c3
    have e2 := Option.some.inj e
    simp only [Prod.mk.injEq] at e2
    obtain ⟨rfl, rfl, rfl, rfl, rfl, rfl, rfl, rfl⟩ := e2
    exact ⟨_, ⟨oc, od, u8, u9, u10, u11, u12, u13, u14, osl, rfl, hl, k1, He.dflB_ok k3, He.kwdB_ok k4⟩, kp⟩
  · cases c2
def x1 (K : PySem.W.Frag) : List Bool := [(He.Fa.int "FIRST_LONG" FL).ok K, (He.Fa.int "GREATEST_PRIME" 1000000000).ok K, He.eqO (PySem.W.nsIn K mainGlobals "gcd") (some (some (.builtin "math.gcd"))), He.eqO (PySem.W.nsIn K mainGlobals "lcm") (some (some (.builtin "math.lcm"))),
  He.eqO (PySem.W.nsIn K mainGlobals "isqrt") (some (some (.builtin "math.isqrt")))]
def x3 (K : PySem.W.Frag) : List Bool := [PySem.W.readsIn K (He.ga K "Field") (.type "type"), He.eqO (PySem.W.specialIn K (.ref (He.ga K "Field")) "__getattribute__") (some (some (.builtin "type.__getattribute__"))),
  fcls K (He.ga K "Field") (He.ma K (He.ga K "Field") "__init__") "__init__",
  He.eqO (PySem.W.specialIn K (.builtin "object.__class__") "__get__") (some (some (.builtin "getset_descriptor.__get__"))), decide (PySem.W.takesIn K (.builtin "object.__class__") = some true),
  He.eqO (PySem.W.findIn K (.ref (He.ga K "Modulo")) "prime") (some (some (.ref (pP K)))), He.eqO (PySem.W.specialIn K (.ref (pP K)) "__get__") (some (some (.builtin "property.__get__"))), decide (PySem.W.takesIn K (.ref (pP K)) = some true), gOk K, okA K (gP K) "Field.prime"]
def ex (K : PySem.W.Frag) : Bool := (x1 K).all id && ((xc K "Fractions").all id && ((xc K "Modulo").all id && (x3 K).all id))
def hook : PySem.W.Hook where
  α := He.AlD × Bool × He.FnW
  obs := fun s => (He.obsD fa fn (KF s.heap.get?), ex (KF s.heap.get?), fnA (KF s.heap.get?) (gP (KF s.heap.get?)))
  val := fun _ => (He.valD fn, true, dP.val)
  says := fun _ h => ∃ K : PySem.W.Frag, K.In h ∧ He.SaysD fa fn K ∧ ex K = true ∧ fnA K (gP K) = dP.val
  of := fun _ _ e => ⟨_, He.frG_in, congrArg (fun z : He.AlD × Bool × He.FnW => z.1) e, congrArg (fun z : He.AlD × Bool × He.FnW => z.2.1) e, congrArg (fun z : He.AlD × Bool × He.FnW => z.2.2) e⟩
  keeps := fun _ _ _ ⟨K, hK, c⟩ k => ⟨K, PySem.W.Frag.In.keeps hK k, c⟩
def ob (s : PySem.W.SharedT) : He.AlD × Bool × He.FnW := (He.obsD fa fn (KF (HandSHeadRun.getT s)), ex (KF (HandSHeadRun.getT s)), fnA (KF (HandSHeadRun.getT s)) (gP (KF (HandSHeadRun.getT s))))
theorem ob_eq (s : PySem.W.SharedT) : ob s = hook.obs s.abs := by
  have e : HandSHeadRun.getT s = s.abs.heap.get? := funext (HandSHeadRun.getT_eq s)
  unfold ob
  rw [e]
  rfl
def lo : List Str := (["_wall", "is_integer", "is_between", "InvalidPrime", "InvalidNumber", "InvalidText", "NoQuotient", "TooLong", "GREATEST_PRIME", "DECIMAL_DIGITS", "FIRST_LONG", "Field", "Fractions", "Modulo", "is_prime", "is_fraction", "is_longer", "parts", "shortened", "inverse"] : List Str) ++
  (["integer_of", "signed_integer_of", "number_of", "_law_pen", "_law_draw", "_law_pick", "_law_prime", "_law_number", "_law_far", "_law_tens", "_law_signed", "_law_gcd", "_law_told", "_law_two", "_law_any_number", "_law_made_field", "_law_any_prime", "_law_rest", "_law_rests_right", "_law_groups_right"] : List Str)
abbrev qv : Program := PySem.W.view R.prog [0, 45]
end K05

namespace K05
open PySem PySem.Spec PyProof.Rows L2 Ver Num
theorem run (w : World) : HandSHeadRun.RunEqI R qv hook ob 8000 lo w := by
  unfold HandSHeadRun.RunEqI
  kernel_rfl
end K05

namespace K05
open PySem PySem.Spec PyProof.Rows L2 Ver Num
theorem all_cons_ok {b : Bool} {l : List Bool} (h : (b :: l).all id = true) : b = true ∧ l.all id = true := He.ba h
theorem fc_of {K : PySem.W.Frag} {x : Str} (e : (xc K x).all id = true) : FC K (He.ga K x) ∧ MC K (He.ga K x) := by
  obtain ⟨a1, e⟩ := all_cons_ok e
  obtain ⟨a2, e⟩ := all_cons_ok e
  obtain ⟨a3, e⟩ := all_cons_ok e
  obtain ⟨a4, e⟩ := all_cons_ok e
  obtain ⟨a5, e⟩ := all_cons_ok e
  obtain ⟨a6, e⟩ := all_cons_ok e
  obtain ⟨a7, e⟩ := all_cons_ok e
  exact ⟨⟨He.cls_ok a1, He.noat_ok a2, fun m hm => by
    obtain ⟨h1, h2⟩ := He.ba (List.all_eq_true.mp a3 m hm)
    obtain ⟨h2, h3⟩ := He.ba h2
    exact ⟨He.eqO_ok h1, h2, h3⟩⟩, ⟨He.mkr_ok a4, of_decide_eq_true a5, He.eqO_ok a6, of_decide_eq_true a7⟩⟩
theorem tx_of {K : PySem.W.Frag} {h : Heap} {mg : Str → Option Value} (X : K.In h) (G : h.Ns mainGlobals mg) (c : He.SaysD fa fn K) (e : ex K = true) (v : fnA K (gP K) = dP.val) : Tx K mg := by
  obtain ⟨e1, e⟩ := He.ba e
  obtain ⟨e2, e⟩ := He.ba e
  obtain ⟨e3, e4⟩ := He.ba e
  obtain ⟨a1, e1⟩ := all_cons_ok e1
  obtain ⟨a2, e1⟩ := all_cons_ok e1
  obtain ⟨a3, e1⟩ := all_cons_ok e1
  obtain ⟨a4, e1⟩ := all_cons_ok e1
  obtain ⟨a5, e1⟩ := all_cons_ok e1
  obtain ⟨f1, f2⟩ := fc_of e2
  obtain ⟨m1, m2⟩ := fc_of e3
  obtain ⟨c1, e4⟩ := all_cons_ok e4
  obtain ⟨c2, e4⟩ := all_cons_ok e4
  obtain ⟨c3, e4⟩ := all_cons_ok e4
  obtain ⟨c4, e4⟩ := all_cons_ok e4
  obtain ⟨c5, e4⟩ := all_cons_ok e4
  obtain ⟨c6, e4⟩ := all_cons_ok e4
  obtain ⟨c7, e4⟩ := all_cons_ok e4
  obtain ⟨c8, e4⟩ := all_cons_ok e4
  obtain ⟨c9, e4⟩ := all_cons_ok e4
  obtain ⟨c10, e4⟩ := all_cons_ok e4
  obtain ⟨fd, FD⟩ := fun_at v c10
  exact
    { d := c
      g := fun x hx => He.glo_ok X G (He.SaysD.facts c (List.mem_append_left _ (List.mem_map_of_mem hx)))
      z := fun x hx => He.free_ok X G (He.SaysD.facts c (List.mem_append_right _ (List.mem_map_of_mem hx)))
      fl := He.int_ok X G a1
      gp := He.int_ok X G a2
      gcd := PySem.W.mg_of X G (He.eqO_ok a3)
      lcm := PySem.W.mg_of X G (He.eqO_ok a4)
      isq := PySem.W.mg_of X G (He.eqO_ok a5)
      fcF := f1
      fcM := m1
      mF := f2
      mM := m2
      rdF := c1
      gaF := He.eqO_ok c2
      fiF := fcls_ok c3
      clS := He.eqO_ok c4
      clT := of_decide_eq_true c5
      pr := ⟨pP K, gP K, fd, ⟨He.eqO_ok c6, He.eqO_ok c7, of_decide_eq_true c8, gOk_ex c9⟩, FD⟩ }
end K05
open PySem PySem.W PySem.Calls PyProof.Rows
theorem PySem.Challenge.cw_firstanswers_k05_whole_rules_of_numbers_holds : PySem.Challenge.rw_firstanswers_k05_whole_rules_of_numbers.Holds := by
  w_on; o_law
  refine HandSHeadRun.head_imp (r := K05.R) (q := K05.qv) (H := K05.hook) (ob := K05.ob) (M := 8000) (loose := K05.lo) (d := HandSHeadRun.topDef K05.R.prog 45) (kwd := []) K05.ob_eq K05.run
    (by kernel_rfl) (by kernel_rfl) (by kernel_rfl) (by rfl) (by first | assumption | decide +kernel) (by decide +kernel) ⟨rfl, rfl, rfl, rfl, rfl, by decide +kernel⟩ ?hw ?hc
  case hw => w_witness2
  case hc =>
    refine Ver.walkG (l := PySem.Challenge.rw_firstanswers_k05_whole_rules_of_numbers) (n := 63) (k := 9) rfl (by decide) (by kernel_rfl) ⟨rfl, by decide, by decide⟩ ?F
    intro w mg fa h Y G hmg0
    obtain ⟨K, KX, c, e, v⟩ := Y
    have hmg : mg ("law" : PySem.Str) = some (.ref fa) := by
      have q : (HandSHeadRun.topDef K05.R.prog 45).name = ("law" : PySem.Str) := by kernel_rfl
      rw [← q]
      exact hmg0
    have T := K05.tx_of KX G c e v
    have ef := hmg.symm.trans (T.g "law" (by decide +kernel))
    cases ef
    exact ⟨K, K05.spLaw K, KX, fun H a ns hl _ hS => ⟨a, ns, rfl, hS, hl, fun _ => rfl⟩, fun base h1 h2 => K05.ok_law T⟩
