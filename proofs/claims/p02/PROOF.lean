import PyProof.Rows.All
import Wide.All
import OpenK.AllK
import Wide.FinOn
import PySem.Challenge.RW_firstanswers_k02_numbers_of_fields
import HandS.Base
import HandS.Call
import HandS.List
import HandS.Ends
import HandS.Dict
import HandS.More
import HandS.Defaults
import HandS.Words
import HandS.Star
import PyProof.ReprRoads
import HandS.HeadHook1
import HandS.HeadHook2
import HandS.Wide
import HandS.Gcd
import HandS.Exc
import HandS.ExcInit
import HandS.WordsExc
import KE.KExcInit
import HandS.TryOnly
import HandS.ExcOwn
import HandS.IsInst
import HandS.Property
import HandS.ExcIs
import HandS.Iter
import HandS.WordsList
import HandS.Text
import HandS.TupAny
import HandS.Head0
import HandS.Head1
import HandS.Head2
import HandS.Head3
import HandS.HeadHook4
set_option Elab.async false
set_option linter.all false
set_option maxRecDepth 100000
set_option maxHeartbeats 0
/-! Defs that show data (repr): their promise wants that no show is under way around them. -/
namespace Ver
open PySem PySem.Spec PyProof.Rows L2
/-- a promise for callers around whom nothing is being shown -/
def FnG (P : Program) (w : World) (K : PySem.W.Frag) (mg : Str → Option Value) (base : Heap) (CX : CXT) (k : Nat) (f : Addr) (sp : Sp) : Prop :=
  ∀ (A : Around) (outer : List Env) (s : Shared) (H : Hp) (us : List Value) (vs : List V) (Q : VK) (E : XK), A.guards = some [] → Room k A →
    Env0 P w K mg base A outer s H → Vals vs us → sp vs H Q E → codeAny (model P w) A (.call (.ref f) ⟨us, []⟩) (CR CX outer P w H s Q E) s
section
variable {P : Program} {w : World} {K : PySem.W.Frag} {mg : Str → Option Value} {base : Heap} {CX : CXT} {k : Nat} {f : Addr} {fd : FuncData} {sp : Sp}
variable {x qual : Str} {params : Arguments} {body : List Stmt} {scope : Scope} {N ps : List Str} {kws : List (Str × V)}
theorem FnG.ofR (F : FnR P w K mg base CX k f sp) : FnG P w K mg base CX k f sp := fun A outer s H us vs Q E _ hr e0 r h => F A outer s H us vs Q E hr e0 r h
theorem FnG.mono {j : Nat} (F : FnG P w K mg base CX j f sp) (h : j ≤ k) : FnG P w K mg base CX k f sp := fun A outer s H us vs Q E g hr e0 r q => F A outer s H us vs Q E g (hr.mono h) e0 r q
/-- the rule for such a def, its body as a term -/
theorem okG (F : FunD K x qual params body scope [] kws f fd) (S : FnScope N ps scope)
    (hb : ∀ (s : Shared) (us : List Value), us.length = ps.length → BindsTo s fd ⟨us, []⟩ (ps.zip us)) (len : ∀ vs H Q E, sp vs H Q E → vs.length = ps.length)
    (hbody : ∀ (cdv : Value) (A : Around) (outer : List Env) (s : Shared) (H : Hp) (vs : List V) (Q : VK) (E : XK), A.guards = some [] → Room k (A.deeper (envOfC qual scope s.heap.objs.size f cdv)) → sp vs H Q E →
      ∃ t, PSs (cxOf CX P w K mg base N qual scope f cdv A outer s H E) body t ∧ t { nx := fun _ H' => Q .non H', rt := Q } (start N vs) H) : FnG P w K mg base CX (k + 1) f sp := by
  obtain ⟨⟨oc, od, dV, kV, doc, pm, an, cdv, ct, osl, rfl, lk, hcd, _⟩, _⟩ := F
  intro A outer s H us vs Q E hg hr e0 r hsp
  have hl := len _ _ _ _ hsp
  refine StX.run_bnd (G := fun xs H2 => xs = vs ∧ H2 = H) lk hcd S hr e0 (fun A' Ex Q' q => ?_) fun s2 H2 xs g hr' => ?_
  · exact hb s us (by rw [← r.length]; exact hl) _ A' Ex Q' (q s H vs us e0 Un.refl rfl (fun _ _ z => z) r hl ⟨rfl, rfl⟩)
  · obtain ⟨rfl, rfl⟩ := g
    exact hbody cdv A outer s2 H2 xs Q E hg hr' hsp
end
section
variable {X : Cx} {CX : CXT} {k : Nat} {f : Addr} {sp : Sp} {E : XK} {x : Str} {p pos : Pos} {e : Expr} {es : List Expr} {t : TA}
/-- f(e, ..) -/
theorem pe_callG (F : FnG X.prog X.w X.K X.mg X.base CX k f sp) (hr : Room k X.A) (hgd : X.A.guards = some []) (hg : Gl X x) (hm : X.mg x = some (.ref f)) (hk : PySem.W.keepIn X.K (.ref f) = true) (hx : Passes CX X E)
    (ha : PA X (e :: es) t) (hdb : (x == ("__debug__" : Str)) = false := by decide) (he : starEach (e :: es) X.env = (false, eval e X.env) :: starEach es X.env := by rfl)
    (hpl : (backTo pos (starEach es X.env)).any (·.1) = false := by rfl) : PE X (.Call (.Name x p) (e :: es) [] pos) (fun σ H Q => t σ H fun vs H1 => sp vs H1 Q E) := by
  refine ⟨fun pins s σ H Q I h => wpAny_Call_Name_kw (ld_glob I hg hm (PySem.W.callWith_K (h₀ := X.base) I.ok.mod.kin hk (thn (ha.run pos pins s σ H _ I h) fun us s1 z => ?_) he hpl) hdb)⟩
  obtain ⟨vs, H1, I1, r, q⟩ := z
  refine ⟨I1.kIn, wpAny_call (codeAny_mono (F X.A X.stack s1 H1 us vs Q E hgd hr I1.env0 r q) fun rs s' hq => ?_)⟩
  match rs, hq with
  | .error e', hq => exact hx pins σ H1 s1 e' s' I1 hq
  | .ok (.ret u), hq => exact I1.after hq
  | .ok .next, hq => exact hq.elim
  | .ok .brk, hq => exact hq.elim
  | .ok .cont, hq => exact hq.elim
end
/-- the same rule for a def that lets no exception out -/
theorem ok0 {P : Program} {w : World} {K : PySem.W.Frag} {mg : Str → Option Value} {base : Heap} {k : Nat} {f : Addr} {fd : FuncData} {sp : Sp} {x qual : Str} {params : Arguments} {body : List Stmt} {scope : Scope} {N ps : List Str} {kws : List (Str × V)}
    (F : FunD K x qual params body scope [] kws f fd) (S : FnScope N ps scope)
    (hb : ∀ (s : Shared) (us : List Value), us.length = ps.length → BindsTo s fd ⟨us, []⟩ (ps.zip us)) (len : ∀ vs H Q E, sp vs H Q E → vs.length = ps.length)
    (hbody : ∀ (cdv : Value) (A : Around) (outer : List Env) (s : Shared) (H : Hp) (vs : List V) (Q : VK) (E : XK), A.guards = some [] → Room k (A.deeper (envOfC qual scope s.heap.objs.size f cdv)) → sp vs H Q E →
      ∃ t, PSs (cxOf CX0 P w K mg base N qual scope f cdv A outer s H E).nox body t ∧ t { nx := fun _ H' => Q .non H', rt := Q } (start N vs) H) : FnG P w K mg base CX0 (k + 1) f sp :=
  okG F S hb len fun cdv A outer s H vs Q E hg hr h => by
    obtain ⟨t, ht, q⟩ := hbody cdv A outer s H vs Q E hg hr h
    exact ⟨t, ht.nox, q⟩
section
variable {X : Cx} {CX : CXT} {k : Nat} {f C : Addr} {sp : Sp} {E : XK} {x m : Str} {p pos apos : Pos} {e o : Expr} {es : List Expr} {t : TA} {ta : TE} {pins : List (Addr × Obj)} {σ : L2.St} {H : Hp} {s : Shared} {Q : VK} {us : List Value} {vs : List V}
/-- the callee's run, seen by the caller -/
theorem runG (F : FnG X.prog X.w X.K X.mg X.base CX k f sp) (hr : Room k X.A) (hgd : X.A.guards = some []) (hx : Passes CX X E) (I : Inv X pins σ H s) (r : Vals vs us) (h : sp vs H Q E) :
    wpAny (model X.prog X.w) X.A (call (.ref f) us) (EP X pins σ Q) X.xe s :=
  wpAny_call (codeAny_mono (F X.A X.stack s H us vs Q E hgd hr I.env0 r h) fun rs s' hq => by
    match rs, hq with
    | .error e', hq => exact hx pins σ H s e' s' I hq
    | .ok (.ret u), hq => exact I.after hq
    | .ok .next, hq => exact hq.elim
    | .ok .brk, hq => exact hq.elim
    | .ok .cont, hq => exact hq.elim)
/-- f() -/
theorem pe_callG0 (F : FnG X.prog X.w X.K X.mg X.base CX k f sp) (hr : Room k X.A) (hgd : X.A.guards = some []) (hg : Gl X x) (hm : X.mg x = some (.ref f)) (hk : PySem.W.keepIn X.K (.ref f) = true) (hx : Passes CX X E)
    (hdb : (x == ("__debug__" : Str)) = false := by decide) : PE X (.Call (.Name x p) [] [] pos) (fun _ H Q => sp [] H Q E) :=
  ⟨fun pins s σ H Q I h => wpAny_Call_Name_kw (ld_glob I hg hm (PySem.W.callWith_K0 I.kIn hk (runG (us := []) F hr hgd hx I .nil h)) hdb)⟩
/-- o.m(e, ..) of an instance of the class at C or of any class that has the method at f -/
def tMethG (K : PySem.W.Frag) (m : Str) (f : Addr) (sp : Sp) (E : XK) (ta : TE) (t : TA) : TE := fun σ H Q => ta σ H fun x H1 => ∃ a C dx fs, x = .ref a ∧ H1 a = some (.ins C dx fs) ∧ Cls K C ∧ Meth K C m f ∧ fs.lookup m = none ∧
  t σ H1 fun vs H2 => sp (.ref a :: vs) H2 Q E
theorem pe_methG {pl : Sem Bool} (he : PE X o ta) (hk : PySem.W.keepIn X.K (.ref f) = true) (F : FnG X.prog X.w X.K X.mg X.base CX k f sp) (hr : Room k X.A) (hgd : X.A.guards = some []) (hx : Passes CX X E) (ha : PA X (e :: es) t)
    (hst : starEach (e :: es) X.env = (false, eval e X.env) :: starEach es X.env := by rfl) (hpl : (backTo pos (starEach es X.env)).any (·.1) = false := by rfl)
    (ht : eval (.Call (.Attribute o m apos) (e :: es) [] pos) X.env = (do
      let ov ← eval o X.env
      standAt apos.atName
      let (g, first) ← holding [ov] (getMethod ov m pl)
      callWith pos g first (backTo pos (starEach (e :: es) X.env)) (backToKw pos (keywordEach [] X.env))) := by rfl) :
    PE X (.Call (.Attribute o m apos) (e :: es) [] pos) (tMethG X.K m f sp E ta t) := by
  refine ⟨fun pins s σ H Q I h => PySem.W.methodCall_KW (pl := pl) (thn (he.run pins s σ H _ I h) fun u s1 z => ?_) ht⟩
  obtain ⟨x, H1, I1, rx, a, C, dx, fs, rfl, ea, c, hm, l, q⟩ := z
  cases (show u = Value.ref a from rx)
  refine getmeth_ok I1 ea c hm l (PySem.W.callWith_K (first := [.ref a]) (h₀ := X.base) I.ok.mod.kin hk (thn (ha.run pos pins s1 σ H1 _ I1 q) fun us s2 y => ?_) hst hpl)
  obtain ⟨vs, H2, I2, r, q2⟩ := y
  exact ⟨I2.kIn, runG (us := .ref a :: us) (vs := .ref a :: vs) F hr hgd hx I2 (.cons rfl r) q2⟩
/-- o.m() -/
theorem pe_methG0 {pl : Sem Bool} (he : PE X o ta) (hk : PySem.W.keepIn X.K (.ref f) = true) (F : FnG X.prog X.w X.K X.mg X.base CX k f sp) (hr : Room k X.A) (hgd : X.A.guards = some []) (hx : Passes CX X E)
    (ht : eval (.Call (.Attribute o m apos) [] [] pos) X.env = (do
      let ov ← eval o X.env
      standAt apos.atName
      let (g, first) ← holding [ov] (getMethod ov m pl)
      callWith pos g first (backTo pos (starEach [] X.env)) (backToKw pos (keywordEach [] X.env))) := by rfl) :
    PE X (.Call (.Attribute o m apos) [] [] pos) (tMethG X.K m f sp E ta tNil) := by
  refine ⟨fun pins s σ H Q I h => PySem.W.methodCall_KW (pl := pl) (thn (he.run pins s σ H _ I h) fun u s1 z => ?_) ht⟩
  obtain ⟨x, H1, I1, rx, a, C, dx, fs, rfl, ea, c, hm, l, q⟩ := z
  cases (show u = Value.ref a from rx)
  exact getmeth_ok I1 ea c hm l (PySem.W.callWith_K0 (first := [.ref a]) I1.kIn hk (runG (us := [.ref a]) (vs := [.ref a]) F hr hgd hx I1 (.cons rfl .nil) q))
theorem made_guards {A : Around} (h : A.guards = some []) (C : Addr) (us : List Value) : (A.under (.builtin "type.__call__" ⟨.ref C :: us, []⟩)).guards = some [] := by
  show pushGuards (Code.builtin "type.__call__" ⟨.ref C :: us, []⟩).guards A.guards = some []
  rw [h]
  first
    | rfl
    | decide +kernel
/-- C(e, ..) -/
theorem pe_makeG (M : Mk X.K C f) (F : FnG X.prog X.w X.K X.mg X.base CX k f sp) (hr : Room (k + 1) X.A) (hgd : X.A.guards = some []) (hg : Gl X x) (hm : X.mg x = some (.ref C)) (hx : Passes CX X E) (ha : PA X (e :: es) t)
    (hdb : (x == ("__debug__" : Str)) = false := by decide) (he : starEach (e :: es) X.env = (false, eval e X.env) :: starEach es X.env := by rfl)
    (hpl : (backTo pos (starEach es X.env)).any (·.1) = false := by rfl) : PE X (.Call (.Name x p) (e :: es) [] pos) (StX.tMakeR C sp E t) := by
  refine ⟨fun pins s σ H Q I h => wpAny_Call_Name_kw (ld_glob I hg hm (PySem.W.callWith_K (h₀ := X.base) I.ok.mod.kin M.kp (thn (ha.run pos pins s σ H _ I h) fun us s1 z => ?_) he hpl) hdb)⟩
  obtain ⟨vs, H1, I1, r, q⟩ := z
  refine ⟨I1.kIn, wpAny_call (make_map (f := f) I1.kIn M.makes M.init (beq_iff_eq.mp M.fn) ?_)⟩
  have q2 := q (s1.heap.objs.size + 1) s1.heap.objs.size (I1.hok.fresh (Nat.le_succ _)) (I1.hok.fresh (Nat.le_refl _)) (Nat.ne_of_lt (Nat.lt_succ_self _))
  have I2 := Inv.made (C := C) I1
  refine codeAny_mono (F _ X.stack _ _ (Value.ref (s1.heap.objs.size + 1) :: us) (V.ref (s1.heap.objs.size + 1) :: vs) _ E (made_guards hgd C us) (hr.make C us []) (I2.env0.make C us []) (.cons rfl r) q2) fun rs s' hq => ?_
  match rs, hq with
  | .error e', hq => exact hx pins σ _ _ e' s' I2 hq
  | .ok (.ret u), hq =>
    obtain ⟨v, H', I3, rv, ev, q3⟩ := I2.after hq
    subst ev
    exact ⟨rv, V.ref (s1.heap.objs.size + 1), H', I3, rfl, q3⟩
  | .ok .next, hq => exact hq.elim
  | .ok .brk, hq => exact hq.elim
  | .ok .cont, hq => exact hq.elim
end
/-! ### repr of data -/
section
variable {X : Cx}
/-- repr(x), x data: none, a bool, an int, a text, lists and tuples of such -/
def rRepr (K : PySem.W.Frag) : List V → Hp → VK → Prop := fun xs H Q => ∃ (x : V) (d : PyData), xs = [x] ∧ Dp K H x d ∧ d.showable = true ∧ d.shown.length ≤ sizeLine ∧ d.depth ≤ 60 ∧ Q (.str d.shown) H
mutual
theorem noD {K : PySem.W.Frag} {H : Hp} : ∀ (d : PyData) (v : V), Dp K H v d → d.hasDict = false
  | .none, _, _ => by simp only [PyData.hasDict]
  | .bool _, _, _ => by simp only [PyData.hasDict]
  | .int _, _, _ => by simp only [PyData.hasDict]
  | .str _, _, _ => by simp only [PyData.hasDict]
  | .list ds, _, h => by
    cases h with
    | lst _ ha =>
      simp only [PyData.hasDict]
      exact noDs ds _ ha
  | .tuple ds, _, h => by
    cases h with
    | tup _ ha =>
      simp only [PyData.hasDict]
      exact noDs ds _ ha
  | .dict _, _, h => by cases h
theorem noDs {K : PySem.W.Frag} {H : Hp} : ∀ (ds : List PyData) (vs : List V), DpAll K H vs ds → PyData.hasDictAll ds = false
  | [], _, _ => by simp only [PyData.hasDictAll]
  | d :: ds, _, h => by
    cases h with
    | cons h1 h2 =>
      simp only [PyData.hasDictAll, noD d _ h1, noDs ds _ h2, Bool.or_false]
end
theorem call_repr (hg : X.A.guards = some []) (hu : X.A.units + 64 < cLine) : CallR X (.builtin "repr") (rRepr X.K) := by
  intro pins s σ H xs us Q I r h
  obtain ⟨x, d, rfl, hd, hs, hz, hdp, q⟩ := h
  obtain ⟨u, rfl, rx⟩ := vals1 r
  obtain ⟨as, rd⟩ := Dp.reads I d x u hd rx
  have nd := noD d x hd
  cases rd with
  | none => exact PySem.P.repr_of_none ⟨.str _, H, I.tok _, ⟨_, rfl⟩, by simpa only [PyData.shown] using q⟩
  | bool b => exact PySem.P.repr_of_bool ⟨.str _, H, I.tok _, ⟨_, rfl⟩, by simpa only [PyData.shown] using q⟩
  | int i t => exact PySem.P.repr_of_int (by simpa [PyData.showable] using hs) ⟨.str _, H, I.tok _, ⟨_, rfl⟩, by simpa only [PyData.shown] using q⟩
  | str y t => exact PySem.P.repr_of_str ⟨.str _, H, I.tok _, ⟨_, rfl⟩, by simpa only [PyData.shown] using q⟩ (by simpa only [PyData.shown] using hz)
  | list h1 h2 h3 h4 =>
    exact repr_of_reads' (.list h1 h2 h3 h4) hs (fun z => by rw [nd] at z; cases z) hg (by omega) (fun _ _ z => z) (fun h' u tk hk => ⟨.str _, H, I.kept (t' := tk) hk, ⟨u, rfl⟩, q⟩) hz
  | tuple h1 h2 h3 h4 =>
    exact repr_of_reads' (.tuple h1 h2 h3 h4) hs (fun z => by rw [nd] at z; cases z) hg (by omega) (fun _ _ z => z) (fun h' u tk hk => ⟨.str _, H, I.kept (t' := tk) hk, ⟨u, rfl⟩, q⟩) hz
  | dict h1 h2 h3 h4 h5 => cases hd
end
/-! ### the law's end -/
section
variable {P : Program} {w : World} {K : PySem.W.Frag} {mg mb : Str → Option Value} {k : Nat} {fa a : Addr} {sp : Sp} {s₁ : Shared} {vs : List Value} {ns : List Int}
/-- the law's call over one abstract heap -/
theorem lawOn {H : Hp} (KX : K.In s₁.heap) (hns : s₁.heap.Ns mainGlobals mg) (hb : s₁.heap.Ns builtinsNs mb) (hbb : ∀ x : Str, x ≠ "__name__" → mb x = bootBuiltins x) (hlim : s₁.heap.NoLimit) (hg : s₁.gens = #[])
    (ha : s₁.heap.get? a = some { cls := .type "list", data := .seq vs.toArray }) (hr : Room k callerA)
    (F : ∀ base : Heap, K.In base → base.Ns mainGlobals mg → FnG P w K mg base CX0 k fa sp)
    (hO : Only H) (hsp : sp [.ref a] H (fun v _ => v = .bl true) fun _ _ _ => False) (hok : HOk P w H s₁.heap) (hA : ∀ b, H b ≠ none → b = a) (hK : H a ≠ none → K.lookup a = none) :
    codeAny (model P w) callerA (.call (.ref fa) ⟨[.ref a], []⟩) (fun r s' => r = .ok (.ret (.bool true)) ∧ OldK s₁.heap s'.heap ∧ s'.os = s₁.os ∧ AllBare s'.gens) s₁ := by
  have free : ∀ b o, s₁.heap.get? b = some o → (∀ w n, o.data ≠ Data.seq w n) → H b = none := fun b o e hd => Classical.byContradiction fun z => by
    have eb := hA b z
    rw [eb, ha] at e
    exact hd _ _ (congrArg Obj.data (Option.some.inj e)).symm
  have names : ∀ b m, s₁.heap.Ns b m → (hidT s₁.heap H).Ns b m := fun b m hn => by
    obtain ⟨o, es, ep, e, d, r⟩ := hn
    exact ⟨o, es, ep, hidT_get e (free b o e fun w n z => by rw [d] at z; cases z), d, r⟩
  have KB : K.In (hidT s₁.heap H) := fun b o e => hidT_get (KX b o e) (Classical.byContradiction fun z => by
    have eb := hA b z
    subst eb
    rw [hK z] at e
    cases e)
  have md : Mod K mg (hidT s₁.heap H) := ⟨KB, names _ _ hns, ⟨mb, names _ _ hb, hbb⟩, by obtain ⟨mc, h1, h2⟩ := hlim; exact ⟨mc, names _ _ h1, h2⟩⟩
  have nof : ∀ b, b ∉ frs ([] : List Env) := fun b z => by cases z
  have e0 : Env0 P w K mg (hidT s₁.heap H) callerA [] s₁ H := ⟨rfl, md, fun _ _ e => of_hidT e, Nat.le_of_eq (hidT_size _ _), True.intro, fun b z => absurd z (nof b), hok, .of_eq hg⟩
  refine codeAny_mono (F _ KB (names _ _ hns) callerA [] s₁ H [.ref a] [.ref a] _ _ rfl hr e0 (.cons rfl .nil) hsp) fun rs s' z => ?_
  match rs, z with
  | .error _, z => exact z.elim
  | .ok .next, z => exact z.elim
  | .ok .brk, z => exact z.elim
  | .ok .cont, z => exact z.elim
  | .ok (.ret u), z =>
    obtain ⟨v, H', os, bare, un, ok', rv, ev⟩ := z
    cases (show v = V.bl true from ev)
    cases (show u = Value.bool true from rv)
    refine ⟨rfl, OldK.of_keep fun b o e => ?_, os, bare⟩
    rcases hO b with n | ⟨ob, xs, n⟩
    · exact un.keep b o e n (nof b) (by simp)
    · have h1 := (hok b _ n).1
      have h2 := (ok' b _ (un.frzs b ob _ n)).1
      rw [e] at h1
      cases h1
      exact h2
theorem lawG (KX : K.In s₁.heap) (hns : s₁.heap.Ns mainGlobals mg) (hb : s₁.heap.Ns builtinsNs mb) (hbb : ∀ x : Str, x ≠ "__name__" → mb x = bootBuiltins x) (hlim : s₁.heap.NoLimit) (hg : s₁.gens = #[])
    (ha : s₁.heap.get? a = some { cls := .type "list", data := .seq vs.toArray }) (hi : IntsAre vs ns) (hl : ns.length ≤ sizeLine) (hr : Room k callerA)
    (F : ∀ base : Heap, K.In base → base.Ns mainGlobals mg → FnG P w K mg base CX0 k fa sp)
    (hsp : ∀ H : Hp, Only H → SqL K H a (ns.map V.int) → sp [.ref a] H (fun v _ => v = .bl true) fun _ _ _ => False) :
    codeAny (model P w) callerA (.call (.ref fa) ⟨[.ref a], []⟩) (fun r s' => r = .ok (.ret (.bool true)) ∧ OldK s₁.heap s'.heap ∧ s'.os = s₁.os ∧ AllBare s'.gens) s₁ := by
  have rv := vals_ints hi
  cases ek : K.lookup a with
  | some o =>
    have eo : o = _ := Option.some.inj ((KX a o ek).symm.trans ha)
    have O0 : Only (fun _ => none) := fun _ => .inl rfl
    have S0 : SqL K (fun _ => none) a (ns.map V.int) := .inr ⟨o, vs.toArray, _, ek, by rw [eo], by rw [eo], by rw [eo], by rw [List.size_toArray, ← rv.length, List.length_map]; exact hl, by simpa using rv⟩
    exact lawOn (H := fun _ => none) KX hns hb hbb hlim hg ha hr F O0 (hsp _ O0 S0) (fun b u z => by cases z) (fun b z => absurd rfl z) fun z => absurd rfl z
  | none =>
    let H1 : Hp := fun b => if b = a then some (.frz { cls := .type "list", data := .seq vs.toArray } (.lst (ns.map V.int))) else none
    have at_ : H1 a = some (.frz { cls := .type "list", data := .seq vs.toArray } (.lst (ns.map V.int))) := if_pos rfl
    have off : ∀ b, b ≠ a → H1 b = none := fun b z => if_neg z
    have O1 : Only H1 := fun b => by
      by_cases z : b = a
      · exact .inr ⟨_, _, by rw [z]; exact at_⟩
      · exact .inl (off b z)
    refine lawOn (H := H1) KX hns hb hbb hlim hg ha hr F O1 (hsp _ O1 (.inl (.inr ⟨_, at_⟩))) (fun b u z => ?_) (fun b z => Classical.byContradiction fun q => z (off b q)) fun _ => ek
    by_cases q : b = a
    · subst q
      rw [at_] at z
      cases z
      exact ⟨ha, by rw [List.length_map]; exact hl, vs, _, rv, ha⟩
    · rw [off b q] at z
      cases z
end
/-- the goal that the head leaves -/
theorem walkG {l : PySem.W.OpenLaw} {n k : Nat} {q : Program} {loose : List Str} {XP : (Str → Option Value) → Heap → Prop} {YP : World → Heap → Prop} {d : DefRec}
    (hn : l.most = some n) (hn2 : n ≤ sizeLine) (hdf : d.params.defaults = []) (hr : Room k callerA)
    (F : ∀ (w : World) (mg : Str → Option Value) (fa : Addr) (h : Heap), YP w h → h.Ns mainGlobals mg → mg d.name = some (.ref fa) → ∃ (K : PySem.W.Frag) (sp : Sp), K.In h ∧
      (∀ (H : Hp) (a : Addr) (ns : List Int), ns.length ≤ n → Only H → SqL K H a (ns.map V.int) → sp [.ref a] H (fun v _ => v = .bl true) fun _ _ _ => False) ∧
      ∀ base : Heap, K.In base → base.Ns mainGlobals mg → FnG l.prog w K mg base CX0 k fa sp) :
    PySem.W.WalkO q loose XP YP l.row.toRowW d [] (fun f vs => PySem.call f vs) :=
  Att.attach_call hn hdf fun w s₀ s₁ mg mb fa o pm cd doc a vs ns G Y ho hd hcd hmg hobj hints hlen hg => by
    obtain ⟨K, sp, KX, hsp, hF⟩ := F w mg fa _ Y G.T.g hmg
    exact lawG KX G.T.g G.T.b G.T.builtins G.T.nolimit hg hobj hints (Nat.le_trans hlen hn2) hr hF fun H hO hS => hsp H a ns hlen hO hS
end Ver

/-! The mathematics of the numbers modulo a prime: Euclid's way, trial division. -/
namespace Num
/-- trial division by odd divisors from 3 on, up to the root -/
def oddOk (v : Nat) (n : Nat) : Bool := (List.range n).all fun i => v % (3 + 2 * i) != 0
/-- is_prime's answer, for an int -/
def prB (r : Nat → Nat) (v : Int) : Bool :=
  decide (2 ≤ v) && decide (v ≤ 1000000000) && (if v % 2 = 0 then decide (v = 2) else oddOk v.toNat ((r v.toNat + 1 - 3 + 1) / 2))
/-- what the walk asks of a modulus -/
structure Md (p : Int) : Prop where
  lo : 2 ≤ p
  hi : p ≤ 1000000000
  pr : ∀ n : Int, 0 < n → n < p → Int.gcd n p = 1
theorem gcd_one {p b : Nat} (hb : p < b * b) (h : (List.range b).all (fun d => decide (d < 2) || p % d != 0) = true) (n : Nat) (h0 : 0 < n) (h1 : n < p) : Nat.gcd n p = 1 := by
  have small : ∀ d, 2 ≤ d → d < b → ¬ d ∣ p := fun d h2 h3 hd => by
    have q := List.all_eq_true.mp h d (List.mem_range.mpr h3)
    rw [Bool.or_eq_true] at q
    rcases q with q | q
    · have := of_decide_eq_true q
      omega
    · have e : p % d = 0 := Nat.mod_eq_zero_of_dvd hd
      rw [e] at q
      cases q
  have hg : Nat.gcd n p ∣ p := Nat.gcd_dvd_right n p
  have hn : Nat.gcd n p ∣ n := Nat.gcd_dvd_left n p
  have gpos : 0 < Nat.gcd n p := Nat.gcd_pos_of_pos_left _ h0
  have gle : Nat.gcd n p ≤ n := Nat.le_of_dvd h0 hn
  by_cases g1 : Nat.gcd n p = 1
  · exact g1
  · exfalso
    obtain ⟨m, hm⟩ := hg
    have m2 : 2 ≤ m := by
      cases m with
      | zero => omega
      | succ m =>
        cases m with
        | zero => omega
        | succ m => omega
    have hmd : m ∣ p := ⟨Nat.gcd n p, by rw [Nat.mul_comm]; exact hm⟩
    by_cases c : Nat.gcd n p < b
    · exact small _ (by omega) c (Nat.gcd_dvd_right n p)
    · by_cases c2 : m < b
      · exact small m m2 c2 hmd
      · have : b * b ≤ Nat.gcd n p * m := Nat.mul_le_mul (by omega) (by omega)
        omega
theorem md_of (p b : Nat) (h2 : 2 ≤ p) (h9 : p ≤ 1000000000) (hb : p < b * b) (h : (List.range b).all (fun d => decide (d < 2) || p % d != 0) = true) : Md (p : Int) :=
  ⟨by omega, by omega, fun n h0 h1 => by
    have e : n = ((n.toNat : Nat) : Int) := by omega
    rw [e]
    show Nat.gcd _ _ = 1
    exact gcd_one hb h n.toNat (by omega) (by omega)⟩
theorem md2 : Md 2 := md_of 2 2 (by decide) (by decide) (by decide) (by decide)
theorem md3 : Md 3 := md_of 3 2 (by decide) (by decide) (by decide) (by decide)
theorem md5 : Md 5 := md_of 5 3 (by decide) (by decide) (by decide) (by decide)
theorem md7 : Md 7 := md_of 7 3 (by decide) (by decide) (by decide) (by decide)
theorem md101 : Md 101 := md_of 101 11 (by decide) (by decide) (by decide) (by decide)
theorem md1000003 : Md 1000003 := md_of 1000003 1001 (by decide) (by decide) (by decide) (by decide +kernel)

/-! ### Euclid -/
/-- the state of the loop: past and now times the number are rest and left, modulo p -/
structure Eu (p n rest left past now : Int) : Prop where
  l0 : 0 ≤ left
  lp : left < p
  r0 : 0 < rest
  rp : rest ≤ p
  a : p ∣ past * n - rest
  b : p ∣ now * n - left
  g : Int.gcd rest left = 1
theorem Eu.start {p n : Int} (m : Md p) (h0 : 0 < n) (h1 : n < p) : Eu p n p (n % p) 0 1 := by
  have e : n % p = n := Int.emod_eq_of_lt (by omega) h1
  have hlo := m.lo
  refine ⟨by omega, by omega, by omega, Int.le_refl _, ⟨-1, by omega⟩, ⟨0, by omega⟩, ?_⟩
  rw [e, Int.gcd_comm]
  exact m.pr n h0 h1
theorem Eu.step {p n rest left past now : Int} (E : Eu p n rest left past now) (h : left ≠ 0) : Eu p n left (rest - rest / left * left) now (past - rest / left * now) := by
  have hl : 0 < left := by have := E.l0; omega
  have e : rest - rest / left * left = rest % left := by
    have := Int.emod_def rest left
    rw [Int.mul_comm] at this
    omega
  rw [e]
  have m0 : 0 ≤ rest % left := Int.emod_nonneg _ h
  have m1 : rest % left < left := Int.emod_lt_of_pos _ hl
  refine ⟨m0, by have := E.lp; omega, hl, by have := E.lp; omega, E.b, ?_, ?_⟩
  · obtain ⟨x, hx⟩ := E.a
    obtain ⟨y, hy⟩ := E.b
    refine ⟨x - rest / left * y, ?_⟩
    rw [← e]
    have h1 : (past - rest / left * now) * n - (rest - rest / left * left) = (past * n - rest) - rest / left * (now * n - left) := by
      rw [Int.sub_mul, Int.mul_sub, Int.mul_assoc]
      omega
    rw [h1, hx, hy, Int.mul_sub]
    congr 1
    rw [← Int.mul_assoc, ← Int.mul_assoc, Int.mul_comm (rest / left) p]
  · rw [Int.gcd_comm]
    have := E.g
    rw [Int.gcd_comm] at this
    rw [← this]
    show Nat.gcd _ _ = Nat.gcd _ _
    have a1 : (rest % left).natAbs = rest.natAbs % left.natAbs := by
      have hr := E.r0
      have q : ((rest.natAbs % left.natAbs : Nat) : Int) = rest % left := by
        rw [Int.natCast_emod]
        rw [Int.natAbs_of_nonneg (by omega), Int.natAbs_of_nonneg (by omega)]
      omega
    rw [a1, ← Nat.gcd_rec, Nat.gcd_comm]
theorem Eu.times {p n rest left past now : Int} (E : Eu p n rest left past now) (h : left ≠ 0) : 0 ≤ rest / left ∧ rest / left ≤ p := by
  have hl : 0 < left := by have := E.l0; omega
  have hr := E.r0
  have hp := E.rp
  refine ⟨Int.ediv_nonneg (by omega) (by omega), ?_⟩
  have : rest / left ≤ rest := Int.ediv_le_self _ (by omega)
  omega
/-- at the end: the inverse -/
theorem Eu.inv {p n rest past now : Int} (m : Md p) (E : Eu p n rest 0 past now) : 0 ≤ past % p ∧ past % p < p ∧ (past % p * n) % p = 1 := by
  have hlo := m.lo
  have r1 : rest = 1 := by
    have g := E.g
    have h0 := E.r0
    rw [Int.gcd_zero_right] at g
    omega
  have hm : (past * n) % p = 1 := by
    obtain ⟨x, hx⟩ := E.a
    have e : past * n = 1 + p * x := by omega
    rw [e, Int.add_mul_emod_self_left]
    exact Int.emod_eq_of_lt (by omega) (by omega)
  refine ⟨Int.emod_nonneg _ (by omega), Int.emod_lt_of_pos _ (by omega), ?_⟩
  rw [Int.mul_emod, Int.emod_emod, ← Int.mul_emod]
  exact hm
/-- what over tells, times what it divided by -/
theorem over_back {p a b i : Int} (ha : 0 ≤ a ∧ a < p) (hi : (i * b) % p = 1 % p) : (a * i % p * b) % p = a := by
  have e : (a * i % p * b) % p = (a * (i * b)) % p := by
    rw [Int.mul_emod, Int.emod_emod, ← Int.mul_emod, Int.mul_assoc]
  rw [e, Int.mul_emod, hi, ← Int.mul_emod, Int.mul_one]
  exact Int.emod_eq_of_lt ha.1 ha.2
end Num

namespace K02
open PySem PySem.Spec PyProof.Rows L2 Ver
def top (i : Nat) : Stmt := PySem.Challenge.pw_firstanswers_k02_numbers_of_fields.main.body.getD i (.Pass ⟨0, 0, 0, 0⟩)
abbrev s_is_integer : Stmt := top 3
abbrev n_is_integer : List Str := ["value"]
theorem sc_is_integer : FnScope n_is_integer ["value"] (defScope s_is_integer) := ⟨rfl, rfl, rfl, by decide +kernel, rfl, by decide +kernel, by decide +kernel⟩
def d_is_integer : He.DefD := ⟨("is_integer", none), "is_integer", "is_integer", defArgs s_is_integer, defBody s_is_integer, defScope s_is_integer, [], []⟩
abbrev s_is_between : Stmt := top 4
abbrev n_is_between : List Str := ["value", "low", "high"]
theorem sc_is_between : FnScope n_is_between ["value", "low", "high"] (defScope s_is_between) := ⟨rfl, rfl, rfl, by decide +kernel, rfl, by decide +kernel, by decide +kernel⟩
def d_is_between : He.DefD := ⟨("is_between", none), "is_between", "is_between", defArgs s_is_between, defBody s_is_between, defScope s_is_between, [], []⟩
abbrev s_Field___init__ : Stmt := inClass (top 14) 1
abbrev n_Field___init__ : List Str := ["self", "prime"]
theorem sc_Field___init__ : FnScope n_Field___init__ ["self", "prime"] (defScope s_Field___init__) := ⟨rfl, rfl, rfl, by decide +kernel, rfl, by decide +kernel, by decide +kernel⟩
def d_Field___init__ : He.DefD := ⟨("Field", some "__init__"), "__init__", "Field.__init__", defArgs s_Field___init__, defBody s_Field___init__, defScope s_Field___init__, [], []⟩
abbrev s_Field_is_number : Stmt := inClass (top 14) 6
abbrev n_Field_is_number : List Str := ["self", "value"]
theorem sc_Field_is_number : FnScope n_Field_is_number ["self", "value"] (defScope s_Field_is_number) := ⟨rfl, rfl, rfl, by decide +kernel, rfl, by decide +kernel, by decide +kernel⟩
def d_Field_is_number : He.DefD := ⟨("Field", some "is_number"), "is_number", "Field.is_number", defArgs s_Field_is_number, defBody s_Field_is_number, defScope s_Field_is_number, [], []⟩
abbrev s_Field_holds : Stmt := inClass (top 14) 14
abbrev n_Field_holds : List Str := ["self", "value"]
theorem sc_Field_holds : FnScope n_Field_holds ["self", "value"] (defScope s_Field_holds) := ⟨rfl, rfl, rfl, by decide +kernel, rfl, by decide +kernel, by decide +kernel⟩
def d_Field_holds : He.DefD := ⟨("Field", some "holds"), "holds", "Field.holds", defArgs s_Field_holds, defBody s_Field_holds, defScope s_Field_holds, [], []⟩
abbrev s_Fractions___init__ : Stmt := inClass (top 15) 0
abbrev n_Fractions___init__ : List Str := ["self"]
theorem sc_Fractions___init__ : FnScope n_Fractions___init__ ["self"] (defScope s_Fractions___init__) := ⟨rfl, rfl, rfl, by decide +kernel, rfl, by decide +kernel, by decide +kernel⟩
def d_Fractions___init__ : He.DefD := ⟨("Fractions", some "__init__"), "__init__", "Fractions.__init__", defArgs s_Fractions___init__, defBody s_Fractions___init__, defScope s_Fractions___init__, [], []⟩
abbrev s_Modulo___init__ : Stmt := inClass (top 16) 0
abbrev n_Modulo___init__ : List Str := ["self", "prime"]
theorem sc_Modulo___init__ : FnScope n_Modulo___init__ ["self", "prime"] (defScope s_Modulo___init__) := ⟨rfl, rfl, rfl, by decide +kernel, rfl, by decide +kernel, by decide +kernel⟩
def d_Modulo___init__ : He.DefD := ⟨("Modulo", some "__init__"), "__init__", "Modulo.__init__", defArgs s_Modulo___init__, defBody s_Modulo___init__, defScope s_Modulo___init__, [], []⟩
abbrev s_is_prime : Stmt := top 17
abbrev n_is_prime : List Str := ["value", "divisor"]
theorem sc_is_prime : FnScope n_is_prime ["value"] (defScope s_is_prime) := ⟨rfl, rfl, rfl, by decide +kernel, rfl, by decide +kernel, by decide +kernel⟩
def d_is_prime : He.DefD := ⟨("is_prime", none), "is_prime", "is_prime", defArgs s_is_prime, defBody s_is_prime, defScope s_is_prime, [], []⟩
abbrev s_is_fraction : Stmt := top 18
abbrev n_is_fraction : List Str := ["value", "top", "bottom"]
theorem sc_is_fraction : FnScope n_is_fraction ["value"] (defScope s_is_fraction) := ⟨rfl, rfl, rfl, by decide +kernel, rfl, by decide +kernel, by decide +kernel⟩
def d_is_fraction : He.DefD := ⟨("is_fraction", none), "is_fraction", "is_fraction", defArgs s_is_fraction, defBody s_is_fraction, defScope s_is_fraction, [], []⟩
abbrev s_is_longer : Stmt := top 19
abbrev n_is_longer : List Str := ["number", "first_long", "top", "bottom"]
theorem sc_is_longer : FnScope n_is_longer ["number", "first_long"] (defScope s_is_longer) := ⟨rfl, rfl, rfl, by decide +kernel, rfl, by decide +kernel, by decide +kernel⟩
def d_is_longer : He.DefD := ⟨("is_longer", none), "is_longer", "is_longer", defArgs s_is_longer, defBody s_is_longer, defScope s_is_longer, [], []⟩
abbrev s_parts : Stmt := top 20
abbrev n_parts : List Str := ["number"]
theorem sc_parts : FnScope n_parts ["number"] (defScope s_parts) := ⟨rfl, rfl, rfl, by decide +kernel, rfl, by decide +kernel, by decide +kernel⟩
def d_parts : He.DefD := ⟨("parts", none), "parts", "parts", defArgs s_parts, defBody s_parts, defScope s_parts, [], []⟩
abbrev s__law_pen : Stmt := top 25
abbrev n__law_pen : List Str := ["_law_script"]
theorem sc__law_pen : FnScope n__law_pen ["_law_script"] (defScope s__law_pen) := ⟨rfl, rfl, rfl, by decide +kernel, rfl, by decide +kernel, by decide +kernel⟩
def d__law_pen : He.DefD := ⟨("_law_pen", none), "_law_pen", "_law_pen", defArgs s__law_pen, defBody s__law_pen, defScope s__law_pen, [], []⟩
abbrev s__law_draw : Stmt := top 26
abbrev n__law_draw : List Str := ["_law_pen_here", "_law_many", "_law_digit", "_law_place", "_law_cell", "_law_mixed", "_law_drawn"]
theorem sc__law_draw : FnScope n__law_draw ["_law_pen_here", "_law_many"] (defScope s__law_draw) := ⟨rfl, rfl, rfl, by decide +kernel, rfl, by decide +kernel, by decide +kernel⟩
def d__law_draw : He.DefD := ⟨("_law_draw", none), "_law_draw", "_law_draw", defArgs s__law_draw, defBody s__law_draw, defScope s__law_draw, [], []⟩
abbrev s__law_pick : Stmt := top 27
abbrev n__law_pick : List Str := ["_law_pen_here", "_law_options"]
theorem sc__law_pick : FnScope n__law_pick ["_law_pen_here", "_law_options"] (defScope s__law_pick) := ⟨rfl, rfl, rfl, by decide +kernel, rfl, by decide +kernel, by decide +kernel⟩
def d__law_pick : He.DefD := ⟨("_law_pick", none), "_law_pick", "_law_pick", defArgs s__law_pick, defBody s__law_pick, defScope s__law_pick, [], []⟩
abbrev s__law_prime : Stmt := top 28
abbrev n__law_prime : List Str := ["_law_pen_here"]
theorem sc__law_prime : FnScope n__law_prime ["_law_pen_here"] (defScope s__law_prime) := ⟨rfl, rfl, rfl, by decide +kernel, rfl, by decide +kernel, by decide +kernel⟩
def d__law_prime : He.DefD := ⟨("_law_prime", none), "_law_prime", "_law_prime", defArgs s__law_prime, defBody s__law_prime, defScope s__law_prime, [], []⟩
abbrev s__law_number : Stmt := top 29
abbrev n__law_number : List Str := ["_law_pen_here", "_law_prime_here"]
theorem sc__law_number : FnScope n__law_number ["_law_pen_here", "_law_prime_here"] (defScope s__law_number) := ⟨rfl, rfl, rfl, by decide +kernel, rfl, by decide +kernel, by decide +kernel⟩
def d__law_number : He.DefD := ⟨("_law_number", none), "_law_number", "_law_number", defArgs s__law_number, defBody s__law_number, defScope s__law_number, [], []⟩
abbrev s__law_odd : Stmt := top 30
abbrev n__law_odd : List Str := ["_law_pen_here", "_law_some"]
theorem sc__law_odd : FnScope n__law_odd ["_law_pen_here"] (defScope s__law_odd) := ⟨rfl, rfl, rfl, by decide +kernel, rfl, by decide +kernel, by decide +kernel⟩
def d__law_odd : He.DefD := ⟨("_law_odd", none), "_law_odd", "_law_odd", defArgs s__law_odd, defBody s__law_odd, defScope s__law_odd, [], []⟩
abbrev s__law_far : Stmt := top 31
abbrev n__law_far : List Str := ["_law_pen_here", "_law_found", "_law_k"]
theorem sc__law_far : FnScope n__law_far ["_law_pen_here"] (defScope s__law_far) := ⟨rfl, rfl, rfl, by decide +kernel, rfl, by decide +kernel, by decide +kernel⟩
def d__law_far : He.DefD := ⟨("_law_far", none), "_law_far", "_law_far", defArgs s__law_far, defBody s__law_far, defScope s__law_far, [], []⟩
abbrev s__law_tens : Stmt := top 32
abbrev n__law_tens : List Str := ["_law_many", "_law_found", "_law_k"]
theorem sc__law_tens : FnScope n__law_tens ["_law_many"] (defScope s__law_tens) := ⟨rfl, rfl, rfl, by decide +kernel, rfl, by decide +kernel, by decide +kernel⟩
def d__law_tens : He.DefD := ⟨("_law_tens", none), "_law_tens", "_law_tens", defArgs s__law_tens, defBody s__law_tens, defScope s__law_tens, [], []⟩
abbrev s__law_signed : Stmt := top 33
abbrev n__law_signed : List Str := ["_law_pen_here", "_law_number_here"]
theorem sc__law_signed : FnScope n__law_signed ["_law_pen_here", "_law_number_here"] (defScope s__law_signed) := ⟨rfl, rfl, rfl, by decide +kernel, rfl, by decide +kernel, by decide +kernel⟩
def d__law_signed : He.DefD := ⟨("_law_signed", none), "_law_signed", "_law_signed", defArgs s__law_signed, defBody s__law_signed, defScope s__law_signed, [], []⟩
abbrev s__law_gcd : Stmt := top 34
abbrev n__law_gcd : List Str := ["_law_front", "_law_back"]
theorem sc__law_gcd : FnScope n__law_gcd ["_law_front", "_law_back"] (defScope s__law_gcd) := ⟨rfl, rfl, rfl, by decide +kernel, rfl, by decide +kernel, by decide +kernel⟩
def d__law_gcd : He.DefD := ⟨("_law_gcd", none), "_law_gcd", "_law_gcd", defArgs s__law_gcd, defBody s__law_gcd, defScope s__law_gcd, [], []⟩
abbrev s__law_told : Stmt := top 35
abbrev n__law_told : List Str := ["_law_top", "_law_bottom", "_law_shared"]
theorem sc__law_told : FnScope n__law_told ["_law_top", "_law_bottom"] (defScope s__law_told) := ⟨rfl, rfl, rfl, by decide +kernel, rfl, by decide +kernel, by decide +kernel⟩
def d__law_told : He.DefD := ⟨("_law_told", none), "_law_told", "_law_told", defArgs s__law_told, defBody s__law_told, defScope s__law_told, [], []⟩
abbrev s__law_any_number : Stmt := top 36
abbrev n__law_any_number : List Str := ["_law_pen_here", "_law_prime_here", "_law_is_small", "_law_top", "_law_bottom"]
theorem sc__law_any_number : FnScope n__law_any_number ["_law_pen_here", "_law_prime_here", "_law_is_small"] (defScope s__law_any_number) := ⟨rfl, rfl, rfl, by decide +kernel, rfl, by decide +kernel, by decide +kernel⟩
def d__law_any_number : He.DefD := ⟨("_law_any_number", none), "_law_any_number", "_law_any_number", defArgs s__law_any_number, defBody s__law_any_number, defScope s__law_any_number, [], []⟩
abbrev s__law_made_field : Stmt := top 37
abbrev n__law_made_field : List Str := ["_law_prime_here"]
theorem sc__law_made_field : FnScope n__law_made_field ["_law_prime_here"] (defScope s__law_made_field) := ⟨rfl, rfl, rfl, by decide +kernel, rfl, by decide +kernel, by decide +kernel⟩
def d__law_made_field : He.DefD := ⟨("_law_made_field", none), "_law_made_field", "_law_made_field", defArgs s__law_made_field, defBody s__law_made_field, defScope s__law_made_field, [], []⟩
abbrev s__law_any_prime : Stmt := top 38
abbrev n__law_any_prime : List Str := ["_law_pen_here"]
theorem sc__law_any_prime : FnScope n__law_any_prime ["_law_pen_here"] (defScope s__law_any_prime) := ⟨rfl, rfl, rfl, by decide +kernel, rfl, by decide +kernel, by decide +kernel⟩
def d__law_any_prime : He.DefD := ⟨("_law_any_prime", none), "_law_any_prime", "_law_any_prime", defArgs s__law_any_prime, defBody s__law_any_prime, defScope s__law_any_prime, [], []⟩
abbrev s__law_is_whole : Stmt := top 39
abbrev n__law_is_whole : List Str := ["_law_thing"]
theorem sc__law_is_whole : FnScope n__law_is_whole ["_law_thing"] (defScope s__law_is_whole) := ⟨rfl, rfl, rfl, by decide +kernel, rfl, by decide +kernel, by decide +kernel⟩
def d__law_is_whole : He.DefD := ⟨("_law_is_whole", none), "_law_is_whole", "_law_is_whole", defArgs s__law_is_whole, defBody s__law_is_whole, defScope s__law_is_whole, [], []⟩
abbrev s__law_is_number : Stmt := top 40
abbrev n__law_is_number : List Str := ["_law_prime_here", "_law_thing"]
theorem sc__law_is_number : FnScope n__law_is_number ["_law_prime_here", "_law_thing"] (defScope s__law_is_number) := ⟨rfl, rfl, rfl, by decide +kernel, rfl, by decide +kernel, by decide +kernel⟩
def d__law_is_number : He.DefD := ⟨("_law_is_number", none), "_law_is_number", "_law_is_number", defArgs s__law_is_number, defBody s__law_is_number, defScope s__law_is_number, [], []⟩
abbrev s__law_near : Stmt := top 41
abbrev n__law_near : List Str := ["_law_pen_here", "_law_prime_here", "_law_top", "_law_bottom", "_law_most", "_law_ends", "_law_pairs", "_law_some"]
theorem sc__law_near : FnScope n__law_near ["_law_pen_here", "_law_prime_here"] (defScope s__law_near) := ⟨rfl, rfl, rfl, by decide +kernel, rfl, by decide +kernel, by decide +kernel⟩
def d__law_near : He.DefD := ⟨("_law_near", none), "_law_near", "_law_near", defArgs s__law_near, defBody s__law_near, defScope s__law_near, [], []⟩
abbrev s_law : Stmt := top 42
abbrev n_law : List Str := ["_law_script", "_law_pen_here", "_law_turn", "_law_prime_here", "_law_field", "_law_again", "_law_thing", "_law_kept"]
theorem sc_law : FnScope n_law ["_law_script"] (defScope s_law) := ⟨rfl, rfl, rfl, by decide +kernel, rfl, by decide +kernel, by decide +kernel⟩
def d_law : He.DefD := ⟨("law", none), "law", "law", defArgs s_law, defBody s_law, defScope s_law, [], []⟩
def fn : List He.DefD := [d_is_integer, d_is_between, d_Field___init__, d_Field_is_number, d_Field_holds, d_Fractions___init__, d_Modulo___init__, d_is_prime, d_is_fraction, d_is_longer, d_parts, d__law_pen, d__law_draw, d__law_pick, d__law_prime, d__law_number, d__law_odd, d__law_far, d__law_tens, d__law_signed, d__law_gcd, d__law_told, d__law_any_number, d__law_made_field, d__law_any_prime, d__law_is_whole, d__law_is_number, d__law_near, d_law]
section
variable {P : Program} {w : World} {K : PySem.W.Frag} {fa : List He.Fa} {mg : Str → Option Value} {base : Heap} {k : Nat} {sp : Sp}
theorem mk_is_integer (S : He.SaysD fa fn K) (len : ∀ vs H Q E, sp vs H Q E → vs.length = 1)
    (hb : ∀ (cdv : Value) (A : Around) (outer : List Env) (s : Shared) (H : Hp) (vs : List V) (Q : VK) (E : XK), A.guards = some [] → Room k (A.deeper (envOfC "is_integer" (defScope s_is_integer) s.heap.objs.size (He.ga K "is_integer") cdv)) → sp vs H Q E →
      ∃ t, PSs (cxOf CX0 P w K mg base n_is_integer "is_integer" (defScope s_is_integer) (He.ga K "is_integer") cdv A outer s H E).nox (defBody s_is_integer) t ∧ t { nx := fun _ H' => Q .non H', rt := Q } (start n_is_integer vs) H) : FnG P w K mg base CX0 (k + 1) (He.ga K "is_integer") sp := by
  obtain ⟨fd, F⟩ := S.def_ 0 (d := d_is_integer) rfl
  exact ok0 F sc_is_integer (F.bindsA fun _ _ _ _ _ _ us hl => match us, hl with | [_], _ => rfl) len hb
theorem kp_is_integer (S : He.SaysD fa fn K) : PySem.W.keepIn K (.ref (He.ga K "is_integer")) = true := by
  obtain ⟨fd, F⟩ := S.def_ 0 (d := d_is_integer) rfl
  exact F.kp
theorem mk_is_between (S : He.SaysD fa fn K) (len : ∀ vs H Q E, sp vs H Q E → vs.length = 3)
    (hb : ∀ (cdv : Value) (A : Around) (outer : List Env) (s : Shared) (H : Hp) (vs : List V) (Q : VK) (E : XK), A.guards = some [] → Room k (A.deeper (envOfC "is_between" (defScope s_is_between) s.heap.objs.size (He.ga K "is_between") cdv)) → sp vs H Q E →
      ∃ t, PSs (cxOf CX0 P w K mg base n_is_between "is_between" (defScope s_is_between) (He.ga K "is_between") cdv A outer s H E).nox (defBody s_is_between) t ∧ t { nx := fun _ H' => Q .non H', rt := Q } (start n_is_between vs) H) : FnG P w K mg base CX0 (k + 1) (He.ga K "is_between") sp := by
  obtain ⟨fd, F⟩ := S.def_ 1 (d := d_is_between) rfl
  exact ok0 F sc_is_between (F.bindsA fun _ _ _ _ _ _ us hl => match us, hl with | [_, _, _], _ => rfl) len hb
theorem kp_is_between (S : He.SaysD fa fn K) : PySem.W.keepIn K (.ref (He.ga K "is_between")) = true := by
  obtain ⟨fd, F⟩ := S.def_ 1 (d := d_is_between) rfl
  exact F.kp
theorem mk_Field___init__ (S : He.SaysD fa fn K) (len : ∀ vs H Q E, sp vs H Q E → vs.length = 2)
    (hb : ∀ (cdv : Value) (A : Around) (outer : List Env) (s : Shared) (H : Hp) (vs : List V) (Q : VK) (E : XK), A.guards = some [] → Room k (A.deeper (envOfC "Field.__init__" (defScope s_Field___init__) s.heap.objs.size (He.ma K (He.ga K "Field") "__init__") cdv)) → sp vs H Q E →
      ∃ t, PSs (cxOf CX0 P w K mg base n_Field___init__ "Field.__init__" (defScope s_Field___init__) (He.ma K (He.ga K "Field") "__init__") cdv A outer s H E).nox (defBody s_Field___init__) t ∧ t { nx := fun _ H' => Q .non H', rt := Q } (start n_Field___init__ vs) H) : FnG P w K mg base CX0 (k + 1) (He.ma K (He.ga K "Field") "__init__") sp := by
  obtain ⟨fd, F⟩ := S.def_ 2 (d := d_Field___init__) rfl
  exact ok0 F sc_Field___init__ (F.bindsA fun _ _ _ _ _ _ us hl => match us, hl with | [_, _], _ => rfl) len hb
theorem kp_Field___init__ (S : He.SaysD fa fn K) : PySem.W.keepIn K (.ref (He.ma K (He.ga K "Field") "__init__")) = true := by
  obtain ⟨fd, F⟩ := S.def_ 2 (d := d_Field___init__) rfl
  exact F.kp
theorem mk_Field_is_number (S : He.SaysD fa fn K) (len : ∀ vs H Q E, sp vs H Q E → vs.length = 2)
    (hb : ∀ (cdv : Value) (A : Around) (outer : List Env) (s : Shared) (H : Hp) (vs : List V) (Q : VK) (E : XK), A.guards = some [] → Room k (A.deeper (envOfC "Field.is_number" (defScope s_Field_is_number) s.heap.objs.size (He.ma K (He.ga K "Field") "is_number") cdv)) → sp vs H Q E →
      ∃ t, PSs (cxOf CX0 P w K mg base n_Field_is_number "Field.is_number" (defScope s_Field_is_number) (He.ma K (He.ga K "Field") "is_number") cdv A outer s H E).nox (defBody s_Field_is_number) t ∧ t { nx := fun _ H' => Q .non H', rt := Q } (start n_Field_is_number vs) H) : FnG P w K mg base CX0 (k + 1) (He.ma K (He.ga K "Field") "is_number") sp := by
  obtain ⟨fd, F⟩ := S.def_ 3 (d := d_Field_is_number) rfl
  exact ok0 F sc_Field_is_number (F.bindsA fun _ _ _ _ _ _ us hl => match us, hl with | [_, _], _ => rfl) len hb
theorem kp_Field_is_number (S : He.SaysD fa fn K) : PySem.W.keepIn K (.ref (He.ma K (He.ga K "Field") "is_number")) = true := by
  obtain ⟨fd, F⟩ := S.def_ 3 (d := d_Field_is_number) rfl
  exact F.kp
theorem mk_Field_holds (S : He.SaysD fa fn K) (len : ∀ vs H Q E, sp vs H Q E → vs.length = 2)
    (hb : ∀ (cdv : Value) (A : Around) (outer : List Env) (s : Shared) (H : Hp) (vs : List V) (Q : VK) (E : XK), A.guards = some [] → Room k (A.deeper (envOfC "Field.holds" (defScope s_Field_holds) s.heap.objs.size (He.ma K (He.ga K "Field") "holds") cdv)) → sp vs H Q E →
      ∃ t, PSs (cxOf CX0 P w K mg base n_Field_holds "Field.holds" (defScope s_Field_holds) (He.ma K (He.ga K "Field") "holds") cdv A outer s H E).nox (defBody s_Field_holds) t ∧ t { nx := fun _ H' => Q .non H', rt := Q } (start n_Field_holds vs) H) : FnG P w K mg base CX0 (k + 1) (He.ma K (He.ga K "Field") "holds") sp := by
  obtain ⟨fd, F⟩ := S.def_ 4 (d := d_Field_holds) rfl
  exact ok0 F sc_Field_holds (F.bindsA fun _ _ _ _ _ _ us hl => match us, hl with | [_, _], _ => rfl) len hb
theorem kp_Field_holds (S : He.SaysD fa fn K) : PySem.W.keepIn K (.ref (He.ma K (He.ga K "Field") "holds")) = true := by
  obtain ⟨fd, F⟩ := S.def_ 4 (d := d_Field_holds) rfl
  exact F.kp
theorem mk_Fractions___init__ (S : He.SaysD fa fn K) (len : ∀ vs H Q E, sp vs H Q E → vs.length = 1)
    (hb : ∀ (cdv : Value) (A : Around) (outer : List Env) (s : Shared) (H : Hp) (vs : List V) (Q : VK) (E : XK), A.guards = some [] → Room k (A.deeper (envOfC "Fractions.__init__" (defScope s_Fractions___init__) s.heap.objs.size (He.ma K (He.ga K "Fractions") "__init__") cdv)) → sp vs H Q E →
      ∃ t, PSs (cxOf CX0 P w K mg base n_Fractions___init__ "Fractions.__init__" (defScope s_Fractions___init__) (He.ma K (He.ga K "Fractions") "__init__") cdv A outer s H E).nox (defBody s_Fractions___init__) t ∧ t { nx := fun _ H' => Q .non H', rt := Q } (start n_Fractions___init__ vs) H) : FnG P w K mg base CX0 (k + 1) (He.ma K (He.ga K "Fractions") "__init__") sp := by
  obtain ⟨fd, F⟩ := S.def_ 5 (d := d_Fractions___init__) rfl
  exact ok0 F sc_Fractions___init__ (F.bindsA fun _ _ _ _ _ _ us hl => match us, hl with | [_], _ => rfl) len hb
theorem kp_Fractions___init__ (S : He.SaysD fa fn K) : PySem.W.keepIn K (.ref (He.ma K (He.ga K "Fractions") "__init__")) = true := by
  obtain ⟨fd, F⟩ := S.def_ 5 (d := d_Fractions___init__) rfl
  exact F.kp
theorem mk_Modulo___init__ (S : He.SaysD fa fn K) (len : ∀ vs H Q E, sp vs H Q E → vs.length = 2)
    (hb : ∀ (cdv : Value) (A : Around) (outer : List Env) (s : Shared) (H : Hp) (vs : List V) (Q : VK) (E : XK), A.guards = some [] → Room k (A.deeper (envOfC "Modulo.__init__" (defScope s_Modulo___init__) s.heap.objs.size (He.ma K (He.ga K "Modulo") "__init__") cdv)) → sp vs H Q E →
      ∃ t, PSs (cxOf CX0 P w K mg base n_Modulo___init__ "Modulo.__init__" (defScope s_Modulo___init__) (He.ma K (He.ga K "Modulo") "__init__") cdv A outer s H E).nox (defBody s_Modulo___init__) t ∧ t { nx := fun _ H' => Q .non H', rt := Q } (start n_Modulo___init__ vs) H) : FnG P w K mg base CX0 (k + 1) (He.ma K (He.ga K "Modulo") "__init__") sp := by
  obtain ⟨fd, F⟩ := S.def_ 6 (d := d_Modulo___init__) rfl
  exact ok0 F sc_Modulo___init__ (F.bindsA fun _ _ _ _ _ _ us hl => match us, hl with | [_, _], _ => rfl) len hb
theorem kp_Modulo___init__ (S : He.SaysD fa fn K) : PySem.W.keepIn K (.ref (He.ma K (He.ga K "Modulo") "__init__")) = true := by
  obtain ⟨fd, F⟩ := S.def_ 6 (d := d_Modulo___init__) rfl
  exact F.kp
theorem mk_is_prime (S : He.SaysD fa fn K) (len : ∀ vs H Q E, sp vs H Q E → vs.length = 1)
    (hb : ∀ (cdv : Value) (A : Around) (outer : List Env) (s : Shared) (H : Hp) (vs : List V) (Q : VK) (E : XK), A.guards = some [] → Room k (A.deeper (envOfC "is_prime" (defScope s_is_prime) s.heap.objs.size (He.ga K "is_prime") cdv)) → sp vs H Q E →
      ∃ t, PSs (cxOf CX0 P w K mg base n_is_prime "is_prime" (defScope s_is_prime) (He.ga K "is_prime") cdv A outer s H E).nox (defBody s_is_prime) t ∧ t { nx := fun _ H' => Q .non H', rt := Q } (start n_is_prime vs) H) : FnG P w K mg base CX0 (k + 1) (He.ga K "is_prime") sp := by
  obtain ⟨fd, F⟩ := S.def_ 7 (d := d_is_prime) rfl
  exact ok0 F sc_is_prime (F.bindsA fun _ _ _ _ _ _ us hl => match us, hl with | [_], _ => rfl) len hb
theorem kp_is_prime (S : He.SaysD fa fn K) : PySem.W.keepIn K (.ref (He.ga K "is_prime")) = true := by
  obtain ⟨fd, F⟩ := S.def_ 7 (d := d_is_prime) rfl
  exact F.kp
theorem mk_is_fraction (S : He.SaysD fa fn K) (len : ∀ vs H Q E, sp vs H Q E → vs.length = 1)
    (hb : ∀ (cdv : Value) (A : Around) (outer : List Env) (s : Shared) (H : Hp) (vs : List V) (Q : VK) (E : XK), A.guards = some [] → Room k (A.deeper (envOfC "is_fraction" (defScope s_is_fraction) s.heap.objs.size (He.ga K "is_fraction") cdv)) → sp vs H Q E →
      ∃ t, PSs (cxOf CX0 P w K mg base n_is_fraction "is_fraction" (defScope s_is_fraction) (He.ga K "is_fraction") cdv A outer s H E).nox (defBody s_is_fraction) t ∧ t { nx := fun _ H' => Q .non H', rt := Q } (start n_is_fraction vs) H) : FnG P w K mg base CX0 (k + 1) (He.ga K "is_fraction") sp := by
  obtain ⟨fd, F⟩ := S.def_ 8 (d := d_is_fraction) rfl
  exact ok0 F sc_is_fraction (F.bindsA fun _ _ _ _ _ _ us hl => match us, hl with | [_], _ => rfl) len hb
theorem kp_is_fraction (S : He.SaysD fa fn K) : PySem.W.keepIn K (.ref (He.ga K "is_fraction")) = true := by
  obtain ⟨fd, F⟩ := S.def_ 8 (d := d_is_fraction) rfl
  exact F.kp
theorem mk_is_longer (S : He.SaysD fa fn K) (len : ∀ vs H Q E, sp vs H Q E → vs.length = 2)
    (hb : ∀ (cdv : Value) (A : Around) (outer : List Env) (s : Shared) (H : Hp) (vs : List V) (Q : VK) (E : XK), A.guards = some [] → Room k (A.deeper (envOfC "is_longer" (defScope s_is_longer) s.heap.objs.size (He.ga K "is_longer") cdv)) → sp vs H Q E →
      ∃ t, PSs (cxOf CX0 P w K mg base n_is_longer "is_longer" (defScope s_is_longer) (He.ga K "is_longer") cdv A outer s H E).nox (defBody s_is_longer) t ∧ t { nx := fun _ H' => Q .non H', rt := Q } (start n_is_longer vs) H) : FnG P w K mg base CX0 (k + 1) (He.ga K "is_longer") sp := by
  obtain ⟨fd, F⟩ := S.def_ 9 (d := d_is_longer) rfl
  exact ok0 F sc_is_longer (F.bindsA fun _ _ _ _ _ _ us hl => match us, hl with | [_, _], _ => rfl) len hb
theorem kp_is_longer (S : He.SaysD fa fn K) : PySem.W.keepIn K (.ref (He.ga K "is_longer")) = true := by
  obtain ⟨fd, F⟩ := S.def_ 9 (d := d_is_longer) rfl
  exact F.kp
theorem mk_parts (S : He.SaysD fa fn K) (len : ∀ vs H Q E, sp vs H Q E → vs.length = 1)
    (hb : ∀ (cdv : Value) (A : Around) (outer : List Env) (s : Shared) (H : Hp) (vs : List V) (Q : VK) (E : XK), A.guards = some [] → Room k (A.deeper (envOfC "parts" (defScope s_parts) s.heap.objs.size (He.ga K "parts") cdv)) → sp vs H Q E →
      ∃ t, PSs (cxOf CX0 P w K mg base n_parts "parts" (defScope s_parts) (He.ga K "parts") cdv A outer s H E).nox (defBody s_parts) t ∧ t { nx := fun _ H' => Q .non H', rt := Q } (start n_parts vs) H) : FnG P w K mg base CX0 (k + 1) (He.ga K "parts") sp := by
  obtain ⟨fd, F⟩ := S.def_ 10 (d := d_parts) rfl
  exact ok0 F sc_parts (F.bindsA fun _ _ _ _ _ _ us hl => match us, hl with | [_], _ => rfl) len hb
theorem kp_parts (S : He.SaysD fa fn K) : PySem.W.keepIn K (.ref (He.ga K "parts")) = true := by
  obtain ⟨fd, F⟩ := S.def_ 10 (d := d_parts) rfl
  exact F.kp
theorem mk__law_pen (S : He.SaysD fa fn K) (len : ∀ vs H Q E, sp vs H Q E → vs.length = 1)
    (hb : ∀ (cdv : Value) (A : Around) (outer : List Env) (s : Shared) (H : Hp) (vs : List V) (Q : VK) (E : XK), A.guards = some [] → Room k (A.deeper (envOfC "_law_pen" (defScope s__law_pen) s.heap.objs.size (He.ga K "_law_pen") cdv)) → sp vs H Q E →
      ∃ t, PSs (cxOf CX0 P w K mg base n__law_pen "_law_pen" (defScope s__law_pen) (He.ga K "_law_pen") cdv A outer s H E).nox (defBody s__law_pen) t ∧ t { nx := fun _ H' => Q .non H', rt := Q } (start n__law_pen vs) H) : FnG P w K mg base CX0 (k + 1) (He.ga K "_law_pen") sp := by
  obtain ⟨fd, F⟩ := S.def_ 11 (d := d__law_pen) rfl
  exact ok0 F sc__law_pen (F.bindsA fun _ _ _ _ _ _ us hl => match us, hl with | [_], _ => rfl) len hb
theorem kp__law_pen (S : He.SaysD fa fn K) : PySem.W.keepIn K (.ref (He.ga K "_law_pen")) = true := by
  obtain ⟨fd, F⟩ := S.def_ 11 (d := d__law_pen) rfl
  exact F.kp
theorem mk__law_draw (S : He.SaysD fa fn K) (len : ∀ vs H Q E, sp vs H Q E → vs.length = 2)
    (hb : ∀ (cdv : Value) (A : Around) (outer : List Env) (s : Shared) (H : Hp) (vs : List V) (Q : VK) (E : XK), A.guards = some [] → Room k (A.deeper (envOfC "_law_draw" (defScope s__law_draw) s.heap.objs.size (He.ga K "_law_draw") cdv)) → sp vs H Q E →
      ∃ t, PSs (cxOf CX0 P w K mg base n__law_draw "_law_draw" (defScope s__law_draw) (He.ga K "_law_draw") cdv A outer s H E).nox (defBody s__law_draw) t ∧ t { nx := fun _ H' => Q .non H', rt := Q } (start n__law_draw vs) H) : FnG P w K mg base CX0 (k + 1) (He.ga K "_law_draw") sp := by
  obtain ⟨fd, F⟩ := S.def_ 12 (d := d__law_draw) rfl
  exact ok0 F sc__law_draw (F.bindsA fun _ _ _ _ _ _ us hl => match us, hl with | [_, _], _ => rfl) len hb
theorem kp__law_draw (S : He.SaysD fa fn K) : PySem.W.keepIn K (.ref (He.ga K "_law_draw")) = true := by
  obtain ⟨fd, F⟩ := S.def_ 12 (d := d__law_draw) rfl
  exact F.kp
theorem mk__law_pick (S : He.SaysD fa fn K) (len : ∀ vs H Q E, sp vs H Q E → vs.length = 2)
    (hb : ∀ (cdv : Value) (A : Around) (outer : List Env) (s : Shared) (H : Hp) (vs : List V) (Q : VK) (E : XK), A.guards = some [] → Room k (A.deeper (envOfC "_law_pick" (defScope s__law_pick) s.heap.objs.size (He.ga K "_law_pick") cdv)) → sp vs H Q E →
      ∃ t, PSs (cxOf CX0 P w K mg base n__law_pick "_law_pick" (defScope s__law_pick) (He.ga K "_law_pick") cdv A outer s H E).nox (defBody s__law_pick) t ∧ t { nx := fun _ H' => Q .non H', rt := Q } (start n__law_pick vs) H) : FnG P w K mg base CX0 (k + 1) (He.ga K "_law_pick") sp := by
  obtain ⟨fd, F⟩ := S.def_ 13 (d := d__law_pick) rfl
  exact ok0 F sc__law_pick (F.bindsA fun _ _ _ _ _ _ us hl => match us, hl with | [_, _], _ => rfl) len hb
theorem kp__law_pick (S : He.SaysD fa fn K) : PySem.W.keepIn K (.ref (He.ga K "_law_pick")) = true := by
  obtain ⟨fd, F⟩ := S.def_ 13 (d := d__law_pick) rfl
  exact F.kp
theorem mk__law_prime (S : He.SaysD fa fn K) (len : ∀ vs H Q E, sp vs H Q E → vs.length = 1)
    (hb : ∀ (cdv : Value) (A : Around) (outer : List Env) (s : Shared) (H : Hp) (vs : List V) (Q : VK) (E : XK), A.guards = some [] → Room k (A.deeper (envOfC "_law_prime" (defScope s__law_prime) s.heap.objs.size (He.ga K "_law_prime") cdv)) → sp vs H Q E →
      ∃ t, PSs (cxOf CX0 P w K mg base n__law_prime "_law_prime" (defScope s__law_prime) (He.ga K "_law_prime") cdv A outer s H E).nox (defBody s__law_prime) t ∧ t { nx := fun _ H' => Q .non H', rt := Q } (start n__law_prime vs) H) : FnG P w K mg base CX0 (k + 1) (He.ga K "_law_prime") sp := by
  obtain ⟨fd, F⟩ := S.def_ 14 (d := d__law_prime) rfl
  exact ok0 F sc__law_prime (F.bindsA fun _ _ _ _ _ _ us hl => match us, hl with | [_], _ => rfl) len hb
theorem kp__law_prime (S : He.SaysD fa fn K) : PySem.W.keepIn K (.ref (He.ga K "_law_prime")) = true := by
  obtain ⟨fd, F⟩ := S.def_ 14 (d := d__law_prime) rfl
  exact F.kp
theorem mk__law_number (S : He.SaysD fa fn K) (len : ∀ vs H Q E, sp vs H Q E → vs.length = 2)
    (hb : ∀ (cdv : Value) (A : Around) (outer : List Env) (s : Shared) (H : Hp) (vs : List V) (Q : VK) (E : XK), A.guards = some [] → Room k (A.deeper (envOfC "_law_number" (defScope s__law_number) s.heap.objs.size (He.ga K "_law_number") cdv)) → sp vs H Q E →
      ∃ t, PSs (cxOf CX0 P w K mg base n__law_number "_law_number" (defScope s__law_number) (He.ga K "_law_number") cdv A outer s H E).nox (defBody s__law_number) t ∧ t { nx := fun _ H' => Q .non H', rt := Q } (start n__law_number vs) H) : FnG P w K mg base CX0 (k + 1) (He.ga K "_law_number") sp := by
  obtain ⟨fd, F⟩ := S.def_ 15 (d := d__law_number) rfl
  exact ok0 F sc__law_number (F.bindsA fun _ _ _ _ _ _ us hl => match us, hl with | [_, _], _ => rfl) len hb
theorem kp__law_number (S : He.SaysD fa fn K) : PySem.W.keepIn K (.ref (He.ga K "_law_number")) = true := by
  obtain ⟨fd, F⟩ := S.def_ 15 (d := d__law_number) rfl
  exact F.kp
theorem mk__law_odd (S : He.SaysD fa fn K) (len : ∀ vs H Q E, sp vs H Q E → vs.length = 1)
    (hb : ∀ (cdv : Value) (A : Around) (outer : List Env) (s : Shared) (H : Hp) (vs : List V) (Q : VK) (E : XK), A.guards = some [] → Room k (A.deeper (envOfC "_law_odd" (defScope s__law_odd) s.heap.objs.size (He.ga K "_law_odd") cdv)) → sp vs H Q E →
      ∃ t, PSs (cxOf CX0 P w K mg base n__law_odd "_law_odd" (defScope s__law_odd) (He.ga K "_law_odd") cdv A outer s H E).nox (defBody s__law_odd) t ∧ t { nx := fun _ H' => Q .non H', rt := Q } (start n__law_odd vs) H) : FnG P w K mg base CX0 (k + 1) (He.ga K "_law_odd") sp := by
  obtain ⟨fd, F⟩ := S.def_ 16 (d := d__law_odd) rfl
  exact ok0 F sc__law_odd (F.bindsA fun _ _ _ _ _ _ us hl => match us, hl with | [_], _ => rfl) len hb
theorem kp__law_odd (S : He.SaysD fa fn K) : PySem.W.keepIn K (.ref (He.ga K "_law_odd")) = true := by
  obtain ⟨fd, F⟩ := S.def_ 16 (d := d__law_odd) rfl
  exact F.kp
theorem mk__law_far (S : He.SaysD fa fn K) (len : ∀ vs H Q E, sp vs H Q E → vs.length = 1)
    (hb : ∀ (cdv : Value) (A : Around) (outer : List Env) (s : Shared) (H : Hp) (vs : List V) (Q : VK) (E : XK), A.guards = some [] → Room k (A.deeper (envOfC "_law_far" (defScope s__law_far) s.heap.objs.size (He.ga K "_law_far") cdv)) → sp vs H Q E →
      ∃ t, PSs (cxOf CX0 P w K mg base n__law_far "_law_far" (defScope s__law_far) (He.ga K "_law_far") cdv A outer s H E).nox (defBody s__law_far) t ∧ t { nx := fun _ H' => Q .non H', rt := Q } (start n__law_far vs) H) : FnG P w K mg base CX0 (k + 1) (He.ga K "_law_far") sp := by
  obtain ⟨fd, F⟩ := S.def_ 17 (d := d__law_far) rfl
  exact ok0 F sc__law_far (F.bindsA fun _ _ _ _ _ _ us hl => match us, hl with | [_], _ => rfl) len hb
theorem kp__law_far (S : He.SaysD fa fn K) : PySem.W.keepIn K (.ref (He.ga K "_law_far")) = true := by
  obtain ⟨fd, F⟩ := S.def_ 17 (d := d__law_far) rfl
  exact F.kp
theorem mk__law_tens (S : He.SaysD fa fn K) (len : ∀ vs H Q E, sp vs H Q E → vs.length = 1)
    (hb : ∀ (cdv : Value) (A : Around) (outer : List Env) (s : Shared) (H : Hp) (vs : List V) (Q : VK) (E : XK), A.guards = some [] → Room k (A.deeper (envOfC "_law_tens" (defScope s__law_tens) s.heap.objs.size (He.ga K "_law_tens") cdv)) → sp vs H Q E →
      ∃ t, PSs (cxOf CX0 P w K mg base n__law_tens "_law_tens" (defScope s__law_tens) (He.ga K "_law_tens") cdv A outer s H E).nox (defBody s__law_tens) t ∧ t { nx := fun _ H' => Q .non H', rt := Q } (start n__law_tens vs) H) : FnG P w K mg base CX0 (k + 1) (He.ga K "_law_tens") sp := by
  obtain ⟨fd, F⟩ := S.def_ 18 (d := d__law_tens) rfl
  exact ok0 F sc__law_tens (F.bindsA fun _ _ _ _ _ _ us hl => match us, hl with | [_], _ => rfl) len hb
theorem kp__law_tens (S : He.SaysD fa fn K) : PySem.W.keepIn K (.ref (He.ga K "_law_tens")) = true := by
  obtain ⟨fd, F⟩ := S.def_ 18 (d := d__law_tens) rfl
  exact F.kp
theorem mk__law_signed (S : He.SaysD fa fn K) (len : ∀ vs H Q E, sp vs H Q E → vs.length = 2)
    (hb : ∀ (cdv : Value) (A : Around) (outer : List Env) (s : Shared) (H : Hp) (vs : List V) (Q : VK) (E : XK), A.guards = some [] → Room k (A.deeper (envOfC "_law_signed" (defScope s__law_signed) s.heap.objs.size (He.ga K "_law_signed") cdv)) → sp vs H Q E →
      ∃ t, PSs (cxOf CX0 P w K mg base n__law_signed "_law_signed" (defScope s__law_signed) (He.ga K "_law_signed") cdv A outer s H E).nox (defBody s__law_signed) t ∧ t { nx := fun _ H' => Q .non H', rt := Q } (start n__law_signed vs) H) : FnG P w K mg base CX0 (k + 1) (He.ga K "_law_signed") sp := by
  obtain ⟨fd, F⟩ := S.def_ 19 (d := d__law_signed) rfl
  exact ok0 F sc__law_signed (F.bindsA fun _ _ _ _ _ _ us hl => match us, hl with | [_, _], _ => rfl) len hb
theorem kp__law_signed (S : He.SaysD fa fn K) : PySem.W.keepIn K (.ref (He.ga K "_law_signed")) = true := by
  obtain ⟨fd, F⟩ := S.def_ 19 (d := d__law_signed) rfl
  exact F.kp
theorem mk__law_gcd (S : He.SaysD fa fn K) (len : ∀ vs H Q E, sp vs H Q E → vs.length = 2)
    (hb : ∀ (cdv : Value) (A : Around) (outer : List Env) (s : Shared) (H : Hp) (vs : List V) (Q : VK) (E : XK), A.guards = some [] → Room k (A.deeper (envOfC "_law_gcd" (defScope s__law_gcd) s.heap.objs.size (He.ga K "_law_gcd") cdv)) → sp vs H Q E →
      ∃ t, PSs (cxOf CX0 P w K mg base n__law_gcd "_law_gcd" (defScope s__law_gcd) (He.ga K "_law_gcd") cdv A outer s H E).nox (defBody s__law_gcd) t ∧ t { nx := fun _ H' => Q .non H', rt := Q } (start n__law_gcd vs) H) : FnG P w K mg base CX0 (k + 1) (He.ga K "_law_gcd") sp := by
  obtain ⟨fd, F⟩ := S.def_ 20 (d := d__law_gcd) rfl
  exact ok0 F sc__law_gcd (F.bindsA fun _ _ _ _ _ _ us hl => match us, hl with | [_, _], _ => rfl) len hb
theorem kp__law_gcd (S : He.SaysD fa fn K) : PySem.W.keepIn K (.ref (He.ga K "_law_gcd")) = true := by
  obtain ⟨fd, F⟩ := S.def_ 20 (d := d__law_gcd) rfl
  exact F.kp
theorem mk__law_told (S : He.SaysD fa fn K) (len : ∀ vs H Q E, sp vs H Q E → vs.length = 2)
    (hb : ∀ (cdv : Value) (A : Around) (outer : List Env) (s : Shared) (H : Hp) (vs : List V) (Q : VK) (E : XK), A.guards = some [] → Room k (A.deeper (envOfC "_law_told" (defScope s__law_told) s.heap.objs.size (He.ga K "_law_told") cdv)) → sp vs H Q E →
      ∃ t, PSs (cxOf CX0 P w K mg base n__law_told "_law_told" (defScope s__law_told) (He.ga K "_law_told") cdv A outer s H E).nox (defBody s__law_told) t ∧ t { nx := fun _ H' => Q .non H', rt := Q } (start n__law_told vs) H) : FnG P w K mg base CX0 (k + 1) (He.ga K "_law_told") sp := by
  obtain ⟨fd, F⟩ := S.def_ 21 (d := d__law_told) rfl
  exact ok0 F sc__law_told (F.bindsA fun _ _ _ _ _ _ us hl => match us, hl with | [_, _], _ => rfl) len hb
theorem kp__law_told (S : He.SaysD fa fn K) : PySem.W.keepIn K (.ref (He.ga K "_law_told")) = true := by
  obtain ⟨fd, F⟩ := S.def_ 21 (d := d__law_told) rfl
  exact F.kp
theorem mk__law_any_number (S : He.SaysD fa fn K) (len : ∀ vs H Q E, sp vs H Q E → vs.length = 3)
    (hb : ∀ (cdv : Value) (A : Around) (outer : List Env) (s : Shared) (H : Hp) (vs : List V) (Q : VK) (E : XK), A.guards = some [] → Room k (A.deeper (envOfC "_law_any_number" (defScope s__law_any_number) s.heap.objs.size (He.ga K "_law_any_number") cdv)) → sp vs H Q E →
      ∃ t, PSs (cxOf CX0 P w K mg base n__law_any_number "_law_any_number" (defScope s__law_any_number) (He.ga K "_law_any_number") cdv A outer s H E).nox (defBody s__law_any_number) t ∧ t { nx := fun _ H' => Q .non H', rt := Q } (start n__law_any_number vs) H) : FnG P w K mg base CX0 (k + 1) (He.ga K "_law_any_number") sp := by
  obtain ⟨fd, F⟩ := S.def_ 22 (d := d__law_any_number) rfl
  exact ok0 F sc__law_any_number (F.bindsA fun _ _ _ _ _ _ us hl => match us, hl with | [_, _, _], _ => rfl) len hb
theorem kp__law_any_number (S : He.SaysD fa fn K) : PySem.W.keepIn K (.ref (He.ga K "_law_any_number")) = true := by
  obtain ⟨fd, F⟩ := S.def_ 22 (d := d__law_any_number) rfl
  exact F.kp
theorem mk__law_made_field (S : He.SaysD fa fn K) (len : ∀ vs H Q E, sp vs H Q E → vs.length = 1)
    (hb : ∀ (cdv : Value) (A : Around) (outer : List Env) (s : Shared) (H : Hp) (vs : List V) (Q : VK) (E : XK), A.guards = some [] → Room k (A.deeper (envOfC "_law_made_field" (defScope s__law_made_field) s.heap.objs.size (He.ga K "_law_made_field") cdv)) → sp vs H Q E →
      ∃ t, PSs (cxOf CX0 P w K mg base n__law_made_field "_law_made_field" (defScope s__law_made_field) (He.ga K "_law_made_field") cdv A outer s H E).nox (defBody s__law_made_field) t ∧ t { nx := fun _ H' => Q .non H', rt := Q } (start n__law_made_field vs) H) : FnG P w K mg base CX0 (k + 1) (He.ga K "_law_made_field") sp := by
  obtain ⟨fd, F⟩ := S.def_ 23 (d := d__law_made_field) rfl
  exact ok0 F sc__law_made_field (F.bindsA fun _ _ _ _ _ _ us hl => match us, hl with | [_], _ => rfl) len hb
theorem kp__law_made_field (S : He.SaysD fa fn K) : PySem.W.keepIn K (.ref (He.ga K "_law_made_field")) = true := by
  obtain ⟨fd, F⟩ := S.def_ 23 (d := d__law_made_field) rfl
  exact F.kp
theorem mk__law_any_prime (S : He.SaysD fa fn K) (len : ∀ vs H Q E, sp vs H Q E → vs.length = 1)
    (hb : ∀ (cdv : Value) (A : Around) (outer : List Env) (s : Shared) (H : Hp) (vs : List V) (Q : VK) (E : XK), A.guards = some [] → Room k (A.deeper (envOfC "_law_any_prime" (defScope s__law_any_prime) s.heap.objs.size (He.ga K "_law_any_prime") cdv)) → sp vs H Q E →
      ∃ t, PSs (cxOf CX0 P w K mg base n__law_any_prime "_law_any_prime" (defScope s__law_any_prime) (He.ga K "_law_any_prime") cdv A outer s H E).nox (defBody s__law_any_prime) t ∧ t { nx := fun _ H' => Q .non H', rt := Q } (start n__law_any_prime vs) H) : FnG P w K mg base CX0 (k + 1) (He.ga K "_law_any_prime") sp := by
  obtain ⟨fd, F⟩ := S.def_ 24 (d := d__law_any_prime) rfl
  exact ok0 F sc__law_any_prime (F.bindsA fun _ _ _ _ _ _ us hl => match us, hl with | [_], _ => rfl) len hb
theorem kp__law_any_prime (S : He.SaysD fa fn K) : PySem.W.keepIn K (.ref (He.ga K "_law_any_prime")) = true := by
  obtain ⟨fd, F⟩ := S.def_ 24 (d := d__law_any_prime) rfl
  exact F.kp
theorem mk__law_is_whole (S : He.SaysD fa fn K) (len : ∀ vs H Q E, sp vs H Q E → vs.length = 1)
    (hb : ∀ (cdv : Value) (A : Around) (outer : List Env) (s : Shared) (H : Hp) (vs : List V) (Q : VK) (E : XK), A.guards = some [] → Room k (A.deeper (envOfC "_law_is_whole" (defScope s__law_is_whole) s.heap.objs.size (He.ga K "_law_is_whole") cdv)) → sp vs H Q E →
      ∃ t, PSs (cxOf CX0 P w K mg base n__law_is_whole "_law_is_whole" (defScope s__law_is_whole) (He.ga K "_law_is_whole") cdv A outer s H E).nox (defBody s__law_is_whole) t ∧ t { nx := fun _ H' => Q .non H', rt := Q } (start n__law_is_whole vs) H) : FnG P w K mg base CX0 (k + 1) (He.ga K "_law_is_whole") sp := by
  obtain ⟨fd, F⟩ := S.def_ 25 (d := d__law_is_whole) rfl
  exact ok0 F sc__law_is_whole (F.bindsA fun _ _ _ _ _ _ us hl => match us, hl with | [_], _ => rfl) len hb
theorem kp__law_is_whole (S : He.SaysD fa fn K) : PySem.W.keepIn K (.ref (He.ga K "_law_is_whole")) = true := by
  obtain ⟨fd, F⟩ := S.def_ 25 (d := d__law_is_whole) rfl
  exact F.kp
theorem mk__law_is_number (S : He.SaysD fa fn K) (len : ∀ vs H Q E, sp vs H Q E → vs.length = 2)
    (hb : ∀ (cdv : Value) (A : Around) (outer : List Env) (s : Shared) (H : Hp) (vs : List V) (Q : VK) (E : XK), A.guards = some [] → Room k (A.deeper (envOfC "_law_is_number" (defScope s__law_is_number) s.heap.objs.size (He.ga K "_law_is_number") cdv)) → sp vs H Q E →
      ∃ t, PSs (cxOf CX0 P w K mg base n__law_is_number "_law_is_number" (defScope s__law_is_number) (He.ga K "_law_is_number") cdv A outer s H E).nox (defBody s__law_is_number) t ∧ t { nx := fun _ H' => Q .non H', rt := Q } (start n__law_is_number vs) H) : FnG P w K mg base CX0 (k + 1) (He.ga K "_law_is_number") sp := by
  obtain ⟨fd, F⟩ := S.def_ 26 (d := d__law_is_number) rfl
  exact ok0 F sc__law_is_number (F.bindsA fun _ _ _ _ _ _ us hl => match us, hl with | [_, _], _ => rfl) len hb
theorem kp__law_is_number (S : He.SaysD fa fn K) : PySem.W.keepIn K (.ref (He.ga K "_law_is_number")) = true := by
  obtain ⟨fd, F⟩ := S.def_ 26 (d := d__law_is_number) rfl
  exact F.kp
theorem mk__law_near (S : He.SaysD fa fn K) (len : ∀ vs H Q E, sp vs H Q E → vs.length = 2)
    (hb : ∀ (cdv : Value) (A : Around) (outer : List Env) (s : Shared) (H : Hp) (vs : List V) (Q : VK) (E : XK), A.guards = some [] → Room k (A.deeper (envOfC "_law_near" (defScope s__law_near) s.heap.objs.size (He.ga K "_law_near") cdv)) → sp vs H Q E →
      ∃ t, PSs (cxOf CX0 P w K mg base n__law_near "_law_near" (defScope s__law_near) (He.ga K "_law_near") cdv A outer s H E).nox (defBody s__law_near) t ∧ t { nx := fun _ H' => Q .non H', rt := Q } (start n__law_near vs) H) : FnG P w K mg base CX0 (k + 1) (He.ga K "_law_near") sp := by
  obtain ⟨fd, F⟩ := S.def_ 27 (d := d__law_near) rfl
  exact ok0 F sc__law_near (F.bindsA fun _ _ _ _ _ _ us hl => match us, hl with | [_, _], _ => rfl) len hb
theorem kp__law_near (S : He.SaysD fa fn K) : PySem.W.keepIn K (.ref (He.ga K "_law_near")) = true := by
  obtain ⟨fd, F⟩ := S.def_ 27 (d := d__law_near) rfl
  exact F.kp
theorem mk_law (S : He.SaysD fa fn K) (len : ∀ vs H Q E, sp vs H Q E → vs.length = 1)
    (hb : ∀ (cdv : Value) (A : Around) (outer : List Env) (s : Shared) (H : Hp) (vs : List V) (Q : VK) (E : XK), A.guards = some [] → Room k (A.deeper (envOfC "law" (defScope s_law) s.heap.objs.size (He.ga K "law") cdv)) → sp vs H Q E →
      ∃ t, PSs (cxOf CX0 P w K mg base n_law "law" (defScope s_law) (He.ga K "law") cdv A outer s H E).nox (defBody s_law) t ∧ t { nx := fun _ H' => Q .non H', rt := Q } (start n_law vs) H) : FnG P w K mg base CX0 (k + 1) (He.ga K "law") sp := by
  obtain ⟨fd, F⟩ := S.def_ 28 (d := d_law) rfl
  exact ok0 F sc_law (F.bindsA fun _ _ _ _ _ _ us hl => match us, hl with | [_], _ => rfl) len hb
theorem kp_law (S : He.SaysD fa fn K) : PySem.W.keepIn K (.ref (He.ga K "law")) = true := by
  obtain ⟨fd, F⟩ := S.def_ 28 (d := d_law) rfl
  exact F.kp
end
end K02

/-! The mathematics of the fractions: the reduced pair, common bottoms. -/
namespace Num
open Rat
theorem den_pos' (q : Rat) : (0 : Int) < (q.den : Int) := Int.natCast_pos.mpr q.den_pos
/-- the divisor with the sign of the bottom -/
def dvs (t b : Int) : Int := if b < 0 then -((Nat.gcd t.natAbs b.natAbs : Nat) : Int) else ((Nat.gcd t.natAbs b.natAbs : Nat) : Int)
theorem dvs_ex {t b : Int} (hb : b ≠ 0) : ∃ (t' b' : Int), t = dvs t b * t' ∧ b = dvs t b * b' ∧ dvs t b ≠ 0 ∧ 0 < b' ∧ (t /. b).num = t' ∧ ((t /. b).den : Int) = b' := by
  have gpos : 0 < Nat.gcd t.natAbs b.natAbs := Nat.gcd_pos_of_pos_right _ (Int.natAbs_pos.mpr hb)
  have gt : ((Nat.gcd t.natAbs b.natAbs : Nat) : Int) ∣ t := Int.natAbs_dvd_natAbs.mp (Nat.gcd_dvd_left _ _)
  have gb : ((Nat.gcd t.natAbs b.natAbs : Nat) : Int) ∣ b := Int.natAbs_dvd_natAbs.mp (Nat.gcd_dvd_right _ _)
  have hn := Rat.num_divInt t b
  have hd := Rat.den_divInt t b
  have eg : Int.gcd b t = Nat.gcd t.natAbs b.natAbs := Nat.gcd_comm _ _
  rw [eg] at hn hd
  rw [if_neg hb] at hd
  unfold dvs
  generalize Nat.gcd t.natAbs b.natAbs = g at *
  obtain ⟨x, ex⟩ := gt
  obtain ⟨y, ey⟩ := gb
  have g0 : (0 : Int) < (g : Int) := Int.natCast_pos.mpr gpos
  by_cases h : b < 0
  · rw [if_pos h]
    have sg : b.sign = -1 := Int.sign_eq_neg_one_of_neg h
    have y0 : y < 0 := by
      by_cases c : y < 0
      · exact c
      · have := Int.mul_nonneg (Int.le_of_lt g0) (Int.not_lt.mp c)
        omega
    refine ⟨-x, -y, by rw [Int.neg_mul_neg]; exact ex, by rw [Int.neg_mul_neg]; exact ey, by omega, by omega, ?_, ?_⟩
    · rw [hn, sg, ex, ← Int.mul_assoc, Int.mul_comm (-1), Int.mul_assoc, Int.mul_ediv_cancel_left _ (by omega)]
      omega
    · rw [hd, Int.natCast_ediv, ey]
      have : (((g : Int) * y).natAbs : Int) = (g : Int) * (-y) := by
        rw [Int.mul_neg]
        have : (g : Int) * y < 0 := by rw [← ey]; exact h
        omega
      rw [this, Int.mul_ediv_cancel_left _ (by omega)]
  · rw [if_neg h]
    have bp : 0 < b := by omega
    have sg : b.sign = 1 := Int.sign_eq_one_of_pos bp
    have y0 : 0 < y := by
      by_cases c : 0 < y
      · exact c
      · have := Int.mul_nonpos_of_nonneg_of_nonpos (Int.le_of_lt g0) (Int.not_lt.mp c)
        omega
    refine ⟨x, y, ex, ey, by omega, y0, ?_, ?_⟩
    · rw [hn, sg, Int.one_mul, ex, Int.mul_ediv_cancel_left _ (by omega)]
    · rw [hd, Int.natCast_ediv, ey]
      have : (((g : Int) * y).natAbs : Int) = (g : Int) * y := by
        have : 0 < (g : Int) * y := by rw [← ey]; exact bp
        omega
      rw [this, Int.mul_ediv_cancel_left _ (by omega)]
theorem dvs_out {t b : Int} (hb : b ≠ 0) : dvs t b ≠ 0 ∧ t.fdiv (dvs t b) = (t /. b).num ∧ b.fdiv (dvs t b) = ((t /. b).den : Int) ∧ (b = dvs t b ↔ (t /. b).den = 1) ∧ (t /. b).num.natAbs ≤ t.natAbs ∧ (t /. b).den ≤ b.natAbs := by
  obtain ⟨t', b', h1, h2, h3, h4, h5, h6⟩ := dvs_ex (t := t) hb
  generalize dvs t b = d at *
  have hd1 : 1 ≤ d.natAbs := by omega
  refine ⟨h3, ?_, ?_, ⟨fun h => ?_, fun h => ?_⟩, ?_, ?_⟩
  · rw [h5]
    conv => lhs; rw [h1]
    exact Int.mul_fdiv_cancel_left _ h3
  · rw [h6]
    conv => lhs; rw [h2]
    exact Int.mul_fdiv_cancel_left _ h3
  · have e : d * b' = d * 1 := by rw [← h2, Int.mul_one]; exact h
    have := Int.eq_of_mul_eq_mul_left h3 e
    omega
  · have e : b' = 1 := by omega
    rw [e, Int.mul_one] at h2
    exact h2
  · rw [h5]
    conv => rhs; rw [h1, Int.natAbs_mul]
    exact Nat.le_mul_of_pos_left _ hd1
  · have e : (t /. b).den = b'.natAbs := by omega
    rw [e]
    conv => rhs; rw [h2, Int.natAbs_mul]
    exact Nat.le_mul_of_pos_left _ hd1
theorem gcd_low (q : Rat) : Nat.gcd q.num.natAbs (q.den : Int).natAbs = 1 := q.reduced
theorem dvs_one (t : Int) : (t /. 1).num = t ∧ (t /. 1).den = 1 := by
  obtain ⟨h1, h2, h3, h4, h5, h6⟩ := dvs_out (t := t) (b := 1) (by decide)
  have e : dvs t 1 = 1 := by
    unfold dvs
    rw [if_neg (by decide)]
    show ((Nat.gcd t.natAbs 1 : Nat) : Int) = 1
    rw [Nat.gcd_one_right]
    rfl
  rw [e, Int.fdiv_one] at h2
  exact ⟨h2.symm, h4.mp e.symm⟩
/-! ### the operations -/
theorem add_is (a b : Rat) : (a.num * b.den + b.num * a.den) /. ((a.den : Int) * b.den) = a + b := by
  rw [Rat.add_def', ← Rat.divInt_ofNat, Int.natCast_mul]
theorem sub_is (a b : Rat) : (a.num * b.den - b.num * a.den) /. ((a.den : Int) * b.den) = a - b := by
  rw [Rat.sub_def', ← Rat.divInt_ofNat, Int.natCast_mul]
theorem mul_is (a b : Rat) : (a.num * b.num) /. ((a.den : Int) * b.den) = a * b := by
  rw [Rat.mul_def', ← Rat.divInt_ofNat, Int.natCast_mul]
/-! ### a common bottom -/
theorem divInt_add_same (a b c : Int) (h : c ≠ 0) : (a + b) /. c = a /. c + b /. c := by
  rw [Rat.divInt_add_divInt _ _ h h, ← Int.add_mul, Rat.divInt_mul_right h]
theorem over_L {q : Rat} {L : Int} (hL : L ≠ 0) (h : (q.den : Int) ∣ L) : (q.num * (L / q.den)) /. L = q := by
  obtain ⟨x, ex⟩ := h
  have d0 := den_pos' q
  have x0 : x ≠ 0 := by
    intro z
    rw [z, Int.mul_zero] at ex
    exact hL ex
  have e : L / (q.den : Int) = x := by
    rw [ex]
    exact Int.mul_ediv_cancel_left _ (by omega)
  rw [e, ex, Rat.divInt_mul_right x0, Rat.num_divInt_den]
theorem sum_L {L : Int} (hL : L ≠ 0) : ∀ qs : List Rat, (∀ q ∈ qs, (q.den : Int) ∣ L) → (qs.map fun q => q.num * (L / q.den)).sum /. L = qs.sum
  | [], _ => by
    show (0 : Int) /. L = (0 : Rat)
    exact Rat.zero_divInt L
  | q :: qs, h => by
    rw [List.map_cons, List.sum_cons, List.sum_cons, divInt_add_same _ _ _ hL, over_L hL (h q List.mem_cons_self), sum_L hL qs fun x hx => h x (List.mem_cons_of_mem _ hx)]
/-! ### sizes -/
def Bq (n : Nat) (q : Rat) : Prop := q.num.natAbs < 2 ^ n ∧ q.den < 2 ^ n
theorem Bq.mono {m n : Nat} {q : Rat} (h : Bq m q) (hl : m ≤ n) : Bq n q := ⟨Nat.lt_of_lt_of_le h.1 (Nat.pow_le_pow_right (by decide) hl), Nat.lt_of_lt_of_le h.2 (Nat.pow_le_pow_right (by decide) hl)⟩
theorem bq_div {t b : Int} {n : Nat} (hb : b ≠ 0) (h1 : t.natAbs < 2 ^ n) (h2 : b.natAbs < 2 ^ n) : Bq n (t /. b) := by
  obtain ⟨_, _, _, _, h5, h6⟩ := dvs_out (t := t) hb
  exact ⟨Nat.lt_of_le_of_lt h5 h1, Nat.lt_of_le_of_lt h6 h2⟩
theorem add_lt {i j : Int} {n : Nat} (h1 : i.natAbs < 2 ^ n) (h2 : j.natAbs < 2 ^ n) : (i + j).natAbs < 2 ^ (n + 1) := by
  rw [Nat.pow_succ]
  omega
theorem sub_lt {i j : Int} {n : Nat} (h1 : i.natAbs < 2 ^ n) (h2 : j.natAbs < 2 ^ n) : (i - j).natAbs < 2 ^ (n + 1) := by
  rw [Nat.pow_succ]
  omega
end Num

/-! Both kinds of fields over Rat: their operations, the rules of numbers, remainders of fractions. -/
namespace Num
open Rat
inductive Fk where
  | fr
  | md (p : Int)
def Fk.code : Fk → Int
  | .fr => 0
  | .md p => p
def Fk.ok : Fk → Prop
  | .fr => True
  | .md p => Md p
def iq (i : Int) : Rat := ((i : Int) : Rat)
theorem iq_num (i : Int) : (iq i).num = i := rfl
theorem iq_den (i : Int) : (iq i).den = 1 := rfl
theorem iq_eq {q : Rat} (h : q.den = 1) : q = iq q.num := by
  apply Rat.ext
  · rfl
  · exact h
def addG : Fk → Rat → Rat → Rat
  | .fr, a, b => a + b
  | .md p, a, b => iq ((a.num + b.num) % p)
def subG : Fk → Rat → Rat → Rat
  | .fr, a, b => a - b
  | .md p, a, b => iq ((a.num - b.num) % p)
def mulG : Fk → Rat → Rat → Rat
  | .fr, a, b => a * b
  | .md p, a, b => iq ((a.num * b.num) % p)
def Sz : Fk → Nat → Rat → Prop
  | .fr, n, q => Bq n q
  | .md p, _, q => q.den = 1 ∧ 0 ≤ q.num ∧ q.num < p
theorem Sz.mono {φ : Fk} {m n : Nat} {q : Rat} (h : Sz φ m q) (hl : m ≤ n) : Sz φ n q := by
  cases φ with
  | fr => exact Bq.mono h hl
  | md p => exact h
theorem emod_r (a b n : Int) : (a * (b % n)) % n = (a * b) % n := by
  rw [Int.mul_emod, Int.emod_emod, ← Int.mul_emod]
theorem emod_l (a b n : Int) : (a % n * b) % n = (a * b) % n := by
  rw [Int.mul_emod, Int.emod_emod, ← Int.mul_emod]
theorem sz_md {p i : Int} {n : Nat} (h : Md p) : Sz (.md p) n (iq (i % p)) := by
  have := h.lo
  exact ⟨rfl, Int.emod_nonneg _ (by omega), Int.emod_lt_of_pos _ (by omega)⟩
theorem md_self {p : Int} {n : Nat} {a : Rat} (h : Sz (.md p) n a) : iq (a.num % p) = a := by
  obtain ⟨h1, h2, h3⟩ := h
  rw [Int.emod_eq_of_lt h2 h3]
  exact (iq_eq h1).symm
theorem addG_comm (φ : Fk) (a b : Rat) : addG φ a b = addG φ b a := by
  cases φ with
  | fr => exact Rat.add_comm a b
  | md p => simp only [addG, Int.add_comm]
theorem mulG_comm (φ : Fk) (a b : Rat) : mulG φ a b = mulG φ b a := by
  cases φ with
  | fr => exact Rat.mul_comm a b
  | md p => simp only [mulG, Int.mul_comm]
theorem addG_assoc (φ : Fk) (a b c : Rat) : addG φ (addG φ a b) c = addG φ a (addG φ b c) := by
  cases φ with
  | fr => exact Rat.add_assoc a b c
  | md p => simp only [addG, iq_num, Int.emod_add_emod, Int.add_emod_emod, Int.add_assoc]
theorem mulG_assoc (φ : Fk) (a b c : Rat) : mulG φ (mulG φ a b) c = mulG φ a (mulG φ b c) := by
  cases φ with
  | fr => exact Rat.mul_assoc a b c
  | md p => simp only [mulG, iq_num, emod_l, emod_r, Int.mul_assoc]
theorem mulG_add (φ : Fk) (a b c : Rat) : mulG φ a (addG φ b c) = addG φ (mulG φ a b) (mulG φ a c) := by
  cases φ with
  | fr => exact Rat.mul_add a b c
  | md p => simp only [mulG, addG, iq_num, emod_r, Int.emod_add_emod, Int.add_emod_emod, Int.mul_add]
theorem subG_add {φ : Fk} {n : Nat} {a b : Rat} (h : Sz φ n a) : addG φ (subG φ a b) b = a := by
  cases φ with
  | fr => exact Rat.sub_add_cancel
  | md p =>
    simp only [addG, subG, iq_num, Int.emod_add_emod, Int.sub_add_cancel]
    exact md_self h
theorem subG_self (φ : Fk) (a : Rat) : subG φ a a = 0 := by
  cases φ with
  | fr => exact Rat.sub_self
  | md p =>
    simp only [subG, Int.sub_self, Int.zero_emod]
    rfl
theorem addG_zero {φ : Fk} {n : Nat} {a : Rat} (h : Sz φ n a) : addG φ a 0 = a := by
  cases φ with
  | fr => exact Rat.add_zero a
  | md p =>
    have e : (0 : Rat).num = 0 := rfl
    simp only [addG, e, Int.add_zero]
    exact md_self h
theorem mulG_one {φ : Fk} {n : Nat} {a : Rat} (h : Sz φ n a) : mulG φ a 1 = a := by
  cases φ with
  | fr => exact Rat.mul_one a
  | md p =>
    have e : (1 : Rat).num = 1 := rfl
    simp only [mulG, e, Int.mul_one]
    exact md_self h
theorem mulG_zero (φ : Fk) (a : Rat) : mulG φ a 0 = 0 := by
  cases φ with
  | fr => exact Rat.mul_zero a
  | md p =>
    have e : (0 : Rat).num = 0 := rfl
    simp only [mulG, e, Int.mul_zero, Int.zero_emod]
    rfl
theorem sub_sub {φ : Fk} {n : Nat} {a : Rat} (h : Sz φ n a) : subG φ 0 (subG φ 0 a) = a := by
  cases φ with
  | fr =>
    show (0 : Rat) - (0 - a) = a
    rw [Rat.sub_eq_add_neg, Rat.sub_eq_add_neg, Rat.zero_add, Rat.zero_add, Rat.neg_neg]
  | md p =>
    have e : (0 : Rat).num = 0 := rfl
    simp only [subG, e, iq_num, Int.sub_emod_emod]
    have e2 : (0 : Int) - (0 - a.num) = a.num := by omega
    rw [e2]
    exact md_self h
/-! ### coprime to the modulus -/
theorem cop {p x : Int} (m : Md p) (h : ¬ p ∣ x) : Nat.gcd p.natAbs x.natAbs = 1 := by
  have hlo := m.lo
  have h0 := Int.emod_nonneg x (show p ≠ 0 by omega)
  have h1 := Int.emod_lt_of_pos x (show 0 < p by omega)
  have hz : x % p ≠ 0 := fun z => h (Int.dvd_of_emod_eq_zero z)
  have g := m.pr (x % p) (by omega) h1
  have e : Int.gcd (x % p) p = Int.gcd x p := by
    rw [Int.emod_def, Int.gcd_sub_mul_left_left]
  rw [e] at g
  rw [Nat.gcd_comm]
  exact g
theorem dvd_mul_cop {p x y : Int} (m : Md p) (hy : ¬ p ∣ y) (h : p ∣ x * y) : p ∣ x := by
  have c := cop m hy
  rw [← Int.natAbs_dvd_natAbs] at h ⊢
  rw [Int.natAbs_mul] at h
  exact Nat.Coprime.dvd_of_dvd_mul_right c h
theorem not_dvd_mul {p x y : Int} (m : Md p) (hx : ¬ p ∣ x) (hy : ¬ p ∣ y) : ¬ p ∣ x * y := fun h => hx (dvd_mul_cop m hy h)
theorem eq_of_dvd {p a b : Int} (a0 : 0 ≤ a) (ap : a < p) (b0 : 0 ≤ b) (bp : b < p) (h : p ∣ a - b) : a = b := by
  have e : (a - b) % p = 0 := Int.emod_eq_zero_of_dvd h
  have e2 : a % p = b % p := Int.emod_eq_emod_iff_emod_sub_eq_zero.mpr e
  rw [Int.emod_eq_of_lt a0 ap, Int.emod_eq_of_lt b0 bp] at e2
  exact e2
theorem dvd_of_emod {p a b : Int} (h : a % p = b % p) : p ∣ a - b := Int.dvd_of_emod_eq_zero (Int.emod_eq_emod_iff_emod_sub_eq_zero.mp h)
/-! ### quotients -/
theorem mulG_cancel {φ : Fk} {n m : Nat} {a b c : Rat} (ok : φ.ok) (ha : Sz φ n a) (hc : Sz φ m c) (hb : Sz φ n b) (b0 : b ≠ 0) (h : mulG φ c b = mulG φ a b) : c = a := by
  cases φ with
  | fr =>
    have h2 : c * b = a * b := h
    have e : c * b * b⁻¹ = a * b * b⁻¹ := by rw [h2]
    rwa [Rat.mul_assoc, Rat.mul_assoc, Rat.mul_inv_cancel b b0, Rat.mul_one, Rat.mul_one] at e
  | md p =>
    have ok : Md p := ok
    obtain ⟨a1, a2, a3⟩ := ha
    obtain ⟨b1, b2, b3⟩ := hb
    obtain ⟨c1, c2, c3⟩ := hc
    have h2 : (c.num * b.num) % p = (a.num * b.num) % p := congrArg Rat.num h
    have nb : ¬ p ∣ b.num := fun z => by
      have z2 := Int.emod_eq_zero_of_dvd z
      rw [Int.emod_eq_of_lt b2 b3] at z2
      exact b0 (Rat.num_eq_zero.mp z2)
    have d := dvd_of_emod h2
    rw [← Int.sub_mul] at d
    have e := eq_of_dvd c2 c3 a2 a3 (dvd_mul_cop ok nb d)
    rw [iq_eq c1, iq_eq a1, e]
theorem div_mul {a b : Rat} (b0 : b ≠ 0) : (a.num * b.den) /. ((a.den : Int) * b.num) * b = a := by
  have bn : b.num ≠ 0 := fun z => b0 (Rat.num_eq_zero.mp z)
  have bd : (b.den : Int) ≠ 0 := by have := den_pos' b; omega
  conv => lhs; rhs; rw [← Rat.num_divInt_den b]
  rw [Rat.divInt_mul_divInt]
  have e1 : a.num * (b.den : Int) * b.num = a.num * ((b.den : Int) * b.num) := Int.mul_assoc _ _ _
  have e2 : (a.den : Int) * b.num * (b.den : Int) = a.den * ((b.den : Int) * b.num) := by rw [Int.mul_assoc, Int.mul_comm b.num]
  rw [e1, e2, Rat.divInt_mul_right (Int.mul_ne_zero bd bn), Rat.num_divInt_den]
/-! ### remainders of fractions -/
/-- c is the remainder of q modulo p -/
def Rem (p : Int) (q : Rat) (c : Int) : Prop := ¬ p ∣ (q.den : Int) ∧ 0 ≤ c ∧ c < p ∧ (c * q.den) % p = q.num % p
theorem cross {N D : Int} (hD : D ≠ 0) : N * ((N /. D).den : Int) = (N /. D).num * D := by
  obtain ⟨t', b', h1, h2, h3, h4, h5, h6⟩ := dvs_ex (t := N) hD
  rw [h5, h6]
  generalize dvs N D = d at *
  rw [h1, h2, Int.mul_assoc, ← Int.mul_assoc t' d b', Int.mul_comm t' d, Int.mul_assoc]
theorem den_dvd {N D : Int} (hD : D ≠ 0) : ((N /. D).den : Int) ∣ D := by
  obtain ⟨t', b', h1, h2, h3, h4, h5, h6⟩ := dvs_ex (t := N) hD
  rw [h6]
  exact ⟨dvs N D, by rw [Int.mul_comm]; exact h2⟩
theorem rem_nd {p N D : Int} (hD : D ≠ 0) (h : ¬ p ∣ D) : ¬ p ∣ ((N /. D).den : Int) := fun z => h (Int.dvd_trans z (den_dvd hD))
theorem rem_is {p N D c c' : Int} (m : Md p) (hD : D ≠ 0) (nD : ¬ p ∣ D) (c0 : 0 ≤ c) (cp : c < p) (h : (c * D) % p = N % p) (r : Rem p (N /. D) c') : c' = c := by
  obtain ⟨r1, r2, r3, r4⟩ := r
  have x := cross (N := N) hD
  generalize (N /. D).num = n at *
  generalize ((N /. D).den : Int) = d at *
  refine eq_of_dvd r2 r3 c0 cp (dvd_mul_cop m (not_dvd_mul m r1 nD) ?_)
  obtain ⟨u, hu⟩ := dvd_of_emod r4
  obtain ⟨v, hv⟩ := dvd_of_emod h
  have e1 : c' * d = n + p * u := by omega
  have e2 : c * D = N + p * v := by omega
  refine ⟨u * D - v * d, ?_⟩
  have e3 : (c' - c) * (d * D) = c' * d * D - c * D * d := by
    rw [Int.sub_mul, Int.mul_assoc c' d D, Int.mul_assoc c D d, Int.mul_comm D d]
  rw [e3, e1, e2, Int.add_mul, Int.add_mul, x, Int.mul_sub, Int.mul_assoc, Int.mul_assoc]
  omega
theorem dd_ne0 (a b : Rat) : (a.den : Int) * b.den ≠ 0 := Int.mul_ne_zero (by have := den_pos' a; omega) (by have := den_pos' b; omega)
theorem rem_add {p : Int} {a b : Rat} {c e f : Int} (m : Md p) (ha : Rem p a c) (hb : Rem p b e) (h : Rem p (a + b) f) : f = (c + e) % p := by
  obtain ⟨a1, a2, a3, a4⟩ := ha
  obtain ⟨b1, b2, b3, b4⟩ := hb
  have hlo := m.lo
  rw [← add_is] at h
  refine rem_is m (dd_ne0 a b) (not_dvd_mul m a1 b1) (Int.emod_nonneg _ (by omega)) (Int.emod_lt_of_pos _ (by omega)) ?_ h
  rw [emod_l, Int.add_mul, Int.add_emod, ← Int.mul_assoc, Int.mul_comm (a.den : Int), ← Int.mul_assoc, Int.mul_emod (c * (a.den : Int)), a4, ← Int.mul_emod, Int.mul_emod (e * (b.den : Int)), b4, ← Int.mul_emod, ← Int.add_emod]
theorem rem_mul {p : Int} {a b : Rat} {c e f : Int} (m : Md p) (ha : Rem p a c) (hb : Rem p b e) (h : Rem p (a * b) f) : f = (c * e) % p := by
  obtain ⟨a1, a2, a3, a4⟩ := ha
  obtain ⟨b1, b2, b3, b4⟩ := hb
  have hlo := m.lo
  rw [← mul_is] at h
  refine rem_is m (dd_ne0 a b) (not_dvd_mul m a1 b1) (Int.emod_nonneg _ (by omega)) (Int.emod_lt_of_pos _ (by omega)) ?_ h
  have e1 : c * e * ((a.den : Int) * b.den) = c * a.den * (e * b.den) := by
    rw [Int.mul_assoc, Int.mul_assoc, ← Int.mul_assoc e, Int.mul_comm e (a.den : Int), Int.mul_assoc (a.den : Int)]
  rw [emod_l, e1, Int.mul_emod (c * (a.den : Int)), a4, b4, ← Int.mul_emod]
theorem num_nd {p : Int} {b : Rat} {e : Int} (m : Md p) (hb : Rem p b e) (e0 : e ≠ 0) : ¬ p ∣ b.num := fun z => by
  obtain ⟨b1, b2, b3, b4⟩ := hb
  rw [Int.emod_eq_zero_of_dvd z] at b4
  have d := dvd_mul_cop m b1 (Int.dvd_of_emod_eq_zero b4)
  have := Int.le_of_dvd (by omega) d
  omega
theorem rem_div {p : Int} {a b : Rat} {c e f g : Int} (m : Md p) (ha : Rem p a c) (hb : Rem p b e) (e0 : e ≠ 0) (g0 : 0 ≤ g) (gp : g < p) (hg : (g * e) % p = c) (h : Rem p ((a.num * b.den) /. ((a.den : Int) * b.num)) f) : f = g := by
  have nb := num_nd m hb e0
  obtain ⟨a1, a2, a3, a4⟩ := ha
  obtain ⟨b1, b2, b3, b4⟩ := hb
  have bn : b.num ≠ 0 := fun z => nb (by rw [z]; exact Int.dvd_zero p)
  refine rem_is m (Int.mul_ne_zero (by have := den_pos' a; omega) bn) (not_dvd_mul m a1 nb) g0 gp ?_ h
  have x1 : (g * ((a.den : Int) * b.num)) % p = (g * ((a.den : Int) * (e * b.den))) % p := by
    rw [Int.mul_emod g, Int.mul_emod (a.den : Int) b.num, ← b4, ← Int.mul_emod (a.den : Int), ← Int.mul_emod g]
  have x2 : g * ((a.den : Int) * (e * b.den)) = g * e * (a.den * b.den) := by
    rw [Int.mul_assoc g e, ← Int.mul_assoc e (a.den : Int), Int.mul_comm e (a.den : Int), Int.mul_assoc (a.den : Int)]
  have x3 : (g * e * ((a.den : Int) * b.den)) % p = (c * (a.den * b.den)) % p := by
    rw [Int.mul_emod (g * e), hg]
    exact emod_r c _ p
  rw [x1, x2, x3, ← Int.mul_assoc, Int.mul_emod (c * (a.den : Int)), a4, ← Int.mul_emod]
end Num

/-! An own exception class directly over a built-in one, whose __init__ hands on to it and stores nothing. -/
namespace Ver
open PySem PySem.Spec PyProof.Rows L2
/-- what the written part tells of such a class -/
structure ExN (K : PySem.W.Frag) (C fI : Addr) (bmB : List Value) (newId : String) : Prop where
  q : PySem.W.excInitIn K C bmB newId = true
  iC : PySem.W.findIn K (.ref C) "__init__" = some (some (.ref fI))
  tI : PySem.W.typeIn K (.ref fI) = some (.type "function")
  exC : PySem.W.subIn K (.ref C) (.type "BaseException") = some true
  tyC : PySem.W.typeIn K (.ref C) = some (.type "type")
  kC : PySem.W.keepIn K (.ref C) = true
section
variable {X : Cx} {pins : List (Addr × Obj)} {σ : L2.St} {H : Hp} {s : Shared} {a C fI : Addr} {bmB : List Value} {B newId initId : String}
theorem binit_ok {A : Around} {E : Value → Shared → Prop} {us : List Value} {Q : Value → Shared → Prop} (F : ExcBaseFacts B newId initId bmB) (q : PySem.W.excInitIn X.K C bmB newId = true) (I : Inv X pins σ H s) (e : H a = some (exo a C none))
    (hl : us.length ≤ sizeLine) (h : ∀ s', Inv X pins σ H s' → Q .none s') : wpAny (model X.prog X.w) A (call (.builtin initId) (.ref a :: us)) Q E s := by
  obtain ⟨nm, N, qn, bs, bm, hd, sn, sub, ab, col, dd, k0, k1, k2, k3, k5, hC, hT⟩ := PySem.W.excInit_of I.kIn q
  obtain ⟨t1, ho⟩ := exo_at I.hok e
  obtain ⟨hp, g, d, t, os⟩ := s
  refine wpAny_call (PySem.HandSPX.init_base F hT hC ho hl fun h' t2 k hx => h _ ?_)
  have J := I.write (t' := t) (x := a) (e := a) (o := exo a C none) (by rw [e]; exact True.intro) (.inl rfl) k ⟨_, hx⟩ (exo_ok hx)
  have same : upd H a (exo a C none) = H := funext fun b => by
    by_cases z : b = a
    · rw [z, upd_same, e]
    · exact upd_ne z
  rwa [same] at J
variable {x : Str} {e : Expr} {es : List Expr} {ta : TA} {p p1 p2 pos : Pos}
/-- its reading: self is an exception that is being made, without a dict as yet -/
def tBi (K : PySem.W.Frag) (bmB : List Value) (newId : String) (ta : TA) : TE := fun σ H Q => ta σ H fun vs H1 => ∃ (a C : Addr) (ws : List V), vs = .ref a :: ws ∧ ws.length ≤ 1000 ∧ PySem.W.excInitIn K C bmB newId = true ∧ H1 a = some (exo a C none) ∧ Q .non H1
/-- B.__init__(self, ..), B a built-in class of errors -/
theorem pe_binit {pl : Sem Bool} (F : ExcBaseFacts B newId initId bmB) (hg : Gl X x) (hm : X.mg x = none) (hv : bootBuiltins x = some (.type B)) (hty : typeOf (.type B) = pure (.type "type")) (hst : Manifest.isStub B = false) (hh : PySem.W.handedIn (.builtin initId) = true)
    (hsp : PySem.W.findCls X.K (.type B) (.type "type") "__init__" = some (.val (.builtin initId))) (ha : PA X (e :: es) ta)
    (hc : eval (.Call (.Attribute (.Name x p1) "__init__" p2) (e :: es) [] pos) X.env = (do
      let ov ← eval (.Name x p1) X.env
      standAt p2.atName
      let (f, first) ← holding [ov] (getMethod ov "__init__" pl)
      callWith pos f first (backTo pos (starEach (e :: es) X.env)) (backToKw pos (keywordEach [] X.env))) := by rfl)
    (he : starEach (e :: es) X.env = (false, eval e X.env) :: starEach es X.env := by rfl) (hpl : (backTo pos (starEach es X.env)).any (·.1) = false := by rfl) (hn : x ≠ "__name__" := by decide) (hd : (x == ("__debug__" : Str)) = false := by decide) :
    PE X (.Call (.Attribute (.Name x p1) "__init__" p2) (e :: es) [] pos) (tBi X.K bmB newId ta) := by
  refine ⟨fun pins s σ H Q I h => PySem.W.methodCall_KW (ld_blt I hg hm hv ?_ hn hd) hc⟩
  obtain ⟨m, fr⟩ := I.fr
  refine PySem.W.method_type fr I.ok.mod.kin hty hst hsp hh ?_
  show wpAny _ _ (callWith pos (Value.builtin initId) [] (backTo pos (starEach (e :: es) X.env)) []) _ _ _
  refine PyProof.Rows.callWith_method1 (thn (ha.run pos pins _ σ H _ (I.tok _) h) fun us s1 z => ?_) he hpl
  obtain ⟨vs, H1, I1, r1, a, C, ws, rfl, hl, q, ea, qq⟩ := z
  match us, r1 with
  | u0 :: ur, .cons ra rw' =>
    cases (show u0 = Value.ref a from ra)
    exact binit_ok F q I1 ea (by rw [← Paired.length rw', sizeLine_eq]; omega) fun s' J => ⟨.non, H1, J, rfl, qq⟩
/-- the exception is let go: what stood ahead stands, and it is known no more -/
theorem let_go {H1 H2 : Hp} {hp hp2 h2 : Heap} {g1 g2 : Array GenState} {d1 d2 : Drawn} {t1 t2 : Nat} {os1 os2 : OsState} (I1 : Inv X pins σ H1 ⟨hp, g1, d1, t1, os1⟩) (ha : hp.objs.size ≤ a) (k : ∀ b o, hp.get? b = some o → hp2.get? b = some o)
    (un : Un (frs X.stack) [] (upd H1 a (exo a C none)) H2 hp2 h2) (hok : HOk X.prog X.w H2 h2) (ho : os2 = os1) (hb : AllBare g2) (ea : H2 a = some (exo a C none)) :
    ∃ (t0 : Addr) (G : Heap), Inv X pins σ (del H2 a) ⟨G, g2, d2, t2, os2⟩ ∧ (∀ b o, G.get? b = some o → h2.get? b = some o) ∧ G.get? a = none ∧
      h2.get? a = some ({ cls := .ref C, dict := none, data := .fields #[.ref t0, .none, .none, .none, .bool false, .none] } : Obj) := by
  obtain ⟨t0, hoe⟩ := exo_at hok ea
  have na : H1 a = none := I1.hok.fresh ha
  obtain ⟨G, in_, out⟩ := restrict h2 fun b => decide (b ≠ a)
  have gk : ∀ b, b ≠ a → G.get? b = h2.get? b := fun b hb => in_ b (decide_eq_true hb)
  have ge : G.get? a = none := out a (by simp)
  have old : ∀ {b : Addr} {o : Obj}, hp.get? b = some o → b ≠ a := fun z => Nat.ne_of_lt (Nat.lt_of_lt_of_le (Heap.lt_size z) ha)
  have up : ∀ {b : Addr}, b ≠ a → H1 b = none → upd H1 a (exo a C none) b = none := fun hb n => by rw [upd_ne hb]; exact n
  have U : Un (frs X.stack) [] H1 (del H2 a) hp G := {
    keep := fun b o z n hf hx => (gk b (old z)).trans (un.keep b o (k b o z) (up (old z) n) hf hx)
    slot := fun b o z n hf hx => by
      obtain ⟨sl, y⟩ := un.slot b o (k b o z) (up (old z) n) hf hx
      exact ⟨sl, (gk b (old z)).trans y⟩
    free := fun b o z n hx => (del_ne (old z)).trans (un.free b o (k b o z) (up (old z) n) hx)
    there := fun b o z hx => by
      obtain ⟨o', y⟩ := un.there b o (k b o z) hx
      exact ⟨o', (gk b (old z)).trans y⟩
    tups := fun b xs z => (del_ne (ne_of_none z na)).trans (un.tups b xs ((upd_ne (ne_of_none z na)).trans z))
    frzs := fun b o v z => (del_ne (ne_of_none z na)).trans (un.frzs b o v ((upd_ne (ne_of_none z na)).trans z))
    tbls := fun b ps z => by
      obtain ⟨more, y⟩ := un.tbls b ps ((upd_ne (ne_of_none z na)).trans z)
      exact ⟨more, (del_ne (ne_of_none z na)).trans y⟩ }
  have ok3 : HOk X.prog X.w (del H2 a) G := fun b o z => by
    have hba : b ≠ a := fun e => by
      rw [e, del_same] at z
      cases z
    rw [del_ne hba] at z
    have noa : ∀ {c : Addr}, H2 c = some (.own b) → c ≠ a := fun hc => at_ne ea hc exo_own
    refine (hok b o z).stay (fun c v hc y => (gk c ?_).trans y) (fun c hc => (del_ne (noa hc)).trans hc) fun c xs hc => (del_ne (at_ne ea hc exo_tup)).trans hc
    rcases hc with hc | hc
    · rw [hc]
      exact hba
    · exact noa hc
  refine ⟨t0, G, I1.call' (ch := []) ho U ok3 hb (fun b z => absurd z (by simp)), fun b o z => ?_, ge, hoe⟩
  by_cases e : b = a
  · rw [e, ge] at z
    cases z
  · exact (gk b e).symm.trans z
/-- the promise of an __init__ that stores nothing -/
def spInitN (C : Addr) : Sp := fun vs H Q _ => ∃ a : Addr, vs = [.ref a] ∧ H a = some (exo a C none) ∧ Q .non H
theorem pmk_n {CX : CXT} {k : Nat} (F : ExcBaseFacts B newId initId bmB) (T : ExN X.K C fI bmB newId) (F1 : FnG X.prog X.w X.K X.mg X.base CX k fI (spInitN C)) (hr : Room (k + 1) X.A) (hgd : X.A.guards = some []) (hx : Passes CX X (fun _ _ _ => False)) (hg : Gl X x) (hm : X.mg x = some (.ref C))
    (hdb : (x == ("__debug__" : Str)) = false := by decide) : PMk X (.Call (.Name x p) [] [] pos) (fun _ H Q => Q (.ref C) none H) := by
  intro pins s σ H Q I h
  refine wpAny_Call_Name_kw (ld_glob I hg hm (PySem.W.callWith_K0 I.kIn T.kC ?_) hdb)
  show wpAny _ _ (call (.ref C) []) _ _ _
  obtain ⟨nm, N, qn, bs, bm, hd, sn, sub, ab, col, dd, k0, k1, k2, k3, k5, hC, hT⟩ := PySem.W.excInit_of I.kIn T.q
  obtain ⟨hp, g, dr, tk, os⟩ := s
  have big : hp.objs.size ≤ hp.objs.size + 1 := Nat.le_succ _
  have hn : H (hp.objs.size + 1) = none := I.hok.fresh big
  have kk : ∀ b o, hp.get? b = some o → ((hp.push (PySem.W.kdv_tup [])).push (PySem.HandSPX.excO C hp.objs.size)).get? b = some o := fun b o z => Heap.get?_push_of_some _ (Heap.get?_push_of_some _ z)
  have made : ((hp.push (PySem.W.kdv_tup [])).push (PySem.HandSPX.excO C hp.objs.size)).get? (hp.objs.size + 1) = some (PySem.HandSPX.excO C hp.objs.size) := by heap_get
  have I2 : Inv X pins σ (upd H (hp.objs.size + 1) (exo (hp.objs.size + 1) C none)) ⟨(hp.push (PySem.W.kdv_tup [])).push (PySem.HandSPX.excO C hp.objs.size), g, dr, tk, os⟩ :=
    I.laid (t' := tk) (a := hp.objs.size + 1) (o := exo (hp.objs.size + 1) C none) (h' := (hp.push (PySem.W.kdv_tup [])).push (PySem.HandSPX.excO C hp.objs.size)) kk big (exo_ok made)
  have q2 : spInitN C [V.ref (hp.objs.size + 1)] (upd H (hp.objs.size + 1) (exo (hp.objs.size + 1) C none)) (fun v H2 => v = .non ∧ H2 = upd H (hp.objs.size + 1) (exo (hp.objs.size + 1) C none)) (fun _ _ _ => False) := ⟨_, rfl, upd_same, rfl, rfl⟩
  refine wpAny_call (PySem.HandSPX.call_own F hT hC (PySem.W.looks_findIn I.kIn T.iC) (fun self => PySem.W.bind_fn I.kIn self T.tI) (Nat.zero_le _)
    (codeAny_mono (F1 _ X.stack _ _ [Value.ref (hp.objs.size + 1)] [V.ref (hp.objs.size + 1)] _ (fun _ _ _ => False) (made_guards hgd C []) (hr.make C [] []) (I2.env0.make C [] []) (.cons rfl .nil) q2) fun rs s' hq => ?_))
  match rs, hq with
  | .error er, hq => exact hx pins σ _ _ er s' I2 hq
  | .ok .next, hq => exact hq.elim
  | .ok .brk, hq => exact hq.elim
  | .ok .cont, hq => exact hq.elim
  | .ok (.ret u), hq =>
    obtain ⟨v, H2, os2, bare2, un2, ok2, rv, rfl, rfl⟩ := hq
    obtain ⟨h2, g2, d2, t2, os'⟩ := s'
    obtain ⟨t0, G, J, kG, ge, hoe⟩ := let_go (a := hp.objs.size + 1) (C := C) (d2 := d2) (t2 := t2) I big kk un2 ok2 os2 bare2 upd_same
    have eH : del (upd H (hp.objs.size + 1) (exo (hp.objs.size + 1) C none)) (hp.objs.size + 1) = H := funext fun b => by
      by_cases z : b = hp.objs.size + 1
      · rw [z, del_same, hn]
      · rw [del_ne z, upd_ne z]
    rw [eH] at J
    exact ⟨rv, hp.objs.size + 1, _, _, ⟨G, g2, d2, t2, os'⟩, H, .ref C, none, rfl, J, kG, ge, hoe, ⟨rfl, rfl⟩, rfl, rfl, hn, rfl, bare2, raises_own T.exC T.tyC, h⟩
end
end Ver

namespace Num
theorem fmod_lt {a b : Int} (h : b ≠ 0) : (a.fmod b).natAbs < b.natAbs := by
  rw [Int.fmod_eq_emod]
  have h0 := Int.emod_nonneg a h
  by_cases c : 0 ≤ b
  · have h1 := Int.emod_lt_of_pos a (show 0 < b by omega)
    rw [if_pos (.inl c)]
    omega
  · have h1 := Int.emod_lt_of_neg a (show b < 0 by omega)
    by_cases d : b ∣ a
    · rw [if_pos (.inr d), Int.emod_eq_zero_of_dvd d]
      omega
    · have h2 : a % b ≠ 0 := fun z => d (Int.dvd_of_emod_eq_zero z)
      rw [if_neg (by rintro (z | z); exact c z; exact d z)]
      omega
theorem gcd_fmod (a b : Int) : Int.gcd b (a.fmod b) = Int.gcd a b := by
  rw [Int.fmod_def, Int.gcd_sub_mul_left_right, Int.gcd_comm]
end Num
namespace Ver
open PySem PySem.Spec PyProof.Rows L2
/-- a part that is not run -/
theorem pe_dead {X : Cx} {e : Expr} : PE X e (fun _ _ _ => False) := ⟨fun _ _ _ _ _ _ h => h.elim⟩
/-- C.m(e, ..), m a plain def of the class C itself or above it -/
theorem pe_clsG {X : Cx} {CX : CXT} {k : Nat} {f C : Addr} {sp : Sp} {E : XK} {x m : Str} {p pos apos : Pos} {e : Expr} {es : List Expr} {t : TA} {pl : Sem Bool} (hg : Gl X x) (hm : X.mg x = some (.ref C)) (rd : PySem.W.readsIn X.K C (.type "type") = true)
    (ga : PySem.W.specialIn X.K (.ref C) "__getattribute__" = some (some (.builtin "type.__getattribute__"))) (fi : PySem.W.findCls X.K (.ref C) (.type "type") m = some (.val (.ref f))) (hk : PySem.W.keepIn X.K (.ref f) = true)
    (F : FnG X.prog X.w X.K X.mg X.base CX k f sp) (hr : Room k X.A) (hgd : X.A.guards = some []) (hx : Passes CX X E) (ha : PA X (e :: es) t)
    (hst : starEach (e :: es) X.env = (false, eval e X.env) :: starEach es X.env := by rfl) (hpl : (backTo pos (starEach es X.env)).any (·.1) = false := by rfl)
    (ht : eval (.Call (.Attribute (.Name x p) m apos) (e :: es) [] pos) X.env = (do
      let ov ← eval (.Name x p) X.env
      standAt apos.atName
      let (g, first) ← holding [ov] (getMethod ov m pl)
      callWith pos g first (backTo pos (starEach (e :: es) X.env)) (backToKw pos (keywordEach [] X.env))) := by rfl) (hdb : (x == ("__debug__" : Str)) = false := by decide) :
    PE X (.Call (.Attribute (.Name x p) m apos) (e :: es) [] pos) (fun σ H Q => t σ H fun vs H1 => sp vs H1 Q E) := by
  refine ⟨fun pins s σ H Q I h => PySem.W.methodCall_KW (pl := pl) (ld_glob I hg hm ?_ hdb) ht⟩
  refine PySem.W.method_cls I.kIn ga (PySem.W.cls_value I.kIn rd fi rfl ?_)
  have J := I.tok (s.toks + 1)
  refine PySem.W.callWith_K (first := []) (h₀ := X.base) I.ok.mod.kin hk (thn (ha.run pos pins _ σ H _ J h) fun us s1 z => ?_) hst hpl
  obtain ⟨vs, H1, I1, r, q⟩ := z
  exact ⟨I1.kIn, runG F hr hgd hx I1 r q⟩
/-- lcm of two ints, great ones too -/
theorem cr_lcm {X : Cx} : CallR X (.builtin "math.lcm") (fun vs H Q => ∃ a b : Int, vs = [.int a, .int b] ∧ a.natAbs < 2 ^ 8000 ∧ b.natAbs < 2 ^ 8000 ∧ Q (.int ((Nat.lcm a.natAbs b.natAbs : Nat) : Int)) H) := by
  intro pins s σ H vs us Q I r h
  obtain ⟨a, b, rfl, ha, hb, q⟩ := h
  obtain ⟨t, u, rfl⟩ := Vals.int2 r
  have la := PySem.Flt.log2_lt_of (by decide) ha
  have lb := PySem.Flt.log2_lt_of (by decide) hb
  have h1 : (max 1 a.natAbs).log2 ≤ 8000 := by
    rcases Nat.le_total 1 a.natAbs with z | z
    · rw [Nat.max_eq_right z]; omega
    · rw [Nat.max_eq_left z]; decide
  have h2 : (max a.natAbs b.natAbs).log2 ≤ 8000 := by
    rcases Nat.le_total a.natAbs b.natAbs with z | z
    · rw [Nat.max_eq_right z]; omega
    · rw [Nat.max_eq_left z]; omega
  have e1 : Nat.lcm 1 a.natAbs = a.natAbs := Nat.lcm_one_left _
  have hs : ((((Nat.lcm 1 a.natAbs).lcm b.natAbs : Nat) : Int)).natAbs.log2 < bitsLine := by
    rw [e1]
    have l1 : Nat.lcm a.natAbs b.natAbs ≤ a.natAbs * b.natAbs := by
      rw [Nat.lcm]
      exact Nat.div_le_self _ _
    have l2 : a.natAbs * b.natAbs < 2 ^ (8000 + 8000) := by
      rw [Nat.pow_add]
      exact Nat.mul_lt_mul'' ha hb
    have l3 : (((Nat.lcm a.natAbs b.natAbs : Nat) : Int)).natAbs < 2 ^ (8000 + 8000) := Nat.lt_of_le_of_lt l1 l2
    have l4 := PySem.Flt.log2_lt_of (by decide) l3
    have e : bitsLine = 134217728 := by decide
    omega
  have g := PySem.W.mg_run_lcm a t b u (by omega) (by omega) hs
  rw [e1] at g
  exact PySem.call_function_meets PySem.W.MGF.kind_lcm PySem.W.MGF.plain_lcm PySem.W.MGF.entry_lcm (PySem.W.MGF.args_lcm _ _) g.meets ⟨.int _, H, I.tok _, ⟨_, rfl⟩, q⟩
section
variable {P : Program} {w : World} {K : PySem.W.Frag} {mg : Str → Option Value} {base : Heap} {CX : CXT} {k : Nat} {f : Addr} {sp sp1 sp2 : Sp}
theorem FnG.either (F1 : FnG P w K mg base CX k f sp1) (F2 : FnG P w K mg base CX k f sp2) (h : ∀ vs H Q E, sp vs H Q E → sp1 vs H Q E ∨ sp2 vs H Q E) : FnG P w K mg base CX k f sp := fun A outer s H us vs Q E g hr e0 r q =>
  (h vs H Q E q).elim (F1 A outer s H us vs Q E g hr e0 r) (F2 A outer s H us vs Q E g hr e0 r)
end
section
variable {X : Cx} {CX : CXT} {k : Nat} {f C : Addr} {sp : Sp} {E : XK} {x : Str} {p pos : Pos}
/-- C() -/
theorem pe_makeG0 (M : Mk X.K C f) (F : FnG X.prog X.w X.K X.mg X.base CX k f sp) (hr : Room (k + 1) X.A) (hgd : X.A.guards = some []) (hg : Gl X x) (hm : X.mg x = some (.ref C)) (hx : Passes CX X E)
    (hdb : (x == ("__debug__" : Str)) = false := by decide) : PE X (.Call (.Name x p) [] [] pos) (StX.tMakeR C sp E tNil) := by
  refine ⟨fun pins s σ H Q I q => wpAny_Call_Name_kw (ld_glob I hg hm (PySem.W.callWith_K0 I.kIn M.kp ?_) hdb)⟩
  show wpAny _ _ (call (.ref C) []) _ _ _
  refine wpAny_call (make_map (f := f) I.kIn M.makes M.init (beq_iff_eq.mp M.fn) ?_)
  have q2 := q (s.heap.objs.size + 1) s.heap.objs.size (I.hok.fresh (Nat.le_succ _)) (I.hok.fresh (Nat.le_refl _)) (Nat.ne_of_lt (Nat.lt_succ_self _))
  have I2 := Inv.made (C := C) I
  refine codeAny_mono (F _ X.stack _ _ (Value.ref (s.heap.objs.size + 1) :: []) (V.ref (s.heap.objs.size + 1) :: []) _ E (made_guards hgd C []) (hr.make C [] []) (I2.env0.make C [] []) (.cons rfl .nil) q2) fun rs s' hq => ?_
  match rs, hq with
  | .error e', hq => exact hx pins σ _ _ e' s' I2 hq
  | .ok (.ret u), hq =>
    obtain ⟨v, H', I3, rv, ev, q3⟩ := I2.after hq
    subst ev
    exact ⟨rv, V.ref (s.heap.objs.size + 1), H', I3, rfl, q3⟩
  | .ok .next, hq => exact hq.elim
  | .ok .brk, hq => exact hq.elim
  | .ok .cont, hq => exact hq.elim
end
end Ver

namespace Ver
open PySem PySem.Spec PyProof.Rows L2
section
variable {X : Cx} {CX : CXT} {k : Nat} {f : Addr} {sp : Sp} {E : L2.St → XK} {m : Str} {pos apos : Pos} {e o : Expr} {es : List Expr} {t : TA} {ta : TE}
/-- o.m(e, ..), what it lets out is caught here -/
def tMethGS (K : PySem.W.Frag) (m : Str) (f : Addr) (sp : Sp) (E : L2.St → XK) (ta : TE) (t : TA) : TE := fun σ H Q => ta σ H fun x H1 => ∃ a C dx fs, x = .ref a ∧ H1 a = some (.ins C dx fs) ∧ Cls K C ∧ Meth K C m f ∧ fs.lookup m = none ∧
  t σ H1 fun vs H2 => sp (.ref a :: vs) H2 Q (E σ)
theorem pe_methGS {pl : Sem Bool} (K' : PySem.W.Frag) (hK : X.K = K') (he : PE X o ta) (hk : PySem.W.keepIn X.K (.ref f) = true) (F : FnG X.prog X.w X.K X.mg X.base CX k f sp) (hr : Room k X.A) (hgd : X.A.guards = some []) (hx : ∀ σ, PassesAt CX X σ (E σ)) (ha : PA X (e :: es) t)
    (hst : starEach (e :: es) X.env = (false, eval e X.env) :: starEach es X.env := by rfl) (hpl : (backTo pos (starEach es X.env)).any (·.1) = false := by rfl)
    (ht : eval (.Call (.Attribute o m apos) (e :: es) [] pos) X.env = (do
      let ov ← eval o X.env
      standAt apos.atName
      let (g, first) ← holding [ov] (getMethod ov m pl)
      callWith pos g first (backTo pos (starEach (e :: es) X.env)) (backToKw pos (keywordEach [] X.env))) := by rfl) :
    PE X (.Call (.Attribute o m apos) (e :: es) [] pos) (tMethGS K' m f sp E ta t) := by
  subst hK
  refine ⟨fun pins s σ H Q I h => PySem.W.methodCall_KW (pl := pl) (thn (he.run pins s σ H _ I h) fun u s1 z => ?_) ht⟩
  obtain ⟨x, H1, I1, rx, a, C, dx, fs, rfl, ea, c, hm, l, q⟩ := z
  cases (show u = Value.ref a from rx)
  refine getmeth_ok I1 ea c hm l (PySem.W.callWith_K (first := [.ref a]) (h₀ := X.base) I.ok.mod.kin hk (thn (ha.run pos pins s1 σ H1 _ I1 q) fun us s2 y => ?_) hst hpl)
  obtain ⟨vs, H2, I2, r, q2⟩ := y
  refine ⟨I2.kIn, ?_⟩
  exact wpAny_call (codeAny_mono (F X.A X.stack s2 H2 (.ref a :: us) (.ref a :: vs) Q (E σ) hgd hr I2.env0 (.cons rfl r) q2) fun rs s' hq => by
    match rs, hq with
    | .error e', hq => exact hx σ pins H2 s2 e' s' I2 hq
    | .ok (.ret u), hq => exact I2.after hq
    | .ok .next, hq => exact hq.elim
    | .ok .brk, hq => exact hq.elim
    | .ok .cont, hq => exact hq.elim)
end
/-! ### lists, shown -/
theorem textFrom_up : ∀ (ts : List Str) (k : Nat) (acc : Str), (textFrom k acc ts).length ≤ acc.length + piled ts
  | [], _, acc => by show acc.length ≤ acc.length + 0; omega
  | t :: r, k, acc => by
    have ih := textFrom_up r (k + 1) (acc ++ (if k > 0 then ", " else "" : String) ++ t)
    have e : (acc ++ (if k > 0 then ", " else "" : String) ++ t).length ≤ acc.length + 2 + t.length := by
      rw [strLen_append, strLen_append]
      by_cases h : k > 0
      · rw [if_pos h]
        exact Nat.le_refl _
      · rw [if_neg h]
        show acc.length + 0 + t.length ≤ _
        omega
    show (textFrom (k + 1) _ r).length ≤ _
    rw [piled_cons]
    omega
end Ver

/-! Data with dicts in it, and its show. -/
namespace Ver
open PySem PySem.Spec PyProof.Rows L2
def kdat : Key → PyData
  | .inl i => .int i
  | .inr x => .str x
mutual
inductive Do (K : PySem.W.Frag) (H : Hp) : V → PyData → Prop
  | non : Do K H .non .none
  | bl (b : Bool) : Do K H (.bl b) (.bool b)
  | int (i : Int) : Do K H (.int i) (.int i)
  | str (x : Str) : Do K H (.str x) (.str x)
  | lst {a : Addr} {xs : List V} {ds : List PyData} : SqL K H a xs → DoAll K H xs ds → Do K H (.ref a) (.list ds)
  | tup {a : Addr} {xs : List V} {ds : List PyData} : SqT K H a xs → DoAll K H xs ds → Do K H (.ref a) (.tuple ds)
  | dic {a : Addr} {kvs : List (Key × V)} {kds : List (PyData × PyData)} : H a = some (.dK kvs) → DoKv K H kvs kds → Do K H (.ref a) (.dict kds)
inductive DoAll (K : PySem.W.Frag) (H : Hp) : List V → List PyData → Prop
  | nil : DoAll K H [] []
  | cons {v : V} {vs : List V} {d : PyData} {ds : List PyData} : Do K H v d → DoAll K H vs ds → DoAll K H (v :: vs) (d :: ds)
inductive DoKv (K : PySem.W.Frag) (H : Hp) : List (Key × V) → List (PyData × PyData) → Prop
  | nil : DoKv K H [] []
  | cons {k : Key} {v : V} {kvs : List (Key × V)} {d : PyData} {kds : List (PyData × PyData)} : Do K H v d → DoKv K H kvs kds → DoKv K H ((k, v) :: kvs) ((kdat k, d) :: kds)
end
theorem reads_key {h : Heap} {k : Key} {v : Value} (e : keyIs k v = true) : Reads h v (kdat k) [] := by
  rcases keyIs_shape e with ⟨i, t, rfl, rfl⟩ | ⟨x, t, rfl, rfl⟩
  · exact .int i t
  · exact .str x t
/-- the module table is a dict of the written part -/
def Sm (K : PySem.W.Frag) : Prop := ∃ o, K.lookup sysModules = some o ∧ o.cls = .type "dict"
section
variable {X : Cx} {pins : List (Addr × Obj)} {σ : L2.St} {H : Hp} {s : Shared}
mutual
theorem Do.reads (sm : Sm X.K) (I : Inv X pins σ H s) : ∀ (d : PyData) (v : V) (u : Value), Do X.K H v d → RelV v u → ∃ as, Reads s.heap u d as ∧ sysModules ∉ as
  | .none, _, _, h, r => by
    cases h
    cases r
    exact ⟨_, Reads.none, by simp⟩
  | .bool b, _, _, h, r => by
    cases h
    cases r
    exact ⟨_, Reads.bool b, by simp⟩
  | .int i, _, _, h, r => by
    cases h
    obtain ⟨t, rfl⟩ := r
    exact ⟨_, Reads.int i t, by simp⟩
  | .str x, _, _, h, r => by
    cases h
    obtain ⟨t, rfl⟩ := r
    exact ⟨_, Reads.str x t, by simp⟩
  | .list ds, _, _, h, r => by
    cases h with
    | lst hs ha =>
      cases r
      obtain ⟨its, rv, ⟨o, n, ho, hc, _, hd⟩, _⟩ := I.list hs
      obtain ⟨as, hr, hn⟩ := Do.readsAll sm I ds _ its ha rv
      refine ⟨_, Reads.list ho hc hd hr, fun z => ?_⟩
      rcases List.mem_cons.mp z with e | z
      · obtain ⟨o2, lk, c2⟩ := sm
        have g := I.kIn _ _ lk
        rw [e] at g
        rw [ho] at g
        cases g
        rw [hc] at c2
        exact absurd c2 (by decide)
      · exact hn z
  | .tuple ds, _, _, h, r => by
    cases h with
    | tup hs ha =>
      cases r
      obtain ⟨its, rv, ⟨o, ho, hc, n, hd⟩, _⟩ := I.tuple hs
      obtain ⟨as, hr, hn⟩ := Do.readsAll sm I ds _ its ha rv
      exact ⟨_, Reads.tuple ho hc hd hr, hn⟩
  | .dict kds, _, _, h, r => by
    cases h with
    | dic ha hk =>
      cases r
      obtain ⟨_, ne, vs, kv, o, es, ep, ho, he, hd, _, hp, _⟩ := dk_of I.hok ha
      obtain ⟨as, bs, h1, h2, n1, n2⟩ := Do.readsKv sm I kds _ vs es.toList hk kv hp
      refine ⟨_, Reads.dict ho he.1 hd h1 h2, fun z => ?_⟩
      rcases List.mem_append.mp z with z | z
      · rcases List.mem_cons.mp z with e | z
        · rw [e] at ne
          rw [beq_self_eq_true] at ne
          cases ne
        · exact n1 z
      · exact n2 z
theorem Do.readsAll (sm : Sm X.K) (I : Inv X pins σ H s) : ∀ (ds : List PyData) (vs : List V) (us : List Value), DoAll X.K H vs ds → Vals vs us → ∃ as, ReadsAll s.heap us ds as ∧ sysModules ∉ as
  | [], _, _, h, r => by
    cases h
    cases r
    exact ⟨_, ReadsAll.nil, by simp⟩
  | d :: ds, _, _, h, r => by
    cases h with
    | cons h1 h2 =>
      cases r with
      | cons r1 r2 =>
        obtain ⟨as, q1, n1⟩ := Do.reads sm I d _ _ h1 r1
        obtain ⟨bs, q2, n2⟩ := Do.readsAll sm I ds _ _ h2 r2
        exact ⟨_, ReadsAll.cons q1 q2, fun z => (List.mem_append.mp z).elim n1 n2⟩
theorem Do.readsKv (sm : Sm X.K) (I : Inv X pins σ H s) : ∀ (kds : List (PyData × PyData)) (kvs : List (Key × V)) (vs : List (Key × Value)) (es : List DictEntry), DoKv X.K H kvs kds → KV kvs vs → Pairs (mixKind X.prog X.w) es vs →
    ∃ as bs, ReadsAll s.heap (es.map (·.key)) (kds.map (·.1)) as ∧ ReadsAll s.heap (es.map (·.val)) (kds.map (·.2)) bs ∧ sysModules ∉ as ∧ sysModules ∉ bs
  | [], _, _, _, h, k, p => by
    cases h
    cases k
    cases p
    exact ⟨_, _, ReadsAll.nil, ReadsAll.nil, by simp, by simp⟩
  | (dk, d) :: kds, _, _, _, h, k, p => by
    cases h with
    | cons h1 h2 =>
      cases k with
      | cons k1 k2 =>
        cases p with
        | cons p1 p2 p3 =>
          rename_i k v kvs b l2 en es
          obtain ⟨e1, e2⟩ := k1
          have e1 : k = b.1 := e1
          have e2 : RelV v en.val := by
            rw [p2]
            exact e2
          have p1 : keyIs k en.key = true := by
            rw [e1]
            exact p1
          obtain ⟨bs0, q1, n1⟩ := Do.reads sm I d _ _ h1 e2
          obtain ⟨as, bs, r1, r2, m1, m2⟩ := Do.readsKv sm I kds _ _ _ h2 k2 p3
          refine ⟨_, _, ReadsAll.cons (reads_key p1) r1, ReadsAll.cons q1 r2, ?_, fun z => (List.mem_append.mp z).elim n1 m2⟩
          simpa using m1
end
/-- repr(x), x any data -/
def rReprO (K : PySem.W.Frag) : List V → Hp → VK → Prop := fun xs H Q => ∃ (x : V) (d : PyData), xs = [x] ∧ Do K H x d ∧ d.showable = true ∧ d.shown.length ≤ sizeLine ∧ d.depth ≤ 60 ∧ Q (.str d.shown) H
theorem call_reprO (sm : Sm X.K) (hg : X.A.guards = some []) (hu : X.A.units + 64 < cLine) : CallR X (.builtin "repr") (rReprO X.K) := by
  intro pins s σ H xs us Q I r h
  obtain ⟨x, d, rfl, hd, hs, hz, hdp, q⟩ := h
  obtain ⟨u, rfl, rx⟩ := vals1 r
  obtain ⟨as, rd, na⟩ := Do.reads sm I d x u hd rx
  cases rd with
  | none => exact PySem.P.repr_of_none ⟨.str _, H, I.tok _, ⟨_, rfl⟩, by simpa only [PyData.shown] using q⟩
  | bool b => exact PySem.P.repr_of_bool ⟨.str _, H, I.tok _, ⟨_, rfl⟩, by simpa only [PyData.shown] using q⟩
  | int i t => exact PySem.P.repr_of_int (by simpa [PyData.showable] using hs) ⟨.str _, H, I.tok _, ⟨_, rfl⟩, by simpa only [PyData.shown] using q⟩
  | str y t => exact PySem.P.repr_of_str ⟨.str _, H, I.tok _, ⟨_, rfl⟩, by simpa only [PyData.shown] using q⟩ (by simpa only [PyData.shown] using hz)
  | list h1 h2 h3 h4 =>
    exact repr_of_reads' (.list h1 h2 h3 h4) hs (fun _ => na) hg (by omega) (fun _ _ z => z) (fun h' u tk hk => ⟨.str _, H, I.kept (t' := tk) hk, ⟨u, rfl⟩, q⟩) hz
  | tuple h1 h2 h3 h4 =>
    exact repr_of_reads' (.tuple h1 h2 h3 h4) hs (fun _ => na) hg (by omega) (fun _ _ z => z) (fun h' u tk hk => ⟨.str _, H, I.kept (t' := tk) hk, ⟨u, rfl⟩, q⟩) hz
  | dict h1 h2 h3 h4 h5 =>
    exact repr_of_reads' (.dict h1 h2 h3 h4 h5) hs (fun _ => na) hg (by omega) (fun _ _ z => z) (fun h' u tk hk => ⟨.str _, H, I.kept (t' := tk) hk, ⟨u, rfl⟩, q⟩) hz
end
end Ver

namespace Ver
open PySem PySem.Spec PyProof.Rows L2
def tyD : PyData → String
  | .none => "NoneType"
  | .bool _ => "bool"
  | .int _ => "int"
  | .str _ => "str"
  | .list _ => "list"
  | .tuple _ => "tuple"
  | .dict _ => "dict"
section
variable {K : PySem.W.Frag} {H H' : Hp}
theorem Do.ty {x : V} {d : PyData} (h : Do K H x d) : TyX K H x (.type (tyD d)) := by
  cases h with
  | non => exact .base .non
  | bl b => exact .base (.bl b)
  | int i => exact .base (.int i)
  | str s => exact .base (.str s)
  | lst hs ha =>
    rcases hs with (e | ⟨o, e⟩) | ⟨o, its, n, lk, c, _⟩
    · exact .base (.lst e)
    · exact .base (.frz e)
    · exact .kList lk c
  | tup hs ha =>
    rcases hs with (e | ⟨o, e⟩) | ⟨o, its, n, lk, c, _⟩
    · exact .base (.tup e)
    · exact .fTuple e
    · exact .kTuple lk c
  | dic e hk => exact .base (.dK e)
theorem sqt_keep {a : Addr} {xs : List V} (s : Same H H') (h : SqT K H a xs) : SqT K H' a xs := by
  rcases h with (h | ⟨o, h⟩) | h
  · exact .inl (.inl (s _ _ h))
  · exact .inl (.inr ⟨o, s _ _ h⟩)
  · exact .inr h
mutual
theorem Do.same (s : Same H H') : ∀ (d : PyData) (x : V), Do K H x d → Do K H' x d
  | .none, _, h => by cases h; exact .non
  | .bool b, _, h => by cases h; exact .bl b
  | .int i, _, h => by cases h; exact .int i
  | .str y, _, h => by cases h; exact .str y
  | .list ds, _, h => by
    cases h with
    | lst hs ha => exact .lst (s.seq hs) (DoAll.same s ds _ ha)
  | .tuple ds, _, h => by
    cases h with
    | tup hs ha => exact .tup (sqt_keep s hs) (DoAll.same s ds _ ha)
  | .dict kds, _, h => by
    cases h with
    | dic e hk => exact .dic (s _ _ e) (DoKv.same s kds _ hk)
theorem DoAll.same (s : Same H H') : ∀ (ds : List PyData) (xs : List V), DoAll K H xs ds → DoAll K H' xs ds
  | [], _, h => by cases h; exact .nil
  | d :: ds, _, h => by
    cases h with
    | cons h1 h2 => exact .cons (Do.same s d _ h1) (DoAll.same s ds _ h2)
theorem DoKv.same (s : Same H H') : ∀ (kds : List (PyData × PyData)) (kvs : List (Key × V)), DoKv K H kvs kds → DoKv K H' kvs kds
  | [], _, h => by cases h; exact .nil
  | (dk, d) :: kds, _, h => by
    cases h with
    | cons h1 h2 => exact .cons (Do.same s d _ h1) (DoKv.same s kds _ h2)
end
/-- isinstance(x, a built-in type), x any data -/
def is_int (d : PyData) : Bool := match d with | .int _ => true | .bool _ => true | _ => false
theorem kit_int : ∀ d : PyData, PySem.W.kitOne K (.type (tyD d)) (.type "int") = some (is_int d)
  | .none => show PySem.W.kitOne K (.type "NoneType") (.type "int") = some false from kit_ty (by decide +kernel)
  | .bool _ => show PySem.W.kitOne K (.type "bool") (.type "int") = some true from kit_ty (by decide +kernel)
  | .int _ => show PySem.W.kitOne K (.type "int") (.type "int") = some true from kit_ty (by decide +kernel)
  | .str _ => show PySem.W.kitOne K (.type "str") (.type "int") = some false from kit_ty (by decide +kernel)
  | .list _ => show PySem.W.kitOne K (.type "list") (.type "int") = some false from kit_ty (by decide +kernel)
  | .tuple _ => show PySem.W.kitOne K (.type "tuple") (.type "int") = some false from kit_ty (by decide +kernel)
  | .dict _ => show PySem.W.kitOne K (.type "dict") (.type "int") = some false from kit_ty (by decide +kernel)
def is_bool (d : PyData) : Bool := match d with | .bool _ => true | _ => false
theorem kit_bool : ∀ d : PyData, PySem.W.kitOne K (.type (tyD d)) (.type "bool") = some (is_bool d)
  | .none => show PySem.W.kitOne K (.type "NoneType") (.type "bool") = some false from kit_ty (by decide +kernel)
  | .bool _ => show PySem.W.kitOne K (.type "bool") (.type "bool") = some true from kit_ty (by decide +kernel)
  | .int _ => show PySem.W.kitOne K (.type "int") (.type "bool") = some false from kit_ty (by decide +kernel)
  | .str _ => show PySem.W.kitOne K (.type "str") (.type "bool") = some false from kit_ty (by decide +kernel)
  | .list _ => show PySem.W.kitOne K (.type "list") (.type "bool") = some false from kit_ty (by decide +kernel)
  | .tuple _ => show PySem.W.kitOne K (.type "tuple") (.type "bool") = some false from kit_ty (by decide +kernel)
  | .dict _ => show PySem.W.kitOne K (.type "dict") (.type "bool") = some false from kit_ty (by decide +kernel)
def is_tuple (d : PyData) : Bool := match d with | .tuple _ => true | _ => false
theorem kit_tuple : ∀ d : PyData, PySem.W.kitOne K (.type (tyD d)) (.type "tuple") = some (is_tuple d)
  | .none => show PySem.W.kitOne K (.type "NoneType") (.type "tuple") = some false from kit_ty (by decide +kernel)
  | .bool _ => show PySem.W.kitOne K (.type "bool") (.type "tuple") = some false from kit_ty (by decide +kernel)
  | .int _ => show PySem.W.kitOne K (.type "int") (.type "tuple") = some false from kit_ty (by decide +kernel)
  | .str _ => show PySem.W.kitOne K (.type "str") (.type "tuple") = some false from kit_ty (by decide +kernel)
  | .list _ => show PySem.W.kitOne K (.type "list") (.type "tuple") = some false from kit_ty (by decide +kernel)
  | .tuple _ => show PySem.W.kitOne K (.type "tuple") (.type "tuple") = some true from kit_ty (by decide +kernel)
  | .dict _ => show PySem.W.kitOne K (.type "dict") (.type "tuple") = some false from kit_ty (by decide +kernel)
def is_str (d : PyData) : Bool := match d with | .str _ => true | _ => false
theorem kit_str : ∀ d : PyData, PySem.W.kitOne K (.type (tyD d)) (.type "str") = some (is_str d)
  | .none => show PySem.W.kitOne K (.type "NoneType") (.type "str") = some false from kit_ty (by decide +kernel)
  | .bool _ => show PySem.W.kitOne K (.type "bool") (.type "str") = some false from kit_ty (by decide +kernel)
  | .int _ => show PySem.W.kitOne K (.type "int") (.type "str") = some false from kit_ty (by decide +kernel)
  | .str _ => show PySem.W.kitOne K (.type "str") (.type "str") = some true from kit_ty (by decide +kernel)
  | .list _ => show PySem.W.kitOne K (.type "list") (.type "str") = some false from kit_ty (by decide +kernel)
  | .tuple _ => show PySem.W.kitOne K (.type "tuple") (.type "str") = some false from kit_ty (by decide +kernel)
  | .dict _ => show PySem.W.kitOne K (.type "dict") (.type "str") = some false from kit_ty (by decide +kernel)
def is_list (d : PyData) : Bool := match d with | .list _ => true | _ => false
theorem kit_list : ∀ d : PyData, PySem.W.kitOne K (.type (tyD d)) (.type "list") = some (is_list d)
  | .none => show PySem.W.kitOne K (.type "NoneType") (.type "list") = some false from kit_ty (by decide +kernel)
  | .bool _ => show PySem.W.kitOne K (.type "bool") (.type "list") = some false from kit_ty (by decide +kernel)
  | .int _ => show PySem.W.kitOne K (.type "int") (.type "list") = some false from kit_ty (by decide +kernel)
  | .str _ => show PySem.W.kitOne K (.type "str") (.type "list") = some false from kit_ty (by decide +kernel)
  | .list _ => show PySem.W.kitOne K (.type "list") (.type "list") = some true from kit_ty (by decide +kernel)
  | .tuple _ => show PySem.W.kitOne K (.type "tuple") (.type "list") = some false from kit_ty (by decide +kernel)
  | .dict _ => show PySem.W.kitOne K (.type "dict") (.type "list") = some false from kit_ty (by decide +kernel)
def is_dict (d : PyData) : Bool := match d with | .dict _ => true | _ => false
theorem kit_dict : ∀ d : PyData, PySem.W.kitOne K (.type (tyD d)) (.type "dict") = some (is_dict d)
  | .none => show PySem.W.kitOne K (.type "NoneType") (.type "dict") = some false from kit_ty (by decide +kernel)
  | .bool _ => show PySem.W.kitOne K (.type "bool") (.type "dict") = some false from kit_ty (by decide +kernel)
  | .int _ => show PySem.W.kitOne K (.type "int") (.type "dict") = some false from kit_ty (by decide +kernel)
  | .str _ => show PySem.W.kitOne K (.type "str") (.type "dict") = some false from kit_ty (by decide +kernel)
  | .list _ => show PySem.W.kitOne K (.type "list") (.type "dict") = some false from kit_ty (by decide +kernel)
  | .tuple _ => show PySem.W.kitOne K (.type "tuple") (.type "dict") = some false from kit_ty (by decide +kernel)
  | .dict _ => show PySem.W.kitOne K (.type "dict") (.type "dict") = some true from kit_ty (by decide +kernel)
end
end Ver

namespace K02
open PySem PySem.Spec PyProof.Rows L2 Ver Num
/-- the names of the text's own defs and classes; the built-in names that it reads -/
def gl : List Str := ["is_integer", "is_between", "is_prime", "is_fraction", "is_longer", "parts", "_law_pen", "_law_draw", "_law_pick", "_law_prime", "_law_number", "_law_odd", "_law_far", "_law_tens", "_law_signed", "_law_gcd", "_law_told", "_law_any_number", "_law_made_field", "_law_any_prime", "_law_is_whole", "_law_is_number", "_law_near", "law", "Field", "Fractions", "Modulo"]
def fr : List Str := ["isinstance", "int", "bool", "tuple", "len", "abs", "list", "range", "repr", "max"]
def FL : Int := 10000000000000000000000000000000000000000000000000000000000000000000000000000000000000000000000000000
/-- a class of fields: its methods are Field's own -/
structure FC (K : PySem.W.Frag) (C : Addr) : Prop where
  cl : Cls K C
  np : NoAttr K C "_prime"
  m : ∀ m ∈ (["is_number", "holds"] : List Str), Meth K C m (He.ma K (He.ga K "Field") m)
def fa : List He.Fa := gl.map He.Fa.glo ++ fr.map He.Fa.free
/-- what making and asking the objects of a class of fields wants -/
structure MC (K : PySem.W.Frag) (C : Addr) : Prop where
  mkr : Mk K C (He.ma K C "__init__")
  isF : PySem.W.kitOne K (.ref C) (.ref (He.ga K "Field")) = some true
  cl : PySem.W.findIn K (.ref C) "__class__" = some (some (.builtin "object.__class__"))
  ob : PySem.W.mroIn K C (.type "object") = some true
/-- what the top has left -/
structure Tx (K : PySem.W.Frag) (mg : Str → Option Value) : Prop where
  d : He.SaysD fa fn K
  g : ∀ x ∈ gl, mg x = some (.ref (He.ga K x))
  z : ∀ x ∈ fr, mg x = none
  fl : ∃ t, mg "FIRST_LONG" = some (.int FL t)
  gp : ∃ t, mg "GREATEST_PRIME" = some (.int 1000000000 t)
  gcd : mg "gcd" = some (.builtin "math.gcd")
  sm : Sm K
  isq : mg "isqrt" = some (.builtin "math.isqrt")
  fcF : FC K (He.ga K "Fractions")
  fcM : FC K (He.ga K "Modulo")
  mF : MC K (He.ga K "Fractions")
  mM : MC K (He.ga K "Modulo")
  rdF : PySem.W.readsIn K (He.ga K "Field") (.type "type") = true
  gaF : PySem.W.specialIn K (.ref (He.ga K "Field")) "__getattribute__" = some (some (.builtin "type.__getattribute__"))
  fiF : PySem.W.findCls K (.ref (He.ga K "Field")) (.type "type") "__init__" = some (.val (.ref (He.ma K (He.ga K "Field") "__init__")))
  clS : PySem.W.specialIn K (.builtin "object.__class__") "__get__" = some (some (.builtin "getset_descriptor.__get__"))
  clT : PySem.W.takesIn K (.builtin "object.__class__") = some true
theorem ifT {c : Bool} {A B : Prop} (h : c = true) (q : A) : if c = true then A else B := by
  rw [if_pos h]
  exact q
theorem ifF {c : Bool} {A B : Prop} (h : c = false) (q : B) : if c = true then A else B := by
  rw [if_neg (by rw [h]; exact Bool.false_ne_true)]
  exact q
theorem iEq (a b : Int) : decide (V.int a = V.int b) = decide (a = b) := by
  by_cases h : a = b
  · rw [decide_eq_true h, decide_eq_true (by rw [h])]
  · rw [decide_eq_false h, decide_eq_false fun z => h (V.int.inj z)]
theorem same_up {H : Hp} {p : Addr} {o : HO} (h : H p = none) : Same H (upd H p o) := fun b x e => by
  rw [upd_ne (ne_of_none e h)]
  exact e
end K02

namespace K02
open PySem PySem.Spec PyProof.Rows L2 Ver Num
/-! ### the pen: a dict of the script's cells, a place, a rest -/
def penL (c : Addr) (b l : Int) : List (Key × V) := [(.inr "cells", .ref c), (.inr "begun", .int b), (.inr "left", .int l)]
structure PenAt (H : Hp) (d : Addr) (k : Int) : Prop where
  ex : ∃ (c : Addr) (cells : List Int) (b l : Int), H d = some (.dK (penL c b l)) ∧ H c = some (.lst (cells.map V.int)) ∧ cells.length ≤ 63 ∧ 0 ≤ b ∧ b ≤ k ∧ 0 ≤ l
/-- all but what stands at d is kept; the pen's list of cells is the same object -/
def But (d : Addr) (H H' : Hp) : Prop := (∀ b o, H b = some o → b ≠ d → H' b = some o) ∧ ∀ c b l, H d = some (.dK (penL c b l)) → ∃ b' l', H' d = some (.dK (penL c b' l'))
theorem But.refl {d : Addr} {H : Hp} : But d H H := ⟨fun _ _ e _ => e, fun c b l e => ⟨b, l, e⟩⟩
theorem But.trans {d : Addr} {H H1 H2 : Hp} (a : But d H H1) (b : But d H1 H2) : But d H H2 := ⟨fun c o e n => b.1 c o (a.1 c o e n) n, fun c x l e => by
  obtain ⟨b1, l1, e1⟩ := a.2 c x l e
  exact b.2 c b1 l1 e1⟩
theorem But.same {d : Addr} {H H1 : Hp} (s : Same H H1) : But d H H1 := ⟨fun c o e _ => s c o e, fun c b l e => ⟨b, l, s _ _ e⟩⟩
theorem pen_inj {c c2 : Addr} {b b2 l l2 : Int} (h : penL c b l = penL c2 b2 l2) : c = c2 := by
  have h1 := (List.cons.inj h).1
  exact V.ref.inj (congrArg Prod.snd h1)
theorem but_up {d c : Addr} {H : Hp} {b l b' l' : Int} (h : H d = some (.dK (penL c b l))) : But d H (upd H d (.dK (penL c b' l'))) := ⟨fun b u e n => by rw [upd_ne n]; exact e, fun c2 b2 l2 e => by
  rw [h] at e
  have e2 : penL c b l = penL c2 b2 l2 := HO.dK.inj (Option.some.inj e)
  have ec := pen_inj e2
  subst ec
  exact ⟨b', l', upd_same⟩⟩
/-- the pen with its list of cells told -/
structure PenC (H : Hp) (d c : Addr) (k : Int) : Prop where
  ex : ∃ (cells : List Int) (b l : Int), H d = some (.dK (penL c b l)) ∧ H c = some (.lst (cells.map V.int)) ∧ cells.length ≤ 63 ∧ 0 ≤ b ∧ b ≤ k ∧ 0 ≤ l
theorem PenAt.c {H : Hp} {d : Addr} {k : Int} (p : PenAt H d k) : ∃ c, PenC H d c k := by
  obtain ⟨c, cells, b, l, h⟩ := p.ex
  exact ⟨c, cells, b, l, h⟩
theorem PenC.at_ {H : Hp} {d c : Addr} {k : Int} (p : PenC H d c k) : PenAt H d k := by
  obtain ⟨cells, b, l, h⟩ := p.ex
  exact ⟨c, cells, b, l, h⟩
theorem PenC.on {H H' : Hp} {d c : Addr} {k k' : Int} (p : PenC H d c k) (bt : But d H H') (q : PenAt H' d k') : PenC H' d c k' := by
  obtain ⟨cells, b, l, h1, _⟩ := p.ex
  obtain ⟨b1, l1, e1⟩ := bt.2 c b l h1
  obtain ⟨c2, cells2, b2, l2, g1, g⟩ := q.ex
  have e2 : penL c b1 l1 = penL c2 b2 l2 := HO.dK.inj (Option.some.inj (e1.symm.trans g1))
  have ec := pen_inj e2
  subst ec
  exact ⟨cells2, b2, l2, g1, g⟩
theorem PenC.up {H : Hp} {d c D : Addr} {k : Int} {o : HO} (p : PenC H d c k) (n1 : d ≠ D) (n2 : c ≠ D) : PenC (upd H D o) d c k := by
  obtain ⟨cells, b, l, h1, h2, h⟩ := p.ex
  exact ⟨cells, b, l, by rw [upd_ne n1]; exact h1, by rw [upd_ne n2]; exact h2, h⟩
theorem PenAt.same {H H' : Hp} {d : Addr} {k : Int} (p : PenAt H d k) (s : Same H H') : PenAt H' d k := by
  obtain ⟨c, cells, b, l, h1, h2, r⟩ := p.ex
  exact ⟨c, cells, b, l, s _ _ h1, s _ _ h2, r⟩
theorem PenAt.mono {H : Hp} {d : Addr} {j k : Int} (p : PenAt H d j) (h : j ≤ k) : PenAt H d k := by
  obtain ⟨c, cells, b, l, h1, h2, h3, h4, h5, h6⟩ := p.ex
  exact ⟨c, cells, b, l, h1, h2, h3, h4, by omega, h6⟩
theorem ks1 : ¬ (("cells" : Str) = "begun") := by decide +kernel
theorem ks2 : ¬ (("cells" : Str) = "left") := by decide +kernel
theorem ks3 : ¬ (("begun" : Str) = "left") := by decide +kernel
theorem nk {a b : Str} (h : ¬ a = b) : ¬ ((Sum.inr a : Key) = (Sum.inr b : Key)) := fun z => h (Sum.inr.inj z)
theorem pen_cells (c : Addr) (b l : Int) : valV (penL c b l) (.inr "cells") = some (.ref c) := valV_pos rfl
theorem pen_begun (c : Addr) (b l : Int) : valV (penL c b l) (.inr "begun") = some (.int b) := (valV_neg (nk ks1)).trans (valV_pos rfl)
theorem pen_left (c : Addr) (b l : Int) : valV (penL c b l) (.inr "left") = some (.int l) := (valV_neg (nk ks2)).trans ((valV_neg (nk ks3)).trans (valV_pos rfl))
theorem put_begun (c : Addr) (b l b' : Int) : putK (penL c b l) (.inr "begun") (.int b') = penL c b' l := by
  have n1 := nk ks1
  have n2 := nk (Ne.symm ks3)
  simp [putK, penL, n1, n2]
theorem put_left (c : Addr) (b l l' : Int) : putK (penL c b l) (.inr "left") (.int l') = penL c b l' := by
  have n1 := nk ks2
  have n2 := nk ks3
  simp [putK, penL, n1, n2]
theorem get_cells {H : Hp} {d c : Addr} {b l : Int} (h : H d = some (.dK (penL c b l))) : DGet H d (.str "cells") (some (.ref c)) := by
  have z := DGet.k (k := Sum.inr "cells") h
  rwa [pen_cells] at z
theorem get_begun {H : Hp} {d c : Addr} {b l : Int} (h : H d = some (.dK (penL c b l))) : DGet H d (.str "begun") (some (.int b)) := by
  have z := DGet.k (k := Sum.inr "begun") h
  rwa [pen_begun] at z
theorem get_left {H : Hp} {d c : Addr} {b l : Int} (h : H d = some (.dK (penL c b l))) : DGet H d (.str "left") (some (.int l)) := by
  have z := DGet.k (k := Sum.inr "left") h
  rwa [pen_left] at z
theorem dput_begun {H : Hp} {d c : Addr} {b l b' : Int} (h : H d = some (.dK (penL c b l))) : DPut H d (.str "begun") (.int b') (upd H d (.dK (penL c b' l))) := by
  have z := DPut.k (k := Sum.inr "begun") (v := .int b') h (by show 3 < sizeLine; decide)
  rwa [put_begun] at z
theorem dput_left {H : Hp} {d c : Addr} {b l l' : Int} (h : H d = some (.dK (penL c b l))) : DPut H d (.str "left") (.int l') (upd H d (.dK (penL c b l'))) := by
  have z := DPut.k (k := Sum.inr "left") (v := .int l') h (by show 3 < sizeLine; decide)
  rwa [put_left] at z
theorem merge_pen (c : Addr) (b l : Int) : mergeK [] (penL c b l) = penL c b l := by
  have n1 := nk ks1
  have n2 := nk ks2
  have n3 := nk ks3
  simp [mergeK, putK, penL, n1, n2, n3]
/-! ### lists of ints as data -/
theorem dp_ints {K : PySem.W.Frag} {H : Hp} : ∀ ns : List Int, DpAll K H (ns.map V.int) (ns.map PyData.int)
  | [] => .nil
  | n :: ns => .cons (.int n) (dp_ints ns)
theorem ints_depth : ∀ ns : List Int, PyData.depthAll (ns.map PyData.int) ≤ 1
  | [] => by simp [PyData.depthAll]
  | n :: ns => by
    have := ints_depth ns
    simp only [List.map_cons, PyData.depthAll, PyData.depth]
    omega
theorem ints_can : ∀ ns : List Int, PyData.canLayAll0 (ns.map PyData.int) = true
  | [] => by simp [PyData.canLayAll0]
  | n :: ns => by simp only [List.map_cons, PyData.canLayAll0, PyData.canLay0, ints_can ns, Bool.and_true]
theorem ints_shaped (ns : List Int) : SeqAt.shaped (.list (ns.map PyData.int)) = true := by
  unfold SeqAt.shaped
  have h1 := ints_depth ns
  have h2 := ints_can ns
  have e1 : (PyData.list (ns.map PyData.int)).canLay0 = true := by simp only [PyData.canLay0, h2]
  have e2 : (PyData.list (ns.map PyData.int)).depth ≤ 64 := by
    simp only [PyData.depth]
    omega
  rw [e1, decide_eq_true e2]
  rfl
theorem ints_empty : ∀ ns : List Int, PyData.eqv (.list (ns.map PyData.int)) (.list []) = decide (ns = [])
  | [] => by simp [PyData.eqv, PyData.eqvAll]
  | n :: ns => by simp [PyData.eqv, PyData.eqvAll]
end K02

namespace K02
open PySem PySem.Spec PyProof.Rows L2 Ver Num
section
variable {P : Program} {w : World} {K : PySem.W.Frag} {mg : Str → Option Value} {base : Heap}
/-! ### _law_pen -/
theorem cut_ints (ns : List Int) (lo hi : Option Int) : cutV (ns.map V.int) lo hi = ((ns.drop (HT.sIx ns.length 0 lo)).take (HT.sIx ns.length ns.length hi - HT.sIx ns.length 0 lo)).map V.int := by
  unfold cutV
  rw [List.length_map, List.map_take, List.map_drop]
def spPen (K : PySem.W.Frag) : Sp := fun vs H Q _ => ∃ (a : Addr) (ns : List Int), vs = [.ref a] ∧ SqL K H a (ns.map V.int) ∧ ns.length ≤ 63 ∧ ∀ (d : Addr) (H' : Hp), Same H H' → H d = none → PenAt H' d 0 → Q (.ref d) H'
theorem ok_pen (T : Tx K mg) : FnG P w K mg base CX0 1 (He.ga K "_law_pen") (spPen K) := by
  refine mk__law_pen T.d (fun vs H Q E h => ?_) (fun cdv A outer s H vs Q E hg hr h => ?_)
  · obtain ⟨a, ns, rfl, _⟩ := h
    rfl
  · obtain ⟨a, ns, rfl, hs, hl, q⟩ := h
    refine ⟨_, pss_one (ps_ret (pe_disp (pps_cons pe_str (pe_callTy call_list_of (by rfl) (T.z "list" (by decide +kernel)) (by decide +kernel) (pa_cons (pe_slice sl_list (pv 0) po_none (po_some pe_int)) pa_nil))
      (pps_cons pe_str pe_int (pps_cons pe_str pe_int pps_nil))) (by rfl) (by rfl) (fun z => by cases z) (by decide))), ?_⟩
    intro d nd
    have s0 := same_up (o := .dK []) nd
    refine ⟨_, rfl, 63, rfl, a, _, rfl, s0.seq hs, fun m nm => ?_⟩
    have s1 := same_up (o := .lst (cutV (ns.map V.int) none (some 63))) nm
    refine ⟨m, _, rfl, .inl (.inl (.inl upd_same)), fun c nc => ?_⟩
    have s2 := same_up (o := .lst (cutV (ns.map V.int) none (some 63))) nc
    have sa := (s0.trans s1).trans s2
    have dd : H d = none := nd
    have dm : d ≠ m := ne_of_none upd_same nm
    have dc : d ≠ c := fun z => by
      rw [← z, upd_ne dm, upd_same] at nc
      cases nc
    refine ⟨?_, penL c 0 0, rfl, by show 3 ≤ 15; decide, ?_⟩
    · rw [upd_ne dc, upd_ne dm, upd_same]
    · rw [merge_pen]
      refine q d _ (fun b o e => ?_) nd ⟨c, (ns.drop (HT.sIx ns.length 0 none)).take (HT.sIx ns.length ns.length (some 63) - HT.sIx ns.length 0 none), 0, 0, upd_same, ?_, ?_, by omega, by omega, by omega⟩
      · rw [upd_ne (ne_of_none e nd)]
        exact sa _ _ e
      · rw [upd_ne (Ne.symm dc), upd_same, cut_ints]
      · rw [List.length_take, List.length_drop]
        omega
/-! ### _law_draw -/
theorem em1 {X m : Int} (h : 0 < m) (h2 : m ≤ 2 ^ 64) : -(2 ^ 64) < X % m ∧ X % m < 2 ^ 64 := by
  have a := Int.emod_nonneg X (show m ≠ 0 by omega)
  have b := Int.emod_lt_of_pos X h
  omega
def spDraw : Sp := fun vs H Q _ => ∃ (d : Addr) (k n : Int), vs = [.ref d, .int n] ∧ PenAt H d k ∧ k < 1000000000000 ∧ 0 < n ∧ n < 1073741824 ∧
  ∀ (i : Int) (H' : Hp), But d H H' → PenAt H' d (k + 1) → 0 ≤ i → i < n → Q (.int i) H'
theorem ok_draw (T : Tx K mg) : FnG P w K mg base CX0 1 (He.ga K "_law_draw") spDraw := by
  refine mk__law_draw T.d (fun vs H Q E h => ?_) (fun cdv A outer s H vs Q E hg hr h => ?_)
  · obtain ⟨d, k, n, rfl, _⟩ := h
    rfl
  · obtain ⟨d, k, n, rfl, pen, k9, n0, n9, q⟩ := h
    have hu := hu_of hr
    have nd := sc__law_draw.nd
    have zi := T.z "int" (by decide +kernel)
    have zl := T.z "len" (by decide +kernel)
    have za := T.z "abs" (by decide +kernel)
    have bi : bootBuiltins "int" = some (.type "int") := by decide +kernel
    have bl : bootBuiltins "len" = some (.builtin "len") := by decide +kernel
    have ba : bootBuiltins "abs" = some (.builtin "abs") := by decide +kernel
    obtain ⟨c, cells, b, l, hd, hc, cl, b0, bk, l0⟩ := pen.ex
    have dc : d ≠ c := ne_of hd hc (by intro z; cases z)
    refine ⟨_, pss_cons (ps_if (pt_cmpR op_gt (pe_dget hu (pv 0) pe_str (fun _ _ => rfl)) pe_int (nomark _))
        (pss_cons (ps_set (i := 2) nd rfl (Or.inl rfl) (pe_op op_mod (pe_callTy call_int1 (by rfl) zi bi (pa_cons (pe_dget hu (pv 0) pe_str (fun _ _ => rfl)) pa_nil)) (pv 1)))
        (pss_cons (ps_dput hu (pv 0) pe_str (pe_op op_fdiv (pe_dget hu (pv 0) pe_str (fun _ _ => rfl)) (pv 1)) rfl)
        (pss_one (ps_ret (pv 2))))) pss_nil)
      (pss_cons (ps_set (i := 3) nd rfl (Or.inl rfl) (pe_dget hu (pv 0) pe_str (fun _ _ => rfl)))
      (pss_cons (ps_dput hu (pv 0) pe_str (pe_op op_add (pv 3) pe_int) rfl)
      (pss_cons (ps_set (i := 4) nd rfl (Or.inl rfl) (pe_op op_add (pe_op op_mul pe_int (pv 3)) pe_int))
      (pss_cons (ps_if (pt_cmpR (op_neD hr.units) (pe_dget hu (pv 0) pe_str (fun _ _ => rfl)) (pe_lst pa_nil) (nomark _))
        (pss_one (ps_set (i := 4) nd rfl (Or.inl rfl) (pe_ix ix_list (pe_dget hu (pv 0) pe_str (fun _ _ => rfl))
          (pe_op op_mod (pe_callTy call_int1 (by rfl) zi bi (pa_cons (pv 3) pa_nil)) (pe_callB call_len_seq (by rfl) zl bl (pa_cons (pe_dget hu (pv 0) pe_str (fun _ _ => rfl)) pa_nil))) (fun _ _ => rfl)))) pss_nil)
      (pss_cons (ps_if (PW.pt (pw_and (pt_cmpR op_lt (pv 3) (pe_callB call_len_seq (by rfl) zl bl (pa_cons (pe_dget hu (pv 0) pe_str (fun _ _ => rfl)) pa_nil)) (nomark _))
          (pw_and1 (pt_cmpR op_ge (pe_callB call_abs (by rfl) za ba (pa_cons (pv 4) pa_nil)) (pe_op op_pow pe_int pe_int) (nomark _)))))
        (pss_cons (ps_dput hu (pv 0) pe_str (pe_op op_fdiv (pe_op op_sub (pe_callB call_abs (by rfl) za ba (pa_cons (pv 4) pa_nil)) (pe_op op_pow pe_int pe_int)) (pv 1)) rfl)
        (pss_one (ps_ret (pe_op op_mod (pe_callTy call_int1 (by rfl) zi bi (pa_cons (pe_op op_sub (pe_callB call_abs (by rfl) za ba (pa_cons (pv 4) pa_nil)) (pe_op op_pow pe_int pe_int)) pa_nil)) (pv 1))))) pss_nil)
      (pss_cons (ps_set (i := 5) nd rfl (Or.inl rfl) (pe_op op_mul (pe_op op_mod (pe_callTy call_int1 (by rfl) zi bi (pa_cons (pv 4) pa_nil)) pe_int) pe_int))
      (pss_cons (ps_set (i := 6) nd rfl (Or.inl rfl) (pe_op op_mod (pe_callTy call_int1 (by rfl) zi bi (pa_cons (pe_op op_add (pe_op op_add (pv 5) (pe_op op_mul (pv 3) (pe_op op_add (pe_op op_mul pe_int (pv 3)) pe_int))) pe_int) pa_nil)) pe_int))
      (pss_cons (ps_set (i := 6) nd rfl (Or.inl rfl) (pe_op op_mod (pe_callTy call_int1 (by rfl) zi bi (pa_cons (pe_op op_add (pe_op op_add (pe_op op_add (pe_op op_mul (pv 6) (pv 6)) (pe_op op_mul pe_int (pv 6))) (pe_op op_mul pe_int (pv 3))) pe_int) pa_nil)) pe_int))
      (pss_one (ps_ret (pe_op op_mod (pe_callTy call_int1 (by rfl) zi bi (pa_cons (pe_op op_fdiv (pe_op op_mod (pe_callTy call_int1 (by rfl) zi bi (pa_cons (pe_op op_mul (pv 6) (pe_op op_add (pv 6) pe_int)) pa_nil)) pe_int) pe_int) pa_nil)) (pv 1)))))))))))), ?_⟩
    refine ⟨_, rfl, d, _, rfl, get_left hd, _, _, rfl, rfl, _, rfl, ?_⟩
    refine ite2 (fun hz => ?_) (fun hz => ?_)
    · -- the rest of a great cell
      refine ⟨_, rfl, d, _, rfl, get_left hd, .inl ⟨_, rfl, _, rfl, _, _, rfl, rfl, (by show 0 < n; omega), ?_⟩⟩
      refine ⟨_, rfl, d, _, rfl, get_left hd, _, rfl, _, _, rfl, rfl, ⟨by show 0 < n; omega, by show n < 1073741824; omega⟩, _, rfl, d, _, rfl, dput_left hd, ?_⟩
      refine ⟨_, rfl, q _ _ (but_up hd) ⟨c, cells, b, l / n, upd_same, by rw [upd_ne (Ne.symm dc)]; exact hc, cl, b0, by omega, Int.ediv_nonneg l0 (by omega)⟩ (Int.emod_nonneg _ (by omega)) (Int.emod_lt_of_pos _ n0)⟩
    · -- a new cell
      have hd1 : (upd H d (.dK (penL c (b + 1) l))) d = some (.dK (penL c (b + 1) l)) := upd_same
      have hc1 : (upd H d (.dK (penL c (b + 1) l))) c = some (.lst (cells.map V.int)) := by rw [upd_ne (Ne.symm dc)]; exact hc
      refine ⟨_, rfl, d, _, rfl, get_begun hd, ?_⟩
      refine ⟨_, rfl, _, _, rfl, rfl, _, rfl, d, _, rfl, dput_begun hd, ?_⟩
      refine ⟨_, rfl, _, _, rfl, rfl, .inl ⟨by decide, by decide⟩, _, _, rfl, rfl, ?_⟩
      refine ⟨_, rfl, d, _, rfl, get_cells hd1, Nat.zero_le _, fun z nz => ?_⟩
      have sz := same_up (o := .lst []) nz
      have hd2 := sz _ _ hd1
      have hc2 := sz _ _ hc1
      have bt : But d H (upd (upd H d (.dK (penL c (b + 1) l))) z (.lst [])) := (but_up hd).trans (But.same sz)
      refine ⟨.list (cells.map PyData.int), .list [], .lst (SqL.of hc2) (dp_ints cells), .lst (SqL.of upd_same) .nil, ints_shaped cells, ints_shaped [], _, rfl, ?_⟩
      rw [ints_empty]
      generalize upd (upd H d (.dK (penL c (b + 1) l))) z (.lst []) = H2 at hd2 hc2 bt
      have pen2 : ∀ l' : Int, 0 ≤ l' → PenAt (upd H2 d (.dK (penL c (b + 1) l'))) d (k + 1) := fun l' z0 => ⟨c, cells, b + 1, l', upd_same, by rw [upd_ne (Ne.symm dc)]; exact hc2, cl, by omega, by omega, z0⟩
      have pen0 : PenAt H2 d (k + 1) := ⟨c, cells, b + 1, l, hd2, hc2, cl, by omega, by omega, l0⟩
      by_cases he : cells = []
      all_goals
        first
        | (refine ifF (by rw [decide_eq_true he]; rfl) ?_)
        | (have hlen : 0 < (cells.map V.int).length := by
            rw [List.length_map]
            exact List.length_pos_iff.mpr he
           have hm0 := Int.emod_nonneg b (show (((cells.map V.int).length : Nat) : Int) ≠ 0 by omega)
           have hm1 := Int.emod_lt_of_pos b (show (0 : Int) < (((cells.map V.int).length : Nat) : Int) by omega)
           obtain ⟨j, hj⟩ : ∃ j : Nat, b % (((cells.map V.int).length : Nat) : Int) = (j : Int) := ⟨(b % (((cells.map V.int).length : Nat) : Int)).toNat, by omega⟩
           have jl : j < cells.length := by
            rw [hj, List.length_map] at hm1
            omega
           have hat : atI (cells.map V.int) (b % (((cells.map V.int).length : Nat) : Int)) = some (V.int cells[j]) := by
            rw [hj]
            exact atI_nat (by rw [List.getElem?_map, List.getElem?_eq_getElem jl]; rfl)
           refine ifT (by rw [decide_eq_false he]; rfl) ?_
           refine ⟨_, rfl, d, _, rfl, get_cells hd2, _, rfl, .inl ⟨_, rfl, _, rfl, d, _, rfl, get_cells hd2, c, _, rfl, .inl (SqL.of hc2), _, _, rfl, rfl, (by show (0 : Int) < (((cells.map V.int).length : Nat) : Int); omega), c, _, _, _, rfl, rfl, SqL.of hc2, hat, ?_⟩⟩)
        refine ⟨_, rfl, _, rfl, d, _, rfl, get_cells hd2, c, _, rfl, .inl (SqL.of hc2), _, _, rfl, rfl, _, rfl, ?_⟩
        refine ite2 (fun h1 => ?_) (fun h1 => iteF ?_)
        all_goals
          first
          | (refine ⟨_, rfl, _, rfl, _, _, rfl, rfl, ⟨by decide, by decide, by decide⟩, _, _, rfl, rfl, _, rfl, ?_⟩
             refine ite2 (fun h2 => ?_) (fun h2 => ?_))
          | skip
        all_goals
          first
          | (have h3 := of_decide_eq_true h2
             refine ⟨_, rfl, _, rfl, _, _, rfl, rfl, ⟨by decide, by decide, by decide⟩, _, _, rfl, rfl, _, rfl, _, _, rfl, rfl, ⟨by show 0 < n; omega, by show n < 1073741824; omega⟩, _, rfl, d, _, rfl, dput_left hd2, ?_⟩
             refine ⟨_, rfl, _, rfl, _, _, rfl, rfl, ⟨by decide, by decide, by decide⟩, _, _, rfl, rfl, .inl ⟨_, rfl, _, rfl, _, _, rfl, rfl, (by show 0 < n; omega), ?_⟩⟩
             exact q _ _ (bt.trans (but_up hd2)) (pen2 _ (Int.ediv_nonneg (Int.sub_nonneg.mpr h3) (by omega))) (Int.emod_nonneg _ (by omega)) (Int.emod_lt_of_pos _ n0))
          | (refine ⟨_, rfl, .inl ⟨_, rfl, _, _, rfl, rfl, (by show (0 : Int) < 4294967197; decide), _, _, rfl, rfl, .inr ⟨by decide, by decide⟩, ?_⟩⟩
             refine ⟨_, rfl, _, rfl, _, rfl, _, _, rfl, rfl, .inl ⟨by decide, by decide⟩, _, _, rfl, rfl, _, _, rfl, rfl, .inl ⟨by show -(2 ^ 64) < b; omega, by show b < 2 ^ 64; omega⟩, _, _, rfl, rfl, _, _, rfl, rfl, .inl ⟨_, rfl, _, _, rfl, rfl, (by show (0 : Int) < 4294967189; decide), ?_⟩⟩
             refine ⟨_, rfl, _, rfl, _, _, rfl, rfl, .inl (em1 (by decide) (by decide)), _, rfl, _, _, rfl, rfl, .inl ⟨by decide, by decide⟩, _, _, rfl, rfl, _, rfl, _, _, rfl, rfl, .inl ⟨by decide, by decide⟩, _, _, rfl, rfl, _, _, rfl, rfl, .inl ⟨_, rfl, _, _, rfl, rfl, (by show (0 : Int) < 4294967161; decide), ?_⟩⟩
             refine ⟨_, rfl, _, rfl, _, _, rfl, rfl, _, _, rfl, rfl, .inl (em1 (by decide) (by decide)), .inl ⟨_, rfl, _, _, rfl, rfl, (by show (0 : Int) < 4294967143; decide), _, _, rfl, rfl, ⟨by decide, by decide⟩, .inl ⟨_, rfl, _, rfl, _, _, rfl, rfl, (by show 0 < n; omega), ?_⟩⟩⟩
             exact q _ _ bt pen0 (Int.emod_nonneg _ (by omega)) (Int.emod_lt_of_pos _ n0))
end
end K02

namespace K02
open PySem PySem.Spec PyProof.Rows L2 Ver Num
section
variable {P : Program} {w : World} {K : PySem.W.Frag} {mg : Str → Option Value} {base : Heap}
theorem pen_ne {H : Hp} {d a : Addr} {k : Int} {xs : List V} (p : PenAt H d k) (h : H a = some (.lst xs)) : a ≠ d := by
  obtain ⟨c, cells, b, l, h1, _⟩ := p.ex
  exact ne_of h h1 (by intro z; cases z)
/-! ### _law_pick, _law_prime, _law_number -/
def spPick : Sp := fun vs H Q _ => ∃ (d a : Addr) (k : Int) (xs : List V), vs = [.ref d, .ref a] ∧ PenAt H d k ∧ k < 1000000000000 ∧ H a = some (.lst xs) ∧ 0 < xs.length ∧ xs.length < 1000 ∧
  ∀ (x : V) (H' : Hp), x ∈ xs → But d H H' → PenAt H' d (k + 1) → Q x H'
theorem ok_pick (T : Tx K mg) : FnG P w K mg base CX0 2 (He.ga K "_law_pick") spPick := by
  refine mk__law_pick T.d (fun vs H Q E h => ?_) (fun cdv A outer s H vs Q E hg hr h => ?_)
  · obtain ⟨d, a, k, xs, rfl, _⟩ := h
    rfl
  · obtain ⟨d, a, k, xs, rfl, pen, k9, ha, l0, l9, q⟩ := h
    refine ⟨_, pss_one (ps_ret (pe_ix ix_list (pv 1) (pe_callG (ok_draw T) hr hg (by rfl) (T.g "_law_draw" (by decide +kernel)) (kp__law_draw T.d) pass0
      (pa_cons (pv 0) (pa_cons (pe_callB call_len_seq (by rfl) (T.z "len" (by decide +kernel)) (by decide +kernel) (pa_cons (pv 1) pa_nil)) pa_nil))) (fun _ _ => rfl))), ?_⟩
    refine ⟨_, rfl, _, rfl, _, rfl, a, xs, rfl, .inl (SqL.of ha), d, k, _, rfl, pen, k9, by omega, by omega, fun i H1 bt pen1 i0 i1 => ?_⟩
    have ha1 := bt.1 a _ ha (pen_ne pen ha)
    obtain ⟨j, rfl⟩ : ∃ j : Nat, i = (j : Int) := ⟨i.toNat, by omega⟩
    have jl : j < xs.length := by omega
    refine ⟨a, xs, _, xs[j], rfl, rfl, SqL.of ha1, atI_nat (List.getElem?_eq_getElem jl), q _ H1 (List.getElem_mem jl) bt pen1⟩
end
end K02

namespace K02
open PySem PySem.Spec PyProof.Rows L2 Ver Num
section
variable {P : Program} {w : World} {K : PySem.W.Frag} {mg : Str → Option Value} {base : Heap}
/-- a value without parts -/
def atomD : PyData → Bool
  | .list _ => false
  | .tuple _ => false
  | .dict _ => false
  | _ => true
/-- how long it is, shown; of a tuple what its parts are together -/
def wtD : PyData → Nat
  | .tuple ds => piled (PyData.shownAll ds)
  | d => d.shown.length
def flatT : PyData → Bool
  | .tuple ds => ds.all atomD
  | _ => true
def OkO (d : PyData) : Prop := d.showable = true ∧ wtD d ≤ 1000 ∧ d.depth ≤ 4 ∧ flatT d = true
/-- a value that stays while the pen at p draws -/
def DoS (p : Addr) (K : PySem.W.Frag) (H : Hp) (x : V) (d : PyData) : Prop := ∀ H2, But p H H2 → Do K H2 x d
theorem DoS.do_ {p : Addr} {K : PySem.W.Frag} {H : Hp} {x : V} {d : PyData} (h : DoS p K H x d) : Do K H x d := h H But.refl
theorem DoS.but {p : Addr} {K : PySem.W.Frag} {H H' : Hp} {x : V} {d : PyData} (h : DoS p K H x d) (b : But p H H') : DoS p K H' x d := fun H2 b2 => h H2 (b.trans b2)
theorem up2 {H : Hp} {p : Addr} {o o2 : HO} (h : H p = none) : Same H (upd (upd H p o) p o2) := fun b x e => by
  rw [upd_ne (ne_of_none e h), upd_ne (ne_of_none e h)]
  exact e
abbrev oL1 : List V := [.non, .bl true, .bl false, .int 0, .int 1, .int (-1), .int 2, .int 7, .int 160, .int 161, .int (10 ^ (30 : Int).toNat), .str "", .str "a", .str "b", .str "ab", .str "ba"]
abbrev oL2 : List V := [.int (10 ^ (50 : Int).toNat * 10 ^ (50 : Int).toNat * 10 ^ (9 : Int).toNat), .int (0 - 10 ^ (50 : Int).toNat * 10 ^ (50 : Int).toNat * 10 ^ (9 : Int).toNat)]
abbrev oL3 (a b c d e : Addr) : List V := [.str "A", .str "0", .str "1", .str "1/2", .str "fractions", .str "modulo 7", .str "a b", .str " ", .str "aa", .str "abcde", .ref a, .ref b, .ref c, .ref d, .ref e]
abbrev oL4 (a b c d e f g h i j k : Addr) : List V := [.ref a, .ref b, .ref c, .ref d, .ref e, .ref f, .ref g, .ref h, .ref i, .ref j, .ref k]
def spOdd (K : PySem.W.Frag) : Sp := fun vs H Q _ => ∃ (d : Addr) (k : Int), vs = [.ref d] ∧ PenAt H d k ∧ k < 1000000 ∧ ∀ (x : V) (dd : PyData) (H' : Hp), DoS d K H' x dd → OkO dd → But d H H' → PenAt H' d (k + 1) → Q x H'
theorem ok_odd (T : Tx K mg) : FnG P w K mg base CX0 3 (He.ga K "_law_odd") (spOdd K) := by
  refine mk__law_odd T.d (fun vs H Q E h => ?_) (fun cdv A outer s H vs Q E hg hr h => ?_)
  · obtain ⟨d, k, rfl, _⟩ := h
    rfl
  · obtain ⟨d, k, rfl, pen, k9, q⟩ := h
    have nd := sc__law_odd.nd
    refine ⟨_, pss_cons (ps_set (i := 1) nd rfl (Or.inl rfl) (pe_lst (pa_cons pe_non (pa_cons pe_bl (pa_cons pe_bl (pa_cons pe_int (pa_cons pe_int (pa_cons (pe_un un_neg pe_int) (pa_cons pe_int (pa_cons pe_int (pa_cons pe_int (pa_cons pe_int (pa_cons (pe_op op_pow pe_int pe_int) (pa_cons pe_str (pa_cons pe_str (pa_cons pe_str (pa_cons pe_str (pa_cons pe_str pa_nil))))))))))))))))))
      (pss_cons (ps_set (i := 1) nd rfl (Or.inl rfl) (pe_op op_cat (pv 1) (pe_lst (pa_cons (pe_op op_mulW (pe_op op_mulW (pe_op op_pow pe_int pe_int) (pe_op op_pow pe_int pe_int)) (pe_op op_pow pe_int pe_int)) (pa_cons (pe_op op_sub pe_int (pe_op op_mulW (pe_op op_mulW (pe_op op_pow pe_int pe_int) (pe_op op_pow pe_int pe_int)) (pe_op op_pow pe_int pe_int))) pa_nil)))))
      (pss_cons (ps_set (i := 1) nd rfl (Or.inl rfl) (pe_op op_cat (pv 1) (pe_lst (pa_cons pe_str (pa_cons pe_str (pa_cons pe_str (pa_cons pe_str (pa_cons pe_str (pa_cons pe_str (pa_cons pe_str (pa_cons pe_str (pa_cons pe_str (pa_cons pe_str (pa_cons (pe_tup pa_nil) (pa_cons (pe_lst pa_nil) (pa_cons pe_dnewK (pa_cons (pe_tup (pa_cons pe_str pa_nil)) (pa_cons (pe_lst (pa_cons pe_str pa_nil)) pa_nil))))))))))))))))))
      (pss_cons (ps_set (i := 1) nd rfl (Or.inl rfl) (pe_op op_cat (pv 1) (pe_lst (pa_cons (pe_lst (pa_cons pe_int pa_nil)) (pa_cons (pe_tup (pa_cons pe_int (pa_cons pe_int pa_nil))) (pa_cons (pe_tup (pa_cons pe_int (pa_cons pe_int pa_nil))) (pa_cons (pe_tup (pa_cons pe_int (pa_cons pe_int pa_nil))) (pa_cons (pe_tup (pa_cons pe_int (pa_cons pe_int pa_nil))) (pa_cons (pe_tup (pa_cons pe_int (pa_cons pe_int pa_nil))) (pa_cons (pe_tup (pa_cons pe_int (pa_cons (pe_un un_neg pe_int) pa_nil))) (pa_cons (pe_tup (pa_cons pe_bl (pa_cons pe_int pa_nil))) (pa_cons (pe_lst (pa_cons pe_int (pa_cons pe_int pa_nil))) (pa_cons (pe_tup (pa_cons pe_int (pa_cons pe_int (pa_cons pe_int pa_nil)))) (pa_cons (pe_disp (pps_cons pe_str pe_int pps_nil) (by rfl) (by rfl) (fun z => by cases z) (by decide)) pa_nil))))))))))))))
      (pss_one (ps_ret (pe_callG (ok_pick T) hr hg (by rfl) (T.g "_law_pick" (by decide +kernel)) (kp__law_pick T.d) pass0 (pa_cons (pv 0) (pa_cons (pv 1) pa_nil)))))))), ?_⟩
    refine ⟨_, rfl, _, _, rfl, rfl, ⟨by decide, by decide, by decide⟩, by show 16 ≤ sizeLine; decide, fun l1 n1 => ?_⟩
    have s_l1 := same_up (o := .lst oL1) n1
    refine ⟨_, rfl, _, _, rfl, rfl, ⟨by decide, by decide, by decide⟩, _, _, rfl, rfl, ⟨by decide, by decide, by decide⟩, _, _, rfl, rfl, (by show CMulW _ _; unfold CMulW; decide +kernel), _, _, rfl, rfl, ⟨by decide, by decide, by decide⟩, _, _, rfl, rfl, (by show CMulW _ _; unfold CMulW; decide +kernel), _, _, rfl, rfl, ⟨by decide, by decide, by decide⟩, _, _, rfl, rfl, ⟨by decide, by decide, by decide⟩, _, _, rfl, rfl, (by show CMulW _ _; unfold CMulW; decide +kernel), _, _, rfl, rfl, ⟨by decide, by decide, by decide⟩, _, _, rfl, rfl, (by show CMulW _ _; unfold CMulW; decide +kernel), _, _, rfl, rfl, by show 2 ≤ sizeLine; decide, fun l2 n2 => ?_⟩
    have s_l2 := same_up (o := .lst oL2) n2
    refine ⟨l1, l2, _, _, rfl, rfl, s_l2 _ _ upd_same, upd_same, by show 16 + 2 ≤ sizeLine; decide, fun c2 n3 => ?_⟩
    have s_c2 := same_up (o := .lst (oL1 ++ oL2)) n3
    refine ⟨_, rfl, by show 0 ≤ sizeLine; decide, fun a1 m1 => ?_⟩
    have s_a1 := same_up (o := .tup []) m1
    refine ⟨by show 0 ≤ sizeLine; decide, fun a2 m2 => ?_⟩
    have s_a2 := same_up (o := .lst []) m2
    refine fun a3 m3 => ?_
    have s_a3 := same_up (o := .dK []) m3
    refine ⟨by show 1 ≤ sizeLine; decide, fun a4 m4 => ?_⟩
    have s_a4 := same_up (o := .tup [V.str "a"]) m4
    refine ⟨by show 1 ≤ sizeLine; decide, fun a5 m5 => ?_⟩
    have s_a5 := same_up (o := .lst [V.str "a"]) m5
    refine ⟨by show 15 ≤ sizeLine; decide, fun l3 n4 => ?_⟩
    have s_l3 := same_up (o := .lst (oL3 a1 a2 a3 a4 a5)) n4
    refine ⟨c2, l3, _, _, rfl, rfl, (((((s_a1.trans s_a2).trans s_a3).trans s_a4).trans s_a5).trans s_l3) _ _ upd_same, upd_same, by show 18 + 15 ≤ sizeLine; decide, fun c3 n5 => ?_⟩
    have s_c3 := same_up (o := .lst (oL1 ++ oL2 ++ oL3 a1 a2 a3 a4 a5)) n5
    refine ⟨_, rfl, by show 1 ≤ sizeLine; decide, fun a6 m6 => ?_⟩
    have s_a6 := same_up (o := .lst [V.int 1]) m6
    refine ⟨by show 2 ≤ sizeLine; decide, fun a7 m7 => ?_⟩
    have s_a7 := same_up (o := .tup [V.int 1, V.int 2]) m7
    refine ⟨by show 2 ≤ sizeLine; decide, fun a8 m8 => ?_⟩
    have s_a8 := same_up (o := .tup [V.int 2, V.int 4]) m8
    refine ⟨by show 2 ≤ sizeLine; decide, fun a9 m9 => ?_⟩
    have s_a9 := same_up (o := .tup [V.int 0, V.int 2]) m9
    refine ⟨by show 2 ≤ sizeLine; decide, fun a10 m10 => ?_⟩
    have s_a10 := same_up (o := .tup [V.int 1, V.int 1]) m10
    refine ⟨by show 2 ≤ sizeLine; decide, fun a11 m11 => ?_⟩
    have s_a11 := same_up (o := .tup [V.int 1, V.int 0]) m11
    refine ⟨_, rfl, by show 2 ≤ sizeLine; decide, fun a12 m12 => ?_⟩
    have s_a12 := same_up (o := .tup [V.int 1, V.int (-2)]) m12
    refine ⟨by show 2 ≤ sizeLine; decide, fun a13 m13 => ?_⟩
    have s_a13 := same_up (o := .tup [V.bl true, V.int 2]) m13
    refine ⟨by show 2 ≤ sizeLine; decide, fun a14 m14 => ?_⟩
    have s_a14 := same_up (o := .lst [V.int 1, V.int 2]) m14
    refine ⟨by show 3 ≤ sizeLine; decide, fun a15 m15 => ?_⟩
    have s_a15 := same_up (o := .tup [V.int 1, V.int 2, V.int 3]) m15
    refine fun a16 m16 => ?_
    refine ⟨upd_same, [(.inr "a", .int 1)], rfl, by show 1 ≤ 15; decide, ?_⟩
    have s_a16 := up2 (o := .dK []) (o2 := .dK (mergeK [] [((.inr "a" : Key), V.int 1)])) m16
    refine ⟨by show 11 ≤ sizeLine; decide, fun l4 n6 => ?_⟩
    have s_l4 := same_up (o := .lst (oL4 a6 a7 a8 a9 a10 a11 a12 a13 a14 a15 a16)) n6
    refine ⟨c3, l4, _, _, rfl, rfl, (((((((((((s_a6.trans s_a7).trans s_a8).trans s_a9).trans s_a10).trans s_a11).trans s_a12).trans s_a13).trans s_a14).trans s_a15).trans s_a16).trans s_l4) _ _ upd_same, upd_same, by show 33 + 11 ≤ sizeLine; decide, fun c4 n7 => ?_⟩
    have s_c4 := same_up (o := .lst (oL1 ++ oL2 ++ oL3 a1 a2 a3 a4 a5 ++ oL4 a6 a7 a8 a9 a10 a11 a12 a13 a14 a15 a16)) n7
    have tA := ((((((((((((((((((((((s_l1.trans s_l2).trans s_c2).trans s_a1).trans s_a2).trans s_a3).trans s_a4).trans s_a5).trans s_l3).trans s_c3).trans s_a6).trans s_a7).trans s_a8).trans s_a9).trans s_a10).trans s_a11).trans s_a12).trans s_a13).trans s_a14).trans s_a15).trans s_a16).trans s_l4).trans s_c4)
    refine ⟨_, rfl, _, rfl, d, c4, k, _, rfl, pen.same tA, by omega, upd_same, by show 0 < 44; decide, by show 44 < 1000; decide, fun x H9 hx bt pen9 => ?_⟩
    have c := (But.same tA).trans bt
    obtain ⟨pc, pcells, pb, pl, pd, _⟩ := (pen.same tA).ex
    have em : mergeK [] [((.inr "a" : Key), V.int 1)] = [(.inr "a", V.int 1)] := by simp [mergeK, putK]
    have h_a1 := ((((((((((((((((((s_a2.trans s_a3).trans s_a4).trans s_a5).trans s_l3).trans s_c3).trans s_a6).trans s_a7).trans s_a8).trans s_a9).trans s_a10).trans s_a11).trans s_a12).trans s_a13).trans s_a14).trans s_a15).trans s_a16).trans s_l4).trans s_c4) _ _ (upd_same (a := a1))
    have h_a2 := (((((((((((((((((s_a3.trans s_a4).trans s_a5).trans s_l3).trans s_c3).trans s_a6).trans s_a7).trans s_a8).trans s_a9).trans s_a10).trans s_a11).trans s_a12).trans s_a13).trans s_a14).trans s_a15).trans s_a16).trans s_l4).trans s_c4) _ _ (upd_same (a := a2))
    have h_a3 := ((((((((((((((((s_a4.trans s_a5).trans s_l3).trans s_c3).trans s_a6).trans s_a7).trans s_a8).trans s_a9).trans s_a10).trans s_a11).trans s_a12).trans s_a13).trans s_a14).trans s_a15).trans s_a16).trans s_l4).trans s_c4) _ _ (upd_same (a := a3))
    have h_a4 := (((((((((((((((s_a5.trans s_l3).trans s_c3).trans s_a6).trans s_a7).trans s_a8).trans s_a9).trans s_a10).trans s_a11).trans s_a12).trans s_a13).trans s_a14).trans s_a15).trans s_a16).trans s_l4).trans s_c4) _ _ (upd_same (a := a4))
    have h_a5 := ((((((((((((((s_l3.trans s_c3).trans s_a6).trans s_a7).trans s_a8).trans s_a9).trans s_a10).trans s_a11).trans s_a12).trans s_a13).trans s_a14).trans s_a15).trans s_a16).trans s_l4).trans s_c4) _ _ (upd_same (a := a5))
    have h_a6 := (((((((((((s_a7.trans s_a8).trans s_a9).trans s_a10).trans s_a11).trans s_a12).trans s_a13).trans s_a14).trans s_a15).trans s_a16).trans s_l4).trans s_c4) _ _ (upd_same (a := a6))
    have h_a7 := ((((((((((s_a8.trans s_a9).trans s_a10).trans s_a11).trans s_a12).trans s_a13).trans s_a14).trans s_a15).trans s_a16).trans s_l4).trans s_c4) _ _ (upd_same (a := a7))
    have h_a8 := (((((((((s_a9.trans s_a10).trans s_a11).trans s_a12).trans s_a13).trans s_a14).trans s_a15).trans s_a16).trans s_l4).trans s_c4) _ _ (upd_same (a := a8))
    have h_a9 := ((((((((s_a10.trans s_a11).trans s_a12).trans s_a13).trans s_a14).trans s_a15).trans s_a16).trans s_l4).trans s_c4) _ _ (upd_same (a := a9))
    have h_a10 := (((((((s_a11.trans s_a12).trans s_a13).trans s_a14).trans s_a15).trans s_a16).trans s_l4).trans s_c4) _ _ (upd_same (a := a10))
    have h_a11 := ((((((s_a12.trans s_a13).trans s_a14).trans s_a15).trans s_a16).trans s_l4).trans s_c4) _ _ (upd_same (a := a11))
    have h_a12 := (((((s_a13.trans s_a14).trans s_a15).trans s_a16).trans s_l4).trans s_c4) _ _ (upd_same (a := a12))
    have h_a13 := ((((s_a14.trans s_a15).trans s_a16).trans s_l4).trans s_c4) _ _ (upd_same (a := a13))
    have h_a14 := (((s_a15.trans s_a16).trans s_l4).trans s_c4) _ _ (upd_same (a := a14))
    have h_a15 := ((s_a16.trans s_l4).trans s_c4) _ _ (upd_same (a := a15))
    have h_a16 := (s_l4.trans s_c4) _ _ (upd_same (a := a16))
    simp only [List.mem_append, List.mem_cons, List.not_mem_nil, or_false] at hx
    rcases hx with ((hx | hx) | hx) | hx
    · rcases hx with rfl | rfl | rfl | rfl | rfl | rfl | rfl | rfl | rfl | rfl | rfl | rfl | rfl | rfl | rfl | rfl
      · exact q _ _ H9 (fun H2 b2 => .non) (by exact ⟨by decide +kernel, by decide +kernel, by decide +kernel, by decide +kernel⟩) c pen9
      · exact q _ _ H9 (fun H2 b2 => (.bl _)) (by exact ⟨by decide +kernel, by decide +kernel, by decide +kernel, by decide +kernel⟩) c pen9
      · exact q _ _ H9 (fun H2 b2 => (.bl _)) (by exact ⟨by decide +kernel, by decide +kernel, by decide +kernel, by decide +kernel⟩) c pen9
      · exact q _ _ H9 (fun H2 b2 => (.int _)) (by exact ⟨by decide +kernel, by decide +kernel, by decide +kernel, by decide +kernel⟩) c pen9
      · exact q _ _ H9 (fun H2 b2 => (.int _)) (by exact ⟨by decide +kernel, by decide +kernel, by decide +kernel, by decide +kernel⟩) c pen9
      · exact q _ _ H9 (fun H2 b2 => (.int _)) (by exact ⟨by decide +kernel, by decide +kernel, by decide +kernel, by decide +kernel⟩) c pen9
      · exact q _ _ H9 (fun H2 b2 => (.int _)) (by exact ⟨by decide +kernel, by decide +kernel, by decide +kernel, by decide +kernel⟩) c pen9
      · exact q _ _ H9 (fun H2 b2 => (.int _)) (by exact ⟨by decide +kernel, by decide +kernel, by decide +kernel, by decide +kernel⟩) c pen9
      · exact q _ _ H9 (fun H2 b2 => (.int _)) (by exact ⟨by decide +kernel, by decide +kernel, by decide +kernel, by decide +kernel⟩) c pen9
      · exact q _ _ H9 (fun H2 b2 => (.int _)) (by exact ⟨by decide +kernel, by decide +kernel, by decide +kernel, by decide +kernel⟩) c pen9
      · exact q _ _ H9 (fun H2 b2 => (.int _)) (by exact ⟨by decide +kernel, by decide +kernel, by decide +kernel, by decide +kernel⟩) c pen9
      · exact q _ _ H9 (fun H2 b2 => (.str _)) (by exact ⟨by decide +kernel, by decide +kernel, by decide +kernel, by decide +kernel⟩) c pen9
      · exact q _ _ H9 (fun H2 b2 => (.str _)) (by exact ⟨by decide +kernel, by decide +kernel, by decide +kernel, by decide +kernel⟩) c pen9
      · exact q _ _ H9 (fun H2 b2 => (.str _)) (by exact ⟨by decide +kernel, by decide +kernel, by decide +kernel, by decide +kernel⟩) c pen9
      · exact q _ _ H9 (fun H2 b2 => (.str _)) (by exact ⟨by decide +kernel, by decide +kernel, by decide +kernel, by decide +kernel⟩) c pen9
      · exact q _ _ H9 (fun H2 b2 => (.str _)) (by exact ⟨by decide +kernel, by decide +kernel, by decide +kernel, by decide +kernel⟩) c pen9
    · rcases hx with rfl | rfl
      · exact q _ _ H9 (fun H2 b2 => (.int _)) (by exact ⟨by decide +kernel, by decide +kernel, by decide +kernel, by decide +kernel⟩) c pen9
      · exact q _ _ H9 (fun H2 b2 => (.int _)) (by exact ⟨by decide +kernel, by decide +kernel, by decide +kernel, by decide +kernel⟩) c pen9
    · rcases hx with rfl | rfl | rfl | rfl | rfl | rfl | rfl | rfl | rfl | rfl | rfl | rfl | rfl | rfl | rfl
      · exact q _ _ H9 (fun H2 b2 => (.str _)) (by exact ⟨by decide +kernel, by decide +kernel, by decide +kernel, by decide +kernel⟩) c pen9
      · exact q _ _ H9 (fun H2 b2 => (.str _)) (by exact ⟨by decide +kernel, by decide +kernel, by decide +kernel, by decide +kernel⟩) c pen9
      · exact q _ _ H9 (fun H2 b2 => (.str _)) (by exact ⟨by decide +kernel, by decide +kernel, by decide +kernel, by decide +kernel⟩) c pen9
      · exact q _ _ H9 (fun H2 b2 => (.str _)) (by exact ⟨by decide +kernel, by decide +kernel, by decide +kernel, by decide +kernel⟩) c pen9
      · exact q _ _ H9 (fun H2 b2 => (.str _)) (by exact ⟨by decide +kernel, by decide +kernel, by decide +kernel, by decide +kernel⟩) c pen9
      · exact q _ _ H9 (fun H2 b2 => (.str _)) (by exact ⟨by decide +kernel, by decide +kernel, by decide +kernel, by decide +kernel⟩) c pen9
      · exact q _ _ H9 (fun H2 b2 => (.str _)) (by exact ⟨by decide +kernel, by decide +kernel, by decide +kernel, by decide +kernel⟩) c pen9
      · exact q _ _ H9 (fun H2 b2 => (.str _)) (by exact ⟨by decide +kernel, by decide +kernel, by decide +kernel, by decide +kernel⟩) c pen9
      · exact q _ _ H9 (fun H2 b2 => (.str _)) (by exact ⟨by decide +kernel, by decide +kernel, by decide +kernel, by decide +kernel⟩) c pen9
      · exact q _ _ H9 (fun H2 b2 => (.str _)) (by exact ⟨by decide +kernel, by decide +kernel, by decide +kernel, by decide +kernel⟩) c pen9
      · exact q _ _ H9 (fun H2 b2 => (.tup (.inl (.inl ((bt.trans b2).1 _ _ h_a1 (ne_of h_a1 pd (by intro z; cases z))))) .nil)) (by exact ⟨by decide +kernel, by decide +kernel, by decide +kernel, by decide +kernel⟩) c pen9
      · exact q _ _ H9 (fun H2 b2 => (.lst (.inl (.inl ((bt.trans b2).1 _ _ h_a2 (ne_of h_a2 pd (by intro z; cases z))))) .nil)) (by exact ⟨by decide +kernel, by decide +kernel, by decide +kernel, by decide +kernel⟩) c pen9
      · exact q _ _ H9 (fun H2 b2 => (.dic ((bt.trans b2).1 _ _ h_a3 (ne_of h_a3 pd (by intro z; have z := HO.dK.inj z; simp [penL] at z))) .nil)) (by exact ⟨by decide +kernel, by decide +kernel, by decide +kernel, by decide +kernel⟩) c pen9
      · exact q _ _ H9 (fun H2 b2 => (.tup (.inl (.inl ((bt.trans b2).1 _ _ h_a4 (ne_of h_a4 pd (by intro z; cases z))))) (.cons (.str _) .nil))) (by exact ⟨by decide +kernel, by decide +kernel, by decide +kernel, by decide +kernel⟩) c pen9
      · exact q _ _ H9 (fun H2 b2 => (.lst (.inl (.inl ((bt.trans b2).1 _ _ h_a5 (ne_of h_a5 pd (by intro z; cases z))))) (.cons (.str _) .nil))) (by exact ⟨by decide +kernel, by decide +kernel, by decide +kernel, by decide +kernel⟩) c pen9
    · rcases hx with rfl | rfl | rfl | rfl | rfl | rfl | rfl | rfl | rfl | rfl | rfl
      · exact q _ _ H9 (fun H2 b2 => (.lst (.inl (.inl ((bt.trans b2).1 _ _ h_a6 (ne_of h_a6 pd (by intro z; cases z))))) (.cons (.int _) .nil))) (by exact ⟨by decide +kernel, by decide +kernel, by decide +kernel, by decide +kernel⟩) c pen9
      · exact q _ _ H9 (fun H2 b2 => (.tup (.inl (.inl ((bt.trans b2).1 _ _ h_a7 (ne_of h_a7 pd (by intro z; cases z))))) (.cons (.int _) (.cons (.int _) .nil)))) (by exact ⟨by decide +kernel, by decide +kernel, by decide +kernel, by decide +kernel⟩) c pen9
      · exact q _ _ H9 (fun H2 b2 => (.tup (.inl (.inl ((bt.trans b2).1 _ _ h_a8 (ne_of h_a8 pd (by intro z; cases z))))) (.cons (.int _) (.cons (.int _) .nil)))) (by exact ⟨by decide +kernel, by decide +kernel, by decide +kernel, by decide +kernel⟩) c pen9
      · exact q _ _ H9 (fun H2 b2 => (.tup (.inl (.inl ((bt.trans b2).1 _ _ h_a9 (ne_of h_a9 pd (by intro z; cases z))))) (.cons (.int _) (.cons (.int _) .nil)))) (by exact ⟨by decide +kernel, by decide +kernel, by decide +kernel, by decide +kernel⟩) c pen9
      · exact q _ _ H9 (fun H2 b2 => (.tup (.inl (.inl ((bt.trans b2).1 _ _ h_a10 (ne_of h_a10 pd (by intro z; cases z))))) (.cons (.int _) (.cons (.int _) .nil)))) (by exact ⟨by decide +kernel, by decide +kernel, by decide +kernel, by decide +kernel⟩) c pen9
      · exact q _ _ H9 (fun H2 b2 => (.tup (.inl (.inl ((bt.trans b2).1 _ _ h_a11 (ne_of h_a11 pd (by intro z; cases z))))) (.cons (.int _) (.cons (.int _) .nil)))) (by exact ⟨by decide +kernel, by decide +kernel, by decide +kernel, by decide +kernel⟩) c pen9
      · exact q _ _ H9 (fun H2 b2 => (.tup (.inl (.inl ((bt.trans b2).1 _ _ h_a12 (ne_of h_a12 pd (by intro z; cases z))))) (.cons (.int _) (.cons (.int _) .nil)))) (by exact ⟨by decide +kernel, by decide +kernel, by decide +kernel, by decide +kernel⟩) c pen9
      · exact q _ _ H9 (fun H2 b2 => (.tup (.inl (.inl ((bt.trans b2).1 _ _ h_a13 (ne_of h_a13 pd (by intro z; cases z))))) (.cons (.bl _) (.cons (.int _) .nil)))) (by exact ⟨by decide +kernel, by decide +kernel, by decide +kernel, by decide +kernel⟩) c pen9
      · exact q _ _ H9 (fun H2 b2 => (.lst (.inl (.inl ((bt.trans b2).1 _ _ h_a14 (ne_of h_a14 pd (by intro z; cases z))))) (.cons (.int _) (.cons (.int _) .nil)))) (by exact ⟨by decide +kernel, by decide +kernel, by decide +kernel, by decide +kernel⟩) c pen9
      · exact q _ _ H9 (fun H2 b2 => (.tup (.inl (.inl ((bt.trans b2).1 _ _ h_a15 (ne_of h_a15 pd (by intro z; cases z))))) (.cons (.int _) (.cons (.int _) (.cons (.int _) .nil))))) (by exact ⟨by decide +kernel, by decide +kernel, by decide +kernel, by decide +kernel⟩) c pen9
      · exact q _ _ H9 (fun H2 b2 => (.dic (by rw [em] at h_a16; exact (bt.trans b2).1 _ _ h_a16 (ne_of h_a16 pd (by intro z; have z := HO.dK.inj z; simp [penL] at z))) (.cons (k := .inr "a") (.int 1) .nil))) (by exact ⟨by decide +kernel, by decide +kernel, by decide +kernel, by decide +kernel⟩) c pen9
end
end K02

namespace K02
open PySem PySem.Spec PyProof.Rows L2 Ver Num
section
variable {P : Program} {w : World} {K : PySem.W.Frag} {mg : Str → Option Value} {base : Heap}
/-- an int that is no bool -/
def isI : PyData → Bool
  | .int _ => true
  | _ => false
theorem isI_is (d : PyData) : (is_int d && !is_bool d) = isI d := by cases d <;> rfl
def spInt (K : PySem.W.Frag) : Sp := fun vs H Q _ => ∃ (x : V) (d : PyData), vs = [x] ∧ Do K H x d ∧ Q (.bl (isI d)) H
theorem ok_is_integer (T : Tx K mg) : FnG P w K mg base CX0 1 (He.ga K "is_integer") (spInt K) := by
  refine mk_is_integer T.d (fun vs H Q E h => ?_) (fun cdv A outer s H vs Q E hg hr h => ?_)
  · obtain ⟨x, d, rfl, _⟩ := h
    rfl
  · obtain ⟨x, d, rfl, hd, q⟩ := h
    have zi := T.z "isinstance" (by decide +kernel)
    rw [← isI_is] at q
    refine ⟨_, pss_one (ps_ret (pe_and (pe_callB call_isi (by rfl) zi (by decide +kernel) (pa_cons (pv 0) (pa_cons (pe_bltn (v := .ty "int") (by rfl) (T.z "int" (by decide +kernel)) (by decide +kernel) rfl) pa_nil)))
      (pe_one (pe_not (pe_callB call_isi (by rfl) zi (by decide +kernel) (pa_cons (pv 0) (pa_cons (pe_bltn (v := .ty "bool") (by rfl) (T.z "bool" (by decide +kernel)) (by decide +kernel) rfl) pa_nil))))))), ?_⟩
    refine ⟨_, rfl, _, _, _, _, _, rfl, .ty "int", hd.ty, kit_int d, _, rfl, ?_⟩
    cases e : is_int d with
    | false =>
      rw [e] at q
      exact ifF rfl q
    | true =>
      rw [e] at q
      exact ifT rfl ⟨_, rfl, _, _, _, _, _, rfl, .ty "bool", hd.ty, kit_bool d, _, rfl, q⟩
theorem ok_is_whole (T : Tx K mg) : FnG P w K mg base CX0 1 (He.ga K "_law_is_whole") (spInt K) := by
  refine mk__law_is_whole T.d (fun vs H Q E h => ?_) (fun cdv A outer s H vs Q E hg hr h => ?_)
  · obtain ⟨x, d, rfl, _⟩ := h
    rfl
  · obtain ⟨x, d, rfl, hd, q⟩ := h
    have zi := T.z "isinstance" (by decide +kernel)
    rw [← isI_is] at q
    refine ⟨_, pss_one (ps_ret (pe_and (pe_callB call_isi (by rfl) zi (by decide +kernel) (pa_cons (pv 0) (pa_cons (pe_bltn (v := .ty "int") (by rfl) (T.z "int" (by decide +kernel)) (by decide +kernel) rfl) pa_nil)))
      (pe_one (pe_not (pe_callB call_isi (by rfl) zi (by decide +kernel) (pa_cons (pv 0) (pa_cons (pe_bltn (v := .ty "bool") (by rfl) (T.z "bool" (by decide +kernel)) (by decide +kernel) rfl) pa_nil))))))), ?_⟩
    refine ⟨_, rfl, _, _, _, _, _, rfl, .ty "int", hd.ty, kit_int d, _, rfl, ?_⟩
    cases e : is_int d with
    | false =>
      rw [e] at q
      exact ifF rfl q
    | true =>
      rw [e] at q
      exact ifT rfl ⟨_, rfl, _, _, _, _, _, rfl, .ty "bool", hd.ty, kit_bool d, _, rfl, q⟩
def btw (lo hi : Int) : PyData → Bool
  | .int i => decide (lo ≤ i) && decide (i ≤ hi)
  | _ => false
def spBtw (K : PySem.W.Frag) : Sp := fun vs H Q _ => ∃ (x : V) (d : PyData) (lo hi : Int), vs = [x, .int lo, .int hi] ∧ Do K H x d ∧ Q (.bl (btw lo hi d)) H
theorem btw_not {lo hi : Int} {d : PyData} (h : isI d = false) : btw lo hi d = false := by cases d <;> first | rfl | cases h
theorem ok_is_between (T : Tx K mg) : FnG P w K mg base CX0 2 (He.ga K "is_between") (spBtw K) := by
  refine mk_is_between T.d (fun vs H Q E h => ?_) (fun cdv A outer s H vs Q E hg hr h => ?_)
  · obtain ⟨x, d, lo, hi, rfl, _⟩ := h
    rfl
  · obtain ⟨x, d, lo, hi, rfl, hd, q⟩ := h
    refine ⟨_, pss_one (ps_ret (pe_and (pe_callG (ok_is_integer T) hr hg (by rfl) (T.g "is_integer" (by decide +kernel)) (kp_is_integer T.d) pass0 (pa_cons (pv 0) pa_nil))
      (pe_one (pe_chain op_le op_le (pv 1) (pv 0) (pv 2))))), ?_⟩
    refine ⟨_, rfl, x, d, rfl, hd, _, rfl, ?_⟩
    cases e : isI d with
    | false =>
      rw [btw_not e] at q
      exact ifF rfl q
    | true =>
      cases hd with
      | int i =>
        refine ifT rfl ⟨_, rfl, _, rfl, _, _, rfl, rfl, _, rfl, ?_⟩
        have q : Q (.bl (decide (lo ≤ i) && decide (i ≤ hi))) H := q
        by_cases h : lo ≤ i
        · rw [decide_eq_true h] at q
          exact ifT (decide_eq_true h) ⟨_, rfl, _, _, rfl, rfl, q⟩
        · rw [decide_eq_false h] at q
          exact ifF (decide_eq_false h) q
      | _ => cases e
end
end K02

namespace K02
open PySem PySem.Spec PyProof.Rows L2 Ver Num
section
variable {P : Program} {w : World} {K : PySem.W.Frag} {mg : Str → Option Value} {base : Heap}
theorem doall_len {H : Hp} : ∀ {xs : List V} {ds : List PyData}, DoAll K H xs ds → xs.length = ds.length
  | [], [], _ => rfl
  | x :: xs, d :: ds, h => by
    cases h with
    | cons h1 h2 => rw [List.length_cons, List.length_cons, doall_len h2]
  | [], _ :: _, h => by cases h
  | _ :: _, [], h => by cases h
/-- a pair of ints in lowest terms, the lower one from 2 on -/
def frac : PyData → Bool
  | .tuple [.int t, .int b] => decide (2 ≤ b) && decide (Nat.gcd t.natAbs b.natAbs = 1)
  | _ => false
def frac2 : PyData → PyData → Bool
  | .int t, .int b => decide (2 ≤ b) && decide (Nat.gcd t.natAbs b.natAbs = 1)
  | _, _ => false
theorem frac_two (d e : PyData) : frac (.tuple [d, e]) = frac2 d e := by cases d <;> cases e <;> rfl
theorem frac_not {d : PyData} (h : is_tuple d = false) : frac d = false := by cases d <;> first | rfl | cases h
theorem frac_len {ds : List PyData} (h : ds.length ≠ 2) : frac (.tuple ds) = false := by
  match ds, h with
  | [], _ => rfl
  | [d1], _ => cases d1 <;> rfl
  | [_, _], h => exact absurd rfl h
  | d1 :: d2 :: _ :: _, _ => cases d1 <;> cases d2 <;> rfl
def spFrac (K : PySem.W.Frag) : Sp := fun vs H Q _ => ∃ (x : V) (d : PyData), vs = [x] ∧ Do K H x d ∧ Q (.bl (frac d)) H
theorem ok_is_fraction (T : Tx K mg) : FnG P w K mg base CX0 2 (He.ga K "is_fraction") (spFrac K) := by
  refine mk_is_fraction T.d (fun vs H Q E h => ?_) (fun cdv A outer s H vs Q E hg hr h => ?_)
  · obtain ⟨x, d, rfl, _⟩ := h
    rfl
  · obtain ⟨x, d, rfl, hd, q⟩ := h
    have nd := sc_is_fraction.nd
    have gi := T.g "is_integer" (by decide +kernel)
    refine ⟨_, pss_cons (ps_if (PW.pt (pw_or (pt_not (pt_val (pe_callB call_isi (by rfl) (T.z "isinstance" (by decide +kernel)) (by decide +kernel) (pa_cons (pv 0) (pa_cons (pe_bltn (v := .ty "tuple") (by rfl) (T.z "tuple" (by decide +kernel)) (by decide +kernel) rfl) pa_nil)))))
        (pw_or1 (pt_cmpR op_ne (pe_callB call_len_seq (by rfl) (T.z "len" (by decide +kernel)) (by decide +kernel) (pa_cons (pv 0) pa_nil)) pe_int (nomark _))))) (pss_one (ps_ret pe_bl)) pss_nil)
      (pss_cons (ps_asg (pv 0) (pg_tup rfl (pgs_cons (pg_name (i := 1) nd rfl (.inl rfl)) (pgs_cons (pg_name (i := 2) nd rfl (.inl rfl)) pgs_nil))))
      (pss_one (ps_ret (pe_and (pe_callG (ok_is_integer T) hr hg (by rfl) gi (kp_is_integer T.d) pass0 (pa_cons (pv 1) pa_nil))
        (pe_and (pe_callG (ok_is_integer T) hr hg (by rfl) gi (kp_is_integer T.d) pass0 (pa_cons (pv 2) pa_nil))
        (pe_and (pe_cmpR op_ge (pv 2) pe_int (nomark _)) (pe_one (pe_cmpR op_eq (pe_callBfun cr_gcd (by rfl) T.gcd (pa_cons (pv 1) (pa_cons (pv 2) pa_nil))) pe_int (nomark _))))))))), ?_⟩
    refine ⟨_, rfl, _, _, _, _, _, rfl, .ty "tuple", hd.ty, kit_tuple d, _, rfl, ?_⟩
    cases e : is_tuple d with
    | false =>
      rw [frac_not e] at q
      exact ifT rfl (ifT rfl q)
    | true =>
      refine ifF rfl ?_
      cases hd with
      | tup hs ha =>
        rename_i a xs ds
        have lx := doall_len ha
        refine ⟨_, rfl, a, _, rfl, .inr hs, rfl, _, rfl, ?_⟩
        rw [iEq]
        by_cases l2 : ds.length = 2
        · refine ifF (by rw [decide_eq_true (show ((xs.length : Nat) : Int) = 2 by omega)]; rfl) ?_
          obtain ⟨d1, d2, rfl⟩ : ∃ d1 d2, ds = [d1, d2] := by
            match ds, l2 with
            | [d1, d2], _ => exact ⟨d1, d2, rfl⟩
          obtain ⟨x1, x2, rfl⟩ : ∃ x1 x2, xs = [x1, x2] := by
            have lx2 : xs.length = 2 := lx
            match xs, lx2 with
            | [x1, x2], _ => exact ⟨x1, x2, rfl⟩
          rw [frac_two] at q
          cases ha with
          | cons h1 ha =>
            cases ha with
            | cons h2 _ =>
              refine ⟨_, rfl, a, _, rfl, hs, rfl, _, _, rfl, _, _, rfl, rfl, ?_⟩
              refine ⟨_, rfl, x1, d1, rfl, h1, _, rfl, ?_⟩
              cases e1 : isI d1 with
              | false =>
                refine ifF rfl ?_
                have z : frac2 d1 d2 = false := by cases d1 <;> first | rfl | cases e1
                rw [z] at q
                exact q
              | true =>
                refine ifT rfl ⟨_, rfl, x2, d2, rfl, h2, _, rfl, ?_⟩
                cases e2 : isI d2 with
                | false =>
                  refine ifF rfl ?_
                  have z : frac2 d1 d2 = false := by cases d1 <;> cases d2 <;> first | rfl | cases e2
                  rw [z] at q
                  exact q
                | true =>
                  refine ifT rfl ?_
                  cases h1 with
                  | int t =>
                    cases h2 with
                    | int b =>
                      have q : Q (.bl (decide (2 ≤ b) && decide (Nat.gcd t.natAbs b.natAbs = 1))) H := q
                      refine ⟨_, rfl, _, _, rfl, rfl, _, rfl, ?_⟩
                      by_cases hb : 2 ≤ b
                      · rw [decide_eq_true hb] at q
                        refine ifT (decide_eq_true hb) ⟨_, rfl, _, rfl, t, b, rfl, rfl, ?_⟩
                        rw [iEq]
                        by_cases g : Nat.gcd t.natAbs b.natAbs = 1
                        · rw [decide_eq_true g] at q
                          rw [decide_eq_true (show ((Nat.gcd t.natAbs b.natAbs : Nat) : Int) = 1 by omega)]
                          exact q
                        · rw [decide_eq_false g] at q
                          rw [decide_eq_false (show ¬ ((Nat.gcd t.natAbs b.natAbs : Nat) : Int) = 1 by omega)]
                          exact q
                      · rw [decide_eq_false hb] at q
                        exact ifF (decide_eq_false hb) q
                    | _ => cases e2
                  | _ => cases e1
        · rw [frac_len l2] at q
          exact ifT (by rw [decide_eq_false (show ¬ ((xs.length : Nat) : Int) = 2 by omega)]; rfl) q
      | _ => cases e
end
end K02

namespace K02
open PySem PySem.Spec PyProof.Rows L2 Ver Num
def absI (i : Int) : Int := if i < 0 then -i else i
theorem ten9 : (10 : Int) ^ (9 : Int).toNat = 1000000000 := by decide
/-- a fraction: an int, or a pair of ints -/
def NumQ (H : Hp) (x : V) (q : Rat) : Prop := (q.den = 1 ∧ x = .int q.num) ∨ (q.den ≠ 1 ∧ ∃ a, x = .ref a ∧ H a = some (.tup [.int q.num, .int (q.den : Int)]))
theorem NumQ.same {H H' : Hp} {x : V} {q : Rat} (h : NumQ H x q) (s : Same H H') : NumQ H' x q := by
  rcases h with h | ⟨d, a, e, h⟩
  · exact .inl h
  · exact .inr ⟨d, a, e, s _ _ h⟩
theorem NumQ.int {H : Hp} {x : V} {q : Rat} {t : Int} (h1 : q.num = t) (h2 : q.den = 1) (e : x = .int t) : NumQ H x q := .inl ⟨h2, by rw [h1]; exact e⟩
/-- passed numbers -/
def Ok100 (q : Rat) : Prop := absI q.num < FL ∧ (q.den : Int) < FL
/-- // by any divisor but 0, also a great one -/
theorem op_fdivZ {X : Cx} : OpR X (binaryOp .FloorDiv) (rI (fun _ j => j ≠ 0 ∧ j.natAbs.log2 < 9000) fun i j => .int (i.fdiv j)) := opI fun _ _ _ _ _ _ _ hc q => floordiv_int hc.1 q (.inl (PyProof.noPylong_of_log2 hc.2))
theorem log_lt {n a : Nat} (h : n < 2 ^ a) (h0 : 0 < a) (h9 : a ≤ 9000) : n.log2 < 9000 := Nat.lt_of_lt_of_le (PySem.Flt.log2_lt_of h0 h) h9
theorem dvs_log {t b : Int} {a : Nat} (hb : b ≠ 0) (h : b.natAbs < 2 ^ a) (h0 : 0 < a) (h9 : a ≤ 9000) : (dvs t b).natAbs.log2 < 9000 := by
  have l : Nat.gcd t.natAbs b.natAbs ≤ b.natAbs := Nat.gcd_le_right _ (by omega)
  refine log_lt (a := a) ?_ h0 h9
  unfold dvs
  split <;> omega
theorem dvs_neg {t b : Int} (h : b < 0) : dvs t b = -((Nat.gcd t.natAbs b.natAbs : Nat) : Int) := if_pos h
theorem dvs_nn {t b : Int} (h : ¬ b < 0) : dvs t b = ((Nat.gcd t.natAbs b.natAbs : Nat) : Int) := if_neg h
/-! ### as data -/
def dq (q : Rat) : PyData := if q.den = 1 then .int q.num else .tuple [.int q.num, .int (q.den : Int)]
theorem dq_int {q : Rat} (h : q.den = 1) : dq q = .int q.num := if_pos h
theorem dq_tup {q : Rat} (h : q.den ≠ 1) : dq q = .tuple [.int q.num, .int (q.den : Int)] := if_neg h
theorem dp_q {K : PySem.W.Frag} {H : Hp} {x : V} {q : Rat} (h : NumQ H x q) : Dp K H x (dq q) := by
  rcases h with ⟨d, e⟩ | ⟨d, a, e, h⟩
  · rw [dq_int d, e]
    exact .int _
  · rw [dq_tup d, e]
    exact .tup (.inl (.inl h)) (.cons (.int _) (.cons (.int _) .nil))
theorem pf_look (v : V) : ([(("_prime" : Str), v)] : List (Str × V)).lookup ("_prime" : Str) = some v := by simp [List.lookup]
theorem pf_no (v : V) {m : Str} (h : (m == ("_prime" : Str)) = false) : ([(("_prime" : Str), v)] : List (Str × V)).lookup m = none := by simp [List.lookup, h]
theorem ok_bq {q : Rat} (o : Ok100 q) : Bq 333 q := by
  have h1 := o.1
  have h2 := o.2
  unfold absI FL at h1
  unfold FL at h2
  have e : (2 : Nat) ^ 333 = 17498005798264095394980017816940970922825355447145699491406164851279623993595007385788105416184430592 := by decide
  unfold Bq
  rw [e]
  split at h1 <;> omega
theorem den_bq {n : Nat} {q : Rat} (h : Bq n q) : ((q.den : Nat) : Int).natAbs < 2 ^ n := h.2
theorem to4000 {n k : Nat} (h : k < 2 ^ n) (hn : n ≤ 4000) : k < 2 ^ 4000 := Nat.lt_of_lt_of_le h (Nat.pow_le_pow_right (by decide) hn)
section
variable {P : Program} {w : World} {K : PySem.W.Frag} {mg : Str → Option Value} {base : Heap}
/-! ### is_prime -/
theorem call_isqrt {X : Cx} : CallR X (.builtin "math.isqrt") (fun vs H Q => ∃ a : Int, vs = [.int a] ∧ 0 ≤ a ∧ a < 2 ^ 64 ∧ Q (.int ((Float64.isqrt a.toNat : Nat) : Int)) H) := by
  intro pins s σ H vs us Q I r h
  obtain ⟨a, rfl, h0, h1, q⟩ := h
  obtain ⟨u, rfl, t, rfl⟩ := vals1 r
  exact PySem.W.mg_isqrt h0 h1 ⟨.int _, H, I.tok _, ⟨_, rfl⟩, q⟩
def spIsPrime : Sp := fun vs H Q _ => ∃ v : Int, vs = [.int v] ∧ prB Float64.isqrt v = true ∧ Float64.isqrt v.toNat ≤ 1000000 ∧ Q (.bl true) H
theorem range_odd (r : Nat) : Builtin.Range.rangeSize 3 ((r : Int) + 1) 2 = (((r + 1 - 3 + 1) / 2 : Nat) : Int) := by
  unfold Builtin.Range.rangeSize
  rw [if_pos (by decide)]
  by_cases h : (3 : Int) < (r : Int) + 1
  · rw [if_pos h]
    omega
  · rw [if_neg h]
    omega
theorem small_odd {r : Nat} (h : r ≤ 1000000) : Builtin.Range.small 3 ((r : Int) + 1) 2 = true := by
  unfold Builtin.Range.small
  rw [range_odd]
  have h2 : (r + 1 - 3 + 1) / 2 ≤ 1000000 := by omega
  generalize (r + 1 - 3 + 1) / 2 = n at h2
  have f1 : ∀ i : Int, 0 ≤ i → i ≤ 2000000 → Builtin.Range.rangeFitsLong i = true := fun i h0 h1 => by
    unfold Builtin.Range.rangeFitsLong
    rw [decide_eq_true (show -(2 ^ 63 : Int) ≤ i by omega), decide_eq_true (show i < (2 ^ 63 : Int) by omega)]
    rfl
  rw [f1 3 (by omega) (by omega), f1 ((r : Int) + 1) (by omega) (by omega), f1 2 (by omega) (by omega), f1 (n : Int) (by omega) (by omega), if_pos (by decide), f1 ((r : Int) + 1 + (2 - 1)) (by omega) (by omega), Bool.or_true]
  rfl
theorem ok_is_prime (T : Tx K mg) : FnG P w K mg base CX0 3 (He.ga K "is_prime") spIsPrime := by
  refine mk_is_prime T.d (fun vs H Q E h => ?_) (fun cdv A outer s H vs Q E hg hr h => ?_)
  · obtain ⟨v, rfl, _⟩ := h
    rfl
  · obtain ⟨v, rfl, hp, hq, q⟩ := h
    obtain ⟨tg, gp⟩ := T.gp
    have hp1 : ((decide (2 ≤ v) && decide (v ≤ 1000000000)) && (if v % 2 = 0 then decide (v = 2) else oddOk v.toNat ((Float64.isqrt v.toNat + 1 - 3 + 1) / 2))) = true := hp
    rw [Bool.and_eq_true, Bool.and_eq_true] at hp1
    obtain ⟨⟨p1, p2⟩, p3⟩ := hp1
    have v2 : 2 ≤ v := of_decide_eq_true p1
    have v9 : v ≤ 1000000000 := of_decide_eq_true p2
    refine ⟨_, pss_cons (ps_if (pt_not (pt_val (pe_callG (ok_is_between T) hr hg (by rfl) (T.g "is_between" (by decide +kernel)) (kp_is_between T.d) pass0 (pa_cons (pv 0) (pa_cons pe_int (pa_cons (pe_glob (v := .int 1000000000) (by rfl) gp ⟨_, rfl⟩) pa_nil)))))) (pss_one (ps_ret pe_bl)) pss_nil)
      (pss_cons (ps_if (pt_cmpR op_eq (pe_op op_and (pv 0) pe_int) pe_int (nomark _)) (pss_one (ps_ret (pe_cmpR op_eq (pv 0) pe_int (nomark _)))) pss_nil)
      (pss_cons (ps_for PassesOwn.never rfl (pi_range3 (by rfl) (T.z "range" (by decide +kernel)) (pa_cons pe_int (pa_cons (pe_op op_add (pe_callBfun call_isqrt (by rfl) T.isq (pa_cons (pv 0) pa_nil)) pe_int) (pa_cons pe_int pa_nil)))) (pg_name (i := 1) sc_is_prime.nd rfl (.inl rfl))
        (pss_one (ps_if (pt_cmpR op_eq (pe_op op_mod (pv 0) (pv 1)) pe_int (nomark _)) (pss_one (ps_ret pe_bl)) pss_nil)))
      (pss_one (ps_ret pe_bl)))), ?_⟩
    refine ⟨_, rfl, .int v, .int v, 2, 1000000000, rfl, .int v, _, rfl, ?_⟩
    show (if (!(decide (2 ≤ v) && decide (v ≤ 1000000000))) = true then _ else _)
    rw [p1, p2]
    refine ifF rfl ⟨_, rfl, _, _, rfl, rfl, rfl, _, rfl, ?_⟩
    rw [iEq, bitAnd_m1]
    by_cases e : v % 2 = 0
    · rw [if_pos e] at p3
      refine ifT (decide_eq_true e) ⟨_, rfl, rfl, ?_⟩
      rw [iEq, p3]
      exact q
    · rw [if_neg e] at p3
      refine ifF (decide_eq_false e) ⟨_, rfl, v, rfl, by omega, by omega, _, _, rfl, rfl, 3, _, 2, _, rfl, ⟨by decide, by decide, small_odd hq, range_odd _⟩, ?_⟩
      refine for_rangeC (lo := 3) (c := 2) (fun i σ H' => ∃ d : Option V, σ = [some (.int v), d] ∧ H' = H) ⟨none, rfl, rfl⟩ ?_ ?_
      · rintro i σ H' hi ⟨d, rfl, rfl⟩
        refine ⟨_, rfl, _, rfl, _, _, rfl, rfl, (by show (0 : Int) < 3 + (i : Int) * 2; omega), rfl, _, rfl, ?_⟩
        rw [iEq]
        refine ifF (decide_eq_false fun z => ?_) ⟨_, rfl, rfl⟩
        have o := List.all_eq_true.mp p3 i (List.mem_range.mpr hi)
        have z2 : v.toNat % (3 + 2 * i) = 0 := by
          have e1 : ((v.toNat % (3 + 2 * i) : Nat) : Int) = v % (3 + (i : Int) * 2) := by
            rw [Int.natCast_emod]
            congr 1
            · omega
            · rw [Int.natCast_add, Int.natCast_mul]
              omega
          omega
        rw [z2] at o
        cases o
      · rintro σ H' ⟨d, rfl, rfl⟩
        exact q
def spFInit (K : PySem.W.Frag) : Sp := fun vs H Q _ => ∃ (f C dx : Addr) (p : Int), vs = [.ref f, .int p] ∧ FC K C ∧ H f = some (.ins C dx []) ∧ Q .non (upd H f (.ins C dx [(("_prime" : Str), V.int p)]))
theorem ok_finit (T : Tx K mg) : FnG P w K mg base CX0 1 (He.ma K (He.ga K "Field") "__init__") (spFInit K) := by
  refine mk_Field___init__ T.d (fun vs H Q E h => ?_) (fun cdv A outer s H vs Q E hg hr h => ?_)
  · obtain ⟨f, C, dx, p, rfl, _⟩ := h
    rfl
  · obtain ⟨f, C, dx, p, rfl, c, hf, q⟩ := h
    exact ⟨_, pss_one (ps_fld (pv 0) (pv 1) rfl), ⟨_, rfl, _, rfl, f, C, dx, [], rfl, hf, c.cl, c.np, (by show 0 < 1000; decide), q⟩⟩
def spMInit (K : PySem.W.Frag) : Sp := fun vs H Q _ => ∃ (f dx : Addr) (p : Int), vs = [.ref f, .int p] ∧ prB Float64.isqrt p = true ∧ Float64.isqrt p.toNat ≤ 1000000 ∧ H f = some (.ins (He.ga K "Modulo") dx []) ∧ Q .non (upd H f (.ins (He.ga K "Modulo") dx [(("_prime" : Str), V.int p)]))
theorem ok_minit (T : Tx K mg) : FnG P w K mg base CX0 4 (He.ma K (He.ga K "Modulo") "__init__") (spMInit K) := by
  refine mk_Modulo___init__ T.d (fun vs H Q E h => ?_) (fun cdv A outer s H vs Q E hg hr h => ?_)
  · obtain ⟨f, dx, p, rfl, _⟩ := h
    rfl
  · obtain ⟨f, dx, p, rfl, p1, p2, hf, q⟩ := h
    refine ⟨_, pss_cons (ps_if (pt_not (pt_val (pe_callG (ok_is_prime T) hr hg (by rfl) (T.g "is_prime" (by decide +kernel)) (kp_is_prime T.d) pass0 (pa_cons (pv 1) pa_nil)))) pss_never pss_nil)
      (pss_one (ps_expr (pe_clsG (by rfl) (T.g "Field" (by decide +kernel)) T.rdF T.gaF T.fiF (kp_Field___init__ T.d) (ok_finit T) (hr.mono (by decide)) hg pass0 (pa_cons (pv 0) (pa_cons (pv 1) pa_nil))))), ?_⟩
    exact ⟨_, rfl, p, rfl, p1, p2, _, rfl, ifF rfl ⟨_, rfl, _, rfl, f, _, dx, p, rfl, T.fcM, hf, q⟩⟩
def spFInitF (K : PySem.W.Frag) : Sp := fun vs H Q _ => ∃ (f C dx : Addr), vs = [.ref f, .non] ∧ FC K C ∧ H f = some (.ins C dx []) ∧ Q .non (upd H f (.ins C dx [(("_prime" : Str), V.non)]))
theorem ok_finitF (T : Tx K mg) : FnG P w K mg base CX0 1 (He.ma K (He.ga K "Field") "__init__") (spFInitF K) := by
  refine mk_Field___init__ T.d (fun vs H Q E h => ?_) (fun cdv A outer s H vs Q E hg hr h => ?_)
  · obtain ⟨f, C, dx, rfl, _⟩ := h
    rfl
  · obtain ⟨f, C, dx, rfl, c, hf, q⟩ := h
    exact ⟨_, pss_one (ps_fld (pv 0) (pv 1) rfl), ⟨_, rfl, _, rfl, f, C, dx, [], rfl, hf, c.cl, c.np, (by show 0 < 1000; decide), q⟩⟩
def spFracInit (K : PySem.W.Frag) : Sp := fun vs H Q _ => ∃ (f dx : Addr), vs = [.ref f] ∧ H f = some (.ins (He.ga K "Fractions") dx []) ∧ Q .non (upd H f (.ins (He.ga K "Fractions") dx [(("_prime" : Str), V.non)]))
theorem ok_fracinit (T : Tx K mg) : FnG P w K mg base CX0 2 (He.ma K (He.ga K "Fractions") "__init__") (spFracInit K) := by
  refine mk_Fractions___init__ T.d (fun vs H Q E h => ?_) (fun cdv A outer s H vs Q E hg hr h => ?_)
  · obtain ⟨f, dx, rfl, _⟩ := h
    rfl
  · obtain ⟨f, dx, rfl, hf, q⟩ := h
    refine ⟨_, pss_one (ps_expr (pe_clsG (by rfl) (T.g "Field" (by decide +kernel)) T.rdF T.gaF T.fiF (kp_Field___init__ T.d) (ok_finitF T) hr hg pass0 (pa_cons (pv 0) (pa_cons pe_non pa_nil)))), ?_⟩
    exact ⟨_, rfl, f, _, dx, rfl, T.fcF, hf, q⟩
end
end K02

namespace K02
open PySem PySem.Spec PyProof.Rows L2 Ver Num
/-! ### both kinds of fields -/
/-- what the text asks of a prime that it draws -/
structure Pm (p : Int) : Prop where
  md : Md p
  pr : prB Float64.isqrt p = true
  sq : Float64.isqrt p.toNat ≤ 1000000
theorem pm2 : Pm 2 := ⟨md2, by decide +kernel, by decide +kernel⟩
theorem pm3 : Pm 3 := ⟨md3, by decide +kernel, by decide +kernel⟩
theorem pm5 : Pm 5 := ⟨md5, by decide +kernel, by decide +kernel⟩
theorem pm7 : Pm 7 := ⟨md7, by decide +kernel, by decide +kernel⟩
theorem pm101 : Pm 101 := ⟨md101, by decide +kernel, by decide +kernel⟩
theorem pm1000003 : Pm 1000003 := ⟨md1000003, by decide +kernel, by decide +kernel⟩
def pval : Fk → V
  | .fr => .non
  | .md p => .int p
def okP : Fk → Prop
  | .fr => True
  | .md p => Pm p
def FieldC (K : PySem.W.Frag) (H : Hp) (f : Addr) (φ : Fk) : Prop := ∃ C dx, FC K C ∧ MC K C ∧ H f = some (.ins C dx [(("_prime" : Str), pval φ)])
theorem FieldC.same {K : PySem.W.Frag} {H H' : Hp} {f : Addr} {φ : Fk} (F : FieldC K H f φ) (s : Same H H') : FieldC K H' f φ := by
  obtain ⟨C, dx, c, m, e⟩ := F
  exact ⟨C, dx, c, m, s _ _ e⟩
theorem FieldC.but {K : PySem.W.Frag} {H H' : Hp} {f d : Addr} {φ : Fk} {k : Int} (F : FieldC K H f φ) (pen : PenAt H d k) (b : But d H H') : FieldC K H' f φ := by
  obtain ⟨C, dx, c, m, e⟩ := F
  obtain ⟨cc, cells, b1, l, h1, _⟩ := pen.ex
  exact ⟨C, dx, c, m, b.1 _ _ e (ne_of e h1 (by intro z; cases z))⟩
theorem go_methG {K : PySem.W.Frag} {σ : L2.St} {H : Hp} {f : Addr} {φ : Fk} {i : Nat} {Q : VK} {m : Str} {sp : Sp} {E : XK} {t : TA} (h0 : σ[i]? = some (some (.ref f))) (F : FieldC K H f φ)
    (hm : m ∈ (["is_number", "holds"] : List Str)) (hn : (m == ("_prime" : Str)) = false)
    (q : t σ H fun vs H2 => sp (.ref f :: vs) H2 Q E) : tMethG K m (He.ma K (He.ga K "Field") m) sp E (tVar i) t σ H Q := by
  obtain ⟨C, dx, c, mm, e⟩ := F
  exact ⟨.ref f, h0, f, C, dx, _, rfl, e, c.cl, c.m m hm, pf_no _ hn, q⟩
theorem rd_prime {K : PySem.W.Frag} {σ : L2.St} {H : Hp} {f : Addr} {φ : Fk} {i : Nat} {Q : VK} (h0 : σ[i]? = some (some (.ref f))) (F : FieldC K H f φ) (q : Q (pval φ) H) : tFld K (tVar i) "_prime" σ H Q := by
  obtain ⟨C, dx, c, m, e⟩ := F
  exact ⟨.ref f, h0, f, C, dx, _, pval φ, rfl, e, c.cl, c.np, pf_look _, q⟩
/-! ### parts, is_longer -/
def two : PyData → Option (Int × Int)
  | .int t => some (t, 1)
  | .tuple [.int t, .int b] => some (t, b)
  | _ => none
theorem two_cases {d : PyData} {t b : Int} (h : two d = some (t, b)) : (d = .int t ∧ b = 1) ∨ d = .tuple [.int t, .int b] := by
  unfold two at h
  split at h
  · cases h
    exact .inl ⟨rfl, rfl⟩
  · cases h
    exact .inr rfl
  · cases h
theorem do_pair {K : PySem.W.Frag} {H : Hp} {x : V} {t b : Int} (h : Do K H x (.tuple [.int t, .int b])) : ∃ a, x = .ref a ∧ SqT K H a [.int t, .int b] := by
  cases h with
  | tup hs ha =>
    cases ha with
    | cons h1 ha =>
      cases ha with
      | cons h2 ha =>
        cases ha
        cases h1
        cases h2
        exact ⟨_, rfl, hs⟩
theorem do_q {K : PySem.W.Frag} {H : Hp} {x : V} {q : Rat} (h : NumQ H x q) : Do K H x (dq q) := by
  rcases h with ⟨d, e⟩ | ⟨d, a, e, h⟩
  · rw [dq_int d, e]
    exact .int _
  · rw [dq_tup d, e]
    exact .tup (.inl (.inl h)) (.cons (.int _) (.cons (.int _) .nil))
section
variable {P : Program} {w : World} {K : PySem.W.Frag} {mg : Str → Option Value} {base : Heap}
def spParts (K : PySem.W.Frag) : Sp := fun vs H Q _ => ∃ (x : V) (d : PyData) (t b : Int), vs = [x] ∧ Do K H x d ∧ two d = some (t, b) ∧ ∀ (p : Addr) (H' : Hp), Same H H' → SqT K H' p [.int t, .int b] → Q (.ref p) H'
theorem ok_parts (T : Tx K mg) : FnG P w K mg base CX0 1 (He.ga K "parts") (spParts K) := by
  refine mk_parts T.d (fun vs H Q E h => ?_) (fun cdv A outer s H vs Q E hg hr h => ?_)
  · obtain ⟨x, d, t, b, rfl, _⟩ := h
    rfl
  · obtain ⟨x, d, t, b, rfl, hd, h2, q⟩ := h
    refine ⟨_, pss_one (ps_ret (pe_ifExp (pt_val (pe_callB call_isi (by rfl) (T.z "isinstance" (by decide +kernel)) (by decide +kernel) (pa_cons (pv 0) (pa_cons (pe_bltn (v := .ty "tuple") (by rfl) (T.z "tuple" (by decide +kernel)) (by decide +kernel) rfl) pa_nil))))
      (pv 0) (pe_tup (pa_cons (pv 0) (pa_cons pe_int pa_nil))))), ?_⟩
    refine ⟨_, rfl, _, _, _, _, _, rfl, .ty "tuple", hd.ty, kit_tuple d, _, rfl, ?_⟩
    rcases two_cases h2 with ⟨rfl, rfl⟩ | rfl
    · cases hd
      exact ifF rfl ⟨_, rfl, (by show 2 ≤ sizeLine; decide), fun p np => q p _ (same_up np) (.inl (.inl upd_same))⟩
    · obtain ⟨a, rfl, hs⟩ := do_pair hd
      exact ifT rfl ⟨_, rfl, q a H (Same.refl H) hs⟩
def spIsLonger (K : PySem.W.Frag) : Sp := fun vs H Q _ => ∃ (x : V) (d : PyData) (t b l : Int), vs = [x, .int l] ∧ Do K H x d ∧ two d = some (t, b) ∧ ∀ H' : Hp, Same H H' → Q (.bl (decide (l ≤ absI t) || decide (l ≤ b))) H'
theorem ok_is_longer (T : Tx K mg) : FnG P w K mg base CX0 2 (He.ga K "is_longer") (spIsLonger K) := by
  refine mk_is_longer T.d (fun vs H Q E h => ?_) (fun cdv A outer s H vs Q E hg hr h => ?_)
  · obtain ⟨x, d, t, b, l, rfl, _⟩ := h
    rfl
  · obtain ⟨x, d, t, b, l, rfl, hd, h2, q⟩ := h
    refine ⟨_, pss_cons (ps_asg (pe_callG (ok_parts T) hr hg (by rfl) (T.g "parts" (by decide +kernel)) (kp_parts T.d) pass0 (pa_cons (pv 0) pa_nil))
        (pg_tup rfl (pgs_cons (pg_name (i := 2) sc_is_longer.nd rfl (.inl rfl)) (pgs_cons (pg_name (i := 3) sc_is_longer.nd rfl (.inl rfl)) pgs_nil))))
      (pss_one (ps_ret (pe_or (pe_cmpR op_ge (pe_callB call_abs (by rfl) (T.z "abs" (by decide +kernel)) (by decide +kernel) (pa_cons (pv 2) pa_nil)) (pv 1) (nomark _))
        (pe_one (pe_cmpR op_ge (pv 3) (pv 1) (nomark _)))))), ?_⟩
    refine ⟨_, rfl, x, d, t, b, rfl, hd, h2, fun p H1 s1 hp => ?_⟩
    refine ⟨p, _, rfl, hp, rfl, _, _, rfl, _, _, rfl, rfl, ?_⟩
    refine ⟨_, rfl, _, rfl, _, rfl, _, _, rfl, rfl, _, rfl, ?_⟩
    have q1 := q H1 s1
    by_cases h : l ≤ absI t
    · rw [decide_eq_true h] at q1
      exact ifT (decide_eq_true h) q1
    · rw [decide_eq_false h] at q1
      exact ifF (decide_eq_false h) ⟨_, rfl, _, rfl, _, _, rfl, rfl, q1⟩
/-! ### holds, is_number -/
def holdsB : Fk → PyData → Bool
  | .fr, d => isI d || frac d
  | .md p, d => btw 0 (p - 1) d
theorem two_int {d : PyData} (h : isI d = true) : ∃ t, d = .int t := by
  cases d <;> first | exact ⟨_, rfl⟩ | cases h
theorem two_frac {d : PyData} (h : frac d = true) : ∃ t b, d = .tuple [.int t, .int b] ∧ 2 ≤ b ∧ Nat.gcd t.natAbs b.natAbs = 1 := by
  unfold frac at h
  split at h
  · rename_i t b
    rw [Bool.and_eq_true] at h
    exact ⟨t, b, rfl, of_decide_eq_true h.1, of_decide_eq_true h.2⟩
  · cases h
theorem btw_int {lo hi : Int} {d : PyData} (h : btw lo hi d = true) : ∃ t, d = .int t ∧ lo ≤ t ∧ t ≤ hi := by
  cases d <;> first | (rename_i t; have h : (decide (lo ≤ t) && decide (t ≤ hi)) = true := h; rw [Bool.and_eq_true] at h; exact ⟨t, rfl, of_decide_eq_true h.1, of_decide_eq_true h.2⟩) | cases h
theorem holds_two {φ : Fk} {d : PyData} (h : holdsB φ d = true) : ∃ t b, two d = some (t, b) := by
  cases φ with
  | fr =>
    have h : (isI d || frac d) = true := h
    rw [Bool.or_eq_true] at h
    rcases h with h | h
    · obtain ⟨t, rfl⟩ := two_int h
      exact ⟨t, 1, rfl⟩
    · obtain ⟨t, b, rfl, _⟩ := two_frac h
      exact ⟨t, b, rfl⟩
  | md p =>
    obtain ⟨t, rfl, _⟩ := btw_int h
    exact ⟨t, 1, rfl⟩
/-- at least so great above or below -/
def longB (l : Int) (d : PyData) : Bool := match two d with
  | some (t, b) => decide (l ≤ absI t) || decide (l ≤ b)
  | none => false
theorem longB_two {l : Int} {d : PyData} {t b : Int} (h : two d = some (t, b)) : longB l d = (decide (l ≤ absI t) || decide (l ≤ b)) := by
  unfold longB
  rw [h]
def numB (φ : Fk) (d : PyData) : Bool := holdsB φ d && !longB FL d
def spHolds (K : PySem.W.Frag) : Sp := fun vs H Q _ => ∃ (f : Addr) (x : V) (d : PyData) (φ : Fk), vs = [.ref f, x] ∧ FieldC K H f φ ∧ Do K H x d ∧ okP φ ∧ Q (.bl (holdsB φ d)) H
theorem ok_holds (T : Tx K mg) : FnG P w K mg base CX0 3 (He.ma K (He.ga K "Field") "holds") (spHolds K) := by
  refine mk_Field_holds T.d (fun vs H Q E h => ?_) (fun cdv A outer s H vs Q E hg hr h => ?_)
  · obtain ⟨f, x, d, φ, rfl, _⟩ := h
    rfl
  · obtain ⟨f, x, d, φ, rfl, F, hd, ok, q⟩ := h
    refine ⟨_, pss_cons (ps_if (pt_cmp (pc_notN (pe_fld (pv 0) rfl))) (pss_one (ps_ret (pe_callG (ok_is_between T) hr hg (by rfl) (T.g "is_between" (by decide +kernel)) (kp_is_between T.d) pass0 (pa_cons (pv 1) (pa_cons pe_int (pa_cons (pe_op op_sub (pe_fld (pv 0) rfl) pe_int) pa_nil)))))) pss_nil)
      (pss_one (ps_ret (pe_or (pe_callG (ok_is_integer T) (hr.mono (by decide)) hg (by rfl) (T.g "is_integer" (by decide +kernel)) (kp_is_integer T.d) pass0 (pa_cons (pv 1) pa_nil))
        (pe_one (pe_callG (ok_is_fraction T) hr hg (by rfl) (T.g "is_fraction" (by decide +kernel)) (kp_is_fraction T.d) pass0 (pa_cons (pv 1) pa_nil)))))), ?_⟩
    cases φ with
    | fr =>
      refine rd_prime rfl F ⟨_, rfl, ifF rfl ?_⟩
      have q : Q (.bl (isI d || frac d)) H := q
      refine ⟨_, rfl, x, d, rfl, hd, _, rfl, ?_⟩
      cases e : isI d with
      | true =>
        rw [e] at q
        exact ifT rfl q
      | false =>
        rw [e] at q
        exact ifF rfl ⟨_, rfl, x, d, rfl, hd, q⟩
    | md p =>
      refine rd_prime rfl F ⟨_, rfl, ifT rfl ?_⟩
      obtain ⟨C, dx, c, m, e⟩ := F
      exact ⟨_, rfl, _, rfl, f, C, dx, _, .int p, rfl, e, c.cl, c.np, pf_look _, _, _, rfl, rfl, x, d, 0, p - 1, rfl, hd, q⟩
def spIsNumber (K : PySem.W.Frag) : Sp := fun vs H Q _ => ∃ (f : Addr) (x : V) (d : PyData) (φ : Fk), vs = [.ref f, x] ∧ FieldC K H f φ ∧ Do K H x d ∧ okP φ ∧ ∀ H', Same H H' → Q (.bl (numB φ d)) H'
theorem ok_is_number (T : Tx K mg) : FnG P w K mg base CX0 4 (He.ma K (He.ga K "Field") "is_number") (spIsNumber K) := by
  refine mk_Field_is_number T.d (fun vs H Q E h => ?_) (fun cdv A outer s H vs Q E hg hr h => ?_)
  · obtain ⟨f, x, d, φ, rfl, _⟩ := h
    rfl
  · obtain ⟨f, x, d, φ, rfl, F, hd, ok, q⟩ := h
    obtain ⟨tl, gl⟩ := T.fl
    refine ⟨_, pss_one (ps_ret (pe_and (pe_methG (pv 0) (kp_Field_holds T.d) (ok_holds T) hr hg pass0 (pa_cons (pv 1) pa_nil))
      (pe_one (pe_not (pe_callG (ok_is_longer T) (hr.mono (by decide)) hg (by rfl) (T.g "is_longer" (by decide +kernel)) (kp_is_longer T.d) pass0 (pa_cons (pv 1) (pa_cons (pe_glob (v := .int FL) (by rfl) gl ⟨_, rfl⟩) pa_nil))))))), ?_⟩
    refine go_methG rfl F (by decide +kernel) (by decide +kernel) ⟨_, rfl, f, x, d, φ, rfl, F, hd, ok, _, rfl, ?_⟩
    have q : ∀ H', Same H H' → Q (.bl (holdsB φ d && !longB FL d)) H' := q
    cases e : holdsB φ d with
    | false =>
      rw [e] at q
      exact ifF rfl (q H (Same.refl H))
    | true =>
      obtain ⟨t, b, h2⟩ := holds_two e
      rw [e, longB_two h2] at q
      exact ifT rfl ⟨_, rfl, x, d, t, b, FL, rfl, hd, h2, fun H' s' => ⟨_, rfl, q H' s'⟩⟩
end
end K02

namespace K02
open PySem PySem.Spec PyProof.Rows L2 Ver Num
theorem NumQ.but {H H' : Hp} {x : V} {q : Rat} {d : Addr} {k : Int} (h : NumQ H x q) (pen : PenAt H d k) (b : But d H H') : NumQ H' x q := by
  obtain ⟨cc, cells, b1, l, h1, _⟩ := pen.ex
  rcases h with h | ⟨e, a, ex, h⟩
  · exact .inl h
  · exact .inr ⟨e, a, ex, b.1 _ _ h (ne_of h h1 (by intro z; cases z))⟩
theorem abs_nat {n : Int} : absI n = (n.natAbs : Int) := by
  unfold absI
  split <;> omega
theorem fl_bits : FL < 2 ^ 333 := by
  unfold FL
  decide
theorem fl_nat {n : Nat} (h : (n : Int) < FL) : n < 2 ^ 333 := by
  have h2 := Int.lt_trans h fl_bits
  have e : ((2 : Int) ^ 333) = ((2 ^ 333 : Nat) : Int) := by rw [Int.natCast_pow]; rfl
  rw [e] at h2
  exact Int.ofNat_lt.mp h2
theorem ok100_div {t b : Int} (h : absI t < FL) (b0 : 0 < b) (b9 : b < FL) : Ok100 (Rat.divInt t b) := by
  obtain ⟨_, _, _, _, h5, h6⟩ := dvs_out (t := t) (show b ≠ 0 by omega)
  rw [abs_nat] at h
  refine ⟨?_, ?_⟩
  · rw [abs_nat]
    omega
  · omega
section
variable {P : Program} {w : World} {K : PySem.W.Frag} {mg : Str → Option Value} {base : Heap}
def spShort : Sp := fun vs H Q _ => ∃ (t b : Int), vs = [.int t, .int b] ∧ b ≠ 0 ∧ b.natAbs < 2 ^ 4000 ∧ ∀ (x : V) (H' : Hp), Same H H' → NumQ H' x (Rat.divInt t b) → Q x H'
def spTens : Sp := fun vs H Q _ => vs = [.int 100] ∧ Q (.int FL) H
theorem ok_tens (T : Tx K mg) : FnG P w K mg base CX0 1 (He.ga K "_law_tens") spTens := by
  refine mk__law_tens T.d (fun vs H Q E h => ?_) (fun cdv A outer s H vs Q E hg hr h => ?_)
  · obtain ⟨rfl, _⟩ := h
    rfl
  · obtain ⟨rfl, q⟩ := h
    have nd := sc__law_tens.nd
    refine ⟨_, pss_cons (ps_set (i := 1) nd rfl (Or.inl rfl) pe_int)
      (pss_cons (ps_for PassesOwn.never rfl (pi_range1 (by rfl) (T.z "range" (by decide +kernel)) (pa_cons (pv 0) pa_nil)) (pg_name (i := 2) nd rfl (.inl rfl))
        (pss_one (ps_set (i := 1) nd rfl (Or.inl rfl) (pe_op op_mul pe_int (pv 1)))))
      (pss_one (ps_ret (pv 1)))), ?_⟩
    refine ⟨_, rfl, _, rfl, by decide, by decide, ?_⟩
    refine for_range (lo := 0) (fun i σ H' => ∃ v : Option V, σ = [some (.int 100), some (.int (10 ^ i)), v] ∧ H' = H) ⟨none, rfl, rfl⟩ ?_ ?_
    · rintro i σ H' hi ⟨v, rfl, rfl⟩
      have e : (10 : Int) * 10 ^ i = 10 ^ (i + 1) := by rw [Int.pow_succ, Int.mul_comm]
      exact ⟨_, rfl, _, _, rfl, rfl, .inl ⟨by decide, by decide⟩, some (.int (0 + (i : Int))), by rw [← e]; rfl, rfl⟩
    · rintro σ H' ⟨v, rfl, rfl⟩
      have e : (10 : Int) ^ (100 : Int).toNat = FL := by decide
      refine ⟨_, rfl, ?_⟩
      rw [e]
      exact q
def spSigned : Sp := fun vs H Q _ => ∃ (d : Addr) (k n : Int), vs = [.ref d, .int n] ∧ PenAt H d k ∧ k < 1000000 ∧ ∀ (m : Int) (H' : Hp), absI m = absI n → But d H H' → PenAt H' d (k + 1) → Q (.int m) H'
theorem ok_signed (T : Tx K mg) : FnG P w K mg base CX0 2 (He.ga K "_law_signed") spSigned := by
  refine mk__law_signed T.d (fun vs H Q E h => ?_) (fun cdv A outer s H vs Q E hg hr h => ?_)
  · obtain ⟨d, k, n, rfl, _⟩ := h
    rfl
  · obtain ⟨d, k, n, rfl, pen, k9, q⟩ := h
    refine ⟨_, pss_one (ps_ret (pe_ifExp (pt_cmpR op_eq (pe_callG (ok_draw T) hr hg (by rfl) (T.g "_law_draw" (by decide +kernel)) (kp__law_draw T.d) pass0 (pa_cons (pv 0) (pa_cons pe_int pa_nil))) pe_int (nomark _))
      (pv 1) (pe_op op_sub pe_int (pv 1)))), ?_⟩
    refine ⟨_, rfl, d, k, 2, rfl, pen, by omega, by decide, by decide, fun i H1 bt pen1 i0 i1 => ⟨rfl, _, rfl, ?_⟩⟩
    rw [iEq]
    by_cases e : i = 0
    · exact ifT (decide_eq_true e) ⟨_, rfl, q _ H1 rfl bt pen1⟩
    · refine ifF (decide_eq_false e) ⟨_, rfl, _, _, rfl, rfl, q _ H1 ?_ bt pen1⟩
      unfold absI
      split <;> split <;> omega
def spGcd : Sp := fun vs H Q _ => ∃ (a b : Int), vs = [.int a, .int b] ∧ Q (.int ((Nat.gcd a.natAbs b.natAbs : Nat) : Int)) H
theorem ok_gcd (T : Tx K mg) : FnG P w K mg base CX0 1 (He.ga K "_law_gcd") spGcd := by
  refine mk__law_gcd T.d (fun vs H Q E h => ?_) (fun cdv A outer s H vs Q E hg hr h => ?_)
  · obtain ⟨a, b, rfl, _⟩ := h
    rfl
  · obtain ⟨a, b, rfl, q⟩ := h
    refine ⟨_, pss_cons (ps_while PassesOwn.never (pt_cmpR op_ne (pv 1) pe_int (nomark _))
        (pss_one (ps_par (i := 0) (j := 1) rfl sc__law_gcd.nd rfl rfl (by decide) rfl rfl (pa_cons (pv 1) (pa_cons (pe_op op_modN (pe_callTy call_int1 (by rfl) (T.z "int" (by decide +kernel)) (by decide +kernel) (pa_cons (pv 0) pa_nil)) (pv 1)) pa_nil)) (by rfl))))
      (pss_one (ps_ret (pe_callB call_abs (by rfl) (T.z "abs" (by decide +kernel)) (by decide +kernel) (pa_cons (pv 0) pa_nil)))), ?_⟩
    refine ⟨fun k σ H' => ∃ x y : Int, k = y.natAbs ∧ H' = H ∧ σ = [some (.int x), some (.int y)] ∧ Int.gcd x y = Int.gcd a b, ⟨_, a, b, rfl, rfl, rfl, rfl⟩, ?_⟩
    rintro k σ H' ⟨x, y, rfl, rfl, rfl, g⟩
    refine ⟨_, rfl, rfl, _, rfl, ?_⟩
    rw [iEq]
    by_cases y0 : y = 0
    · subst y0
      refine ifF (by decide) ⟨_, rfl, _, rfl, ?_⟩
      have e : (if x < 0 then -x else x) = ((Nat.gcd a.natAbs b.natAbs : Nat) : Int) := by
        have g2 : x.natAbs = Nat.gcd a.natAbs b.natAbs := by
          rw [Int.gcd_zero_right] at g
          exact g
        rw [← g2]
        split <;> omega
      rw [e]
      exact q
    · refine ifT (by rw [decide_eq_false y0]; rfl) ?_
      refine ⟨fun σ' H'' => ∃ x' y' : Int, y'.natAbs < y.natAbs ∧ H'' = H' ∧ σ' = [some (.int x'), some (.int y')] ∧ Int.gcd x' y' = Int.gcd a b, ?_, ?_⟩
      · rintro σ' H' ⟨x', y', hlt, e1, e2, e3⟩
        exact ⟨_, hlt, x', y', rfl, e1, e2, e3⟩
      · refine ⟨_, rfl, _, rfl, .inl ⟨_, rfl, _, rfl, _, _, rfl, rfl, y0, _, _, rfl, ?_⟩⟩
        exact ⟨_, _, fmod_lt y0, rfl, rfl, by rw [gcd_fmod]; exact g⟩
theorem dvs_neg0 {t b : Int} (h : b < 0) : dvs t b = 0 - ((Nat.gcd t.natAbs b.natAbs : Nat) : Int) := by
  rw [dvs_neg h]
  omega
theorem ok_told (T : Tx K mg) : FnG P w K mg base CX0 2 (He.ga K "_law_told") spShort := by
  refine mk__law_told T.d (fun vs H Q E h => ?_) (fun cdv A outer s H vs Q E hg hr h => ?_)
  · obtain ⟨t, b, rfl, _⟩ := h
    rfl
  · obtain ⟨t, b, rfl, b0, bb, q⟩ := h
    have nd := sc__law_told.nd
    have gg := T.g "_law_gcd" (by decide +kernel)
    refine ⟨_, pss_cons (ps_set (i := 2) nd rfl (Or.inl rfl) (pe_ifExp (pt_cmpR op_gt (pv 1) pe_int (nomark _)) (pe_callG (ok_gcd T) hr hg (by rfl) gg (kp__law_gcd T.d) pass0 (pa_cons (pv 0) (pa_cons (pv 1) pa_nil)))
        (pe_op op_sub pe_int (pe_callG (ok_gcd T) hr hg (by rfl) gg (kp__law_gcd T.d) pass0 (pa_cons (pv 0) (pa_cons (pv 1) pa_nil))))))
      (pss_one (ps_ret (pe_ifExp (pt_cmpR op_eq (pv 1) (pv 2) (nomark _)) (pe_op op_fdivZ (pv 0) (pv 2)) (pe_tup (pa_cons (pe_op op_fdivZ (pv 0) (pv 2)) (pa_cons (pe_op op_fdivZ (pv 1) (pv 2)) pa_nil)))))), ?_⟩
    obtain ⟨o1, o2, o3, o4, _, _⟩ := dvs_out (t := t) b0
    have o5 := dvs_log (t := t) b0 bb (by decide) (by decide)
    refine ⟨_, rfl, _, _, rfl, rfl, _, rfl, ?_⟩
    by_cases hn : b < 0
    · rw [dvs_neg0 hn] at o1 o2 o3 o4 o5
      refine ifF (decide_eq_false (by omega)) ⟨_, rfl, _, rfl, t, b, rfl, _, _, rfl, rfl, ?_⟩
      refine ⟨_, rfl, _, rfl, rfl, _, rfl, ?_⟩
      rw [iEq]
      by_cases e : b = 0 - ((Nat.gcd t.natAbs b.natAbs : Nat) : Int)
      · exact ifT (decide_eq_true e) ⟨_, rfl, _, rfl, _, _, rfl, rfl, ⟨o1, o5⟩, q _ H (Same.refl H) (NumQ.int o2.symm (o4.mp e) rfl)⟩
      · refine ifF (decide_eq_false e) ⟨_, rfl, _, rfl, _, _, rfl, rfl, ⟨o1, o5⟩, _, rfl, _, rfl, _, _, rfl, rfl, ⟨o1, o5⟩, by show 2 ≤ sizeLine; decide, fun p np => q _ _ (same_up np) (.inr ⟨fun z => e (o4.mpr z), p, rfl, ?_⟩)⟩
        rw [← o2, ← o3]
        exact upd_same
    · rw [dvs_nn hn] at o1 o2 o3 o4 o5
      refine ifT (decide_eq_true (by omega)) ⟨_, rfl, _, rfl, t, b, rfl, ?_⟩
      refine ⟨_, rfl, _, rfl, rfl, _, rfl, ?_⟩
      rw [iEq]
      by_cases e : b = ((Nat.gcd t.natAbs b.natAbs : Nat) : Int)
      · exact ifT (decide_eq_true e) ⟨_, rfl, _, rfl, _, _, rfl, rfl, ⟨o1, o5⟩, q _ H (Same.refl H) (NumQ.int o2.symm (o4.mp e) rfl)⟩
      · refine ifF (decide_eq_false e) ⟨_, rfl, _, rfl, _, _, rfl, rfl, ⟨o1, o5⟩, _, rfl, _, rfl, _, _, rfl, rfl, ⟨o1, o5⟩, by show 2 ≤ sizeLine; decide, fun p np => q _ _ (same_up np) (.inr ⟨fun z => e (o4.mpr z), p, rfl, ?_⟩)⟩
        rw [← o2, ← o3]
        exact upd_same
def spFar : Sp := fun vs H Q _ => ∃ (d : Addr) (k : Int), vs = [.ref d] ∧ PenAt H d k ∧ k < 500000 ∧ ∀ (n : Int) (H' : Hp), 0 ≤ n → n < FL → But d H H' → PenAt H' d (k + 20) → Q (.int n) H'
theorem ok_far (T : Tx K mg) : FnG P w K mg base CX0 3 (He.ga K "_law_far") spFar := by
  refine mk__law_far T.d (fun vs H Q E h => ?_) (fun cdv A outer s H vs Q E hg hr h => ?_)
  · obtain ⟨d, k, rfl, _⟩ := h
    rfl
  · obtain ⟨d, k, rfl, pen, k9, q⟩ := h
    have nd := sc__law_far.nd
    have gp := T.g "_law_pick" (by decide +kernel)
    have gd := T.g "_law_draw" (by decide +kernel)
    refine ⟨_, pss_cons (ps_set (i := 1) nd rfl (Or.inl rfl) pe_int)
      (pss_cons (ps_for PassesOwn.never rfl (pi_range1 (by rfl) (T.z "range" (by decide +kernel)) (pa_cons (pe_callG (ok_pick T) hr hg (by rfl) gp (kp__law_pick T.d) pass0 (pa_cons (pv 0) (pa_cons (pe_lst (pa_cons pe_int (pa_cons pe_int (pa_cons pe_int (pa_cons pe_int pa_nil))))) pa_nil))) pa_nil)) (pg_name (i := 2) nd rfl (.inl rfl))
        (pss_one (ps_set (i := 1) nd rfl (Or.inl rfl) (pe_op op_add (pe_op op_mul (pv 1) (pe_op op_pow pe_int pe_int)) (pe_callG (ok_draw T) (hr.mono (by decide)) hg (by rfl) gd (kp__law_draw T.d) pass0 (pa_cons (pv 0) (pa_cons (pe_op op_pow pe_int pe_int) pa_nil)))))))
      (pss_one (ps_ret (pe_callG (ok_pick T) hr hg (by rfl) gp (kp__law_pick T.d) pass0 (pa_cons (pv 0) (pa_cons (pe_lst (pa_cons (pv 1) (pa_cons (pv 1) (pa_cons (pv 1) (pa_cons
        (pe_op op_sub (pe_op op_sub (pe_callG (ok_tens T) (hr.mono (by decide)) hg (by rfl) (T.g "_law_tens" (by decide +kernel)) (kp__law_tens T.d) pass0 (pa_cons pe_int pa_nil)) pe_int) (pe_callG (ok_draw T) (hr.mono (by decide)) hg (by rfl) gd (kp__law_draw T.d) pass0 (pa_cons (pv 0) (pa_cons pe_int pa_nil)))) pa_nil))))) pa_nil)))))), ?_⟩
    refine ⟨_, rfl, by show 4 ≤ sizeLine; decide, fun l nl => ?_⟩
    have s0 := same_up (o := .lst [V.int 1, V.int 1, V.int 3, V.int 10]) nl
    refine ⟨d, l, k, _, rfl, pen.same s0, by omega, upd_same, by show 0 < 4; decide, by show 4 < 1000; decide, fun x H1 hx bt1 pen1 => ?_⟩
    obtain ⟨m, rfl, m0, m10⟩ : ∃ m : Int, x = .int m ∧ 0 ≤ m ∧ m ≤ 10 := by
      simp only [List.mem_cons, List.not_mem_nil, or_false] at hx
      rcases hx with rfl | rfl | rfl | rfl
      · exact ⟨1, rfl, by decide, by decide⟩
      · exact ⟨1, rfl, by decide, by decide⟩
      · exact ⟨3, rfl, by decide, by decide⟩
      · exact ⟨10, rfl, by decide, by decide⟩
    have bt := (But.same s0).trans bt1
    refine ⟨m, rfl, by omega, by omega, ?_⟩
    refine for_range (lo := 0) (fun i σ H' => ∃ (n : Int) (v : Option V), σ = [some (.ref d), some (.int n), v] ∧ 0 ≤ n ∧ n < 10 ^ (9 * i) ∧ But d H H' ∧ PenAt H' d (k + 1 + i)) ⟨0, none, rfl, by decide, by decide, bt, pen1.mono (by omega)⟩ ?_ ?_
    · rintro i σ H2 hi ⟨n, v, rfl, n0, n9, bt2, pen2⟩
      refine ⟨_, rfl, _, _, rfl, rfl, ⟨by decide, by decide, by decide⟩, _, _, rfl, rfl, .inr ⟨by rw [ten9]; decide, by rw [ten9]; decide⟩, ?_⟩
      refine ⟨_, rfl, _, _, rfl, rfl, ⟨by decide, by decide, by decide⟩, d, _, _, rfl, pen2, by omega, by rw [ten9]; decide, by rw [ten9]; decide, fun x H3 bt3 pen3 x0 x1 => ?_⟩
      rw [ten9] at x1
      refine ⟨_, _, rfl, rfl, _, _, rfl, ?_, ?_, bt2.trans bt3, pen3.mono (by omega)⟩
      · rw [ten9]
        omega
      · rw [ten9, show 9 * (i + 1) = 9 * i + 9 by omega, Int.pow_add]
        have e9 : (10 : Int) ^ 9 = 1000000000 := by decide
        rw [e9]
        omega
    · rintro σ H2 ⟨n, v, rfl, n0, n9, bt2, pen2⟩
      have nFL : n < FL := by
        refine Int.lt_trans n9 ?_
        have e : (10 : Int) ^ (9 * m.toNat) ≤ 10 ^ 90 := by
          have c : ∀ j : Nat, (10 : Int) ^ j = ((10 ^ j : Nat) : Int) := fun j => by rw [Int.natCast_pow]; rfl
          rw [c, c]
          exact Int.ofNat_le.mpr (Nat.pow_le_pow_right (by decide) (by omega))
        have e2 : (10 : Int) ^ 90 < FL := by unfold FL; decide
        omega
      refine ⟨_, rfl, _, rfl, _, rfl, _, rfl, rfl, _, _, rfl, rfl, _, rfl, d, _, 3, rfl, pen2, by omega, by decide, by decide, fun x H3 bt3 pen3 x0 x1 => ⟨_, _, rfl, rfl, by show 4 ≤ sizeLine; decide, fun l2 nl2 => ?_⟩⟩
      have s3 := same_up (o := .lst [V.int n, V.int n, V.int n, V.int (FL - 1 - x)]) nl2
      refine ⟨d, l2, _, _, rfl, pen3.same s3, by omega, upd_same, by show 0 < 4; decide, by show 4 < 1000; decide, fun y H4 hy bt4 pen4 => ?_⟩
      have b4 := (bt2.trans bt3).trans ((But.same s3).trans bt4)
      have p4 : PenAt H4 d (k + 20) := pen4.mono (by omega)
      have fl3 : 3 < FL := by unfold FL; decide
      simp only [List.mem_cons, List.not_mem_nil, or_false] at hy
      rcases hy with rfl | rfl | rfl | rfl
      · exact q _ H4 n0 nFL b4 p4
      · exact q _ H4 n0 nFL b4 p4
      · exact q _ H4 n0 nFL b4 p4
      · exact q _ H4 (by omega) (by omega) b4 p4
def spPrime : Sp := fun vs H Q _ => ∃ (d : Addr) (k : Int), vs = [.ref d] ∧ PenAt H d k ∧ k < 1000000000000 ∧ ∀ (p : Int) (H' : Hp), Pm p → But d H H' → PenAt H' d (k + 1) → Q (.int p) H'
theorem ok_lprime (T : Tx K mg) : FnG P w K mg base CX0 3 (He.ga K "_law_prime") spPrime := by
  refine mk__law_prime T.d (fun vs H Q E h => ?_) (fun cdv A outer s H vs Q E hg hr h => ?_)
  · obtain ⟨d, k, rfl, _⟩ := h
    rfl
  · obtain ⟨d, k, rfl, pen, k9, q⟩ := h
    refine ⟨_, pss_one (ps_ret (pe_callG (ok_pick T) hr hg (by rfl) (T.g "_law_pick" (by decide +kernel)) (kp__law_pick T.d) pass0
      (pa_cons (pv 0) (pa_cons (pe_lst (pa_cons pe_int (pa_cons pe_int (pa_cons pe_int (pa_cons pe_int (pa_cons pe_int (pa_cons pe_int (pa_cons pe_int (pa_cons pe_int pa_nil))))))))) pa_nil)))), ?_⟩
    refine ⟨_, rfl, by show 8 ≤ sizeLine; decide, fun l nl => ?_⟩
    have s0 := same_up (o := .lst [V.int 2, V.int 2, V.int 3, V.int 3, V.int 5, V.int 7, V.int 101, V.int 1000003]) nl
    refine ⟨d, l, k, _, rfl, pen.same s0, k9, upd_same, by show 0 < 8; decide, by show 8 < 1000; decide, fun x H1 hx bt pen1 => ?_⟩
    have b := (But.same s0).trans bt
    simp only [List.mem_cons, List.not_mem_nil, or_false] at hx
    rcases hx with rfl | rfl | rfl | rfl | rfl | rfl | rfl | rfl
    · exact q _ H1 pm2 b pen1
    · exact q _ H1 pm2 b pen1
    · exact q _ H1 pm3 b pen1
    · exact q _ H1 pm3 b pen1
    · exact q _ H1 pm5 b pen1
    · exact q _ H1 pm7 b pen1
    · exact q _ H1 pm101 b pen1
    · exact q _ H1 pm1000003 b pen1
def spNumber : Sp := fun vs H Q _ => ∃ (d : Addr) (k p : Int), vs = [.ref d, .int p] ∧ PenAt H d k ∧ k < 1000000000 ∧ Md p ∧ ∀ (a : Int) (H' : Hp), 0 ≤ a → a < p → But d H H' → PenAt H' d (k + 2) → Q (.int a) H'
theorem ok_number (T : Tx K mg) : FnG P w K mg base CX0 3 (He.ga K "_law_number") spNumber := by
  refine mk__law_number T.d (fun vs H Q E h => ?_) (fun cdv A outer s H vs Q E hg hr h => ?_)
  · obtain ⟨d, k, p, rfl, _⟩ := h
    rfl
  · obtain ⟨d, k, p, rfl, pen, k9, m, q⟩ := h
    have hlo := m.lo
    have hhi := m.hi
    refine ⟨_, pss_one (ps_ret (pe_callG (ok_pick T) hr hg (by rfl) (T.g "_law_pick" (by decide +kernel)) (kp__law_pick T.d) pass0
      (pa_cons (pv 0) (pa_cons (pe_lst (pa_cons pe_int (pa_cons pe_int (pa_cons pe_int (pa_cons (pe_op op_sub (pe_callTy call_int1 (by rfl) (T.z "int" (by decide +kernel)) (by decide +kernel) (pa_cons (pv 1) pa_nil)) pe_int)
        (pa_cons (pe_callG (ok_draw T) (hr.mono (by decide)) hg (by rfl) (T.g "_law_draw" (by decide +kernel)) (kp__law_draw T.d) pass0 (pa_cons (pv 0) (pa_cons (pv 1) pa_nil))) pa_nil)))))) pa_nil)))), ?_⟩
    refine ⟨_, rfl, _, rfl, .inl ⟨_, rfl, _, _, rfl, rfl, _, rfl, _, rfl, d, k, p, rfl, pen, by omega, by omega, by omega, fun i H1 bt pen1 i0 i1 => ⟨by show 5 ≤ sizeLine; decide, fun l nl => ?_⟩⟩⟩
    have s0 := same_up (o := .lst [V.int 0, V.int 0, V.int 1, V.int (p - 1), V.int i]) nl
    refine ⟨d, l, k + 1, _, rfl, pen1.same s0, by omega, upd_same, by show 0 < 5; decide, by show 5 < 1000; decide, fun x H2 hx bt2 pen2 => ?_⟩
    have b := bt.trans ((But.same s0).trans bt2)
    have pen3 : PenAt H2 d (k + 2) := pen2.mono (by omega)
    simp only [List.mem_cons, List.not_mem_nil, or_false] at hx
    rcases hx with rfl | rfl | rfl | rfl | rfl
    · exact q _ H2 (by omega) (by omega) b pen3
    · exact q _ H2 (by omega) (by omega) b pen3
    · exact q _ H2 (by omega) (by omega) b pen3
    · exact q _ H2 (by omega) (by omega) b pen3
    · exact q _ H2 i0 i1 b pen3
def spAnyPrime : Sp := fun vs H Q _ => ∃ (d : Addr) (k : Int), vs = [.ref d] ∧ PenAt H d k ∧ k < 100000 ∧ ∀ (φ : Fk) (H' : Hp), okP φ → But d H H' → PenAt H' d (k + 2) → Q (.int φ.code) H'
theorem ok_any_prime (T : Tx K mg) : FnG P w K mg base CX0 4 (He.ga K "_law_any_prime") spAnyPrime := by
  refine mk__law_any_prime T.d (fun vs H Q E h => ?_) (fun cdv A outer s H vs Q E hg hr h => ?_)
  · obtain ⟨d, k, rfl, _⟩ := h
    rfl
  · obtain ⟨d, k, rfl, pen, k9, q⟩ := h
    refine ⟨_, pss_one (ps_ret (pe_callG (ok_pick T) (hr.mono (by decide)) hg (by rfl) (T.g "_law_pick" (by decide +kernel)) (kp__law_pick T.d) pass0
      (pa_cons (pv 0) (pa_cons (pe_lst (pa_cons pe_int (pa_cons (pe_callG (ok_lprime T) hr hg (by rfl) (T.g "_law_prime" (by decide +kernel)) (kp__law_prime T.d) pass0 (pa_cons (pv 0) pa_nil)) pa_nil))) pa_nil)))), ?_⟩
    refine ⟨_, rfl, _, rfl, d, k, rfl, pen, by omega, fun p H1 pm bt1 pen1 => ⟨by show 2 ≤ sizeLine; decide, fun l nl => ?_⟩⟩
    have s1 := same_up (o := .lst [V.int 0, V.int p]) nl
    refine ⟨d, l, _, _, rfl, pen1.same s1, by omega, upd_same, by show 0 < 2; decide, by show 2 < 1000; decide, fun x H2 hx bt2 pen2 => ?_⟩
    have c := bt1.trans ((But.same s1).trans bt2)
    simp only [List.mem_cons, List.not_mem_nil, or_false] at hx
    rcases hx with rfl | rfl
    · exact q .fr H2 trivial c (pen2.mono (by omega))
    · exact q (.md p) H2 pm c (pen2.mono (by omega))
def spMade (K : PySem.W.Frag) : Sp := fun vs H Q _ => ∃ φ : Fk, vs = [.int φ.code] ∧ okP φ ∧ ∀ (f : Addr) (H' : Hp), Same H H' → FieldC K H' f φ → Q (.ref f) H'
theorem made_same {H : Hp} {x dx : Addr} {o1 o2 o3 : HO} (hx : H x = none) (hd : H dx = none) : Same H (upd (upd (upd H dx o1) x o2) x o3) := fun b o e => by
  rw [upd_ne (ne_of_none e hx), upd_ne (ne_of_none e hx), upd_ne (ne_of_none e hd)]
  exact e
theorem ok_made (T : Tx K mg) : FnG P w K mg base CX0 6 (He.ga K "_law_made_field") (spMade K) := by
  refine mk__law_made_field T.d (fun vs H Q E h => ?_) (fun cdv A outer s H vs Q E hg hr h => ?_)
  · obtain ⟨φ, rfl, _⟩ := h
    rfl
  · obtain ⟨φ, rfl, ok, q⟩ := h
    refine ⟨_, pss_one (ps_ret (pe_ifExp (pt_cmpR op_eq (pv 0) pe_int (nomark _)) (pe_makeG0 T.mF.mkr (ok_fracinit T) (hr.mono (by decide)) hg (by rfl) (T.g "Fractions" (by decide +kernel)) pass0)
      (pe_makeG T.mM.mkr (ok_minit T) hr hg (by rfl) (T.g "Modulo" (by decide +kernel)) pass0 (pa_cons (pv 0) pa_nil)))), ?_⟩
    refine ⟨_, rfl, rfl, _, rfl, ?_⟩
    rw [iEq]
    cases φ with
    | fr => exact ifT (by decide) fun x dx nx nd ne => ⟨x, dx, rfl, upd_same, rfl, q x _ (made_same nx nd) ⟨_, dx, T.fcF, T.mF, upd_same⟩⟩
    | md p =>
      have hlo := (show Pm p from ok).md.lo
      refine ifF (decide_eq_false (show ¬ p = 0 by omega)) ⟨_, rfl, fun x dx nx nd ne => ⟨x, dx, p, rfl, (show Pm p from ok).pr, (show Pm p from ok).sq, upd_same, rfl, q x _ (made_same nx nd) ⟨_, dx, T.fcM, T.mM, upd_same⟩⟩⟩
def spAny : Sp := fun vs H Q _ => ∃ (d : Addr) (k : Int) (φ : Fk) (sm : Bool), vs = [.ref d, .int φ.code, .bl sm] ∧ okP φ ∧ PenAt H d k ∧ k < 100000 ∧ ∀ (x : V) (r : Rat) (H' : Hp), NumQ H' x r → Ok100 r → But d H H' → PenAt H' d (k + 60) → Q x H'
theorem ok_any (T : Tx K mg) : FnG P w K mg base CX0 4 (He.ga K "_law_any_number") spAny := by
  refine mk__law_any_number T.d (fun vs H Q E h => ?_) (fun cdv A outer s H vs Q E hg hr h => ?_)
  · obtain ⟨d, k, φ, sm, rfl, _⟩ := h
    rfl
  · obtain ⟨d, k, φ, sm, rfl, ok, pen, k9, q⟩ := h
    have nd := sc__law_any_number.nd
    have gp := T.g "_law_pick" (by decide +kernel)
    have gd := T.g "_law_draw" (by decide +kernel)
    have gs := T.g "_law_signed" (by decide +kernel)
    have gf := T.g "_law_far" (by decide +kernel)
    have hu := hr
    refine ⟨_, pss_cons (ps_if (pt_cmpR op_gt (pv 1) pe_int (nomark _)) (pss_one (ps_ret (pe_callG (ok_number T) hr hg (by rfl) (T.g "_law_number" (by decide +kernel)) (kp__law_number T.d) pass0 (pa_cons (pv 0) (pa_cons (pv 1) pa_nil))))) pss_nil)
      (pss_cons (ps_set (i := 3) nd rfl (Or.inl rfl) (pe_callG (ok_signed T) (hr.mono (by decide)) hg (by rfl) gs (kp__law_signed T.d) pass0 (pa_cons (pv 0) (pa_cons (pe_callG (ok_pick T) (hr.mono (by decide)) hg (by rfl) gp (kp__law_pick T.d) pass0 (pa_cons (pv 0) (pa_cons (pe_lst (pa_cons pe_int (pa_cons pe_int
          (pa_cons (pe_callG (ok_draw T) (hr.mono (by decide)) hg (by rfl) gd (kp__law_draw T.d) pass0 (pa_cons (pv 0) (pa_cons pe_int pa_nil)))
          (pa_cons (pe_callG (ok_draw T) (hr.mono (by decide)) hg (by rfl) gd (kp__law_draw T.d) pass0 (pa_cons (pv 0) (pa_cons (pe_op op_pow pe_int pe_int) pa_nil))) pa_nil))))) pa_nil))) pa_nil))))
      (pss_cons (ps_set (i := 4) nd rfl (Or.inl rfl) (pe_callG (ok_pick T) (hr.mono (by decide)) hg (by rfl) gp (kp__law_pick T.d) pass0 (pa_cons (pv 0) (pa_cons (pe_lst (pa_cons pe_int (pa_cons pe_int
          (pa_cons (pe_op op_add pe_int (pe_callG (ok_draw T) (hr.mono (by decide)) hg (by rfl) gd (kp__law_draw T.d) pass0 (pa_cons (pv 0) (pa_cons pe_int pa_nil))))
          (pa_cons (pe_op op_add pe_int (pe_callG (ok_draw T) (hr.mono (by decide)) hg (by rfl) gd (kp__law_draw T.d) pass0 (pa_cons (pv 0) (pa_cons (pe_op op_pow pe_int pe_int) pa_nil)))) pa_nil))))) pa_nil))))
      (pss_cons (ps_if (PW.pt (pw_and (pt_not (pt_val (pv 2))) (pw_and1 (pt_cmpR op_eq (pe_callG (ok_draw T) (hr.mono (by decide)) hg (by rfl) gd (kp__law_draw T.d) pass0 (pa_cons (pv 0) (pa_cons pe_int pa_nil))) pe_int (nomark _)))))
        (pss_one (ps_par (i := 3) (j := 4) rfl nd rfl rfl (by decide) rfl rfl
          (pa_cons (pe_callG (ok_signed T) (hr.mono (by decide)) hg (by rfl) gs (kp__law_signed T.d) pass0 (pa_cons (pv 0) (pa_cons (pe_callG (ok_far T) hr hg (by rfl) gf (kp__law_far T.d) pass0 (pa_cons (pv 0) pa_nil)) pa_nil)))
          (pa_cons (pe_callG (ok_pick T) (hr.mono (by decide)) hg (by rfl) gp (kp__law_pick T.d) pass0 (pa_cons (pv 0) (pa_cons (pe_lst (pa_cons pe_int (pa_cons pe_int
            (pa_cons (pe_callB (call_max2 rfl) (by rfl) (T.z "max" (by decide +kernel)) (by decide +kernel) (pa_cons pe_int (pa_cons (pe_callG (ok_far T) hr hg (by rfl) gf (kp__law_far T.d) pass0 (pa_cons (pv 0) pa_nil)) pa_nil))) pa_nil)))) pa_nil))) pa_nil)) (by rfl))) pss_nil)
      (pss_one (ps_ret (pe_callG (ok_told T) (hr.mono (by decide)) hg (by rfl) (T.g "_law_told" (by decide +kernel)) (kp__law_told T.d) pass0 (pa_cons (pv 3) (pa_cons (pv 4) pa_nil)))))))), ?_⟩
    have f9 : (1000000001 : Int) < FL := by unfold FL; decide
    refine ⟨_, rfl, _, _, rfl, rfl, _, rfl, ?_⟩
    cases φ with
    | md p =>
      have pm : Pm p := ok
      have hlo := pm.md.lo
      have hhi := pm.md.hi
      refine ifT (decide_eq_true (show (0 : Int) < p by omega)) ?_
      refine ⟨_, rfl, _, rfl, d, k, p, rfl, pen, by omega, pm.md, fun a H1 a0 ap bt pen1 => q _ (iq a) H1 (.inl ⟨rfl, rfl⟩) ⟨?_, ?_⟩ bt (pen1.mono (by omega))⟩
      · show absI a < FL
        unfold absI
        split <;> omega
      · show (1 : Int) < FL
        omega
    | fr =>
      refine ifF (by decide) ?_
      -- the top
      refine ⟨_, rfl, _, rfl, _, rfl, d, k, 12, rfl, pen, by omega, by decide, by decide, fun x1 H1 bt1 pen1 x10 x11 => ?_⟩
      refine ⟨_, rfl, _, _, rfl, rfl, ⟨by decide, by decide, by decide⟩, d, _, _, rfl, pen1, by omega, by rw [ten9]; decide, by rw [ten9]; decide, fun x2 H2 bt2 pen2 x20 x21 => ⟨by show 4 ≤ sizeLine; decide, fun l nl => ?_⟩⟩
      rw [ten9] at x21
      have s2 := same_up (o := .lst [V.int 0, V.int 1, V.int x1, V.int x2]) nl
      refine ⟨d, l, _, _, rfl, pen2.same s2, by omega, upd_same, by show 0 < 4; decide, by show 4 < 1000; decide, fun y H3 hy bt3 pen3 => ?_⟩
      obtain ⟨t0, rfl, t00, t09⟩ : ∃ t0 : Int, y = .int t0 ∧ 0 ≤ t0 ∧ t0 < 1000000000 := by
        simp only [List.mem_cons, List.not_mem_nil, or_false] at hy
        rcases hy with rfl | rfl | rfl | rfl
        · exact ⟨0, rfl, by decide, by decide⟩
        · exact ⟨1, rfl, by decide, by decide⟩
        · exact ⟨x1, rfl, x10, by omega⟩
        · exact ⟨x2, rfl, x20, x21⟩
      have c3 := (bt1.trans bt2).trans ((But.same s2).trans bt3)
      refine ⟨d, _, t0, rfl, pen3, by omega, fun t H4 ht bt4 pen4 => ?_⟩
      have c4 := c3.trans bt4
      have tFL : absI t < FL := by
        rw [ht]
        unfold absI
        split <;> omega
      -- the bottom
      refine ⟨_, rfl, _, rfl, d, _, 12, rfl, pen4, by omega, by decide, by decide, fun z1 H5 bt5 pen5 z10 z11 => ?_⟩
      refine ⟨_, _, rfl, rfl, _, rfl, _, _, rfl, rfl, ⟨by decide, by decide, by decide⟩, d, _, _, rfl, pen5, by omega, by rw [ten9]; decide, by rw [ten9]; decide, fun z2 H6 bt6 pen6 z20 z21 => ?_⟩
      rw [ten9] at z21
      refine ⟨_, _, rfl, rfl, by show 4 ≤ sizeLine; decide, fun l2 nl2 => ?_⟩
      have s6 := same_up (o := .lst [V.int 1, V.int 1, V.int (1 + z1), V.int (1 + z2)]) nl2
      refine ⟨d, l2, _, _, rfl, pen6.same s6, by omega, upd_same, by show 0 < 4; decide, by show 4 < 1000; decide, fun y2 H7 hy2 bt7 pen7 => ?_⟩
      obtain ⟨b, rfl, b0, b9⟩ : ∃ b : Int, y2 = .int b ∧ 0 < b ∧ b ≤ 1000000000 := by
        simp only [List.mem_cons, List.not_mem_nil, or_false] at hy2
        rcases hy2 with rfl | rfl | rfl | rfl
        · exact ⟨1, rfl, by decide, by decide⟩
        · exact ⟨1, rfl, by decide, by decide⟩
        · exact ⟨_, rfl, by omega, by omega⟩
        · exact ⟨_, rfl, by omega, by omega⟩
      have c7 := (c4.trans (bt5.trans bt6)).trans ((But.same s6).trans bt7)
      have big : ∀ n : Int, 0 < n → n < FL → n.natAbs < 2 ^ 4000 := fun n h0 h1 => to4000 (fl_nat (n := n.natAbs) (by omega)) (by decide)
      refine ⟨_, rfl, _, rfl, ?_⟩
      cases sm with
      | true => 
        refine ifF rfl (ifF rfl ?_)
        refine ⟨_, rfl, _, rfl, t, b, rfl, by omega, big b b0 (by omega), fun x H8 s8 n8 => q x _ H8 n8 (ok100_div tFL b0 (by omega)) (c7.trans (But.same s8)) ((pen7.same s8).mono (by omega))⟩
      | false =>
        refine ifT rfl ?_
        refine ⟨_, rfl, d, _, 3, rfl, pen7, by omega, by decide, by decide, fun x3 H8 bt8 pen8 x30 x31 => ⟨rfl, _, rfl, ?_⟩⟩
        rw [iEq]
        have c8 := c7.trans bt8
        by_cases e : x3 = 0
        · refine ifT (decide_eq_true e) ?_
          refine ⟨_, rfl, _, rfl, d, _, rfl, pen8, by omega, fun n H9 n0 nF bt9 pen9 => ?_⟩
          refine ⟨d, _, n, rfl, pen9, by omega, fun t2 H10 ht2 bt10 pen10 => ?_⟩
          refine ⟨_, rfl, _, rfl, d, _, rfl, pen10, by omega, fun n2 H11 n20 n2F bt11 pen11 => ⟨_, _, rfl, by show 3 ≤ sizeLine; decide, fun l3 nl3 => ?_⟩⟩
          have s11 := same_up (o := .lst [V.int 1, V.int 2, V.int (if n2 > 1 then n2 else 1)]) nl3
          refine ⟨d, l3, _, _, rfl, pen11.same s11, by omega, upd_same, by show 0 < 3; decide, by show 3 < 1000; decide, fun y3 H12 hy3 bt12 pen12 => ⟨_, _, rfl, ?_⟩⟩
          obtain ⟨b2, rfl, b20, b2F⟩ : ∃ b : Int, y3 = .int b ∧ 0 < b ∧ b < FL := by
            simp only [List.mem_cons, List.not_mem_nil, or_false] at hy3
            rcases hy3 with rfl | rfl | rfl
            · exact ⟨1, rfl, by decide, by omega⟩
            · exact ⟨2, rfl, by decide, by omega⟩
            · exact ⟨_, rfl, by split <;> omega, by split <;> omega⟩
          have c12 := ((c8.trans bt9).trans (bt10.trans bt11)).trans ((But.same s11).trans bt12)
          have t2F : absI t2 < FL := by
            rw [ht2]
            unfold absI
            split <;> omega
          refine ⟨_, rfl, _, rfl, t2, b2, rfl, by omega, big b2 b20 b2F, fun x H13 s13 n13 => q x _ H13 n13 (ok100_div t2F b20 b2F) (c12.trans (But.same s13)) ((pen12.same s13).mono (by omega))⟩
        · refine ifF (decide_eq_false e) ?_
          refine ⟨_, rfl, _, rfl, t, b, rfl, by omega, big b b0 (by omega), fun x H9 s9 n9 => q x _ H9 n9 (ok100_div tFL b0 (by omega)) (c8.trans (But.same s9)) ((pen8.same s9).mono (by omega))⟩
end
end K02

namespace K02
open PySem PySem.Spec PyProof.Rows L2 Ver Num
theorem fl_big : (1000000000 : Int) < FL := by unfold FL; decide
theorem long_int {t : Int} : longB FL (.int t) = decide (FL ≤ absI t) := by
  rw [longB_two (t := t) (b := 1) rfl, decide_eq_false (show ¬ FL ≤ 1 by have := fl_big; omega), Bool.or_false]
theorem numB_int_md {p t : Int} (pm : Pm p) : numB (.md p) (.int t) = (decide (0 ≤ t) && decide (t < p)) := by
  have h1 := pm.md.hi
  have h2 := fl_big
  show ((decide (0 ≤ t) && decide (t ≤ p - 1)) && !longB FL (.int t)) = _
  rw [long_int]
  by_cases a : 0 ≤ t
  · by_cases b : t < p
    · rw [decide_eq_true a, decide_eq_true b, decide_eq_true (show t ≤ p - 1 by omega), decide_eq_false (show ¬ FL ≤ absI t by unfold absI; split <;> omega)]
      rfl
    · rw [decide_eq_true a, decide_eq_false b, decide_eq_false (show ¬ t ≤ p - 1 by omega)]
      rfl
  · rw [decide_eq_false a]
    rfl
theorem numB_not_md {p : Int} {d : PyData} (h : isI d = false) : numB (.md p) d = false := by
  show (btw 0 (p - 1) d && _) = false
  rw [btw_not h]
  rfl
theorem not_le_lt (a b : Int) : (!decide (a ≤ b)) = decide (b < a) := by
  by_cases h : a ≤ b
  · rw [decide_eq_true h, decide_eq_false (show ¬ b < a by omega)]
    rfl
  · rw [decide_eq_false h, decide_eq_true (show b < a by omega)]
    rfl
theorem numB_int_fr {t : Int} : numB .fr (.int t) = decide (absI t < FL) := by
  show ((isI (.int t) || frac (.int t)) && !longB FL (.int t)) = _
  rw [long_int, show isI (.int t) = true from rfl, Bool.true_or, Bool.true_and, not_le_lt]
theorem numB_two_fr {t b : Int} : numB .fr (.tuple [.int t, .int b]) = ((decide (2 ≤ b) && decide (Nat.gcd t.natAbs b.natAbs = 1)) && (decide (absI t < FL) && decide (b < FL))) := by
  show ((false || (decide (2 ≤ b) && decide (Nat.gcd t.natAbs b.natAbs = 1))) && !longB FL (.tuple [.int t, .int b])) = _
  rw [longB_two (t := t) (b := b) rfl, Bool.false_or, Bool.not_or, not_le_lt, not_le_lt]
theorem numB_not_fr {d : PyData} (h : isI d = false) (h2 : frac d = false) : numB .fr d = false := by
  show ((isI d || frac d) && _) = false
  rw [h, h2]
  rfl
section
variable {P : Program} {w : World} {K : PySem.W.Frag} {mg : Str → Option Value} {base : Heap}
def spLNum (K : PySem.W.Frag) : Sp := fun vs H Q _ => ∃ (φ : Fk) (x : V) (d : PyData), vs = [.int φ.code, x] ∧ okP φ ∧ Do K H x d ∧ Q (.bl (numB φ d)) H
theorem ok_lnum (T : Tx K mg) : FnG P w K mg base CX0 2 (He.ga K "_law_is_number") (spLNum K) := by
  refine mk__law_is_number T.d (fun vs H Q E h => ?_) (fun cdv A outer s H vs Q E hg hr h => ?_)
  · obtain ⟨φ, x, d, rfl, _⟩ := h
    rfl
  · obtain ⟨φ, x, d, rfl, ok, hd, q⟩ := h
    have gw := T.g "_law_is_whole" (by decide +kernel)
    have gt := T.g "_law_tens" (by decide +kernel)
    have za := T.z "abs" (by decide +kernel)
    have ba : bootBuiltins "abs" = some (.builtin "abs") := by decide +kernel
    refine ⟨_, pss_cons (ps_if (pt_cmpR op_gt (pv 0) pe_int (nomark _)) (pss_one (ps_ret (pe_and (pe_callG (ok_is_whole T) hr hg (by rfl) gw (kp__law_is_whole T.d) pass0 (pa_cons (pv 1) pa_nil)) (pe_one (pe_chain op_le op_lt pe_int (pv 1) (pv 0)))))) pss_nil)
      (pss_cons (ps_if (pt_val (pe_callG (ok_is_whole T) hr hg (by rfl) gw (kp__law_is_whole T.d) pass0 (pa_cons (pv 1) pa_nil)))
        (pss_one (ps_ret (pe_cmpR op_lt (pe_callB call_abs (by rfl) za ba (pa_cons (pv 1) pa_nil)) (pe_callG (ok_tens T) hr hg (by rfl) gt (kp__law_tens T.d) pass0 (pa_cons pe_int pa_nil)) (nomark _)))) pss_nil)
      (pss_cons (ps_if (PW.pt (pw_or (pt_not (pt_val (pe_callB call_isi (by rfl) (T.z "isinstance" (by decide +kernel)) (by decide +kernel) (pa_cons (pv 1) (pa_cons (pe_bltn (v := .ty "tuple") (by rfl) (T.z "tuple" (by decide +kernel)) (by decide +kernel) rfl) pa_nil)))))
          (pw_or (pt_cmpR op_ne (pe_callB call_len_seq (by rfl) (T.z "len" (by decide +kernel)) (by decide +kernel) (pa_cons (pv 1) pa_nil)) pe_int (nomark _))
          (pw_or (pt_not (pt_val (pe_callG (ok_is_whole T) hr hg (by rfl) gw (kp__law_is_whole T.d) pass0 (pa_cons (pe_ix ix_tup (pv 1) pe_int (fun _ _ => rfl)) pa_nil))))
          (pw_or1 (pt_not (pt_val (pe_callG (ok_is_whole T) hr hg (by rfl) gw (kp__law_is_whole T.d) pass0 (pa_cons (pe_ix ix_tup (pv 1) pe_int (fun _ _ => rfl)) pa_nil))))))))) (pss_one (ps_ret pe_bl)) pss_nil)
      (pss_cons (ps_if (PW.pt (pw_or (pt_cmpR op_lt (pe_ix ix_tup (pv 1) pe_int (fun _ _ => rfl)) pe_int (nomark _))
          (pw_or1 (pt_cmpR op_ne (pe_callG (ok_gcd T) hr hg (by rfl) (T.g "_law_gcd" (by decide +kernel)) (kp__law_gcd T.d) pass0 (pa_cons (pe_ix ix_tup (pv 1) pe_int (fun _ _ => rfl)) (pa_cons (pe_ix ix_tup (pv 1) pe_int (fun _ _ => rfl)) pa_nil))) pe_int (nomark _))))) (pss_one (ps_ret pe_bl)) pss_nil)
      (pss_one (ps_ret (pe_and (pe_cmpR op_lt (pe_callB call_abs (by rfl) za ba (pa_cons (pe_ix ix_tup (pv 1) pe_int (fun _ _ => rfl)) pa_nil)) (pe_callG (ok_tens T) hr hg (by rfl) gt (kp__law_tens T.d) pass0 (pa_cons pe_int pa_nil)) (nomark _))
        (pe_one (pe_cmpR op_lt (pe_ix ix_tup (pv 1) pe_int (fun _ _ => rfl)) (pe_callG (ok_tens T) hr hg (by rfl) gt (kp__law_tens T.d) pass0 (pa_cons pe_int pa_nil)) (nomark _)))))))))  , ?_⟩
    refine ⟨_, rfl, _, _, rfl, rfl, _, rfl, ?_⟩
    cases φ with
    | md p =>
      have pm : Pm p := ok
      have hlo := pm.md.lo
      refine ifT (decide_eq_true (show (0 : Int) < p by omega)) ?_
      refine ⟨_, rfl, x, d, rfl, hd, _, rfl, ?_⟩
      cases e : isI d with
      | false =>
        rw [numB_not_md e] at q
        exact ifF rfl q
      | true =>
        cases hd with
        | int t =>
          rw [numB_int_md pm] at q
          refine ifT rfl ⟨_, rfl, _, _, rfl, rfl, _, rfl, ?_⟩
          by_cases a : 0 ≤ t
          · rw [decide_eq_true a] at q
            exact ifT (decide_eq_true a) ⟨_, rfl, _, _, rfl, rfl, q⟩
          · rw [decide_eq_false a] at q
            exact ifF (decide_eq_false a) q
        | _ => cases e
    | fr =>
      refine ifF (by decide) ?_
      refine ⟨_, rfl, x, d, rfl, hd, _, rfl, ?_⟩
      cases e : isI d with
      | true =>
        cases hd with
        | int t =>
          rw [numB_int_fr] at q
          exact ifT rfl ⟨_, rfl, _, rfl, rfl, _, _, rfl, rfl, q⟩
        | _ => cases e
      | false =>
        refine ifF rfl ?_
        refine ⟨_, rfl, _, _, _, _, _, rfl, .ty "tuple", hd.ty, kit_tuple d, _, rfl, ?_⟩
        cases e2 : is_tuple d with
        | false =>
          rw [numB_not_fr e (frac_not e2)] at q
          exact ifT rfl (ifT rfl q)
        | true =>
          refine ifF rfl ?_
          cases hd with
          | tup hs ha =>
            rename_i a xs ds
            have lx := doall_len ha
            refine ⟨_, rfl, a, _, rfl, .inr hs, rfl, _, rfl, ?_⟩
            rw [iEq]
            by_cases l2 : ds.length = 2
            · refine ifF (by rw [decide_eq_true (show ((xs.length : Nat) : Int) = 2 by omega)]; rfl) ?_
              obtain ⟨d1, d2, rfl⟩ : ∃ d1 d2, ds = [d1, d2] := by
                match ds, l2 with
                | [d1, d2], _ => exact ⟨d1, d2, rfl⟩
              obtain ⟨x1, x2, rfl⟩ : ∃ x1 x2, xs = [x1, x2] := by
                have lx2 : xs.length = 2 := lx
                match xs, lx2 with
                | [x1, x2], _ => exact ⟨x1, x2, rfl⟩
              cases ha with
              | cons h1 ha =>
                cases ha with
                | cons h2 _ =>
                  refine ⟨_, rfl, a, _, _, _, rfl, rfl, hs, rfl, x1, d1, rfl, h1, _, rfl, ?_⟩
                  cases e1 : isI d1 with
                  | false =>
                    rw [numB_not_fr e (by rw [frac_two]; cases d1 <;> first | rfl | cases e1)] at q
                    exact ifT rfl (ifT rfl q)
                  | true =>
                    refine ifF rfl ⟨_, rfl, a, _, _, _, rfl, rfl, hs, rfl, x2, d2, rfl, h2, _, rfl, ?_⟩
                    cases e3 : isI d2 with
                    | false =>
                      rw [numB_not_fr e (by rw [frac_two]; cases d1 <;> cases d2 <;> first | rfl | cases e3)] at q
                      exact ifT rfl q
                    | true =>
                      refine ifF rfl ?_
                      cases h1 with
                      | int t =>
                        cases h2 with
                        | int b =>
                          rw [numB_two_fr] at q
                          refine ⟨_, rfl, a, _, _, _, rfl, rfl, hs, rfl, _, _, rfl, rfl, _, rfl, ?_⟩
                          by_cases hb : 2 ≤ b
                          · rw [decide_eq_true hb] at q
                            refine ifF (decide_eq_false (by omega)) ?_
                            refine ⟨_, rfl, a, _, _, _, rfl, rfl, hs, rfl, _, rfl, a, _, _, _, rfl, rfl, hs, rfl, t, b, rfl, rfl, _, rfl, ?_⟩
                            rw [iEq]
                            by_cases g : Nat.gcd t.natAbs b.natAbs = 1
                            · rw [decide_eq_true g] at q
                              refine ifF (by rw [decide_eq_true (show ((Nat.gcd t.natAbs b.natAbs : Nat) : Int) = 1 by omega)]; rfl) ?_
                              refine ⟨_, rfl, a, _, _, _, rfl, rfl, hs, rfl, _, rfl, rfl, _, _, rfl, rfl, _, rfl, ?_⟩
                              by_cases c : absI t < FL
                              · rw [decide_eq_true c] at q
                                exact ifT (decide_eq_true c) ⟨_, rfl, a, _, _, _, rfl, rfl, hs, rfl, rfl, _, _, rfl, rfl, q⟩
                              · rw [decide_eq_false c] at q
                                exact ifF (decide_eq_false c) q
                            · rw [decide_eq_false g] at q
                              exact ifT (by rw [decide_eq_false (show ¬ ((Nat.gcd t.natAbs b.natAbs : Nat) : Int) = 1 by omega)]; rfl) q
                          · rw [decide_eq_false hb] at q
                            exact ifT (decide_eq_true (by omega)) (ifT rfl q)
                        | _ => cases e3
                      | _ => cases e1
            · rw [numB_not_fr e (frac_len l2)] at q
              exact ifT (by rw [decide_eq_false (show ¬ ((xs.length : Nat) : Int) = 2 by omega)]; rfl) (ifT rfl q)
          | _ => cases e2
end
end K02

namespace K02
open PySem PySem.Spec PyProof.Rows L2 Ver Num
/-! ### values that are drawn -/
def Good (p : Addr) (K : PySem.W.Frag) (H : Hp) (x : V) : Prop := ∃ dd, DoS p K H x dd ∧ OkO dd
section
variable {p : Addr} {K : PySem.W.Frag} {H H' : Hp} {x : V}
theorem Good.but (h : Good p K H x) (b : But p H H') : Good p K H' x := by
  obtain ⟨dd, h1, h2⟩ := h
  exact ⟨dd, h1.but b, h2⟩
theorem Good.same (h : Good p K H x) (s : Same H H') : Good p K H' x := h.but (But.same s)
theorem int_len {n : Int} (h : n.natAbs < 2 ^ 400) : n.natAbs.log2 < 1920 ∧ (PyData.int n).shown.length ≤ 401 := by
  have l := PySem.Flt.log2_lt_of (by decide) h
  refine ⟨by omega, ?_⟩
  have e := int_text_length_le (k := 400) (by decide) l
  simp only [PyData.shown]
  have e2 : (Str.ofString (toString n)).length ≤ 401 := by
    rw [PySem.ofString_length]
    exact e
  exact e2
theorem ok_int {i : Int} (h : i.natAbs < 2 ^ 400) : OkO (.int i) := by
  obtain ⟨a1, a2⟩ := int_len h
  exact ⟨by simp only [PyData.showable]; exact decide_eq_true a1, by show (PyData.int i).shown.length ≤ 1000; omega, by simp [PyData.depth], rfl⟩
theorem good_int {i : Int} (h : i.natAbs < 2 ^ 400) : Good p K H (.int i) := ⟨_, fun _ _ => .int i, ok_int h⟩
theorem ok_pair {a b : Int} (ha : a.natAbs < 2 ^ 400) (hb : b.natAbs < 2 ^ 400) : OkO (.tuple [.int a, .int b]) := by
  obtain ⟨a1, a2⟩ := int_len ha
  obtain ⟨b1, b2⟩ := int_len hb
  refine ⟨?_, ?_, by simp [PyData.depth, PyData.depthAll], rfl⟩
  · simp only [PyData.showable, PyData.showableAll, decide_eq_true a1, decide_eq_true b1]
    rfl
  · show piled (PyData.shownAll [.int a, .int b]) ≤ 1000
    simp only [PyData.shownAll]
    rw [piled_cons, piled_cons, piled_nil]
    omega
theorem pen_neT {k : Int} {a : Addr} {xs : List V} (pen : PenAt H p k) (h : H a = some (.tup xs)) : a ≠ p := by
  obtain ⟨c, cells, b, l, h1, _⟩ := pen.ex
  exact ne_of h h1 (by intro z; cases z)
theorem good_tup {k : Int} {a : Addr} {u v : V} {d1 d2 : PyData} (pen : PenAt H p k) (e : H a = some (.tup [u, v])) (hu : ∀ H2, Do K H2 u d1) (hv : ∀ H2, Do K H2 v d2) (ok : OkO (.tuple [d1, d2])) : Good p K H (.ref a) :=
  ⟨_, fun H2 b => .tup (.inl (.inl (b.1 _ _ e (pen_neT pen e)))) (.cons (hu H2) (.cons (hv H2) .nil)), ok⟩
theorem good_pair {k : Int} {a : Addr} {s t : Int} (pen : PenAt H p k) (e : H a = some (.tup [.int s, .int t])) (hs : s.natAbs < 2 ^ 400) (ht : t.natAbs < 2 ^ 400) : Good p K H (.ref a) :=
  good_tup pen e (fun _ => .int s) (fun _ => .int t) (ok_pair hs ht)
theorem good_q {k : Int} {q : Rat} (pen : PenAt H p k) (h : NumQ H x q) (hb : Bq 400 q) : Good p K H x := by
  rcases h with ⟨d, rfl⟩ | ⟨d, a, rfl, h⟩
  · exact good_int hb.1
  · exact good_pair pen h hb.1 (den_bq hb)
theorem good_do {d : PyData} (h : DoS p K H x d) (ok : OkO d) : Good p K H x := ⟨d, h, ok⟩
end
theorem fl400 : FL * 1000000000 * 4 < 2 ^ 400 := by
  unfold FL
  decide
theorem nat400 {i : Int} (h1 : -(FL * 1000000000 * 4) < i) (h2 : i < FL * 1000000000 * 4) : i.natAbs < 2 ^ 400 := by
  have h := fl400
  have e : ((2 : Int) ^ 400) = ((2 ^ 400 : Nat) : Int) := by rw [Int.natCast_pow]; rfl
  rw [e] at h
  generalize (2 ^ 400 : Nat) = N at h ⊢
  omega
section
variable {P : Program} {w : World} {K : PySem.W.Frag} {mg : Str → Option Value} {base : Heap}
/-! ### _law_near -/
def spNear (K : PySem.W.Frag) : Sp := fun vs H Q _ => ∃ (d : Addr) (k : Int) (φ : Fk), vs = [.ref d, .int φ.code] ∧ okP φ ∧ PenAt H d k ∧ k < 50000 ∧ ∀ (x : V) (H' : Hp), Good d K H' x → But d H H' → PenAt H' d (k + 200) → Q x H'
theorem ok_near (T : Tx K mg) : FnG P w K mg base CX0 5 (He.ga K "_law_near") (spNear K) := by
  refine mk__law_near T.d (fun vs H Q E h => ?_) (fun cdv A outer s H vs Q E hg hr h => ?_)
  · obtain ⟨d, k, φ, rfl, _⟩ := h
    rfl
  · obtain ⟨d, k, φ, rfl, ok, pen, k9, q⟩ := h
    have nd := sc__law_near.nd
    have gp := T.g "_law_pick" (by decide +kernel)
    have gd := T.g "_law_draw" (by decide +kernel)
    have gs := T.g "_law_signed" (by decide +kernel)
    have gf := T.g "_law_far" (by decide +kernel)
    have zi := T.z "int" (by decide +kernel)
    have bi : bootBuiltins "int" = some (.type "int") := by decide +kernel
    refine ⟨_, pss_cons (ps_par (i := 2) (j := 3) rfl nd rfl rfl (by decide) rfl rfl
          (pa_cons (pe_callG (ok_signed T) (hr.mono (by decide)) hg (by rfl) gs (kp__law_signed T.d) pass0 (pa_cons (pv 0) (pa_cons (pe_callG (ok_far T) (hr.mono (by decide)) hg (by rfl) gf (kp__law_far T.d) pass0 (pa_cons (pv 0) pa_nil)) pa_nil)))
          (pa_cons (pe_op op_add (pe_callG (ok_far T) (hr.mono (by decide)) hg (by rfl) gf (kp__law_far T.d) pass0 (pa_cons (pv 0) pa_nil)) (pe_callG (ok_draw T) (hr.mono (by decide)) hg (by rfl) gd (kp__law_draw T.d) pass0 (pa_cons (pv 0) (pa_cons pe_int pa_nil)))) pa_nil)) (by rfl))
      (pss_cons (ps_set (i := 4) nd rfl (Or.inl rfl) (pe_callG (ok_tens T) (hr.mono (by decide)) hg (by rfl) (T.g "_law_tens" (by decide +kernel)) (kp__law_tens T.d) pass0 (pa_cons pe_int pa_nil)))
      (pss_cons (ps_set (i := 5) nd rfl (Or.inl rfl) (pe_lst (pa_cons (pe_op op_sub (pv 4) pe_int) (pa_cons (pv 4) (pa_cons (pe_op op_sub pe_int (pv 4)) (pa_cons (pe_op op_sub pe_int (pv 4)) (pa_cons (pe_op op_mul (pv 4) (pe_op op_pow pe_int pe_int)) (pa_cons (pv 1)
          (pa_cons (pe_op op_sub (pe_callTy call_int1 (by rfl) zi bi (pa_cons (pv 1) pa_nil)) pe_int) (pa_cons (pe_op op_add (pe_callTy call_int1 (by rfl) zi bi (pa_cons (pv 1) pa_nil)) pe_int) pa_nil))))))))))
      (pss_cons (ps_set (i := 6) nd rfl (Or.inl rfl) (pe_lst (pa_cons (pe_tup (pa_cons (pv 2) (pa_cons (pv 3) pa_nil))) (pa_cons (pe_tup (pa_cons (pv 2) (pa_cons (pe_op op_sub pe_int (pv 3)) pa_nil)))
          (pa_cons (pe_tup (pa_cons (pe_op op_mul pe_int (pv 2)) (pa_cons (pe_op op_mul pe_int (pv 3)) pa_nil))) pa_nil)))))
      (pss_cons (ps_set (i := 6) nd rfl (Or.inl rfl) (pe_op op_cat (pv 6) (pe_lst
          (pa_cons (pe_tup (pa_cons (pe_callG (ok_pick T) (hr.mono (by decide)) hg (by rfl) gp (kp__law_pick T.d) pass0 (pa_cons (pv 0) (pa_cons (pv 5) pa_nil))) (pa_cons pe_int pa_nil)))
          (pa_cons (pe_tup (pa_cons pe_int (pa_cons (pe_callG (ok_pick T) (hr.mono (by decide)) hg (by rfl) gp (kp__law_pick T.d) pass0 (pa_cons (pv 0) (pa_cons (pv 5) pa_nil))) pa_nil)))
          (pa_cons (pe_tup (pa_cons pe_int (pa_cons (pe_op op_sub (pv 4) pe_int) pa_nil))) (pa_cons (pe_tup (pa_cons pe_int (pa_cons (pv 4) pa_nil))) pa_nil)))))))
      (pss_cons (ps_set (i := 6) nd rfl (Or.inl rfl) (pe_op op_cat (pv 6) (pe_lst
          (pa_cons (pe_tup (pa_cons pe_int (pa_cons pe_int pa_nil))) (pa_cons (pe_tup (pa_cons pe_int (pa_cons pe_int pa_nil))) (pa_cons (pe_tup (pa_cons pe_bl (pa_cons pe_int pa_nil))) (pa_cons (pe_tup (pa_cons pe_int (pa_cons pe_bl pa_nil)))
          (pa_cons (pe_tup (pa_cons pe_int (pa_cons pe_int pa_nil))) (pa_cons (pe_tup (pa_cons (pe_un un_neg pe_int) (pa_cons pe_int pa_nil))) (pa_cons (pe_tup (pa_cons pe_str (pa_cons pe_int pa_nil))) pa_nil))))))))))
      (pss_cons (ps_set (i := 7) nd rfl (Or.inl rfl) (pe_lst (pa_cons (pe_callG (ok_any T) (hr.mono (by decide)) hg (by rfl) (T.g "_law_any_number" (by decide +kernel)) (kp__law_any_number T.d) pass0 (pa_cons (pv 0) (pa_cons (pv 1) (pa_cons pe_bl pa_nil))))
          (pa_cons (pv 2) (pa_cons (pe_callG (ok_pick T) (hr.mono (by decide)) hg (by rfl) gp (kp__law_pick T.d) pass0 (pa_cons (pv 0) (pa_cons (pv 5) pa_nil)))
          (pa_cons (pe_callG (ok_pick T) (hr.mono (by decide)) hg (by rfl) gp (kp__law_pick T.d) pass0 (pa_cons (pv 0) (pa_cons (pv 6) pa_nil))) pa_nil))))))
      (pss_one (ps_ret (pe_callG (ok_pick T) (hr.mono (by decide)) hg (by rfl) gp (kp__law_pick T.d) pass0 (pa_cons (pv 0) (pa_cons (pe_op op_cat (pv 7) (pe_lst (pa_cons
          (pe_callG (ok_odd T) (hr.mono (by decide)) hg (by rfl) (T.g "_law_odd" (by decide +kernel)) (kp__law_odd T.d) pass0 (pa_cons (pv 0) pa_nil)) pa_nil))) pa_nil))))))))))) , ?_⟩
    have f9 := fl_big
    -- top, bottom
    refine ⟨_, rfl, _, rfl, d, _, rfl, pen, by omega, fun n1 H1 n10 n1F bt1 pen1 => ?_⟩
    refine ⟨d, _, n1, rfl, pen1, by omega, fun tp H2 ht bt2 pen2 => ?_⟩
    refine ⟨_, rfl, d, _, rfl, pen2, by omega, fun n2 H3 n20 n2F bt3 pen3 => ?_⟩
    refine ⟨_, rfl, d, _, 2, rfl, pen3, by omega, by decide, by decide, fun n3 H4 bt4 pen4 n30 n31 => ?_⟩
    refine ⟨_, _, rfl, rfl, V.int tp, V.int (n2 + n3), rfl, ?_⟩
    have c4 := (bt1.trans bt2).trans (bt3.trans bt4)
    generalize hbm : n2 + n3 = bm
    have bm0 : 0 ≤ bm := by omega
    have bm1 : bm < FL + 2 := by omega
    have tp1 : tp < FL := by unfold absI at ht; split at ht <;> split at ht <;> omega
    have tp2 : -FL < tp := by unfold absI at ht; split at ht <;> split at ht <;> omega
    clear hbm ht
    -- ends
    refine ⟨rfl, ?_⟩
    have hcode : 0 ≤ φ.code ∧ φ.code ≤ 1000000000 := by
      cases φ with
      | fr => exact ⟨by decide, by decide⟩
      | md p =>
        have pm : Pm p := ok
        have := pm.md.lo
        have := pm.md.hi
        exact ⟨show (0 : Int) ≤ p by omega, show p ≤ 1000000000 by omega⟩
    refine ⟨_, rfl, _, _, rfl, rfl, _, rfl, _, rfl, _, _, rfl, rfl, _, rfl, _, _, rfl, rfl, _, rfl, _, _, rfl, rfl, ⟨by decide, by decide, by decide⟩, _, _, rfl, rfl, .inr ⟨by rw [ten9]; decide, by rw [ten9]; decide⟩,
      _, rfl, _, rfl, .inl ⟨_, rfl, _, _, rfl, rfl, _, rfl, .inl ⟨_, rfl, _, _, rfl, rfl, by show 8 ≤ sizeLine; decide, fun le nle => ?_⟩⟩⟩
    rw [ten9]
    generalize hE : [V.int (FL - 1), V.int FL, V.int (0 - FL), V.int (1 - FL), V.int (FL * 1000000000), V.int φ.code, V.int (φ.code - 1), V.int (φ.code + 1)] = es
    have goodE : ∀ x ∈ es, ∃ i : Int, x = .int i ∧ i.natAbs < 2 ^ 400 := by
      rw [← hE]
      intro x hx
      simp only [List.mem_cons, List.not_mem_nil, or_false] at hx
      rcases hx with rfl | rfl | rfl | rfl | rfl | rfl | rfl | rfl
      all_goals exact ⟨_, rfl, nat400 (by omega) (by omega)⟩
    have lenE : es.length = 8 := by rw [← hE]; rfl
    clear hE
    have s5 := same_up (o := .lst es) nle
    generalize hH5 : upd H4 le (.lst es) = H5
    have he5 : H5 le = some (.lst es) := by rw [← hH5]; exact upd_same
    rw [hH5] at s5
    have pen5 := pen4.same s5
    have c5 := c4.trans (But.same s5)
    -- pairs
    refine ⟨_, rfl, _, rfl, by show 2 ≤ sizeLine; decide, fun p1 np1 => ?_⟩
    have u1 := same_up (o := .tup [V.int tp, V.int bm]) np1
    refine ⟨_, rfl, _, rfl, _, _, rfl, rfl, by show 2 ≤ sizeLine; decide, fun p2 np2 => ?_⟩
    have u2 := same_up (o := .tup [V.int tp, V.int (0 - bm)]) np2
    refine ⟨_, rfl, _, _, rfl, rfl, .inl ⟨by decide, by decide⟩, _, rfl, _, _, rfl, rfl, .inl ⟨by decide, by decide⟩, by show 2 ≤ sizeLine; decide, fun p3 np3 => ?_⟩
    have u3 := same_up (o := .tup [V.int (2 * tp), V.int (2 * bm)]) np3
    refine ⟨by show 3 ≤ sizeLine; decide, fun l1 nl1 => ?_⟩
    have u4 := same_up (o := .lst [V.ref p1, V.ref p2, V.ref p3]) nl1
    have s6 := ((u1.trans u2).trans u3).trans u4
    have pen6 := pen5.same s6
    have g1 : ∀ x ∈ [V.ref p1, V.ref p2, V.ref p3], Good d K (upd (upd (upd (upd H5 p1 (.tup [V.int tp, V.int bm])) p2 (.tup [V.int tp, V.int (0 - bm)])) p3 (.tup [V.int (2 * tp), V.int (2 * bm)])) l1 (.lst [V.ref p1, V.ref p2, V.ref p3])) x := by
      intro x hx
      simp only [List.mem_cons, List.not_mem_nil, or_false] at hx
      rcases hx with rfl | rfl | rfl
      · exact good_pair pen6 ((u2.trans u3).trans u4 _ _ upd_same) (nat400 (by omega) (by omega)) (nat400 (by omega) (by omega))
      · exact good_pair pen6 (u3.trans u4 _ _ upd_same) (nat400 (by omega) (by omega)) (nat400 (by omega) (by omega))
      · exact good_pair pen6 (u4 _ _ upd_same) (nat400 (by omega) (by omega)) (nat400 (by omega) (by omega))
    generalize hX1 : [V.ref p1, V.ref p2, V.ref p3] = xs1 at g1 s6 pen6
    have len1 : xs1.length = 3 := by rw [← hX1]; rfl
    generalize hH6 : upd (upd (upd (upd H5 p1 (.tup [V.int tp, V.int bm])) p2 (.tup [V.int tp, V.int (0 - bm)])) p3 (.tup [V.int (2 * tp), V.int (2 * bm)])) l1 (.lst xs1) = H6 at g1 s6 pen6
    have hl1 : H6 l1 = some (.lst xs1) := by rw [← hH6]; exact upd_same
    clear hH6 hX1 u1 u2 u3 u4
    have he6 := s6 _ _ he5
    have c6 := c5.trans (But.same s6)
    -- four more
    refine ⟨_, rfl, _, rfl, _, rfl, d, le, _, _, rfl, pen6, by omega, he6, by rw [lenE]; decide, by rw [lenE]; decide, fun x7 H7 hx7 bt7 pen7 => ?_⟩
    obtain ⟨i7, rfl, hi7⟩ := goodE x7 hx7
    refine ⟨by show 2 ≤ sizeLine; decide, fun p4 np4 => ?_⟩
    have u1 := same_up (o := .tup [V.int i7, V.int 7]) np4
    have he7 := u1 _ _ (bt7.1 _ _ he6 (pen_ne pen6 he6))
    have pen7' := pen7.same u1
    refine ⟨_, rfl, _, rfl, d, le, _, _, rfl, pen7', by omega, he7, by rw [lenE]; decide, by rw [lenE]; decide, fun x8 H8 hx8 bt8 pen8 => ?_⟩
    obtain ⟨i8, rfl, hi8⟩ := goodE x8 hx8
    have hp4 : H8 p4 = some (.tup [V.int i7, V.int 7]) := bt8.1 _ _ upd_same (pen_neT pen7' upd_same)
    have he8 := bt8.1 _ _ he7 (pen_ne pen7' he7)
    have c8 := (bt7.trans (But.same u1)).trans bt8
    have hl8 := c8.1 _ _ hl1 (pen_ne pen6 hl1)
    refine ⟨by show 2 ≤ sizeLine; decide, fun p5 np5 => ?_⟩
    have v1 := same_up (o := .tup [V.int 7, V.int i8]) np5
    refine ⟨_, rfl, _, _, rfl, rfl, by show 2 ≤ sizeLine; decide, fun p6 np6 => ?_⟩
    have v2 := same_up (o := .tup [V.int 1, V.int (FL - 1)]) np6
    refine ⟨_, rfl, by show 2 ≤ sizeLine; decide, fun p7 np7 => ?_⟩
    have v3 := same_up (o := .tup [V.int 1, V.int FL]) np7
    refine ⟨by show 4 ≤ sizeLine; decide, fun l2 nl2 => ?_⟩
    have v4 := same_up (o := .lst [V.ref p4, V.ref p5, V.ref p6, V.ref p7]) nl2
    have s9 := ((v1.trans v2).trans v3).trans v4
    refine ⟨l1, l2, _, _, rfl, rfl, s9 _ _ hl8, upd_same, by rw [len1]; show 3 + 4 ≤ sizeLine; decide, fun l3 nl3 => ?_⟩
    have v5 := same_up (o := .lst (xs1 ++ [V.ref p4, V.ref p5, V.ref p6, V.ref p7])) nl3
    have s10 := s9.trans v5
    have pen10 := pen8.same s10
    have c10 := c8.trans (But.same s10)
    have g2 := fun x (hx : x ∈ xs1 ++ [V.ref p4, V.ref p5, V.ref p6, V.ref p7]) => show Good d K _ x from by
      rcases List.mem_append.mp hx with hx | hx
      · exact (g1 x hx).but c10
      · simp only [List.mem_cons, List.not_mem_nil, or_false] at hx
        rcases hx with rfl | rfl | rfl | rfl
        · exact good_pair pen10 (s10 _ _ hp4) hi7 (by decide)
        · exact good_pair pen10 (((v2.trans v3).trans v4).trans v5 _ _ upd_same) (by decide) hi8
        · exact good_pair pen10 ((v3.trans v4).trans v5 _ _ upd_same) (by decide) (nat400 (by omega) (by omega))
        · exact good_pair pen10 (v4.trans v5 _ _ upd_same) (by decide) (nat400 (by omega) (by omega))
    generalize hX2 : xs1 ++ [V.ref p4, V.ref p5, V.ref p6, V.ref p7] = xs2 at g2 s10 pen10 c10
    have len2 : xs2.length = 7 := by rw [← hX2, List.length_append, len1]; rfl
    generalize hH10 : upd (upd (upd (upd (upd H8 p5 (.tup [V.int 7, V.int i8])) p6 (.tup [V.int 1, V.int (FL - 1)])) p7 (.tup [V.int 1, V.int FL])) l2 (.lst [V.ref p4, V.ref p5, V.ref p6, V.ref p7])) l3 (.lst xs2) = H10 at g2 s10 pen10 c10
    have hl3 : H10 l3 = some (.lst xs2) := by rw [← hH10]; exact upd_same
    have he10 := s10 _ _ he8
    clear hH10 hX2 u1 v1 v2 v3 v4 v5 s9
    have c10' := c6.trans c10
    -- seven more
    refine ⟨_, rfl, by show 2 ≤ sizeLine; decide, fun q1 nq1 => ?_⟩
    have u1 := same_up (o := .tup [V.int 0, V.int 1]) nq1
    refine ⟨by show 2 ≤ sizeLine; decide, fun q2 nq2 => ?_⟩
    have u2 := same_up (o := .tup [V.int 0, V.int 3]) nq2
    refine ⟨by show 2 ≤ sizeLine; decide, fun q3 nq3 => ?_⟩
    have u3 := same_up (o := .tup [V.bl true, V.int 3]) nq3
    refine ⟨by show 2 ≤ sizeLine; decide, fun q4 nq4 => ?_⟩
    have u4 := same_up (o := .tup [V.int 3, V.bl true]) nq4
    refine ⟨by show 2 ≤ sizeLine; decide, fun q5 nq5 => ?_⟩
    have u5 := same_up (o := .tup [V.int 3, V.int 1]) nq5
    refine ⟨_, rfl, by show 2 ≤ sizeLine; decide, fun q6 nq6 => ?_⟩
    have u6 := same_up (o := .tup [V.int (-1), V.int 2]) nq6
    refine ⟨by show 2 ≤ sizeLine; decide, fun q7 nq7 => ?_⟩
    have u7 := same_up (o := .tup [V.str "1", V.int 2]) nq7
    refine ⟨by show 7 ≤ sizeLine; decide, fun l4 nl4 => ?_⟩
    have u8 := same_up (o := .lst [V.ref q1, V.ref q2, V.ref q3, V.ref q4, V.ref q5, V.ref q6, V.ref q7]) nl4
    have s11 := ((((((u1.trans u2).trans u3).trans u4).trans u5).trans u6).trans u7).trans u8
    refine ⟨l3, l4, _, _, rfl, rfl, s11 _ _ hl3, upd_same, by rw [len2]; show 7 + 7 ≤ sizeLine; decide, fun l5 nl5 => ?_⟩
    have u9 := same_up (o := .lst (xs2 ++ [V.ref q1, V.ref q2, V.ref q3, V.ref q4, V.ref q5, V.ref q6, V.ref q7])) nl5
    have s12 := s11.trans u9
    have pen12 := pen10.same s12
    have c12 := c10'.trans (But.same s12)
    have g3 := fun x (hx : x ∈ xs2 ++ [V.ref q1, V.ref q2, V.ref q3, V.ref q4, V.ref q5, V.ref q6, V.ref q7]) => show Good d K _ x from by
      rcases List.mem_append.mp hx with hx | hx
      · exact (g2 x hx).same s12
      · simp only [List.mem_cons, List.not_mem_nil, or_false] at hx
        rcases hx with rfl | rfl | rfl | rfl | rfl | rfl | rfl
        · exact good_pair pen12 ((((((((u2.trans u3).trans u4).trans u5).trans u6).trans u7).trans u8).trans u9) _ _ upd_same) (by decide) (by decide)
        · exact good_pair pen12 (((((((u3.trans u4).trans u5).trans u6).trans u7).trans u8).trans u9) _ _ upd_same) (by decide) (by decide)
        · exact good_tup pen12 ((((((u4.trans u5).trans u6).trans u7).trans u8).trans u9) _ _ upd_same) (fun _ => .bl true) (fun _ => .int 3) ⟨by decide +kernel, by decide +kernel, by decide +kernel, by decide +kernel⟩
        · exact good_tup pen12 (((((u5.trans u6).trans u7).trans u8).trans u9) _ _ upd_same) (fun _ => .int 3) (fun _ => .bl true) ⟨by decide +kernel, by decide +kernel, by decide +kernel, by decide +kernel⟩
        · exact good_pair pen12 ((((u6.trans u7).trans u8).trans u9) _ _ upd_same) (by decide) (by decide)
        · exact good_pair pen12 (((u7.trans u8).trans u9) _ _ upd_same) (by decide) (by decide)
        · exact good_tup pen12 ((u8.trans u9) _ _ upd_same) (fun _ => .str "1") (fun _ => .int 2) ⟨by decide +kernel, by decide +kernel, by decide +kernel, by decide +kernel⟩
    generalize hX3 : xs2 ++ [V.ref q1, V.ref q2, V.ref q3, V.ref q4, V.ref q5, V.ref q6, V.ref q7] = xs3 at g3 s12 pen12 c12
    have len3 : xs3.length = 14 := by rw [← hX3, List.length_append, len2]; rfl
    generalize hH12 : upd (upd _ l4 _) l5 (.lst xs3) = H12 at g3 s12 pen12 c12
    have hl5 : H12 l5 = some (.lst xs3) := by rw [← hH12]; exact upd_same
    have he12 := s12 _ _ he10
    clear hH12 hX3 u1 u2 u3 u4 u5 u6 u7 u8 u9 s11
    -- some
    refine ⟨_, rfl, _, rfl, d, _, φ, false, rfl, ok, pen12, by omega, fun xa ra H13 na oa bt13 pen13 => ?_⟩
    have ga : Good d K H13 xa := good_q pen13 na ((ok_bq oa).mono (by decide))
    have he13 := bt13.1 _ _ he12 (pen_ne pen12 he12)
    have hl13 := bt13.1 _ _ hl5 (pen_ne pen12 hl5)
    refine ⟨_, rfl, _, rfl, _, rfl, d, le, _, _, rfl, pen13, by omega, he13, by rw [lenE]; decide, by rw [lenE]; decide, fun xe H14 hxe bt14 pen14 => ?_⟩
    obtain ⟨ie, rfl, hie⟩ := goodE xe hxe
    have hl14 := bt14.1 _ _ hl13 (pen_ne pen13 hl13)
    refine ⟨_, rfl, _, rfl, d, l5, _, _, rfl, pen14, by omega, hl14, by rw [len3]; decide, by rw [len3]; decide, fun xp H15 hxp bt15 pen15 => ?_⟩
    have c15 := (bt13.trans bt14).trans bt15
    have gpp : Good d K H15 xp := (g3 xp hxp).but c15
    have gaa : Good d K H15 xa := ga.but (bt14.trans bt15)
    refine ⟨by show 4 ≤ sizeLine; decide, fun l6 nl6 => ?_⟩
    have s16 := same_up (o := .lst [xa, V.int tp, V.int ie, xp]) nl6
    have pen16 := pen15.same s16
    have hl6 : (upd H15 l6 (.lst [xa, V.int tp, V.int ie, xp])) l6 = some (.lst [xa, V.int tp, V.int ie, xp]) := upd_same
    refine ⟨_, rfl, _, rfl, _, rfl, d, _, rfl, pen16, by omega, fun xo dd H17 ho oo bt17 pen17 => ?_⟩
    have hl17 := bt17.1 _ _ hl6 (pen_ne pen16 hl6)
    refine ⟨by show 1 ≤ sizeLine; decide, fun l7 nl7 => ?_⟩
    have s18 := same_up (o := .lst [xo]) nl7
    refine ⟨l6, l7, _, _, rfl, rfl, s18 _ _ hl17, upd_same, by show 4 + 1 ≤ sizeLine; decide, fun l8 nl8 => ?_⟩
    have s19 := s18.trans (same_up (o := .lst ([xa, V.int tp, V.int ie, xp] ++ [xo])) nl8)
    have pen19 := pen17.same s19
    refine ⟨d, l8, _, _, rfl, pen19, by omega, upd_same, by show 0 < 5; decide, by show 5 < 1000; decide, fun x H20 hx bt20 pen20 => ?_⟩
    have c20 := (((c15.trans (But.same s16)).trans bt17).trans (But.same s19)).trans bt20
    have z20 := ((((But.same s16).trans bt17).trans (But.same s19)).trans bt20)
    refine q x H20 ?_ (c12.trans c20) (pen20.mono (by omega))
    simp only [List.mem_append, List.mem_cons, List.not_mem_nil, or_false] at hx
    rcases hx with (rfl | rfl | rfl | rfl) | rfl
    · exact gaa.but z20
    · exact good_int (nat400 (by omega) (by omega))
    · exact good_int hie
    · exact gpp.but z20
    · exact (good_do ho oo).but ((But.same s19).trans bt20)
end
end K02

namespace K02
open PySem PySem.Spec PyProof.Rows L2 Ver Num
/-! ### what may be shown -/
def Ok2 (d : PyData) : Prop := d.showable = true ∧ d.shown.length ≤ 3000 ∧ d.depth ≤ 20
/-- parts that may be shown -/
def OkAll (n : Nat) (ds : List PyData) : Prop := PyData.showableAll ds = true ∧ piled (PyData.shownAll ds) ≤ n ∧ PyData.depthAll ds ≤ 10
theorem tup_len (ts : List Str) : (tupleText ts).length ≤ piled ts + 4 := by
  unfold tupleText
  rw [strLen_append, strLen_append]
  have e1 : ("(" : Str).length = 1 := rfl
  have e2 : ((if ts.length == 1 then ",)" else ")" : String) : Str).length ≤ 2 := by
    split
    · exact Nat.le_refl 2
    · exact Nat.le_succ 1
  by_cases h : ts = []
  · subst h
    have e3 : (Str.join ", " []).length = 0 := rfl
    omega
  · have j := join_length_add ts h
    omega
theorem lst_len (ts : List Str) : (listText ts).length ≤ piled ts + 2 := by
  have e1 := textFrom_up ts 0 "["
  have e3 : (listText ts).length = (textFrom 0 "[" ts).length + 1 := by
    show (textFrom 0 "[" _ ++ "]").length = _
    rw [strLen_append]
    rfl
  have e4 : ("[" : Str).length = 1 := rfl
  omega
theorem ok2_tup {ds : List PyData} (h : OkAll 2900 ds) : Ok2 (.tuple ds) := by
  obtain ⟨h1, h2, h3⟩ := h
  have l := tup_len (PyData.shownAll ds)
  refine ⟨by simpa only [PyData.showable] using h1, ?_, by simp only [PyData.depth]; omega⟩
  simp only [PyData.shown]
  omega
theorem ok2_lst {ds : List PyData} (h : OkAll 2900 ds) : Ok2 (.list ds) := by
  obtain ⟨h1, h2, h3⟩ := h
  have l := lst_len (PyData.shownAll ds)
  refine ⟨by simpa only [PyData.showable] using h1, ?_, by simp only [PyData.depth]; omega⟩
  simp only [PyData.shown]
  omega
theorem okAll_nil {n : Nat} : OkAll n [] := ⟨by simp only [PyData.showableAll], by simp [PyData.shownAll, piled], by simp [PyData.depthAll]⟩
theorem okAll_cons {n : Nat} {d : PyData} {ds : List PyData} (h1 : d.showable = true) (h2 : d.shown.length + 2 ≤ n) (h3 : d.depth ≤ 10) (h : OkAll (n - (d.shown.length + 2)) ds) : OkAll n (d :: ds) := by
  obtain ⟨a, b, c⟩ := h
  refine ⟨by simp only [PyData.showableAll, h1, a, Bool.and_self], ?_, ?_⟩
  · simp only [PyData.shownAll]
    rw [piled_cons]
    omega
  · simp only [PyData.depthAll]
    omega
theorem okAll_inv {n : Nat} {d : PyData} {ds : List PyData} (h : OkAll n (d :: ds)) : d.showable = true ∧ d.shown.length + 2 ≤ n ∧ d.depth ≤ 10 ∧ OkAll (n - (d.shown.length + 2)) ds := by
  obtain ⟨a, b, c⟩ := h
  simp only [PyData.showableAll, Bool.and_eq_true] at a
  simp only [PyData.shownAll] at b
  rw [piled_cons] at b
  simp only [PyData.depthAll] at c
  exact ⟨a.1, by omega, by omega, a.2, by omega, by omega⟩
theorem OkAll.mono {m n : Nat} {ds : List PyData} (h : OkAll m ds) (l : m ≤ n) : OkAll n ds := ⟨h.1, Nat.le_trans h.2.1 l, h.2.2⟩
theorem okAll_app : ∀ {n m : Nat} {ds es : List PyData}, OkAll n ds → OkAll m es → OkAll (n + m) (ds ++ es)
  | n, m, [], es, h1, h2 => h2.mono (by omega)
  | n, m, d :: ds, es, h1, h2 => by
    obtain ⟨a, b, c, e⟩ := okAll_inv h1
    exact okAll_cons a (by omega) c ((okAll_app e h2).mono (by omega))
theorem okAll_take : ∀ {n : Nat} {ds : List PyData} (i : Nat), OkAll n ds → OkAll n (ds.take i)
  | n, ds, 0, h => by rw [List.take_zero]; exact okAll_nil
  | n, [], i + 1, h => by rw [List.take_nil]; exact okAll_nil
  | n, d :: ds, i + 1, h => by
    obtain ⟨a, b, c, e⟩ := okAll_inv h
    rw [List.take_succ_cons]
    exact okAll_cons a b c (okAll_take i e)
theorem okAll_drop : ∀ {n : Nat} {ds : List PyData} (i : Nat), OkAll n ds → OkAll n (ds.drop i)
  | n, ds, 0, h => by rw [List.drop_zero]; exact h
  | n, [], i + 1, h => by rw [List.drop_nil]; exact okAll_nil
  | n, d :: ds, i + 1, h => by
    obtain ⟨a, b, c, e⟩ := okAll_inv h
    rw [List.drop_succ_cons]
    exact okAll_drop i (e.mono (by omega))
theorem okO_all {ds : List PyData} (h : OkO (.tuple ds)) : OkAll 1000 ds := by
  obtain ⟨h1, h2, h3, _⟩ := h
  simp only [PyData.showable] at h1
  simp only [PyData.depth] at h3
  exact ⟨h1, h2, by omega⟩
theorem ok2_in {ds : List PyData} (h : OkO (.tuple ds)) : Ok2 (.tuple [.tuple ds, .int 2]) := by
  have l : (PyData.tuple ds).shown.length ≤ 1004 := by
    have a := tup_len (PyData.shownAll ds)
    have b := (okO_all h).2.1
    simp only [PyData.shown]
    omega
  have l2 : (PyData.int 2).shown.length = 1 := by decide +kernel
  have dd := h.2.2.1
  exact ok2_tup (okAll_cons h.1 (by omega) (by omega) (okAll_cons (by decide +kernel) (by omega) (by decide +kernel) okAll_nil))
theorem okO_ok2 {d : PyData} (h : OkO d) : Ok2 d := by
  cases d with
  | tuple ds => exact ok2_tup ((okO_all h).mono (by decide))
  | _ =>
    obtain ⟨h1, h2, h3, _⟩ := h
    exact ⟨h1, Nat.le_trans h2 (by decide), by omega⟩
section
variable {K : PySem.W.Frag} {H H2 : Hp}
theorem sqt_but {p a : Addr} {k : Int} {xs : List V} (pen : PenAt H p k) (b : But p H H2) (h : SqT K H a xs) : SqT K H2 a xs := by
  obtain ⟨c, cells, b1, l, h1, _⟩ := pen.ex
  rcases h with (h | ⟨o, h⟩) | h
  · exact .inl (.inl (b.1 _ _ h (ne_of h h1 (by intro z; cases z))))
  · exact .inl (.inr ⟨o, b.1 _ _ h (ne_of h h1 (by intro z; cases z))⟩)
  · exact .inr h
theorem atom_any {x : V} {d : PyData} (h : Do K H x d) (a : atomD d = true) : Do K H2 x d := by
  cases h with
  | non => exact .non
  | bl b => exact .bl b
  | int i => exact .int i
  | str y => exact .str y
  | _ => cases a
theorem atoms_any : ∀ {xs : List V} {ds : List PyData}, DoAll K H xs ds → ds.all atomD = true → DoAll K H2 xs ds
  | [], [], _, _ => .nil
  | x :: xs, d :: ds, h, a => by
    cases h with
    | cons h1 h2 =>
      rw [List.all_cons, Bool.and_eq_true] at a
      exact .cons (atom_any h1 a.1) (atoms_any h2 a.2)
  | [], _ :: _, h, _ => by cases h
  | _ :: _, [], h, _ => by cases h
theorem doall_app : ∀ {xs ys : List V} {ds es : List PyData}, DoAll K H xs ds → DoAll K H ys es → DoAll K H (xs ++ ys) (ds ++ es)
  | [], ys, [], es, _, h2 => h2
  | x :: xs, ys, d :: ds, es, h, h2 => by
    cases h with
    | cons a b => exact .cons a (doall_app b h2)
  | [], _, _ :: _, _, h, _ => by cases h
  | _ :: _, _, [], _, h, _ => by cases h
theorem doall_take : ∀ {xs : List V} {ds : List PyData} (i : Nat), DoAll K H xs ds → DoAll K H (xs.take i) (ds.take i)
  | xs, ds, 0, _ => by rw [List.take_zero, List.take_zero]; exact .nil
  | [], [], i + 1, _ => by rw [List.take_nil, List.take_nil]; exact .nil
  | x :: xs, d :: ds, i + 1, h => by
    cases h with
    | cons a b =>
      rw [List.take_succ_cons, List.take_succ_cons]
      exact .cons a (doall_take i b)
  | [], _ :: _, _, h => by cases h
  | _ :: _, [], _, h => by cases h
theorem doall_drop : ∀ {xs : List V} {ds : List PyData} (i : Nat), DoAll K H xs ds → DoAll K H (xs.drop i) (ds.drop i)
  | xs, ds, 0, h => by rw [List.drop_zero, List.drop_zero]; exact h
  | [], [], i + 1, _ => by rw [List.drop_nil, List.drop_nil]; exact .nil
  | x :: xs, d :: ds, i + 1, h => by
    cases h with
    | cons a b =>
      rw [List.drop_succ_cons, List.drop_succ_cons]
      exact doall_drop i b
  | [], _ :: _, _, h => by cases h
  | _ :: _, [], _, h => by cases h
end
section
variable {P : Program} {w : World} {K : PySem.W.Frag} {mg : Str → Option Value} {base : Heap}
def spLaw (K : PySem.W.Frag) : Sp := fun vs H Q _ => ∃ (a : Addr) (ns : List Int), vs = [.ref a] ∧ SqL K H a (ns.map V.int) ∧ ns.length ≤ 63 ∧ ∀ H', Q (.bl true) H'
theorem ok_law (T : Tx K mg) : FnG P w K mg base CX0 8 (He.ga K "law") (spLaw K) := by
  refine mk_law T.d (fun vs H Q E h => ?_) (fun cdv A outer s H vs Q E hg hr h => ?_)
  · obtain ⟨a, ns, rfl, _⟩ := h
    rfl
  · obtain ⟨ad, ns, rfl, hs, hl, q⟩ := h
    have nd := sc_law.nd
    have zg := T.z "range" (by decide +kernel)
    have zr := T.z "repr" (by decide +kernel)
    have br : bootBuiltins "repr" = some (.builtin "repr") := by decide +kernel
    have hu := hr.units
    refine ⟨_, pss_cons (ps_set (i := 1) nd rfl (Or.inl rfl) (pe_callG (ok_pen T) (hr.mono (by decide)) hg (by rfl) (T.g "_law_pen" (by decide +kernel)) (kp__law_pen T.d) pass0 (pa_cons (pv 0) pa_nil)))
      (pss_cons (ps_for PassesOwn.never rfl (pi_range1 (by rfl) zg (pa_cons pe_int pa_nil)) (pg_name (i := 2) nd rfl (.inl rfl))
        (pss_cons (ps_set (i := 3) nd rfl (Or.inl rfl) (pe_callG (ok_any_prime T) (hr.mono (by decide)) hg (by rfl) (T.g "_law_any_prime" (by decide +kernel)) (kp__law_any_prime T.d) pass0 (pa_cons (pv 1) pa_nil)))
        (pss_cons (ps_set (i := 4) nd rfl (Or.inl rfl) (pe_callG (ok_made T) (hr.mono (by decide)) hg (by rfl) (T.g "_law_made_field" (by decide +kernel)) (kp__law_made_field T.d) pass0 (pa_cons (pv 3) pa_nil)))
        (pss_cons (ps_if (pt_not (pt_val (pe_callB call_isi (by rfl) (T.z "isinstance" (by decide +kernel)) (by decide +kernel) (pa_cons (pv 4) (pa_cons (pe_glob (v := .ref (He.ga K "Field")) (by rfl) (T.g "Field" (by decide +kernel)) rfl) pa_nil))))) pss_never pss_nil)
        (pss_one (ps_for PassesOwn.never rfl (pi_range1 (by rfl) zg (pa_cons pe_int pa_nil)) (pg_name (i := 5) nd rfl (.inl rfl))
          (pss_cons (ps_set (i := 6) nd rfl (Or.inl rfl) (pe_callG (ok_near T) (hr.mono (by decide)) hg (by rfl) (T.g "_law_near" (by decide +kernel)) (kp__law_near T.d) pass0 (pa_cons (pv 1) (pa_cons (pv 3) pa_nil))))
          (pss_cons (ps_if (PW.pt (pw_and (pt_val (pe_callB call_isi (by rfl) (T.z "isinstance" (by decide +kernel)) (by decide +kernel) (pa_cons (pv 6) (pa_cons (pe_bltn (v := .ty "tuple") (by rfl) (T.z "tuple" (by decide +kernel)) (by decide +kernel) rfl) pa_nil))))
              (pw_and1 (pt_cmpR op_eq (pe_callG (ok_draw T) (hr.mono (by decide)) hg (by rfl) (T.g "_law_draw" (by decide +kernel)) (kp__law_draw T.d) pass0 (pa_cons (pv 1) (pa_cons pe_int pa_nil))) pe_int (nomark _)))))
            (pss_one (ps_set (i := 6) nd rfl (Or.inl rfl) (pe_callG (ok_pick T) (hr.mono (by decide)) hg (by rfl) (T.g "_law_pick" (by decide +kernel)) (kp__law_pick T.d) pass0 (pa_cons (pv 1) (pa_cons (pe_lst
              (pa_cons (pe_callTy call_list_of (by rfl) (T.z "list" (by decide +kernel)) (by decide +kernel) (pa_cons (pv 6) pa_nil)) (pa_cons (pe_op op_catA (pv 6) (pe_tup (pa_cons pe_int pa_nil)))
              (pa_cons (pe_slice sl_tupA (pv 6) po_none (po_some pe_int)) (pa_cons (pe_tup (pa_cons (pv 6) (pa_cons pe_int pa_nil))) pa_nil))))) pa_nil))))) pss_nil)
          (pss_cons (ps_set (i := 7) nd rfl (Or.inl rfl) (pe_callB (call_reprO T.sm hg hu) (by rfl) zr br (pa_cons (pv 6) pa_nil)))
          (pss_one (ps_if (PW.pt (pw_or (pt_cmpR op_ne (pe_callB (call_reprO T.sm hg hu) (by rfl) zr br (pa_cons (pe_methG (pv 4) (kp_Field_is_number T.d) (ok_is_number T) (hr.mono (by decide)) hg pass0 (pa_cons (pv 6) pa_nil)) pa_nil))
                (pe_callB (call_reprO T.sm hg hu) (by rfl) zr br (pa_cons (pe_callG (ok_lnum T) (hr.mono (by decide)) hg (by rfl) (T.g "_law_is_number" (by decide +kernel)) (kp__law_is_number T.d) pass0 (pa_cons (pv 3) (pa_cons (pv 6) pa_nil))) pa_nil)) (nomark _))
              (pw_or1 (pt_cmpR op_ne (pe_callB (call_reprO T.sm hg hu) (by rfl) zr br (pa_cons (pv 6) pa_nil)) (pv 7) (nomark _))))) pss_never pss_nil)))))))))))
      (pss_one (ps_ret pe_bl))), ?_⟩
    refine ⟨_, rfl, ad, ns, rfl, hs, hl, fun d H1 s1 hd pen1 => ?_⟩
    refine ⟨_, rfl, by decide, by decide, ?_⟩
    refine for_range (lo := 0) (fun i σ H' => ∃ v2 v3 v4 v5 v6 v7 : Option V, PenAt H' d (2000 * (i : Int)) ∧ σ = [some (.ref ad), some (.ref d), v2, v3, v4, v5, v6, v7]) ⟨_, _, _, _, _, _, pen1.mono (by omega), rfl⟩ ?_ ?_
    · rintro i σ H0 hi ⟨v2, v3, v4, v5, v6, v7, pen0, rfl⟩
      have hi20 : i < 20 := hi
      refine ⟨_, rfl, d, _, rfl, pen0, by omega, fun φ H2 o bt2 pen2 => ?_⟩
      refine ⟨_, rfl, φ, rfl, o, fun f H3 s3 F3 => ?_⟩
      have pen3 := pen2.same s3
      obtain ⟨C, dx, fc, mc, hf⟩ := id F3
      refine ⟨_, rfl, _, _, _, _, true, rfl, .own _, .base (.ins hf fc.cl mc.cl T.clS T.clT mc.ob), mc.isF, _, rfl, ifF rfl ?_⟩
      refine ⟨_, rfl, by decide, by decide, ?_⟩
      refine for_range (lo := 0) (fun j σ H' => ∃ w5 w6 w7 : Option V, FieldC K H' f φ ∧ PenAt H' d (2000 * (i : Int) + 2 + 300 * (j : Int)) ∧ σ = [some (.ref ad), some (.ref d), some (.int (0 + (i : Int))), some (.int φ.code), some (.ref f), w5, w6, w7]) ⟨_, _, _, F3, pen3.mono (by omega), rfl⟩ ?_ ?_
      · rintro j σ H4 hj ⟨w5, w6, w7, F4, pen4, rfl⟩
        have hj6 : j < 6 := hj
        refine ⟨_, rfl, _, rfl, d, _, φ, rfl, o, pen4, by omega, fun x H5 gx bt5 pen5 => ?_⟩
        have F5 := F4.but pen4 bt5
        obtain ⟨dd, hx, ox⟩ := gx
        refine ⟨_, rfl, _, _, _, _, _, rfl, .ty "tuple", hx.do_.ty, kit_tuple dd, _, rfl, ?_⟩
        cases e : is_tuple dd with
        | false =>
          refine ifF rfl (ifF rfl ?_)
          have hy : Do K H5 x dd := hx.do_
          have oy : Ok2 dd := okO_ok2 ox
          have Fy : FieldC K H5 f φ := F5
          have py : PenAt H5 d (2000 * (i : Int) + 2 + 300 * ((j + 1 : Nat) : Int)) := pen5.mono (by omega)
          have ly : (PyData.shown dd).length ≤ sizeLine := Nat.le_trans oy.2.1 (by rw [sizeLine_eq]; decide)
          have dy : PyData.depth dd ≤ 60 := Nat.le_trans oy.2.2 (by decide)
          have kb : ∀ b : Bool, (PyData.bool b).showable = true ∧ (PyData.bool b).shown.length ≤ sizeLine ∧ (PyData.bool b).depth ≤ 60 := fun b => by
            cases b <;> exact ⟨by decide +kernel, by decide +kernel, by decide +kernel⟩
          refine ⟨_, rfl, x, dd, rfl, hy, oy.1, ly, dy, ?_⟩
          refine go_methG rfl Fy (by decide +kernel) (by decide +kernel) ⟨_, rfl, f, x, dd, φ, rfl, Fy, hy, o, fun H8 s8 => ?_⟩
          refine ⟨_, .bool (numB φ dd), rfl, .bl _, (kb _).1, (kb _).2.1, (kb _).2.2, ?_⟩
          refine ⟨_, rfl, _, rfl, φ, x, dd, rfl, o, Do.same s8 _ _ hy, ?_⟩
          refine ⟨_, .bool (numB φ dd), rfl, .bl _, (kb _).1, (kb _).2.1, (kb _).2.2, rfl, _, rfl, ?_⟩
          refine ifF (by rw [decide_eq_true rfl]; rfl) ?_
          refine ⟨_, rfl, x, dd, rfl, Do.same s8 _ _ hy, oy.1, ly, dy, _, rfl, rfl, _, rfl, ?_⟩
          refine ifF (by rw [decide_eq_true rfl]; rfl) ?_
          exact ⟨_, _, _, Fy.same s8, py.same s8, rfl⟩
        | true =>
          refine ifT rfl ⟨_, rfl, d, _, 6, rfl, pen5, by omega, by decide, by decide, fun n H6 bt6 pen6 n0 n1 => ⟨rfl, _, rfl, ?_⟩⟩
          have F6 := F5.but pen5 bt6
          have hx6 := hx.but bt6
          rw [iEq]
          by_cases en : n = 0
          · refine ifT (decide_eq_true en) ?_
            obtain ⟨a, xs, ds, rfl, rfl, hs6, ha6⟩ : ∃ a xs ds, x = .ref a ∧ dd = .tuple ds ∧ SqT K H6 a xs ∧ DoAll K H6 xs ds := by
              have h := hx6.do_
              cases h with
              | tup h1 h2 => exact ⟨_, _, _, rfl, rfl, h1, h2⟩
              | _ => cases e
            have oa := okO_all ox
            have fl : ds.all atomD = true := ox.2.2.2
            -- the list
            refine ⟨_, rfl, _, rfl, a, xs, rfl, .inr hs6, fun l1 nl1 => ?_⟩
            have u1 := same_up (o := .lst xs) nl1
            -- one more
            refine ⟨_, rfl, by show 1 ≤ sizeLine; decide, fun t1 nt1 => ?_⟩
            have u2 := u1.trans (same_up (o := .tup [V.int 1]) nt1)
            have ht1 : (upd (upd H6 l1 (.lst xs)) t1 (.tup [V.int 1])) t1 = some (.tup [V.int 1]) := upd_same
            have hl1 : (upd (upd H6 l1 (.lst xs)) t1 (.tup [V.int 1])) l1 = some (.lst xs) := same_up (o := .tup [V.int 1]) nt1 _ _ upd_same
            refine ⟨a, t1, xs, [V.int 1], rfl, rfl, sqt_keep u2 hs6, .inl (.inl ht1), ?_, ?_, ?_, ?_⟩
            · rw [doall_len ha6]
              refine Nat.le_trans (?_ : ds.length + 1 ≤ 1001) (by rw [sizeLine_eq]; decide)
              have : ∀ {es : List PyData}, 2 * es.length ≤ piled (PyData.shownAll es) := fun {es} => by
                induction es with
                | nil => exact Nat.zero_le _
                | cons b bs ih =>
                  simp only [PyData.shownAll]
                  rw [piled_cons, List.length_cons]
                  omega
              have z := @this ds
              have := oa.2.1
              omega
            · intro ex
              have e0 : xs ++ [V.int 1] = [V.int 1] := by rw [ex]; rfl
              have hc : SqT K (upd (upd H6 l1 (.lst xs)) t1 (.tup [V.int 1])) t1 (xs ++ [V.int 1]) := by rw [e0]; exact .inl (.inl ht1)
              -- cut
              refine ⟨_, rfl, 1, rfl, a, xs, rfl, sqt_keep (u2) hs6, fun hcc => ?_, fun hcc t3 nt3 => ?_⟩
              · have hcut : ∃ b c, xs = (xs.drop b).take c := ⟨0, xs.length, by rw [List.drop_zero, List.take_length]⟩
                have hsN := sqt_keep (u2) hs6
                have hlN := hl1
                have hcN := hc
                refine ⟨_, rfl, by show 2 ≤ sizeLine; decide, fun t4 nt4 => ?_⟩
                have u5 := same_up (o := .tup [V.ref a, V.int 2]) nt4
                refine ⟨by show 4 ≤ sizeLine; decide, fun lp nlp => ?_⟩
                have u6 := same_up (o := .lst [V.ref l1, V.ref t1, V.ref a, V.ref t4]) nlp
                have u56 := u5.trans u6
                have uAll := (u2).trans u56
                have penP := pen6.same uAll
                refine ⟨d, lp, _, _, rfl, penP, by omega, upd_same, by show 0 < 4; decide, by show 4 < 1000; decide, fun z H7 hz bt7 pen7 => ?_⟩
                have cA := (But.same uAll).trans bt7
                have F7 : FieldC K H7 f φ := F6.but pen6 cA
                have pen8 : PenAt H7 d (2000 * (i : Int) + 2 + 300 * ((j + 1 : Nat) : Int)) := pen7.mono (by omega)
                obtain ⟨d2, hz2, oz⟩ : ∃ d2, Do K H7 z d2 ∧ Ok2 d2 := by
                  simp only [List.mem_cons, List.not_mem_nil, or_false] at hz
                  rcases hz with rfl | rfl | rfl | rfl
                  · have h1 := u56 _ _ hlN
                    exact ⟨.list ds, .lst (SqL.of (bt7.1 _ _ h1 (pen_ne penP h1))) (atoms_any ha6 fl), ok2_lst (oa.mono (by decide))⟩
                  · have h1 := sqt_keep u56 hcN
                    exact ⟨.tuple (ds ++ [.int 1]), .tup (sqt_but penP bt7 h1) (doall_app (atoms_any ha6 fl) (.cons (.int 1) .nil)), ok2_tup ((okAll_app oa (okAll_cons (n := 10) (d := .int 1) (by decide +kernel) (by decide +kernel) (by decide +kernel) okAll_nil)).mono (by decide))⟩
                  · have h1 := sqt_keep u56 hsN
                    obtain ⟨b, c, hb⟩ := hcut
                    exact ⟨.tuple ((ds.drop b).take c), .tup (sqt_but penP bt7 h1) (by rw [hb]; exact doall_take _ (doall_drop _ (atoms_any ha6 fl))), ok2_tup ((okAll_take _ (okAll_drop _ oa)).mono (by decide))⟩
                  · have h1 := u6 _ _ (upd_same (a := t4))
                    exact ⟨.tuple [.tuple ds, .int 2], .tup (.inl (.inl (bt7.1 _ _ h1 (pen_neT penP h1)))) (.cons (hx6.but cA).do_ (.cons (.int 2) .nil)), ok2_in ox⟩
                have hy : Do K H7 z d2 := hz2
                have oy : Ok2 d2 := oz
                have Fy : FieldC K H7 f φ := F7
                have py : PenAt H7 d (2000 * (i : Int) + 2 + 300 * ((j + 1 : Nat) : Int)) := pen8
                have ly : (PyData.shown d2).length ≤ sizeLine := Nat.le_trans oy.2.1 (by rw [sizeLine_eq]; decide)
                have dy : PyData.depth d2 ≤ 60 := Nat.le_trans oy.2.2 (by decide)
                have kb : ∀ b : Bool, (PyData.bool b).showable = true ∧ (PyData.bool b).shown.length ≤ sizeLine ∧ (PyData.bool b).depth ≤ 60 := fun b => by
                  cases b <;> exact ⟨by decide +kernel, by decide +kernel, by decide +kernel⟩
                refine ⟨_, rfl, z, d2, rfl, hy, oy.1, ly, dy, ?_⟩
                refine go_methG rfl Fy (by decide +kernel) (by decide +kernel) ⟨_, rfl, f, z, d2, φ, rfl, Fy, hy, o, fun H8 s8 => ?_⟩
                refine ⟨_, .bool (numB φ d2), rfl, .bl _, (kb _).1, (kb _).2.1, (kb _).2.2, ?_⟩
                refine ⟨_, rfl, _, rfl, φ, z, d2, rfl, o, Do.same s8 _ _ hy, ?_⟩
                refine ⟨_, .bool (numB φ d2), rfl, .bl _, (kb _).1, (kb _).2.1, (kb _).2.2, rfl, _, rfl, ?_⟩
                refine ifF (by rw [decide_eq_true rfl]; rfl) ?_
                refine ⟨_, rfl, z, d2, rfl, Do.same s8 _ _ hy, oy.1, ly, dy, _, rfl, rfl, _, rfl, ?_⟩
                refine ifF (by rw [decide_eq_true rfl]; rfl) ?_
                exact ⟨_, _, _, Fy.same s8, py.same s8, rfl⟩
              · have u4 := (u2).trans (same_up (o := .tup (cutV xs none (some 1))) nt3)
                have hcut : ∃ b c, cutV xs none (some 1) = (xs.drop b).take c := ⟨_, _, rfl⟩
                have hsN : SqT K (upd (upd (upd H6 l1 (.lst xs)) t1 (.tup [V.int 1])) t3 (.tup (cutV xs none (some 1)))) t3 (cutV xs none (some 1)) := .inl (.inl upd_same)
                have hlN := same_up (o := .tup (cutV xs none (some 1))) nt3 _ _ hl1
                have hcN := sqt_keep (same_up (o := .tup (cutV xs none (some 1))) nt3) hc
                refine ⟨_, rfl, by show 2 ≤ sizeLine; decide, fun t4 nt4 => ?_⟩
                have u5 := same_up (o := .tup [V.ref a, V.int 2]) nt4
                refine ⟨by show 4 ≤ sizeLine; decide, fun lp nlp => ?_⟩
                have u6 := same_up (o := .lst [V.ref l1, V.ref t1, V.ref t3, V.ref t4]) nlp
                have u56 := u5.trans u6
                have uAll := (u4).trans u56
                have penP := pen6.same uAll
                refine ⟨d, lp, _, _, rfl, penP, by omega, upd_same, by show 0 < 4; decide, by show 4 < 1000; decide, fun z H7 hz bt7 pen7 => ?_⟩
                have cA := (But.same uAll).trans bt7
                have F7 : FieldC K H7 f φ := F6.but pen6 cA
                have pen8 : PenAt H7 d (2000 * (i : Int) + 2 + 300 * ((j + 1 : Nat) : Int)) := pen7.mono (by omega)
                obtain ⟨d2, hz2, oz⟩ : ∃ d2, Do K H7 z d2 ∧ Ok2 d2 := by
                  simp only [List.mem_cons, List.not_mem_nil, or_false] at hz
                  rcases hz with rfl | rfl | rfl | rfl
                  · have h1 := u56 _ _ hlN
                    exact ⟨.list ds, .lst (SqL.of (bt7.1 _ _ h1 (pen_ne penP h1))) (atoms_any ha6 fl), ok2_lst (oa.mono (by decide))⟩
                  · have h1 := sqt_keep u56 hcN
                    exact ⟨.tuple (ds ++ [.int 1]), .tup (sqt_but penP bt7 h1) (doall_app (atoms_any ha6 fl) (.cons (.int 1) .nil)), ok2_tup ((okAll_app oa (okAll_cons (n := 10) (d := .int 1) (by decide +kernel) (by decide +kernel) (by decide +kernel) okAll_nil)).mono (by decide))⟩
                  · have h1 := sqt_keep u56 hsN
                    obtain ⟨b, c, hb⟩ := hcut
                    exact ⟨.tuple ((ds.drop b).take c), .tup (sqt_but penP bt7 h1) (by rw [hb]; exact doall_take _ (doall_drop _ (atoms_any ha6 fl))), ok2_tup ((okAll_take _ (okAll_drop _ oa)).mono (by decide))⟩
                  · have h1 := u6 _ _ (upd_same (a := t4))
                    exact ⟨.tuple [.tuple ds, .int 2], .tup (.inl (.inl (bt7.1 _ _ h1 (pen_neT penP h1)))) (.cons (hx6.but cA).do_ (.cons (.int 2) .nil)), ok2_in ox⟩
                have hy : Do K H7 z d2 := hz2
                have oy : Ok2 d2 := oz
                have Fy : FieldC K H7 f φ := F7
                have py : PenAt H7 d (2000 * (i : Int) + 2 + 300 * ((j + 1 : Nat) : Int)) := pen8
                have ly : (PyData.shown d2).length ≤ sizeLine := Nat.le_trans oy.2.1 (by rw [sizeLine_eq]; decide)
                have dy : PyData.depth d2 ≤ 60 := Nat.le_trans oy.2.2 (by decide)
                have kb : ∀ b : Bool, (PyData.bool b).showable = true ∧ (PyData.bool b).shown.length ≤ sizeLine ∧ (PyData.bool b).depth ≤ 60 := fun b => by
                  cases b <;> exact ⟨by decide +kernel, by decide +kernel, by decide +kernel⟩
                refine ⟨_, rfl, z, d2, rfl, hy, oy.1, ly, dy, ?_⟩
                refine go_methG rfl Fy (by decide +kernel) (by decide +kernel) ⟨_, rfl, f, z, d2, φ, rfl, Fy, hy, o, fun H8 s8 => ?_⟩
                refine ⟨_, .bool (numB φ d2), rfl, .bl _, (kb _).1, (kb _).2.1, (kb _).2.2, ?_⟩
                refine ⟨_, rfl, _, rfl, φ, z, d2, rfl, o, Do.same s8 _ _ hy, ?_⟩
                refine ⟨_, .bool (numB φ d2), rfl, .bl _, (kb _).1, (kb _).2.1, (kb _).2.2, rfl, _, rfl, ?_⟩
                refine ifF (by rw [decide_eq_true rfl]; rfl) ?_
                refine ⟨_, rfl, z, d2, rfl, Do.same s8 _ _ hy, oy.1, ly, dy, _, rfl, rfl, _, rfl, ?_⟩
                refine ifF (by rw [decide_eq_true rfl]; rfl) ?_
                exact ⟨_, _, _, Fy.same s8, py.same s8, rfl⟩
            · intro _ ey
              cases ey
            · intro _ _ t2 nt2
              have u3 := u2.trans (same_up (o := .tup (xs ++ [V.int 1])) nt2)
              have hl1' := same_up (o := .tup (xs ++ [V.int 1])) nt2 _ _ hl1
              have hc : SqT K (upd (upd (upd H6 l1 (.lst xs)) t1 (.tup [V.int 1])) t2 (.tup (xs ++ [V.int 1]))) t2 (xs ++ [V.int 1]) := .inl (.inl upd_same)
              -- cut
              refine ⟨_, rfl, 1, rfl, a, xs, rfl, sqt_keep (u3) hs6, fun hcc => ?_, fun hcc t3 nt3 => ?_⟩
              · have hcut : ∃ b c, xs = (xs.drop b).take c := ⟨0, xs.length, by rw [List.drop_zero, List.take_length]⟩
                have hsN := sqt_keep (u3) hs6
                have hlN := hl1'
                have hcN := hc
                refine ⟨_, rfl, by show 2 ≤ sizeLine; decide, fun t4 nt4 => ?_⟩
                have u5 := same_up (o := .tup [V.ref a, V.int 2]) nt4
                refine ⟨by show 4 ≤ sizeLine; decide, fun lp nlp => ?_⟩
                have u6 := same_up (o := .lst [V.ref l1, V.ref t2, V.ref a, V.ref t4]) nlp
                have u56 := u5.trans u6
                have uAll := (u3).trans u56
                have penP := pen6.same uAll
                refine ⟨d, lp, _, _, rfl, penP, by omega, upd_same, by show 0 < 4; decide, by show 4 < 1000; decide, fun z H7 hz bt7 pen7 => ?_⟩
                have cA := (But.same uAll).trans bt7
                have F7 : FieldC K H7 f φ := F6.but pen6 cA
                have pen8 : PenAt H7 d (2000 * (i : Int) + 2 + 300 * ((j + 1 : Nat) : Int)) := pen7.mono (by omega)
                obtain ⟨d2, hz2, oz⟩ : ∃ d2, Do K H7 z d2 ∧ Ok2 d2 := by
                  simp only [List.mem_cons, List.not_mem_nil, or_false] at hz
                  rcases hz with rfl | rfl | rfl | rfl
                  · have h1 := u56 _ _ hlN
                    exact ⟨.list ds, .lst (SqL.of (bt7.1 _ _ h1 (pen_ne penP h1))) (atoms_any ha6 fl), ok2_lst (oa.mono (by decide))⟩
                  · have h1 := sqt_keep u56 hcN
                    exact ⟨.tuple (ds ++ [.int 1]), .tup (sqt_but penP bt7 h1) (doall_app (atoms_any ha6 fl) (.cons (.int 1) .nil)), ok2_tup ((okAll_app oa (okAll_cons (n := 10) (d := .int 1) (by decide +kernel) (by decide +kernel) (by decide +kernel) okAll_nil)).mono (by decide))⟩
                  · have h1 := sqt_keep u56 hsN
                    obtain ⟨b, c, hb⟩ := hcut
                    exact ⟨.tuple ((ds.drop b).take c), .tup (sqt_but penP bt7 h1) (by rw [hb]; exact doall_take _ (doall_drop _ (atoms_any ha6 fl))), ok2_tup ((okAll_take _ (okAll_drop _ oa)).mono (by decide))⟩
                  · have h1 := u6 _ _ (upd_same (a := t4))
                    exact ⟨.tuple [.tuple ds, .int 2], .tup (.inl (.inl (bt7.1 _ _ h1 (pen_neT penP h1)))) (.cons (hx6.but cA).do_ (.cons (.int 2) .nil)), ok2_in ox⟩
                have hy : Do K H7 z d2 := hz2
                have oy : Ok2 d2 := oz
                have Fy : FieldC K H7 f φ := F7
                have py : PenAt H7 d (2000 * (i : Int) + 2 + 300 * ((j + 1 : Nat) : Int)) := pen8
                have ly : (PyData.shown d2).length ≤ sizeLine := Nat.le_trans oy.2.1 (by rw [sizeLine_eq]; decide)
                have dy : PyData.depth d2 ≤ 60 := Nat.le_trans oy.2.2 (by decide)
                have kb : ∀ b : Bool, (PyData.bool b).showable = true ∧ (PyData.bool b).shown.length ≤ sizeLine ∧ (PyData.bool b).depth ≤ 60 := fun b => by
                  cases b <;> exact ⟨by decide +kernel, by decide +kernel, by decide +kernel⟩
                refine ⟨_, rfl, z, d2, rfl, hy, oy.1, ly, dy, ?_⟩
                refine go_methG rfl Fy (by decide +kernel) (by decide +kernel) ⟨_, rfl, f, z, d2, φ, rfl, Fy, hy, o, fun H8 s8 => ?_⟩
                refine ⟨_, .bool (numB φ d2), rfl, .bl _, (kb _).1, (kb _).2.1, (kb _).2.2, ?_⟩
                refine ⟨_, rfl, _, rfl, φ, z, d2, rfl, o, Do.same s8 _ _ hy, ?_⟩
                refine ⟨_, .bool (numB φ d2), rfl, .bl _, (kb _).1, (kb _).2.1, (kb _).2.2, rfl, _, rfl, ?_⟩
                refine ifF (by rw [decide_eq_true rfl]; rfl) ?_
                refine ⟨_, rfl, z, d2, rfl, Do.same s8 _ _ hy, oy.1, ly, dy, _, rfl, rfl, _, rfl, ?_⟩
                refine ifF (by rw [decide_eq_true rfl]; rfl) ?_
                exact ⟨_, _, _, Fy.same s8, py.same s8, rfl⟩
              · have u4 := (u3).trans (same_up (o := .tup (cutV xs none (some 1))) nt3)
                have hcut : ∃ b c, cutV xs none (some 1) = (xs.drop b).take c := ⟨_, _, rfl⟩
                have hsN : SqT K (upd (upd (upd (upd H6 l1 (.lst xs)) t1 (.tup [V.int 1])) t2 (.tup (xs ++ [V.int 1]))) t3 (.tup (cutV xs none (some 1)))) t3 (cutV xs none (some 1)) := .inl (.inl upd_same)
                have hlN := same_up (o := .tup (cutV xs none (some 1))) nt3 _ _ hl1'
                have hcN := sqt_keep (same_up (o := .tup (cutV xs none (some 1))) nt3) hc
                refine ⟨_, rfl, by show 2 ≤ sizeLine; decide, fun t4 nt4 => ?_⟩
                have u5 := same_up (o := .tup [V.ref a, V.int 2]) nt4
                refine ⟨by show 4 ≤ sizeLine; decide, fun lp nlp => ?_⟩
                have u6 := same_up (o := .lst [V.ref l1, V.ref t2, V.ref t3, V.ref t4]) nlp
                have u56 := u5.trans u6
                have uAll := (u4).trans u56
                have penP := pen6.same uAll
                refine ⟨d, lp, _, _, rfl, penP, by omega, upd_same, by show 0 < 4; decide, by show 4 < 1000; decide, fun z H7 hz bt7 pen7 => ?_⟩
                have cA := (But.same uAll).trans bt7
                have F7 : FieldC K H7 f φ := F6.but pen6 cA
                have pen8 : PenAt H7 d (2000 * (i : Int) + 2 + 300 * ((j + 1 : Nat) : Int)) := pen7.mono (by omega)
                obtain ⟨d2, hz2, oz⟩ : ∃ d2, Do K H7 z d2 ∧ Ok2 d2 := by
                  simp only [List.mem_cons, List.not_mem_nil, or_false] at hz
                  rcases hz with rfl | rfl | rfl | rfl
                  · have h1 := u56 _ _ hlN
                    exact ⟨.list ds, .lst (SqL.of (bt7.1 _ _ h1 (pen_ne penP h1))) (atoms_any ha6 fl), ok2_lst (oa.mono (by decide))⟩
                  · have h1 := sqt_keep u56 hcN
                    exact ⟨.tuple (ds ++ [.int 1]), .tup (sqt_but penP bt7 h1) (doall_app (atoms_any ha6 fl) (.cons (.int 1) .nil)), ok2_tup ((okAll_app oa (okAll_cons (n := 10) (d := .int 1) (by decide +kernel) (by decide +kernel) (by decide +kernel) okAll_nil)).mono (by decide))⟩
                  · have h1 := sqt_keep u56 hsN
                    obtain ⟨b, c, hb⟩ := hcut
                    exact ⟨.tuple ((ds.drop b).take c), .tup (sqt_but penP bt7 h1) (by rw [hb]; exact doall_take _ (doall_drop _ (atoms_any ha6 fl))), ok2_tup ((okAll_take _ (okAll_drop _ oa)).mono (by decide))⟩
                  · have h1 := u6 _ _ (upd_same (a := t4))
                    exact ⟨.tuple [.tuple ds, .int 2], .tup (.inl (.inl (bt7.1 _ _ h1 (pen_neT penP h1)))) (.cons (hx6.but cA).do_ (.cons (.int 2) .nil)), ok2_in ox⟩
                have hy : Do K H7 z d2 := hz2
                have oy : Ok2 d2 := oz
                have Fy : FieldC K H7 f φ := F7
                have py : PenAt H7 d (2000 * (i : Int) + 2 + 300 * ((j + 1 : Nat) : Int)) := pen8
                have ly : (PyData.shown d2).length ≤ sizeLine := Nat.le_trans oy.2.1 (by rw [sizeLine_eq]; decide)
                have dy : PyData.depth d2 ≤ 60 := Nat.le_trans oy.2.2 (by decide)
                have kb : ∀ b : Bool, (PyData.bool b).showable = true ∧ (PyData.bool b).shown.length ≤ sizeLine ∧ (PyData.bool b).depth ≤ 60 := fun b => by
                  cases b <;> exact ⟨by decide +kernel, by decide +kernel, by decide +kernel⟩
                refine ⟨_, rfl, z, d2, rfl, hy, oy.1, ly, dy, ?_⟩
                refine go_methG rfl Fy (by decide +kernel) (by decide +kernel) ⟨_, rfl, f, z, d2, φ, rfl, Fy, hy, o, fun H8 s8 => ?_⟩
                refine ⟨_, .bool (numB φ d2), rfl, .bl _, (kb _).1, (kb _).2.1, (kb _).2.2, ?_⟩
                refine ⟨_, rfl, _, rfl, φ, z, d2, rfl, o, Do.same s8 _ _ hy, ?_⟩
                refine ⟨_, .bool (numB φ d2), rfl, .bl _, (kb _).1, (kb _).2.1, (kb _).2.2, rfl, _, rfl, ?_⟩
                refine ifF (by rw [decide_eq_true rfl]; rfl) ?_
                refine ⟨_, rfl, z, d2, rfl, Do.same s8 _ _ hy, oy.1, ly, dy, _, rfl, rfl, _, rfl, ?_⟩
                refine ifF (by rw [decide_eq_true rfl]; rfl) ?_
                exact ⟨_, _, _, Fy.same s8, py.same s8, rfl⟩
          · refine ifF (decide_eq_false en) ?_
            have hy : Do K H6 x dd := hx6.do_
            have oy : Ok2 dd := okO_ok2 ox
            have Fy : FieldC K H6 f φ := F6
            have py : PenAt H6 d (2000 * (i : Int) + 2 + 300 * ((j + 1 : Nat) : Int)) := pen6.mono (by omega)
            have ly : (PyData.shown dd).length ≤ sizeLine := Nat.le_trans oy.2.1 (by rw [sizeLine_eq]; decide)
            have dy : PyData.depth dd ≤ 60 := Nat.le_trans oy.2.2 (by decide)
            have kb : ∀ b : Bool, (PyData.bool b).showable = true ∧ (PyData.bool b).shown.length ≤ sizeLine ∧ (PyData.bool b).depth ≤ 60 := fun b => by
              cases b <;> exact ⟨by decide +kernel, by decide +kernel, by decide +kernel⟩
            refine ⟨_, rfl, x, dd, rfl, hy, oy.1, ly, dy, ?_⟩
            refine go_methG rfl Fy (by decide +kernel) (by decide +kernel) ⟨_, rfl, f, x, dd, φ, rfl, Fy, hy, o, fun H8 s8 => ?_⟩
            refine ⟨_, .bool (numB φ dd), rfl, .bl _, (kb _).1, (kb _).2.1, (kb _).2.2, ?_⟩
            refine ⟨_, rfl, _, rfl, φ, x, dd, rfl, o, Do.same s8 _ _ hy, ?_⟩
            refine ⟨_, .bool (numB φ dd), rfl, .bl _, (kb _).1, (kb _).2.1, (kb _).2.2, rfl, _, rfl, ?_⟩
            refine ifF (by rw [decide_eq_true rfl]; rfl) ?_
            refine ⟨_, rfl, x, dd, rfl, Do.same s8 _ _ hy, oy.1, ly, dy, _, rfl, rfl, _, rfl, ?_⟩
            refine ifF (by rw [decide_eq_true rfl]; rfl) ?_
            exact ⟨_, _, _, Fy.same s8, py.same s8, rfl⟩
      · rintro σ H' ⟨w5, w6, w7, F4, pen4, rfl⟩
        exact ⟨_, _, _, _, _, _, pen4.mono (by omega), rfl⟩
    · rintro σ H' ⟨v2, v3, v4, v5, v6, v7, pen0, rfl⟩
      exact q H'
end
end K02

namespace K02
open PySem PySem.Spec PyProof.Rows L2 Ver Num
/-! ### the head: what it tells -/
abbrev R : PySem.W.OpenRow := PySem.W.OpenLaw.row PySem.Challenge.rw_firstanswers_k02_numbers_of_fields
def ads (g : Addr → Option Obj) : List Addr := (PySem.cStatics :: sysModules :: He.asD g 5).eraseDups
def KF (g : Addr → Option Obj) : PySem.W.Frag := He.frG g (ads g)
def fms : List Str := ["is_number", "holds"]
def fcls (K : PySem.W.Frag) (C a : Addr) (m : Str) : Bool := match PySem.W.findCls K (.ref C) (.type "type") m with
  | some (.val (.ref b)) => decide (b = a)
  | _ => false
theorem fcls_ok {K : PySem.W.Frag} {C a : Addr} {m : Str} (h : fcls K C a m = true) : PySem.W.findCls K (.ref C) (.type "type") m = some (.val (.ref a)) := by
  unfold fcls at h
  split at h
  · rename_i b e
    rw [e, of_decide_eq_true h]
  · cases h
/-- a class of fields -/
def xc (K : PySem.W.Frag) (x : Str) : List Bool := [(He.Fa.cls x).ok K, (He.Fa.noat x "_prime").ok K,
  fms.all fun m => He.eqO (PySem.W.findIn K (.ref (He.ga K x)) m) (some (some (.ref (He.ma K (He.ga K "Field") m)))) && (PySem.W.isFn K (.ref (He.ma K (He.ga K "Field") m)) && PySem.W.keepIn K (.ref (He.ma K (He.ga K "Field") m))),
  (He.Fa.mkr x).ok K, decide (PySem.W.kitOne K (.ref (He.ga K x)) (.ref (He.ga K "Field")) = some true),
  He.eqO (PySem.W.findIn K (.ref (He.ga K x)) "__class__") (some (some (.builtin "object.__class__"))), decide (PySem.W.mroIn K (He.ga K x) (.type "object") = some true)]
/-- the module table -/
def smB (K : PySem.W.Frag) : Bool := match K.lookup sysModules with
  | some o => match o.cls with
    | .type s => decide (s = "dict")
    | _ => false
  | none => false
theorem smB_ok {K : PySem.W.Frag} (h : smB K = true) : Sm K := by
  unfold smB at h
  split at h
  · rename_i o e
    split at h
    · rename_i s e2
      exact ⟨o, e, by rw [e2, of_decide_eq_true h]⟩
    · cases h
  · cases h
def x1 (K : PySem.W.Frag) : List Bool := [(He.Fa.int "FIRST_LONG" FL).ok K, (He.Fa.int "GREATEST_PRIME" 1000000000).ok K, He.eqO (PySem.W.nsIn K mainGlobals "gcd") (some (some (.builtin "math.gcd"))), smB K,
  He.eqO (PySem.W.nsIn K mainGlobals "isqrt") (some (some (.builtin "math.isqrt")))]
def x3 (K : PySem.W.Frag) : List Bool := [PySem.W.readsIn K (He.ga K "Field") (.type "type"), He.eqO (PySem.W.specialIn K (.ref (He.ga K "Field")) "__getattribute__") (some (some (.builtin "type.__getattribute__"))),
  fcls K (He.ga K "Field") (He.ma K (He.ga K "Field") "__init__") "__init__",
  He.eqO (PySem.W.specialIn K (.builtin "object.__class__") "__get__") (some (some (.builtin "getset_descriptor.__get__"))), decide (PySem.W.takesIn K (.builtin "object.__class__") = some true)]
def ex (K : PySem.W.Frag) : Bool := (x1 K).all id && ((xc K "Fractions").all id && ((xc K "Modulo").all id && (x3 K).all id))
def hook : PySem.W.Hook where
  α := He.AlD × Bool
  obs := fun s => (He.obsD fa fn (KF s.heap.get?), ex (KF s.heap.get?))
  val := fun _ => (He.valD fn, true)
  says := fun _ h => ∃ K : PySem.W.Frag, K.In h ∧ He.SaysD fa fn K ∧ ex K = true
  of := fun _ _ e => ⟨_, He.frG_in, congrArg (fun z : He.AlD × Bool => z.1) e, congrArg (fun z : He.AlD × Bool => z.2) e⟩
  keeps := fun _ _ _ ⟨K, hK, c⟩ k => ⟨K, PySem.W.Frag.In.keeps hK k, c⟩
def ob (s : PySem.W.SharedT) : He.AlD × Bool := (He.obsD fa fn (KF (HandSHeadRun.getT s)), ex (KF (HandSHeadRun.getT s)))
theorem ob_eq (s : PySem.W.SharedT) : ob s = hook.obs s.abs := by
  have e : HandSHeadRun.getT s = s.abs.heap.get? := funext (HandSHeadRun.getT_eq s)
  unfold ob
  rw [e]
  rfl
def lo : List Str := (["_wall", "is_integer", "is_between", "InvalidPrime", "InvalidNumber", "InvalidText", "TooLong", "GREATEST_PRIME", "DECIMAL_DIGITS", "FIRST_LONG", "Field", "Fractions", "Modulo", "is_prime", "is_fraction", "is_longer", "parts", "integer_of", "signed_integer_of", "number_of"] : List Str) ++
  (["_law_pen", "_law_draw", "_law_pick", "_law_prime", "_law_number", "_law_odd", "_law_far", "_law_tens", "_law_signed", "_law_gcd", "_law_told", "_law_any_number", "_law_made_field", "_law_any_prime", "_law_is_whole", "_law_is_number", "_law_near"] : List Str)
abbrev qv : Program := PySem.W.view R.prog [0, 42]
end K02

namespace K02
open PySem PySem.Spec PyProof.Rows L2 Ver Num
theorem run (w : World) : HandSHeadRun.RunEqI R qv hook ob 8000 lo w := by
  unfold HandSHeadRun.RunEqI
  kernel_rfl
end K02

namespace K02
open PySem PySem.Spec PyProof.Rows L2 Ver Num
theorem all_cons_ok {b : Bool} {l : List Bool} (h : (b :: l).all id = true) : b = true ∧ l.all id = true := He.ba h
theorem fc_of {K : PySem.W.Frag} {x : Str} (e : (xc K x).all id = true) : FC K (He.ga K x) ∧ MC K (He.ga K x) := by
  obtain ⟨a1, e⟩ := all_cons_ok e
  obtain ⟨a2, e⟩ := all_cons_ok e
  obtain ⟨a3, e⟩ := all_cons_ok e
  obtain ⟨a4, e⟩ := all_cons_ok e
  obtain ⟨a5, e⟩ := all_cons_ok e
  obtain ⟨a6, e⟩ := all_cons_ok e
  obtain ⟨a7, e⟩ := all_cons_ok e
  exact ⟨⟨He.cls_ok a1, He.noat_ok a2, fun m hm => by
    obtain ⟨h1, h2⟩ := He.ba (List.all_eq_true.mp a3 m hm)
    obtain ⟨h2, h3⟩ := He.ba h2
    exact ⟨He.eqO_ok h1, h2, h3⟩⟩, ⟨He.mkr_ok a4, of_decide_eq_true a5, He.eqO_ok a6, of_decide_eq_true a7⟩⟩
theorem tx_of {K : PySem.W.Frag} {h : Heap} {mg : Str → Option Value} (X : K.In h) (G : h.Ns mainGlobals mg) (c : He.SaysD fa fn K) (e : ex K = true) : Tx K mg := by
  obtain ⟨e1, e⟩ := He.ba e
  obtain ⟨e2, e⟩ := He.ba e
  obtain ⟨e3, e4⟩ := He.ba e
  obtain ⟨a1, e1⟩ := all_cons_ok e1
  obtain ⟨a2, e1⟩ := all_cons_ok e1
  obtain ⟨a3, e1⟩ := all_cons_ok e1
  obtain ⟨a4, e1⟩ := all_cons_ok e1
  obtain ⟨a5, e1⟩ := all_cons_ok e1
  obtain ⟨f1, f2⟩ := fc_of e2
  obtain ⟨m1, m2⟩ := fc_of e3
  obtain ⟨c1, e4⟩ := all_cons_ok e4
  obtain ⟨c2, e4⟩ := all_cons_ok e4
  obtain ⟨c3, e4⟩ := all_cons_ok e4
  obtain ⟨c4, e4⟩ := all_cons_ok e4
  obtain ⟨c5, e4⟩ := all_cons_ok e4
  exact
    { d := c
      g := fun x hx => He.glo_ok X G (He.SaysD.facts c (List.mem_append_left _ (List.mem_map_of_mem hx)))
      z := fun x hx => He.free_ok X G (He.SaysD.facts c (List.mem_append_right _ (List.mem_map_of_mem hx)))
      fl := He.int_ok X G a1
      gp := He.int_ok X G a2
      gcd := PySem.W.mg_of X G (He.eqO_ok a3)
      sm := smB_ok a4
      isq := PySem.W.mg_of X G (He.eqO_ok a5)
      fcF := f1
      fcM := m1
      mF := f2
      mM := m2
      rdF := c1
      gaF := He.eqO_ok c2
      fiF := fcls_ok c3
      clS := He.eqO_ok c4
      clT := of_decide_eq_true c5 }
end K02
open PySem PySem.W PySem.Calls PyProof.Rows
theorem PySem.Challenge.cw_firstanswers_k02_numbers_of_fields_holds : PySem.Challenge.rw_firstanswers_k02_numbers_of_fields.Holds := by
  w_on; o_law
  refine HandSHeadRun.head_imp (r := K02.R) (q := K02.qv) (H := K02.hook) (ob := K02.ob) (M := 8000) (loose := K02.lo) (d := HandSHeadRun.topDef K02.R.prog 42) (kwd := []) K02.ob_eq K02.run
    (by kernel_rfl) (by kernel_rfl) (by kernel_rfl) (by rfl) (by first | assumption | decide +kernel) (by decide +kernel) ⟨rfl, rfl, rfl, rfl, rfl, by decide +kernel⟩ ?hw ?hc
  case hw => w_witness2
  case hc =>
    refine Ver.walkG (l := PySem.Challenge.rw_firstanswers_k02_numbers_of_fields) (n := 63) (k := 8) rfl (by decide) (by kernel_rfl) ⟨rfl, by decide, by decide⟩ ?F
    intro w mg fa h Y G hmg0
    obtain ⟨K, KX, c, e⟩ := Y
    have hmg : mg ("law" : PySem.Str) = some (.ref fa) := by
      have q : (HandSHeadRun.topDef K02.R.prog 42).name = ("law" : PySem.Str) := by kernel_rfl
      rw [← q]
      exact hmg0
    have T := K02.tx_of KX G c e
    have ef := hmg.symm.trans (T.g "law" (by decide +kernel))
    cases ef
    exact ⟨K, K02.spLaw K, KX, fun H a ns hl _ hS => ⟨a, ns, rfl, hS, hl, fun _ => rfl⟩, fun base h1 h2 => K02.ok_law T⟩
