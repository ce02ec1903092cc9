import PyProof.Rows.All
import Wide.All
import OpenK.AllK
import Wide.FinOn
import PySem.Challenge.RW_firstanswers_k04_whole_sums_modulo_prime
import HandS.Base
import HandS.Call
import HandS.List
import HandS.Ends
import HandS.Dict
import HandS.More
import HandS.Defaults
import HandS.Words
import HandS.Star
import PyProof.ReprRoads
import HandS.HeadHook1
import HandS.HeadHook2
import HandS.Exc
import HandS.ExcInit
import HandS.WordsExc
import KE.KExcInit
import HandS.IsInst
import HandS.Iter
import HandS.Gcd
import HandS.WordsList
import KE.BitLaws
import PyProof.SumWalkG
import PyProof.WalksMore
import HandS.Text
import HandS.TryOnly
import HandS.ExcOwn
import HandS.Style
import HandS.Head0
import HandS.Head1
import HandS.Head2
import HandS.Head3
import HandS.HeadHook4
set_option Elab.async false
set_option linter.all false
set_option maxRecDepth 100000
set_option maxHeartbeats 0
/-! Defs that show data (repr): their promise wants that no show is under way around them. -/
namespace Ver
open PySem PySem.Spec PyProof.Rows L2
/-- a promise for callers around whom nothing is being shown -/
def FnG (P : Program) (w : World) (K : PySem.W.Frag) (mg : Str → Option Value) (base : Heap) (CX : CXT) (k : Nat) (f : Addr) (sp : Sp) : Prop :=
  ∀ (A : Around) (outer : List Env) (s : Shared) (H : Hp) (us : List Value) (vs : List V) (Q : VK) (E : XK), A.guards = some [] → Room k A →
    Env0 P w K mg base A outer s H → Vals vs us → sp vs H Q E → codeAny (model P w) A (.call (.ref f) ⟨us, []⟩) (CR CX outer P w H s Q E) s
section
variable {P : Program} {w : World} {K : PySem.W.Frag} {mg : Str → Option Value} {base : Heap} {CX : CXT} {k : Nat} {f : Addr} {fd : FuncData} {sp : Sp}
variable {x qual : Str} {params : Arguments} {body : List Stmt} {scope : Scope} {N ps : List Str} {kws : List (Str × V)}
theorem FnG.ofR (F : FnR P w K mg base CX k f sp) : FnG P w K mg base CX k f sp := fun A outer s H us vs Q E _ hr e0 r h => F A outer s H us vs Q E hr e0 r h
theorem FnG.mono {j : Nat} (F : FnG P w K mg base CX j f sp) (h : j ≤ k) : FnG P w K mg base CX k f sp := fun A outer s H us vs Q E g hr e0 r q => F A outer s H us vs Q E g (hr.mono h) e0 r q
/-- the rule for such a def, its body as a term -/
theorem okG (F : FunD K x qual params body scope [] kws f fd) (S : FnScope N ps scope)
    (hb : ∀ (s : Shared) (us : List Value), us.length = ps.length → BindsTo s fd ⟨us, []⟩ (ps.zip us)) (len : ∀ vs H Q E, sp vs H Q E → vs.length = ps.length)
    (hbody : ∀ (cdv : Value) (A : Around) (outer : List Env) (s : Shared) (H : Hp) (vs : List V) (Q : VK) (E : XK), A.guards = some [] → Room k (A.deeper (envOfC qual scope s.heap.objs.size f cdv)) → sp vs H Q E →
      ∃ t, PSs (cxOf CX P w K mg base N qual scope f cdv A outer s H E) body t ∧ t { nx := fun _ H' => Q .non H', rt := Q } (start N vs) H) : FnG P w K mg base CX (k + 1) f sp := by
  obtain ⟨⟨oc, od, dV, kV, doc, pm, an, cdv, ct, osl, rfl, lk, hcd, _⟩, _⟩ := F
  intro A outer s H us vs Q E hg hr e0 r hsp
  have hl := len _ _ _ _ hsp
  refine StX.run_bnd (G := fun xs H2 => xs = vs ∧ H2 = H) lk hcd S hr e0 (fun A' Ex Q' q => ?_) fun s2 H2 xs g hr' => ?_
  · exact hb s us (by rw [← r.length]; exact hl) _ A' Ex Q' (q s H vs us e0 Un.refl rfl (fun _ _ z => z) r hl ⟨rfl, rfl⟩)
  · obtain ⟨rfl, rfl⟩ := g
    exact hbody cdv A outer s2 H2 xs Q E hg hr' hsp
end
section
variable {X : Cx} {CX : CXT} {k : Nat} {f : Addr} {sp : Sp} {E : XK} {x : Str} {p pos : Pos} {e : Expr} {es : List Expr} {t : TA}
/-- f(e, ..) -/
theorem pe_callG (F : FnG X.prog X.w X.K X.mg X.base CX k f sp) (hr : Room k X.A) (hgd : X.A.guards = some []) (hg : Gl X x) (hm : X.mg x = some (.ref f)) (hk : PySem.W.keepIn X.K (.ref f) = true) (hx : Passes CX X E)
    (ha : PA X (e :: es) t) (hdb : (x == ("__debug__" : Str)) = false := by decide) (he : starEach (e :: es) X.env = (false, eval e X.env) :: starEach es X.env := by rfl)
    (hpl : (backTo pos (starEach es X.env)).any (·.1) = false := by rfl) : PE X (.Call (.Name x p) (e :: es) [] pos) (fun σ H Q => t σ H fun vs H1 => sp vs H1 Q E) := by
  refine ⟨fun pins s σ H Q I h => wpAny_Call_Name_kw (ld_glob I hg hm (PySem.W.callWith_K (h₀ := X.base) I.ok.mod.kin hk (thn (ha.run pos pins s σ H _ I h) fun us s1 z => ?_) he hpl) hdb)⟩
  obtain ⟨vs, H1, I1, r, q⟩ := z
  refine ⟨I1.kIn, wpAny_call (codeAny_mono (F X.A X.stack s1 H1 us vs Q E hgd hr I1.env0 r q) fun rs s' hq => ?_)⟩
  match rs, hq with
  | .error e', hq => exact hx pins σ H1 s1 e' s' I1 hq
  | .ok (.ret u), hq => exact I1.after hq
  | .ok .next, hq => exact hq.elim
  | .ok .brk, hq => exact hq.elim
  | .ok .cont, hq => exact hq.elim
end
/-- the same rule for a def that lets no exception out -/
theorem ok0 {P : Program} {w : World} {K : PySem.W.Frag} {mg : Str → Option Value} {base : Heap} {k : Nat} {f : Addr} {fd : FuncData} {sp : Sp} {x qual : Str} {params : Arguments} {body : List Stmt} {scope : Scope} {N ps : List Str} {kws : List (Str × V)}
    (F : FunD K x qual params body scope [] kws f fd) (S : FnScope N ps scope)
    (hb : ∀ (s : Shared) (us : List Value), us.length = ps.length → BindsTo s fd ⟨us, []⟩ (ps.zip us)) (len : ∀ vs H Q E, sp vs H Q E → vs.length = ps.length)
    (hbody : ∀ (cdv : Value) (A : Around) (outer : List Env) (s : Shared) (H : Hp) (vs : List V) (Q : VK) (E : XK), A.guards = some [] → Room k (A.deeper (envOfC qual scope s.heap.objs.size f cdv)) → sp vs H Q E →
      ∃ t, PSs (cxOf CX0 P w K mg base N qual scope f cdv A outer s H E).nox body t ∧ t { nx := fun _ H' => Q .non H', rt := Q } (start N vs) H) : FnG P w K mg base CX0 (k + 1) f sp :=
  okG F S hb len fun cdv A outer s H vs Q E hg hr h => by
    obtain ⟨t, ht, q⟩ := hbody cdv A outer s H vs Q E hg hr h
    exact ⟨t, ht.nox, q⟩
section
variable {X : Cx} {CX : CXT} {k : Nat} {f C : Addr} {sp : Sp} {E : XK} {x m : Str} {p pos apos : Pos} {e o : Expr} {es : List Expr} {t : TA} {ta : TE} {pins : List (Addr × Obj)} {σ : L2.St} {H : Hp} {s : Shared} {Q : VK} {us : List Value} {vs : List V}
/-- the callee's run, seen by the caller -/
theorem runG (F : FnG X.prog X.w X.K X.mg X.base CX k f sp) (hr : Room k X.A) (hgd : X.A.guards = some []) (hx : Passes CX X E) (I : Inv X pins σ H s) (r : Vals vs us) (h : sp vs H Q E) :
    wpAny (model X.prog X.w) X.A (call (.ref f) us) (EP X pins σ Q) X.xe s :=
  wpAny_call (codeAny_mono (F X.A X.stack s H us vs Q E hgd hr I.env0 r h) fun rs s' hq => by
    match rs, hq with
    | .error e', hq => exact hx pins σ H s e' s' I hq
    | .ok (.ret u), hq => exact I.after hq
    | .ok .next, hq => exact hq.elim
    | .ok .brk, hq => exact hq.elim
    | .ok .cont, hq => exact hq.elim)
/-- f() -/
theorem pe_callG0 (F : FnG X.prog X.w X.K X.mg X.base CX k f sp) (hr : Room k X.A) (hgd : X.A.guards = some []) (hg : Gl X x) (hm : X.mg x = some (.ref f)) (hk : PySem.W.keepIn X.K (.ref f) = true) (hx : Passes CX X E)
    (hdb : (x == ("__debug__" : Str)) = false := by decide) : PE X (.Call (.Name x p) [] [] pos) (fun _ H Q => sp [] H Q E) :=
  ⟨fun pins s σ H Q I h => wpAny_Call_Name_kw (ld_glob I hg hm (PySem.W.callWith_K0 I.kIn hk (runG (us := []) F hr hgd hx I .nil h)) hdb)⟩
/-- o.m(e, ..) of an instance of the class at C or of any class that has the method at f -/
def tMethG (K : PySem.W.Frag) (m : Str) (f : Addr) (sp : Sp) (E : XK) (ta : TE) (t : TA) : TE := fun σ H Q => ta σ H fun x H1 => ∃ a C dx fs, x = .ref a ∧ H1 a = some (.ins C dx fs) ∧ Cls K C ∧ Meth K C m f ∧ fs.lookup m = none ∧
  t σ H1 fun vs H2 => sp (.ref a :: vs) H2 Q E
theorem pe_methG {pl : Sem Bool} (he : PE X o ta) (hk : PySem.W.keepIn X.K (.ref f) = true) (F : FnG X.prog X.w X.K X.mg X.base CX k f sp) (hr : Room k X.A) (hgd : X.A.guards = some []) (hx : Passes CX X E) (ha : PA X (e :: es) t)
    (hst : starEach (e :: es) X.env = (false, eval e X.env) :: starEach es X.env := by rfl) (hpl : (backTo pos (starEach es X.env)).any (·.1) = false := by rfl)
    (ht : eval (.Call (.Attribute o m apos) (e :: es) [] pos) X.env = (do
      let ov ← eval o X.env
      standAt apos.atName
      let (g, first) ← holding [ov] (getMethod ov m pl)
      callWith pos g first (backTo pos (starEach (e :: es) X.env)) (backToKw pos (keywordEach [] X.env))) := by rfl) :
    PE X (.Call (.Attribute o m apos) (e :: es) [] pos) (tMethG X.K m f sp E ta t) := by
  refine ⟨fun pins s σ H Q I h => PySem.W.methodCall_KW (pl := pl) (thn (he.run pins s σ H _ I h) fun u s1 z => ?_) ht⟩
  obtain ⟨x, H1, I1, rx, a, C, dx, fs, rfl, ea, c, hm, l, q⟩ := z
  cases (show u = Value.ref a from rx)
  refine getmeth_ok I1 ea c hm l (PySem.W.callWith_K (first := [.ref a]) (h₀ := X.base) I.ok.mod.kin hk (thn (ha.run pos pins s1 σ H1 _ I1 q) fun us s2 y => ?_) hst hpl)
  obtain ⟨vs, H2, I2, r, q2⟩ := y
  exact ⟨I2.kIn, runG (us := .ref a :: us) (vs := .ref a :: vs) F hr hgd hx I2 (.cons rfl r) q2⟩
/-- o.m() -/
theorem pe_methG0 {pl : Sem Bool} (he : PE X o ta) (hk : PySem.W.keepIn X.K (.ref f) = true) (F : FnG X.prog X.w X.K X.mg X.base CX k f sp) (hr : Room k X.A) (hgd : X.A.guards = some []) (hx : Passes CX X E)
    (ht : eval (.Call (.Attribute o m apos) [] [] pos) X.env = (do
      let ov ← eval o X.env
      standAt apos.atName
      let (g, first) ← holding [ov] (getMethod ov m pl)
      callWith pos g first (backTo pos (starEach [] X.env)) (backToKw pos (keywordEach [] X.env))) := by rfl) :
    PE X (.Call (.Attribute o m apos) [] [] pos) (tMethG X.K m f sp E ta tNil) := by
  refine ⟨fun pins s σ H Q I h => PySem.W.methodCall_KW (pl := pl) (thn (he.run pins s σ H _ I h) fun u s1 z => ?_) ht⟩
  obtain ⟨x, H1, I1, rx, a, C, dx, fs, rfl, ea, c, hm, l, q⟩ := z
  cases (show u = Value.ref a from rx)
  exact getmeth_ok I1 ea c hm l (PySem.W.callWith_K0 (first := [.ref a]) I1.kIn hk (runG (us := [.ref a]) (vs := [.ref a]) F hr hgd hx I1 (.cons rfl .nil) q))
theorem made_guards {A : Around} (h : A.guards = some []) (C : Addr) (us : List Value) : (A.under (.builtin "type.__call__" ⟨.ref C :: us, []⟩)).guards = some [] := by
  show pushGuards (Code.builtin "type.__call__" ⟨.ref C :: us, []⟩).guards A.guards = some []
  rw [h]
  first
    | rfl
    | decide +kernel
/-- C(e, ..) -/
theorem pe_makeG (M : Mk X.K C f) (F : FnG X.prog X.w X.K X.mg X.base CX k f sp) (hr : Room (k + 1) X.A) (hgd : X.A.guards = some []) (hg : Gl X x) (hm : X.mg x = some (.ref C)) (hx : Passes CX X E) (ha : PA X (e :: es) t)
    (hdb : (x == ("__debug__" : Str)) = false := by decide) (he : starEach (e :: es) X.env = (false, eval e X.env) :: starEach es X.env := by rfl)
    (hpl : (backTo pos (starEach es X.env)).any (·.1) = false := by rfl) : PE X (.Call (.Name x p) (e :: es) [] pos) (StX.tMakeR C sp E t) := by
  refine ⟨fun pins s σ H Q I h => wpAny_Call_Name_kw (ld_glob I hg hm (PySem.W.callWith_K (h₀ := X.base) I.ok.mod.kin M.kp (thn (ha.run pos pins s σ H _ I h) fun us s1 z => ?_) he hpl) hdb)⟩
  obtain ⟨vs, H1, I1, r, q⟩ := z
  refine ⟨I1.kIn, wpAny_call (make_map (f := f) I1.kIn M.makes M.init (beq_iff_eq.mp M.fn) ?_)⟩
  have q2 := q (s1.heap.objs.size + 1) s1.heap.objs.size (I1.hok.fresh (Nat.le_succ _)) (I1.hok.fresh (Nat.le_refl _)) (Nat.ne_of_lt (Nat.lt_succ_self _))
  have I2 := Inv.made (C := C) I1
  refine codeAny_mono (F _ X.stack _ _ (Value.ref (s1.heap.objs.size + 1) :: us) (V.ref (s1.heap.objs.size + 1) :: vs) _ E (made_guards hgd C us) (hr.make C us []) (I2.env0.make C us []) (.cons rfl r) q2) fun rs s' hq => ?_
  match rs, hq with
  | .error e', hq => exact hx pins σ _ _ e' s' I2 hq
  | .ok (.ret u), hq =>
    obtain ⟨v, H', I3, rv, ev, q3⟩ := I2.after hq
    subst ev
    exact ⟨rv, V.ref (s1.heap.objs.size + 1), H', I3, rfl, q3⟩
  | .ok .next, hq => exact hq.elim
  | .ok .brk, hq => exact hq.elim
  | .ok .cont, hq => exact hq.elim
end
/-! ### repr of data -/
section
variable {X : Cx}
/-- repr(x), x data: none, a bool, an int, a text, lists and tuples of such -/
def rRepr (K : PySem.W.Frag) : List V → Hp → VK → Prop := fun xs H Q => ∃ (x : V) (d : PyData), xs = [x] ∧ Dp K H x d ∧ d.showable = true ∧ d.shown.length ≤ sizeLine ∧ d.depth ≤ 60 ∧ Q (.str d.shown) H
mutual
theorem noD {K : PySem.W.Frag} {H : Hp} : ∀ (d : PyData) (v : V), Dp K H v d → d.hasDict = false
  | .none, _, _ => by simp only [PyData.hasDict]
  | .bool _, _, _ => by simp only [PyData.hasDict]
  | .int _, _, _ => by simp only [PyData.hasDict]
  | .str _, _, _ => by simp only [PyData.hasDict]
  | .list ds, _, h => by
    cases h with
    | lst _ ha =>
      simp only [PyData.hasDict]
      exact noDs ds _ ha
  | .tuple ds, _, h => by
    cases h with
    | tup _ ha =>
      simp only [PyData.hasDict]
      exact noDs ds _ ha
  | .dict _, _, h => by cases h
theorem noDs {K : PySem.W.Frag} {H : Hp} : ∀ (ds : List PyData) (vs : List V), DpAll K H vs ds → PyData.hasDictAll ds = false
  | [], _, _ => by simp only [PyData.hasDictAll]
  | d :: ds, _, h => by
    cases h with
    | cons h1 h2 =>
      simp only [PyData.hasDictAll, noD d _ h1, noDs ds _ h2, Bool.or_false]
end
theorem call_repr (hg : X.A.guards = some []) (hu : X.A.units + 64 < cLine) : CallR X (.builtin "repr") (rRepr X.K) := by
  intro pins s σ H xs us Q I r h
  obtain ⟨x, d, rfl, hd, hs, hz, hdp, q⟩ := h
  obtain ⟨u, rfl, rx⟩ := vals1 r
  obtain ⟨as, rd⟩ := Dp.reads I d x u hd rx
  have nd := noD d x hd
  cases rd with
  | none => exact PySem.P.repr_of_none ⟨.str _, H, I.tok _, ⟨_, rfl⟩, by simpa only [PyData.shown] using q⟩
  | bool b => exact PySem.P.repr_of_bool ⟨.str _, H, I.tok _, ⟨_, rfl⟩, by simpa only [PyData.shown] using q⟩
  | int i t => exact PySem.P.repr_of_int (by simpa [PyData.showable] using hs) ⟨.str _, H, I.tok _, ⟨_, rfl⟩, by simpa only [PyData.shown] using q⟩
  | str y t => exact PySem.P.repr_of_str ⟨.str _, H, I.tok _, ⟨_, rfl⟩, by simpa only [PyData.shown] using q⟩ (by simpa only [PyData.shown] using hz)
  | list h1 h2 h3 h4 =>
    exact repr_of_reads' (.list h1 h2 h3 h4) hs (fun z => by rw [nd] at z; cases z) hg (by omega) (fun _ _ z => z) (fun h' u tk hk => ⟨.str _, H, I.kept (t' := tk) hk, ⟨u, rfl⟩, q⟩) hz
  | tuple h1 h2 h3 h4 =>
    exact repr_of_reads' (.tuple h1 h2 h3 h4) hs (fun z => by rw [nd] at z; cases z) hg (by omega) (fun _ _ z => z) (fun h' u tk hk => ⟨.str _, H, I.kept (t' := tk) hk, ⟨u, rfl⟩, q⟩) hz
  | dict h1 h2 h3 h4 h5 => cases hd
end
/-! ### the law's end -/
section
variable {P : Program} {w : World} {K : PySem.W.Frag} {mg mb : Str → Option Value} {k : Nat} {fa a : Addr} {sp : Sp} {s₁ : Shared} {vs : List Value} {ns : List Int}
/-- the law's call over one abstract heap -/
theorem lawOn {H : Hp} (KX : K.In s₁.heap) (hns : s₁.heap.Ns mainGlobals mg) (hb : s₁.heap.Ns builtinsNs mb) (hbb : ∀ x : Str, x ≠ "__name__" → mb x = bootBuiltins x) (hlim : s₁.heap.NoLimit) (hg : s₁.gens = #[])
    (ha : s₁.heap.get? a = some { cls := .type "list", data := .seq vs.toArray }) (hr : Room k callerA)
    (F : ∀ base : Heap, K.In base → base.Ns mainGlobals mg → FnG P w K mg base CX0 k fa sp)
    (hO : Only H) (hsp : sp [.ref a] H (fun v _ => v = .bl true) fun _ _ _ => False) (hok : HOk P w H s₁.heap) (hA : ∀ b, H b ≠ none → b = a) (hK : H a ≠ none → K.lookup a = none) :
    codeAny (model P w) callerA (.call (.ref fa) ⟨[.ref a], []⟩) (fun r s' => r = .ok (.ret (.bool true)) ∧ OldK s₁.heap s'.heap ∧ s'.os = s₁.os ∧ AllBare s'.gens) s₁ := by
  have free : ∀ b o, s₁.heap.get? b = some o → (∀ w n, o.data ≠ Data.seq w n) → H b = none := fun b o e hd => Classical.byContradiction fun z => by
    have eb := hA b z
    rw [eb, ha] at e
    exact hd _ _ (congrArg Obj.data (Option.some.inj e)).symm
  have names : ∀ b m, s₁.heap.Ns b m → (hidT s₁.heap H).Ns b m := fun b m hn => by
    obtain ⟨o, es, ep, e, d, r⟩ := hn
    exact ⟨o, es, ep, hidT_get e (free b o e fun w n z => by rw [d] at z; cases z), d, r⟩
  have KB : K.In (hidT s₁.heap H) := fun b o e => hidT_get (KX b o e) (Classical.byContradiction fun z => by
    have eb := hA b z
    subst eb
    rw [hK z] at e
    cases e)
  have md : Mod K mg (hidT s₁.heap H) := ⟨KB, names _ _ hns, ⟨mb, names _ _ hb, hbb⟩, by obtain ⟨mc, h1, h2⟩ := hlim; exact ⟨mc, names _ _ h1, h2⟩⟩
  have nof : ∀ b, b ∉ frs ([] : List Env) := fun b z => by cases z
  have e0 : Env0 P w K mg (hidT s₁.heap H) callerA [] s₁ H := ⟨rfl, md, fun _ _ e => of_hidT e, Nat.le_of_eq (hidT_size _ _), True.intro, fun b z => absurd z (nof b), hok, .of_eq hg⟩
  refine codeAny_mono (F _ KB (names _ _ hns) callerA [] s₁ H [.ref a] [.ref a] _ _ rfl hr e0 (.cons rfl .nil) hsp) fun rs s' z => ?_
  match rs, z with
  | .error _, z => exact z.elim
  | .ok .next, z => exact z.elim
  | .ok .brk, z => exact z.elim
  | .ok .cont, z => exact z.elim
  | .ok (.ret u), z =>
    obtain ⟨v, H', os, bare, un, ok', rv, ev⟩ := z
    cases (show v = V.bl true from ev)
    cases (show u = Value.bool true from rv)
    refine ⟨rfl, OldK.of_keep fun b o e => ?_, os, bare⟩
    rcases hO b with n | ⟨ob, xs, n⟩
    · exact un.keep b o e n (nof b) (by simp)
    · have h1 := (hok b _ n).1
      have h2 := (ok' b _ (un.frzs b ob _ n)).1
      rw [e] at h1
      cases h1
      exact h2
theorem lawG (KX : K.In s₁.heap) (hns : s₁.heap.Ns mainGlobals mg) (hb : s₁.heap.Ns builtinsNs mb) (hbb : ∀ x : Str, x ≠ "__name__" → mb x = bootBuiltins x) (hlim : s₁.heap.NoLimit) (hg : s₁.gens = #[])
    (ha : s₁.heap.get? a = some { cls := .type "list", data := .seq vs.toArray }) (hi : IntsAre vs ns) (hl : ns.length ≤ sizeLine) (hr : Room k callerA)
    (F : ∀ base : Heap, K.In base → base.Ns mainGlobals mg → FnG P w K mg base CX0 k fa sp)
    (hsp : ∀ H : Hp, Only H → SqL K H a (ns.map V.int) → sp [.ref a] H (fun v _ => v = .bl true) fun _ _ _ => False) :
    codeAny (model P w) callerA (.call (.ref fa) ⟨[.ref a], []⟩) (fun r s' => r = .ok (.ret (.bool true)) ∧ OldK s₁.heap s'.heap ∧ s'.os = s₁.os ∧ AllBare s'.gens) s₁ := by
  have rv := vals_ints hi
  cases ek : K.lookup a with
  | some o =>
    have eo : o = _ := Option.some.inj ((KX a o ek).symm.trans ha)
    have O0 : Only (fun _ => none) := fun _ => .inl rfl
    have S0 : SqL K (fun _ => none) a (ns.map V.int) := .inr ⟨o, vs.toArray, _, ek, by rw [eo], by rw [eo], by rw [eo], by rw [List.size_toArray, ← rv.length, List.length_map]; exact hl, by simpa using rv⟩
    exact lawOn (H := fun _ => none) KX hns hb hbb hlim hg ha hr F O0 (hsp _ O0 S0) (fun b u z => by cases z) (fun b z => absurd rfl z) fun z => absurd rfl z
  | none =>
    let H1 : Hp := fun b => if b = a then some (.frz { cls := .type "list", data := .seq vs.toArray } (.lst (ns.map V.int))) else none
    have at_ : H1 a = some (.frz { cls := .type "list", data := .seq vs.toArray } (.lst (ns.map V.int))) := if_pos rfl
    have off : ∀ b, b ≠ a → H1 b = none := fun b z => if_neg z
    have O1 : Only H1 := fun b => by
      by_cases z : b = a
      · exact .inr ⟨_, _, by rw [z]; exact at_⟩
      · exact .inl (off b z)
    refine lawOn (H := H1) KX hns hb hbb hlim hg ha hr F O1 (hsp _ O1 (.inl (.inr ⟨_, at_⟩))) (fun b u z => ?_) (fun b z => Classical.byContradiction fun q => z (off b q)) fun _ => ek
    by_cases q : b = a
    · subst q
      rw [at_] at z
      cases z
      exact ⟨ha, by rw [List.length_map]; exact hl, vs, _, rv, ha⟩
    · rw [off b q] at z
      cases z
end
/-- the goal that the head leaves -/
theorem walkG {l : PySem.W.OpenLaw} {n k : Nat} {q : Program} {loose : List Str} {XP : (Str → Option Value) → Heap → Prop} {YP : World → Heap → Prop} {d : DefRec}
    (hn : l.most = some n) (hn2 : n ≤ sizeLine) (hdf : d.params.defaults = []) (hr : Room k callerA)
    (F : ∀ (w : World) (mg : Str → Option Value) (fa : Addr) (h : Heap), YP w h → h.Ns mainGlobals mg → mg d.name = some (.ref fa) → ∃ (K : PySem.W.Frag) (sp : Sp), K.In h ∧
      (∀ (H : Hp) (a : Addr) (ns : List Int), ns.length ≤ n → Only H → SqL K H a (ns.map V.int) → sp [.ref a] H (fun v _ => v = .bl true) fun _ _ _ => False) ∧
      ∀ base : Heap, K.In base → base.Ns mainGlobals mg → FnG l.prog w K mg base CX0 k fa sp) :
    PySem.W.WalkO q loose XP YP l.row.toRowW d [] (fun f vs => PySem.call f vs) :=
  Att.attach_call hn hdf fun w s₀ s₁ mg mb fa o pm cd doc a vs ns G Y ho hd hcd hmg hobj hints hlen hg => by
    obtain ⟨K, sp, KX, hsp, hF⟩ := F w mg fa _ Y G.T.g hmg
    exact lawG KX G.T.g G.T.b G.T.builtins G.T.nolimit hg hobj hints (Nat.le_trans hlen hn2) hr hF fun H hO hS => hsp H a ns hlen hO hS
end Ver

/-! The mathematics of the numbers modulo a prime: Euclid's way, trial division. -/
namespace Num
/-- trial division by odd divisors from 3 on, up to the root -/
def oddOk (v : Nat) (n : Nat) : Bool := (List.range n).all fun i => v % (3 + 2 * i) != 0
/-- is_prime's answer, for an int -/
def prB (r : Nat → Nat) (v : Int) : Bool :=
  decide (2 ≤ v) && decide (v ≤ 1000000000) && (if v % 2 = 0 then decide (v = 2) else oddOk v.toNat ((r v.toNat + 1 - 3 + 1) / 2))
/-- what the walk asks of a modulus -/
structure Md (p : Int) : Prop where
  lo : 2 ≤ p
  hi : p ≤ 1000000000
  pr : ∀ n : Int, 0 < n → n < p → Int.gcd n p = 1
theorem gcd_one {p b : Nat} (hb : p < b * b) (h : (List.range b).all (fun d => decide (d < 2) || p % d != 0) = true) (n : Nat) (h0 : 0 < n) (h1 : n < p) : Nat.gcd n p = 1 := by
  have small : ∀ d, 2 ≤ d → d < b → ¬ d ∣ p := fun d h2 h3 hd => by
    have q := List.all_eq_true.mp h d (List.mem_range.mpr h3)
    rw [Bool.or_eq_true] at q
    rcases q with q | q
    · have := of_decide_eq_true q
      omega
    · have e : p % d = 0 := Nat.mod_eq_zero_of_dvd hd
      rw [e] at q
      cases q
  have hg : Nat.gcd n p ∣ p := Nat.gcd_dvd_right n p
  have hn : Nat.gcd n p ∣ n := Nat.gcd_dvd_left n p
  have gpos : 0 < Nat.gcd n p := Nat.gcd_pos_of_pos_left _ h0
  have gle : Nat.gcd n p ≤ n := Nat.le_of_dvd h0 hn
  by_cases g1 : Nat.gcd n p = 1
  · exact g1
  · exfalso
    obtain ⟨m, hm⟩ := hg
    have m2 : 2 ≤ m := by
      cases m with
      | zero => omega
      | succ m =>
        cases m with
        | zero => omega
        | succ m => omega
    have hmd : m ∣ p := ⟨Nat.gcd n p, by rw [Nat.mul_comm]; exact hm⟩
    by_cases c : Nat.gcd n p < b
    · exact small _ (by omega) c (Nat.gcd_dvd_right n p)
    · by_cases c2 : m < b
      · exact small m m2 c2 hmd
      · have : b * b ≤ Nat.gcd n p * m := Nat.mul_le_mul (by omega) (by omega)
        omega
theorem md_of (p b : Nat) (h2 : 2 ≤ p) (h9 : p ≤ 1000000000) (hb : p < b * b) (h : (List.range b).all (fun d => decide (d < 2) || p % d != 0) = true) : Md (p : Int) :=
  ⟨by omega, by omega, fun n h0 h1 => by
    have e : n = ((n.toNat : Nat) : Int) := by omega
    rw [e]
    show Nat.gcd _ _ = 1
    exact gcd_one hb h n.toNat (by omega) (by omega)⟩
theorem md2 : Md 2 := md_of 2 2 (by decide) (by decide) (by decide) (by decide)
theorem md3 : Md 3 := md_of 3 2 (by decide) (by decide) (by decide) (by decide)
theorem md5 : Md 5 := md_of 5 3 (by decide) (by decide) (by decide) (by decide)
theorem md7 : Md 7 := md_of 7 3 (by decide) (by decide) (by decide) (by decide)
theorem md101 : Md 101 := md_of 101 11 (by decide) (by decide) (by decide) (by decide)
theorem md1000003 : Md 1000003 := md_of 1000003 1001 (by decide) (by decide) (by decide) (by decide +kernel)

/-! ### Euclid -/
/-- the state of the loop: past and now times the number are rest and left, modulo p -/
structure Eu (p n rest left past now : Int) : Prop where
  l0 : 0 ≤ left
  lp : left < p
  r0 : 0 < rest
  rp : rest ≤ p
  a : p ∣ past * n - rest
  b : p ∣ now * n - left
  g : Int.gcd rest left = 1
theorem Eu.start {p n : Int} (m : Md p) (h0 : 0 < n) (h1 : n < p) : Eu p n p (n % p) 0 1 := by
  have e : n % p = n := Int.emod_eq_of_lt (by omega) h1
  have hlo := m.lo
  refine ⟨by omega, by omega, by omega, Int.le_refl _, ⟨-1, by omega⟩, ⟨0, by omega⟩, ?_⟩
  rw [e, Int.gcd_comm]
  exact m.pr n h0 h1
theorem Eu.step {p n rest left past now : Int} (E : Eu p n rest left past now) (h : left ≠ 0) : Eu p n left (rest - rest / left * left) now (past - rest / left * now) := by
  have hl : 0 < left := by have := E.l0; omega
  have e : rest - rest / left * left = rest % left := by
    have := Int.emod_def rest left
    rw [Int.mul_comm] at this
    omega
  rw [e]
  have m0 : 0 ≤ rest % left := Int.emod_nonneg _ h
  have m1 : rest % left < left := Int.emod_lt_of_pos _ hl
  refine ⟨m0, by have := E.lp; omega, hl, by have := E.lp; omega, E.b, ?_, ?_⟩
  · obtain ⟨x, hx⟩ := E.a
    obtain ⟨y, hy⟩ := E.b
    refine ⟨x - rest / left * y, ?_⟩
    rw [← e]
    have h1 : (past - rest / left * now) * n - (rest - rest / left * left) = (past * n - rest) - rest / left * (now * n - left) := by
      rw [Int.sub_mul, Int.mul_sub, Int.mul_assoc]
      omega
    rw [h1, hx, hy, Int.mul_sub]
    congr 1
    rw [← Int.mul_assoc, ← Int.mul_assoc, Int.mul_comm (rest / left) p]
  · rw [Int.gcd_comm]
    have := E.g
    rw [Int.gcd_comm] at this
    rw [← this]
    show Nat.gcd _ _ = Nat.gcd _ _
    have a1 : (rest % left).natAbs = rest.natAbs % left.natAbs := by
      have hr := E.r0
      have q : ((rest.natAbs % left.natAbs : Nat) : Int) = rest % left := by
        rw [Int.natCast_emod]
        rw [Int.natAbs_of_nonneg (by omega), Int.natAbs_of_nonneg (by omega)]
      omega
    rw [a1, ← Nat.gcd_rec, Nat.gcd_comm]
theorem Eu.times {p n rest left past now : Int} (E : Eu p n rest left past now) (h : left ≠ 0) : 0 ≤ rest / left ∧ rest / left ≤ p := by
  have hl : 0 < left := by have := E.l0; omega
  have hr := E.r0
  have hp := E.rp
  refine ⟨Int.ediv_nonneg (by omega) (by omega), ?_⟩
  have : rest / left ≤ rest := Int.ediv_le_self _ (by omega)
  omega
/-- at the end: the inverse -/
theorem Eu.inv {p n rest past now : Int} (m : Md p) (E : Eu p n rest 0 past now) : 0 ≤ past % p ∧ past % p < p ∧ (past % p * n) % p = 1 := by
  have hlo := m.lo
  have r1 : rest = 1 := by
    have g := E.g
    have h0 := E.r0
    rw [Int.gcd_zero_right] at g
    omega
  have hm : (past * n) % p = 1 := by
    obtain ⟨x, hx⟩ := E.a
    have e : past * n = 1 + p * x := by omega
    rw [e, Int.add_mul_emod_self_left]
    exact Int.emod_eq_of_lt (by omega) (by omega)
  refine ⟨Int.emod_nonneg _ (by omega), Int.emod_lt_of_pos _ (by omega), ?_⟩
  rw [Int.mul_emod, Int.emod_emod, ← Int.mul_emod]
  exact hm
/-- what over tells, times what it divided by -/
theorem over_back {p a b i : Int} (ha : 0 ≤ a ∧ a < p) (hi : (i * b) % p = 1 % p) : (a * i % p * b) % p = a := by
  have e : (a * i % p * b) % p = (a * (i * b)) % p := by
    rw [Int.mul_emod, Int.emod_emod, ← Int.mul_emod, Int.mul_assoc]
  rw [e, Int.mul_emod, hi, ← Int.mul_emod, Int.mul_one]
  exact Int.emod_eq_of_lt ha.1 ha.2
end Num

namespace K04
open PySem PySem.Spec PyProof.Rows L2 Ver
def top (i : Nat) : Stmt := PySem.Challenge.pw_firstanswers_k04_whole_sums_modulo_prime.main.body.getD i (.Pass ⟨0, 0, 0, 0⟩)
abbrev s_is_integer : Stmt := top 3
abbrev n_is_integer : List Str := ["value"]
theorem sc_is_integer : FnScope n_is_integer ["value"] (defScope s_is_integer) := ⟨rfl, rfl, rfl, by decide +kernel, rfl, by decide +kernel, by decide +kernel⟩
def d_is_integer : He.DefD := ⟨("is_integer", none), "is_integer", "is_integer", defArgs s_is_integer, defBody s_is_integer, defScope s_is_integer, [], []⟩
abbrev s_is_between : Stmt := top 4
abbrev n_is_between : List Str := ["value", "low", "high"]
theorem sc_is_between : FnScope n_is_between ["value", "low", "high"] (defScope s_is_between) := ⟨rfl, rfl, rfl, by decide +kernel, rfl, by decide +kernel, by decide +kernel⟩
def d_is_between : He.DefD := ⟨("is_between", none), "is_between", "is_between", defArgs s_is_between, defBody s_is_between, defScope s_is_between, [], []⟩
abbrev s_Field___init__ : Stmt := inClass (top 15) 1
abbrev n_Field___init__ : List Str := ["self", "prime"]
theorem sc_Field___init__ : FnScope n_Field___init__ ["self", "prime"] (defScope s_Field___init__) := ⟨rfl, rfl, rfl, by decide +kernel, rfl, by decide +kernel, by decide +kernel⟩
def d_Field___init__ : He.DefD := ⟨("Field", some "__init__"), "__init__", "Field.__init__", defArgs s_Field___init__, defBody s_Field___init__, defScope s_Field___init__, [], []⟩
abbrev s_Field_is_number : Stmt := inClass (top 15) 6
abbrev n_Field_is_number : List Str := ["self", "value"]
theorem sc_Field_is_number : FnScope n_Field_is_number ["self", "value"] (defScope s_Field_is_number) := ⟨rfl, rfl, rfl, by decide +kernel, rfl, by decide +kernel, by decide +kernel⟩
def d_Field_is_number : He.DefD := ⟨("Field", some "is_number"), "is_number", "Field.is_number", defArgs s_Field_is_number, defBody s_Field_is_number, defScope s_Field_is_number, [], []⟩
abbrev s_Field_plus : Stmt := inClass (top 15) 7
abbrev n_Field_plus : List Str := ["self", "one", "other"]
theorem sc_Field_plus : FnScope n_Field_plus ["self", "one", "other"] (defScope s_Field_plus) := ⟨rfl, rfl, rfl, by decide +kernel, rfl, by decide +kernel, by decide +kernel⟩
def d_Field_plus : He.DefD := ⟨("Field", some "plus"), "plus", "Field.plus", defArgs s_Field_plus, defBody s_Field_plus, defScope s_Field_plus, [], []⟩
abbrev s_Field_minus : Stmt := inClass (top 15) 8
abbrev n_Field_minus : List Str := ["self", "one", "other"]
theorem sc_Field_minus : FnScope n_Field_minus ["self", "one", "other"] (defScope s_Field_minus) := ⟨rfl, rfl, rfl, by decide +kernel, rfl, by decide +kernel, by decide +kernel⟩
def d_Field_minus : He.DefD := ⟨("Field", some "minus"), "minus", "Field.minus", defArgs s_Field_minus, defBody s_Field_minus, defScope s_Field_minus, [], []⟩
abbrev s_Field_times : Stmt := inClass (top 15) 9
abbrev n_Field_times : List Str := ["self", "one", "other"]
theorem sc_Field_times : FnScope n_Field_times ["self", "one", "other"] (defScope s_Field_times) := ⟨rfl, rfl, rfl, by decide +kernel, rfl, by decide +kernel, by decide +kernel⟩
def d_Field_times : He.DefD := ⟨("Field", some "times"), "times", "Field.times", defArgs s_Field_times, defBody s_Field_times, defScope s_Field_times, [], []⟩
abbrev s_Field_over : Stmt := inClass (top 15) 10
abbrev n_Field_over : List Str := ["self", "one", "other"]
theorem sc_Field_over : FnScope n_Field_over ["self", "one", "other"] (defScope s_Field_over) := ⟨rfl, rfl, rfl, by decide +kernel, rfl, by decide +kernel, by decide +kernel⟩
def d_Field_over : He.DefD := ⟨("Field", some "over"), "over", "Field.over", defArgs s_Field_over, defBody s_Field_over, defScope s_Field_over, [], []⟩
abbrev s_Field_total : Stmt := inClass (top 15) 11
abbrev n_Field_total : List Str := ["self", "numbers", "tops", "bottom"]
theorem sc_Field_total : FnScope n_Field_total ["self", "numbers"] (defScope s_Field_total) := ⟨rfl, rfl, rfl, by decide +kernel, rfl, by decide +kernel, by decide +kernel⟩
def d_Field_total : He.DefD := ⟨("Field", some "total"), "total", "Field.total", defArgs s_Field_total, defBody s_Field_total, defScope s_Field_total, [], []⟩
abbrev s_Field_holds : Stmt := inClass (top 15) 14
abbrev n_Field_holds : List Str := ["self", "value"]
theorem sc_Field_holds : FnScope n_Field_holds ["self", "value"] (defScope s_Field_holds) := ⟨rfl, rfl, rfl, by decide +kernel, rfl, by decide +kernel, by decide +kernel⟩
def d_Field_holds : He.DefD := ⟨("Field", some "holds"), "holds", "Field.holds", defArgs s_Field_holds, defBody s_Field_holds, defScope s_Field_holds, [], []⟩
abbrev s_Field_ratio : Stmt := inClass (top 15) 15
abbrev n_Field_ratio : List Str := ["self", "top", "bottom"]
theorem sc_Field_ratio : FnScope n_Field_ratio ["self", "top", "bottom"] (defScope s_Field_ratio) := ⟨rfl, rfl, rfl, by decide +kernel, rfl, by decide +kernel, by decide +kernel⟩
def d_Field_ratio : He.DefD := ⟨("Field", some "ratio"), "ratio", "Field.ratio", defArgs s_Field_ratio, defBody s_Field_ratio, defScope s_Field_ratio, [], []⟩
abbrev s_Field_product_of : Stmt := inClass (top 15) 18
abbrev n_Field_product_of : List Str := ["self", "one", "other", "top", "bottom", "above", "below"]
theorem sc_Field_product_of : FnScope n_Field_product_of ["self", "one", "other"] (defScope s_Field_product_of) := ⟨rfl, rfl, rfl, by decide +kernel, rfl, by decide +kernel, by decide +kernel⟩
def d_Field_product_of : He.DefD := ⟨("Field", some "product_of"), "product_of", "Field.product_of", defArgs s_Field_product_of, defBody s_Field_product_of, defScope s_Field_product_of, [], []⟩
abbrev s_Field_sum_of : Stmt := inClass (top 15) 16
abbrev n_Field_sum_of : List Str := ["self", "one", "other", "top", "bottom", "above", "below"]
theorem sc_Field_sum_of : FnScope n_Field_sum_of ["self", "one", "other"] (defScope s_Field_sum_of) := ⟨rfl, rfl, rfl, by decide +kernel, rfl, by decide +kernel, by decide +kernel⟩
def d_Field_sum_of : He.DefD := ⟨("Field", some "sum_of"), "sum_of", "Field.sum_of", defArgs s_Field_sum_of, defBody s_Field_sum_of, defScope s_Field_sum_of, [], []⟩
abbrev s_Field_difference_of : Stmt := inClass (top 15) 17
abbrev n_Field_difference_of : List Str := ["self", "one", "other", "top", "bottom", "above", "below"]
theorem sc_Field_difference_of : FnScope n_Field_difference_of ["self", "one", "other"] (defScope s_Field_difference_of) := ⟨rfl, rfl, rfl, by decide +kernel, rfl, by decide +kernel, by decide +kernel⟩
def d_Field_difference_of : He.DefD := ⟨("Field", some "difference_of"), "difference_of", "Field.difference_of", defArgs s_Field_difference_of, defBody s_Field_difference_of, defScope s_Field_difference_of, [], []⟩
abbrev s_Field_quotient_of : Stmt := inClass (top 15) 19
abbrev n_Field_quotient_of : List Str := ["self", "one", "other", "top", "bottom", "above", "below"]
theorem sc_Field_quotient_of : FnScope n_Field_quotient_of ["self", "one", "other"] (defScope s_Field_quotient_of) := ⟨rfl, rfl, rfl, by decide +kernel, rfl, by decide +kernel, by decide +kernel⟩
def d_Field_quotient_of : He.DefD := ⟨("Field", some "quotient_of"), "quotient_of", "Field.quotient_of", defArgs s_Field_quotient_of, defBody s_Field_quotient_of, defScope s_Field_quotient_of, [], []⟩
abbrev s_Field_common : Stmt := inClass (top 15) 21
abbrev n_Field_common : List Str := ["self", "numbers", "bottom", "number", "each", "above", "below"]
theorem sc_Field_common : FnScope n_Field_common ["self", "numbers"] (defScope s_Field_common) := ⟨rfl, rfl, rfl, by decide +kernel, rfl, by decide +kernel, by decide +kernel⟩
def d_Field_common : He.DefD := ⟨("Field", some "common"), "common", "Field.common", defArgs s_Field_common, defBody s_Field_common, defScope s_Field_common, [], []⟩
abbrev s_Field__check : Stmt := inClass (top 15) 23
abbrev n_Field__check : List Str := ["self", "numbers", "number"]
theorem sc_Field__check : FnScope n_Field__check ["self", "numbers"] (defScope s_Field__check) := ⟨rfl, rfl, rfl, by decide +kernel, rfl, by decide +kernel, by decide +kernel⟩
def d_Field__check : He.DefD := ⟨("Field", some "_check"), "_check", "Field._check", defArgs s_Field__check, defBody s_Field__check, defScope s_Field__check, [], []⟩
abbrev s_Modulo___init__ : Stmt := inClass (top 16) 0
abbrev n_Modulo___init__ : List Str := ["self", "prime"]
theorem sc_Modulo___init__ : FnScope n_Modulo___init__ ["self", "prime"] (defScope s_Modulo___init__) := ⟨rfl, rfl, rfl, by decide +kernel, rfl, by decide +kernel, by decide +kernel⟩
def d_Modulo___init__ : He.DefD := ⟨("Modulo", some "__init__"), "__init__", "Modulo.__init__", defArgs s_Modulo___init__, defBody s_Modulo___init__, defScope s_Modulo___init__, [], []⟩
abbrev s_is_prime : Stmt := top 17
abbrev n_is_prime : List Str := ["value", "divisor"]
theorem sc_is_prime : FnScope n_is_prime ["value"] (defScope s_is_prime) := ⟨rfl, rfl, rfl, by decide +kernel, rfl, by decide +kernel, by decide +kernel⟩
def d_is_prime : He.DefD := ⟨("is_prime", none), "is_prime", "is_prime", defArgs s_is_prime, defBody s_is_prime, defScope s_is_prime, [], []⟩
abbrev s_is_longer : Stmt := top 19
abbrev n_is_longer : List Str := ["number", "first_long", "top", "bottom"]
theorem sc_is_longer : FnScope n_is_longer ["number", "first_long"] (defScope s_is_longer) := ⟨rfl, rfl, rfl, by decide +kernel, rfl, by decide +kernel, by decide +kernel⟩
def d_is_longer : He.DefD := ⟨("is_longer", none), "is_longer", "is_longer", defArgs s_is_longer, defBody s_is_longer, defScope s_is_longer, [], []⟩
abbrev s_parts : Stmt := top 20
abbrev n_parts : List Str := ["number"]
theorem sc_parts : FnScope n_parts ["number"] (defScope s_parts) := ⟨rfl, rfl, rfl, by decide +kernel, rfl, by decide +kernel, by decide +kernel⟩
def d_parts : He.DefD := ⟨("parts", none), "parts", "parts", defArgs s_parts, defBody s_parts, defScope s_parts, [], []⟩
abbrev s_inverse : Stmt := top 22
abbrev n_inverse : List Str := ["number", "prime", "rest", "left", "past", "now", "times"]
theorem sc_inverse : FnScope n_inverse ["number", "prime"] (defScope s_inverse) := ⟨rfl, rfl, rfl, by decide +kernel, rfl, by decide +kernel, by decide +kernel⟩
def d_inverse : He.DefD := ⟨("inverse", none), "inverse", "inverse", defArgs s_inverse, defBody s_inverse, defScope s_inverse, [], []⟩
abbrev s__law_pen : Stmt := top 27
abbrev n__law_pen : List Str := ["_law_script"]
theorem sc__law_pen : FnScope n__law_pen ["_law_script"] (defScope s__law_pen) := ⟨rfl, rfl, rfl, by decide +kernel, rfl, by decide +kernel, by decide +kernel⟩
def d__law_pen : He.DefD := ⟨("_law_pen", none), "_law_pen", "_law_pen", defArgs s__law_pen, defBody s__law_pen, defScope s__law_pen, [], []⟩
abbrev s__law_draw : Stmt := top 28
abbrev n__law_draw : List Str := ["_law_pen_here", "_law_many", "_law_digit", "_law_place", "_law_cell", "_law_mixed", "_law_drawn"]
theorem sc__law_draw : FnScope n__law_draw ["_law_pen_here", "_law_many"] (defScope s__law_draw) := ⟨rfl, rfl, rfl, by decide +kernel, rfl, by decide +kernel, by decide +kernel⟩
def d__law_draw : He.DefD := ⟨("_law_draw", none), "_law_draw", "_law_draw", defArgs s__law_draw, defBody s__law_draw, defScope s__law_draw, [], []⟩
abbrev s__law_pick : Stmt := top 29
abbrev n__law_pick : List Str := ["_law_pen_here", "_law_options"]
theorem sc__law_pick : FnScope n__law_pick ["_law_pen_here", "_law_options"] (defScope s__law_pick) := ⟨rfl, rfl, rfl, by decide +kernel, rfl, by decide +kernel, by decide +kernel⟩
def d__law_pick : He.DefD := ⟨("_law_pick", none), "_law_pick", "_law_pick", defArgs s__law_pick, defBody s__law_pick, defScope s__law_pick, [], []⟩
abbrev s__law_prime : Stmt := top 30
abbrev n__law_prime : List Str := ["_law_pen_here"]
theorem sc__law_prime : FnScope n__law_prime ["_law_pen_here"] (defScope s__law_prime) := ⟨rfl, rfl, rfl, by decide +kernel, rfl, by decide +kernel, by decide +kernel⟩
def d__law_prime : He.DefD := ⟨("_law_prime", none), "_law_prime", "_law_prime", defArgs s__law_prime, defBody s__law_prime, defScope s__law_prime, [], []⟩
abbrev s__law_number : Stmt := top 31
abbrev n__law_number : List Str := ["_law_pen_here", "_law_prime_here"]
theorem sc__law_number : FnScope n__law_number ["_law_pen_here", "_law_prime_here"] (defScope s__law_number) := ⟨rfl, rfl, rfl, by decide +kernel, rfl, by decide +kernel, by decide +kernel⟩
def d__law_number : He.DefD := ⟨("_law_number", none), "_law_number", "_law_number", defArgs s__law_number, defBody s__law_number, defScope s__law_number, [], []⟩
abbrev s__law_has_none : Stmt := top 32
abbrev n__law_has_none : List Str := ["_law_field", "_law_one"]
theorem sc__law_has_none : FnScope n__law_has_none ["_law_field", "_law_one"] (defScope s__law_has_none) := ⟨rfl, rfl, rfl, by decide +kernel, rfl, by decide +kernel, by decide +kernel⟩
def d__law_has_none : He.DefD := ⟨("_law_has_none", none), "_law_has_none", "_law_has_none", defArgs s__law_has_none, defBody s__law_has_none, defScope s__law_has_none, [], []⟩
abbrev s__law_pair_right : Stmt := top 33
abbrev n__law_pair_right : List Str := ["_law_field", "_law_prime_here", "_law_one", "_law_other", "_law_due", "_law_told"]
theorem sc__law_pair_right : FnScope n__law_pair_right ["_law_field", "_law_prime_here", "_law_one", "_law_other"] (defScope s__law_pair_right) := ⟨rfl, rfl, rfl, by decide +kernel, rfl, by decide +kernel, by decide +kernel⟩
def d__law_pair_right : He.DefD := ⟨("_law_pair_right", none), "_law_pair_right", "_law_pair_right", defArgs s__law_pair_right, defBody s__law_pair_right, defScope s__law_pair_right, [], []⟩
abbrev s_law : Stmt := top 34
abbrev n_law : List Str := ["_law_script", "_law_pen_here", "_law_small", "_law_field", "_law_one", "_law_other", "_law_turn", "_law_prime_here", "_law_three"]
theorem sc_law : FnScope n_law ["_law_script"] (defScope s_law) := ⟨rfl, rfl, rfl, by decide +kernel, rfl, by decide +kernel, by decide +kernel⟩
def d_law : He.DefD := ⟨("law", none), "law", "law", defArgs s_law, defBody s_law, defScope s_law, [], []⟩
abbrev s_NoQuotient___init__ : Stmt := inClass (top 9) 0
abbrev n_NoQuotient___init__ : List Str := ["self"]
theorem sc_NoQuotient___init__ : FnScope n_NoQuotient___init__ ["self"] (defScope s_NoQuotient___init__) := ⟨rfl, rfl, rfl, by decide +kernel, rfl, by decide +kernel, by decide +kernel⟩
def d_NoQuotient___init__ : He.DefD := ⟨("NoQuotient", some "__init__"), "__init__", "NoQuotient.__init__", defArgs s_NoQuotient___init__, defBody s_NoQuotient___init__, defScope s_NoQuotient___init__, [], []⟩
def fn : List He.DefD := [d_is_integer, d_is_between, d_Field___init__, d_Field_is_number, d_Field_plus, d_Field_minus, d_Field_times, d_Field_over, d_Field_total, d_Field_holds, d_Field_ratio, d_Field_product_of, d_Field_sum_of, d_Field_difference_of, d_Field_quotient_of, d_Field_common, d_Field__check, d_Modulo___init__, d_is_prime, d_is_longer, d_parts, d_inverse, d__law_pen, d__law_draw, d__law_pick, d__law_prime, d__law_number, d__law_has_none, d__law_pair_right, d_law, d_NoQuotient___init__]
section
variable {P : Program} {w : World} {K : PySem.W.Frag} {fa : List He.Fa} {mg : Str → Option Value} {base : Heap} {k : Nat} {sp : Sp}
theorem mk_is_integer (S : He.SaysD fa fn K) (len : ∀ vs H Q E, sp vs H Q E → vs.length = 1)
    (hb : ∀ (cdv : Value) (A : Around) (outer : List Env) (s : Shared) (H : Hp) (vs : List V) (Q : VK) (E : XK), A.guards = some [] → Room k (A.deeper (envOfC "is_integer" (defScope s_is_integer) s.heap.objs.size (He.ga K "is_integer") cdv)) → sp vs H Q E →
      ∃ t, PSs (cxOf CX0 P w K mg base n_is_integer "is_integer" (defScope s_is_integer) (He.ga K "is_integer") cdv A outer s H E).nox (defBody s_is_integer) t ∧ t { nx := fun _ H' => Q .non H', rt := Q } (start n_is_integer vs) H) : FnG P w K mg base CX0 (k + 1) (He.ga K "is_integer") sp := by
  obtain ⟨fd, F⟩ := S.def_ 0 (d := d_is_integer) rfl
  exact ok0 F sc_is_integer (F.bindsA fun _ _ _ _ _ _ us hl => match us, hl with | [_], _ => rfl) len hb
theorem kp_is_integer (S : He.SaysD fa fn K) : PySem.W.keepIn K (.ref (He.ga K "is_integer")) = true := by
  obtain ⟨fd, F⟩ := S.def_ 0 (d := d_is_integer) rfl
  exact F.kp
theorem mk_is_between (S : He.SaysD fa fn K) (len : ∀ vs H Q E, sp vs H Q E → vs.length = 3)
    (hb : ∀ (cdv : Value) (A : Around) (outer : List Env) (s : Shared) (H : Hp) (vs : List V) (Q : VK) (E : XK), A.guards = some [] → Room k (A.deeper (envOfC "is_between" (defScope s_is_between) s.heap.objs.size (He.ga K "is_between") cdv)) → sp vs H Q E →
      ∃ t, PSs (cxOf CX0 P w K mg base n_is_between "is_between" (defScope s_is_between) (He.ga K "is_between") cdv A outer s H E).nox (defBody s_is_between) t ∧ t { nx := fun _ H' => Q .non H', rt := Q } (start n_is_between vs) H) : FnG P w K mg base CX0 (k + 1) (He.ga K "is_between") sp := by
  obtain ⟨fd, F⟩ := S.def_ 1 (d := d_is_between) rfl
  exact ok0 F sc_is_between (F.bindsA fun _ _ _ _ _ _ us hl => match us, hl with | [_, _, _], _ => rfl) len hb
theorem kp_is_between (S : He.SaysD fa fn K) : PySem.W.keepIn K (.ref (He.ga K "is_between")) = true := by
  obtain ⟨fd, F⟩ := S.def_ 1 (d := d_is_between) rfl
  exact F.kp
theorem mk_Field___init__ (S : He.SaysD fa fn K) (len : ∀ vs H Q E, sp vs H Q E → vs.length = 2)
    (hb : ∀ (cdv : Value) (A : Around) (outer : List Env) (s : Shared) (H : Hp) (vs : List V) (Q : VK) (E : XK), A.guards = some [] → Room k (A.deeper (envOfC "Field.__init__" (defScope s_Field___init__) s.heap.objs.size (He.ma K (He.ga K "Field") "__init__") cdv)) → sp vs H Q E →
      ∃ t, PSs (cxOf CX0 P w K mg base n_Field___init__ "Field.__init__" (defScope s_Field___init__) (He.ma K (He.ga K "Field") "__init__") cdv A outer s H E).nox (defBody s_Field___init__) t ∧ t { nx := fun _ H' => Q .non H', rt := Q } (start n_Field___init__ vs) H) : FnG P w K mg base CX0 (k + 1) (He.ma K (He.ga K "Field") "__init__") sp := by
  obtain ⟨fd, F⟩ := S.def_ 2 (d := d_Field___init__) rfl
  exact ok0 F sc_Field___init__ (F.bindsA fun _ _ _ _ _ _ us hl => match us, hl with | [_, _], _ => rfl) len hb
theorem kp_Field___init__ (S : He.SaysD fa fn K) : PySem.W.keepIn K (.ref (He.ma K (He.ga K "Field") "__init__")) = true := by
  obtain ⟨fd, F⟩ := S.def_ 2 (d := d_Field___init__) rfl
  exact F.kp
theorem mk_Field_is_number (S : He.SaysD fa fn K) (len : ∀ vs H Q E, sp vs H Q E → vs.length = 2)
    (hb : ∀ (cdv : Value) (A : Around) (outer : List Env) (s : Shared) (H : Hp) (vs : List V) (Q : VK) (E : XK), A.guards = some [] → Room k (A.deeper (envOfC "Field.is_number" (defScope s_Field_is_number) s.heap.objs.size (He.ma K (He.ga K "Field") "is_number") cdv)) → sp vs H Q E →
      ∃ t, PSs (cxOf CX0 P w K mg base n_Field_is_number "Field.is_number" (defScope s_Field_is_number) (He.ma K (He.ga K "Field") "is_number") cdv A outer s H E).nox (defBody s_Field_is_number) t ∧ t { nx := fun _ H' => Q .non H', rt := Q } (start n_Field_is_number vs) H) : FnG P w K mg base CX0 (k + 1) (He.ma K (He.ga K "Field") "is_number") sp := by
  obtain ⟨fd, F⟩ := S.def_ 3 (d := d_Field_is_number) rfl
  exact ok0 F sc_Field_is_number (F.bindsA fun _ _ _ _ _ _ us hl => match us, hl with | [_, _], _ => rfl) len hb
theorem kp_Field_is_number (S : He.SaysD fa fn K) : PySem.W.keepIn K (.ref (He.ma K (He.ga K "Field") "is_number")) = true := by
  obtain ⟨fd, F⟩ := S.def_ 3 (d := d_Field_is_number) rfl
  exact F.kp
theorem mk_Field_plus (S : He.SaysD fa fn K) (len : ∀ vs H Q E, sp vs H Q E → vs.length = 3)
    (hb : ∀ (cdv : Value) (A : Around) (outer : List Env) (s : Shared) (H : Hp) (vs : List V) (Q : VK) (E : XK), A.guards = some [] → Room k (A.deeper (envOfC "Field.plus" (defScope s_Field_plus) s.heap.objs.size (He.ma K (He.ga K "Field") "plus") cdv)) → sp vs H Q E →
      ∃ t, PSs (cxOf CX0 P w K mg base n_Field_plus "Field.plus" (defScope s_Field_plus) (He.ma K (He.ga K "Field") "plus") cdv A outer s H E).nox (defBody s_Field_plus) t ∧ t { nx := fun _ H' => Q .non H', rt := Q } (start n_Field_plus vs) H) : FnG P w K mg base CX0 (k + 1) (He.ma K (He.ga K "Field") "plus") sp := by
  obtain ⟨fd, F⟩ := S.def_ 4 (d := d_Field_plus) rfl
  exact ok0 F sc_Field_plus (F.bindsA fun _ _ _ _ _ _ us hl => match us, hl with | [_, _, _], _ => rfl) len hb
theorem kp_Field_plus (S : He.SaysD fa fn K) : PySem.W.keepIn K (.ref (He.ma K (He.ga K "Field") "plus")) = true := by
  obtain ⟨fd, F⟩ := S.def_ 4 (d := d_Field_plus) rfl
  exact F.kp
theorem mk_Field_minus (S : He.SaysD fa fn K) (len : ∀ vs H Q E, sp vs H Q E → vs.length = 3)
    (hb : ∀ (cdv : Value) (A : Around) (outer : List Env) (s : Shared) (H : Hp) (vs : List V) (Q : VK) (E : XK), A.guards = some [] → Room k (A.deeper (envOfC "Field.minus" (defScope s_Field_minus) s.heap.objs.size (He.ma K (He.ga K "Field") "minus") cdv)) → sp vs H Q E →
      ∃ t, PSs (cxOf CX0 P w K mg base n_Field_minus "Field.minus" (defScope s_Field_minus) (He.ma K (He.ga K "Field") "minus") cdv A outer s H E).nox (defBody s_Field_minus) t ∧ t { nx := fun _ H' => Q .non H', rt := Q } (start n_Field_minus vs) H) : FnG P w K mg base CX0 (k + 1) (He.ma K (He.ga K "Field") "minus") sp := by
  obtain ⟨fd, F⟩ := S.def_ 5 (d := d_Field_minus) rfl
  exact ok0 F sc_Field_minus (F.bindsA fun _ _ _ _ _ _ us hl => match us, hl with | [_, _, _], _ => rfl) len hb
theorem kp_Field_minus (S : He.SaysD fa fn K) : PySem.W.keepIn K (.ref (He.ma K (He.ga K "Field") "minus")) = true := by
  obtain ⟨fd, F⟩ := S.def_ 5 (d := d_Field_minus) rfl
  exact F.kp
theorem mk_Field_times (S : He.SaysD fa fn K) (len : ∀ vs H Q E, sp vs H Q E → vs.length = 3)
    (hb : ∀ (cdv : Value) (A : Around) (outer : List Env) (s : Shared) (H : Hp) (vs : List V) (Q : VK) (E : XK), A.guards = some [] → Room k (A.deeper (envOfC "Field.times" (defScope s_Field_times) s.heap.objs.size (He.ma K (He.ga K "Field") "times") cdv)) → sp vs H Q E →
      ∃ t, PSs (cxOf CX0 P w K mg base n_Field_times "Field.times" (defScope s_Field_times) (He.ma K (He.ga K "Field") "times") cdv A outer s H E).nox (defBody s_Field_times) t ∧ t { nx := fun _ H' => Q .non H', rt := Q } (start n_Field_times vs) H) : FnG P w K mg base CX0 (k + 1) (He.ma K (He.ga K "Field") "times") sp := by
  obtain ⟨fd, F⟩ := S.def_ 6 (d := d_Field_times) rfl
  exact ok0 F sc_Field_times (F.bindsA fun _ _ _ _ _ _ us hl => match us, hl with | [_, _, _], _ => rfl) len hb
theorem kp_Field_times (S : He.SaysD fa fn K) : PySem.W.keepIn K (.ref (He.ma K (He.ga K "Field") "times")) = true := by
  obtain ⟨fd, F⟩ := S.def_ 6 (d := d_Field_times) rfl
  exact F.kp
theorem mk_Field_over (S : He.SaysD fa fn K) (len : ∀ vs H Q E, sp vs H Q E → vs.length = 3)
    (hb : ∀ (cdv : Value) (A : Around) (outer : List Env) (s : Shared) (H : Hp) (vs : List V) (Q : VK) (E : XK), A.guards = some [] → Room k (A.deeper (envOfC "Field.over" (defScope s_Field_over) s.heap.objs.size (He.ma K (He.ga K "Field") "over") cdv)) → sp vs H Q E →
      ∃ t, PSs (cxOf CX0 P w K mg base n_Field_over "Field.over" (defScope s_Field_over) (He.ma K (He.ga K "Field") "over") cdv A outer s H E).nox (defBody s_Field_over) t ∧ t { nx := fun _ H' => Q .non H', rt := Q } (start n_Field_over vs) H) : FnG P w K mg base CX0 (k + 1) (He.ma K (He.ga K "Field") "over") sp := by
  obtain ⟨fd, F⟩ := S.def_ 7 (d := d_Field_over) rfl
  exact ok0 F sc_Field_over (F.bindsA fun _ _ _ _ _ _ us hl => match us, hl with | [_, _, _], _ => rfl) len hb
theorem mkX_Field_over (S : He.SaysD fa fn K) (len : ∀ vs H Q E, sp vs H Q E → vs.length = 3)
    (hb : ∀ (cdv : Value) (A : Around) (outer : List Env) (s : Shared) (H : Hp) (vs : List V) (Q : VK) (E : XK), A.guards = some [] → Room k (A.deeper (envOfC "Field.over" (defScope s_Field_over) s.heap.objs.size (He.ma K (He.ga K "Field") "over") cdv)) → sp vs H Q E →
      ∃ t, PSs (cxOf (L2.CX P w) P w K mg base n_Field_over "Field.over" (defScope s_Field_over) (He.ma K (He.ga K "Field") "over") cdv A outer s H E) (defBody s_Field_over) t ∧ t { nx := fun _ H' => Q .non H', rt := Q } (start n_Field_over vs) H) : FnG P w K mg base (L2.CX P w) (k + 1) (He.ma K (He.ga K "Field") "over") sp := by
  obtain ⟨fd, F⟩ := S.def_ 7 (d := d_Field_over) rfl
  exact okG F sc_Field_over (F.bindsA fun _ _ _ _ _ _ us hl => match us, hl with | [_, _, _], _ => rfl) len hb
theorem kp_Field_over (S : He.SaysD fa fn K) : PySem.W.keepIn K (.ref (He.ma K (He.ga K "Field") "over")) = true := by
  obtain ⟨fd, F⟩ := S.def_ 7 (d := d_Field_over) rfl
  exact F.kp
theorem kp_Field_total (S : He.SaysD fa fn K) : PySem.W.keepIn K (.ref (He.ma K (He.ga K "Field") "total")) = true := by
  obtain ⟨fd, F⟩ := S.def_ 8 (d := d_Field_total) rfl
  exact F.kp
theorem mk_Field_holds (S : He.SaysD fa fn K) (len : ∀ vs H Q E, sp vs H Q E → vs.length = 2)
    (hb : ∀ (cdv : Value) (A : Around) (outer : List Env) (s : Shared) (H : Hp) (vs : List V) (Q : VK) (E : XK), A.guards = some [] → Room k (A.deeper (envOfC "Field.holds" (defScope s_Field_holds) s.heap.objs.size (He.ma K (He.ga K "Field") "holds") cdv)) → sp vs H Q E →
      ∃ t, PSs (cxOf CX0 P w K mg base n_Field_holds "Field.holds" (defScope s_Field_holds) (He.ma K (He.ga K "Field") "holds") cdv A outer s H E).nox (defBody s_Field_holds) t ∧ t { nx := fun _ H' => Q .non H', rt := Q } (start n_Field_holds vs) H) : FnG P w K mg base CX0 (k + 1) (He.ma K (He.ga K "Field") "holds") sp := by
  obtain ⟨fd, F⟩ := S.def_ 9 (d := d_Field_holds) rfl
  exact ok0 F sc_Field_holds (F.bindsA fun _ _ _ _ _ _ us hl => match us, hl with | [_, _], _ => rfl) len hb
theorem kp_Field_holds (S : He.SaysD fa fn K) : PySem.W.keepIn K (.ref (He.ma K (He.ga K "Field") "holds")) = true := by
  obtain ⟨fd, F⟩ := S.def_ 9 (d := d_Field_holds) rfl
  exact F.kp
theorem mk_Field_ratio (S : He.SaysD fa fn K) (len : ∀ vs H Q E, sp vs H Q E → vs.length = 3)
    (hb : ∀ (cdv : Value) (A : Around) (outer : List Env) (s : Shared) (H : Hp) (vs : List V) (Q : VK) (E : XK), A.guards = some [] → Room k (A.deeper (envOfC "Field.ratio" (defScope s_Field_ratio) s.heap.objs.size (He.ma K (He.ga K "Field") "ratio") cdv)) → sp vs H Q E →
      ∃ t, PSs (cxOf CX0 P w K mg base n_Field_ratio "Field.ratio" (defScope s_Field_ratio) (He.ma K (He.ga K "Field") "ratio") cdv A outer s H E).nox (defBody s_Field_ratio) t ∧ t { nx := fun _ H' => Q .non H', rt := Q } (start n_Field_ratio vs) H) : FnG P w K mg base CX0 (k + 1) (He.ma K (He.ga K "Field") "ratio") sp := by
  obtain ⟨fd, F⟩ := S.def_ 10 (d := d_Field_ratio) rfl
  exact ok0 F sc_Field_ratio (F.bindsA fun _ _ _ _ _ _ us hl => match us, hl with | [_, _, _], _ => rfl) len hb
theorem kp_Field_ratio (S : He.SaysD fa fn K) : PySem.W.keepIn K (.ref (He.ma K (He.ga K "Field") "ratio")) = true := by
  obtain ⟨fd, F⟩ := S.def_ 10 (d := d_Field_ratio) rfl
  exact F.kp
theorem mk_Field_product_of (S : He.SaysD fa fn K) (len : ∀ vs H Q E, sp vs H Q E → vs.length = 3)
    (hb : ∀ (cdv : Value) (A : Around) (outer : List Env) (s : Shared) (H : Hp) (vs : List V) (Q : VK) (E : XK), A.guards = some [] → Room k (A.deeper (envOfC "Field.product_of" (defScope s_Field_product_of) s.heap.objs.size (He.ma K (He.ga K "Field") "product_of") cdv)) → sp vs H Q E →
      ∃ t, PSs (cxOf CX0 P w K mg base n_Field_product_of "Field.product_of" (defScope s_Field_product_of) (He.ma K (He.ga K "Field") "product_of") cdv A outer s H E).nox (defBody s_Field_product_of) t ∧ t { nx := fun _ H' => Q .non H', rt := Q } (start n_Field_product_of vs) H) : FnG P w K mg base CX0 (k + 1) (He.ma K (He.ga K "Field") "product_of") sp := by
  obtain ⟨fd, F⟩ := S.def_ 11 (d := d_Field_product_of) rfl
  exact ok0 F sc_Field_product_of (F.bindsA fun _ _ _ _ _ _ us hl => match us, hl with | [_, _, _], _ => rfl) len hb
theorem kp_Field_product_of (S : He.SaysD fa fn K) : PySem.W.keepIn K (.ref (He.ma K (He.ga K "Field") "product_of")) = true := by
  obtain ⟨fd, F⟩ := S.def_ 11 (d := d_Field_product_of) rfl
  exact F.kp
theorem mk_Field_sum_of (S : He.SaysD fa fn K) (len : ∀ vs H Q E, sp vs H Q E → vs.length = 3)
    (hb : ∀ (cdv : Value) (A : Around) (outer : List Env) (s : Shared) (H : Hp) (vs : List V) (Q : VK) (E : XK), A.guards = some [] → Room k (A.deeper (envOfC "Field.sum_of" (defScope s_Field_sum_of) s.heap.objs.size (He.ma K (He.ga K "Field") "sum_of") cdv)) → sp vs H Q E →
      ∃ t, PSs (cxOf CX0 P w K mg base n_Field_sum_of "Field.sum_of" (defScope s_Field_sum_of) (He.ma K (He.ga K "Field") "sum_of") cdv A outer s H E).nox (defBody s_Field_sum_of) t ∧ t { nx := fun _ H' => Q .non H', rt := Q } (start n_Field_sum_of vs) H) : FnG P w K mg base CX0 (k + 1) (He.ma K (He.ga K "Field") "sum_of") sp := by
  obtain ⟨fd, F⟩ := S.def_ 12 (d := d_Field_sum_of) rfl
  exact ok0 F sc_Field_sum_of (F.bindsA fun _ _ _ _ _ _ us hl => match us, hl with | [_, _, _], _ => rfl) len hb
theorem kp_Field_sum_of (S : He.SaysD fa fn K) : PySem.W.keepIn K (.ref (He.ma K (He.ga K "Field") "sum_of")) = true := by
  obtain ⟨fd, F⟩ := S.def_ 12 (d := d_Field_sum_of) rfl
  exact F.kp
theorem mk_Field_difference_of (S : He.SaysD fa fn K) (len : ∀ vs H Q E, sp vs H Q E → vs.length = 3)
    (hb : ∀ (cdv : Value) (A : Around) (outer : List Env) (s : Shared) (H : Hp) (vs : List V) (Q : VK) (E : XK), A.guards = some [] → Room k (A.deeper (envOfC "Field.difference_of" (defScope s_Field_difference_of) s.heap.objs.size (He.ma K (He.ga K "Field") "difference_of") cdv)) → sp vs H Q E →
      ∃ t, PSs (cxOf CX0 P w K mg base n_Field_difference_of "Field.difference_of" (defScope s_Field_difference_of) (He.ma K (He.ga K "Field") "difference_of") cdv A outer s H E).nox (defBody s_Field_difference_of) t ∧ t { nx := fun _ H' => Q .non H', rt := Q } (start n_Field_difference_of vs) H) : FnG P w K mg base CX0 (k + 1) (He.ma K (He.ga K "Field") "difference_of") sp := by
  obtain ⟨fd, F⟩ := S.def_ 13 (d := d_Field_difference_of) rfl
  exact ok0 F sc_Field_difference_of (F.bindsA fun _ _ _ _ _ _ us hl => match us, hl with | [_, _, _], _ => rfl) len hb
theorem kp_Field_difference_of (S : He.SaysD fa fn K) : PySem.W.keepIn K (.ref (He.ma K (He.ga K "Field") "difference_of")) = true := by
  obtain ⟨fd, F⟩ := S.def_ 13 (d := d_Field_difference_of) rfl
  exact F.kp
theorem mk_Field_quotient_of (S : He.SaysD fa fn K) (len : ∀ vs H Q E, sp vs H Q E → vs.length = 3)
    (hb : ∀ (cdv : Value) (A : Around) (outer : List Env) (s : Shared) (H : Hp) (vs : List V) (Q : VK) (E : XK), A.guards = some [] → Room k (A.deeper (envOfC "Field.quotient_of" (defScope s_Field_quotient_of) s.heap.objs.size (He.ma K (He.ga K "Field") "quotient_of") cdv)) → sp vs H Q E →
      ∃ t, PSs (cxOf CX0 P w K mg base n_Field_quotient_of "Field.quotient_of" (defScope s_Field_quotient_of) (He.ma K (He.ga K "Field") "quotient_of") cdv A outer s H E).nox (defBody s_Field_quotient_of) t ∧ t { nx := fun _ H' => Q .non H', rt := Q } (start n_Field_quotient_of vs) H) : FnG P w K mg base CX0 (k + 1) (He.ma K (He.ga K "Field") "quotient_of") sp := by
  obtain ⟨fd, F⟩ := S.def_ 14 (d := d_Field_quotient_of) rfl
  exact ok0 F sc_Field_quotient_of (F.bindsA fun _ _ _ _ _ _ us hl => match us, hl with | [_, _, _], _ => rfl) len hb
theorem kp_Field_quotient_of (S : He.SaysD fa fn K) : PySem.W.keepIn K (.ref (He.ma K (He.ga K "Field") "quotient_of")) = true := by
  obtain ⟨fd, F⟩ := S.def_ 14 (d := d_Field_quotient_of) rfl
  exact F.kp
theorem mk_Field_common (S : He.SaysD fa fn K) (len : ∀ vs H Q E, sp vs H Q E → vs.length = 2)
    (hb : ∀ (cdv : Value) (A : Around) (outer : List Env) (s : Shared) (H : Hp) (vs : List V) (Q : VK) (E : XK), A.guards = some [] → Room k (A.deeper (envOfC "Field.common" (defScope s_Field_common) s.heap.objs.size (He.ma K (He.ga K "Field") "common") cdv)) → sp vs H Q E →
      ∃ t, PSs (cxOf CX0 P w K mg base n_Field_common "Field.common" (defScope s_Field_common) (He.ma K (He.ga K "Field") "common") cdv A outer s H E).nox (defBody s_Field_common) t ∧ t { nx := fun _ H' => Q .non H', rt := Q } (start n_Field_common vs) H) : FnG P w K mg base CX0 (k + 1) (He.ma K (He.ga K "Field") "common") sp := by
  obtain ⟨fd, F⟩ := S.def_ 15 (d := d_Field_common) rfl
  exact ok0 F sc_Field_common (F.bindsA fun _ _ _ _ _ _ us hl => match us, hl with | [_, _], _ => rfl) len hb
theorem kp_Field_common (S : He.SaysD fa fn K) : PySem.W.keepIn K (.ref (He.ma K (He.ga K "Field") "common")) = true := by
  obtain ⟨fd, F⟩ := S.def_ 15 (d := d_Field_common) rfl
  exact F.kp
theorem mk_Field__check (S : He.SaysD fa fn K) (len : ∀ vs H Q E, sp vs H Q E → vs.length = 2)
    (hb : ∀ (cdv : Value) (A : Around) (outer : List Env) (s : Shared) (H : Hp) (vs : List V) (Q : VK) (E : XK), A.guards = some [] → Room k (A.deeper (envOfC "Field._check" (defScope s_Field__check) s.heap.objs.size (He.ma K (He.ga K "Field") "_check") cdv)) → sp vs H Q E →
      ∃ t, PSs (cxOf CX0 P w K mg base n_Field__check "Field._check" (defScope s_Field__check) (He.ma K (He.ga K "Field") "_check") cdv A outer s H E).nox (defBody s_Field__check) t ∧ t { nx := fun _ H' => Q .non H', rt := Q } (start n_Field__check vs) H) : FnG P w K mg base CX0 (k + 1) (He.ma K (He.ga K "Field") "_check") sp := by
  obtain ⟨fd, F⟩ := S.def_ 16 (d := d_Field__check) rfl
  exact ok0 F sc_Field__check (F.bindsA fun _ _ _ _ _ _ us hl => match us, hl with | [_, _], _ => rfl) len hb
theorem kp_Field__check (S : He.SaysD fa fn K) : PySem.W.keepIn K (.ref (He.ma K (He.ga K "Field") "_check")) = true := by
  obtain ⟨fd, F⟩ := S.def_ 16 (d := d_Field__check) rfl
  exact F.kp
theorem mk_Modulo___init__ (S : He.SaysD fa fn K) (len : ∀ vs H Q E, sp vs H Q E → vs.length = 2)
    (hb : ∀ (cdv : Value) (A : Around) (outer : List Env) (s : Shared) (H : Hp) (vs : List V) (Q : VK) (E : XK), A.guards = some [] → Room k (A.deeper (envOfC "Modulo.__init__" (defScope s_Modulo___init__) s.heap.objs.size (He.ma K (He.ga K "Modulo") "__init__") cdv)) → sp vs H Q E →
      ∃ t, PSs (cxOf CX0 P w K mg base n_Modulo___init__ "Modulo.__init__" (defScope s_Modulo___init__) (He.ma K (He.ga K "Modulo") "__init__") cdv A outer s H E).nox (defBody s_Modulo___init__) t ∧ t { nx := fun _ H' => Q .non H', rt := Q } (start n_Modulo___init__ vs) H) : FnG P w K mg base CX0 (k + 1) (He.ma K (He.ga K "Modulo") "__init__") sp := by
  obtain ⟨fd, F⟩ := S.def_ 17 (d := d_Modulo___init__) rfl
  exact ok0 F sc_Modulo___init__ (F.bindsA fun _ _ _ _ _ _ us hl => match us, hl with | [_, _], _ => rfl) len hb
theorem kp_Modulo___init__ (S : He.SaysD fa fn K) : PySem.W.keepIn K (.ref (He.ma K (He.ga K "Modulo") "__init__")) = true := by
  obtain ⟨fd, F⟩ := S.def_ 17 (d := d_Modulo___init__) rfl
  exact F.kp
theorem mk_is_prime (S : He.SaysD fa fn K) (len : ∀ vs H Q E, sp vs H Q E → vs.length = 1)
    (hb : ∀ (cdv : Value) (A : Around) (outer : List Env) (s : Shared) (H : Hp) (vs : List V) (Q : VK) (E : XK), A.guards = some [] → Room k (A.deeper (envOfC "is_prime" (defScope s_is_prime) s.heap.objs.size (He.ga K "is_prime") cdv)) → sp vs H Q E →
      ∃ t, PSs (cxOf CX0 P w K mg base n_is_prime "is_prime" (defScope s_is_prime) (He.ga K "is_prime") cdv A outer s H E).nox (defBody s_is_prime) t ∧ t { nx := fun _ H' => Q .non H', rt := Q } (start n_is_prime vs) H) : FnG P w K mg base CX0 (k + 1) (He.ga K "is_prime") sp := by
  obtain ⟨fd, F⟩ := S.def_ 18 (d := d_is_prime) rfl
  exact ok0 F sc_is_prime (F.bindsA fun _ _ _ _ _ _ us hl => match us, hl with | [_], _ => rfl) len hb
theorem kp_is_prime (S : He.SaysD fa fn K) : PySem.W.keepIn K (.ref (He.ga K "is_prime")) = true := by
  obtain ⟨fd, F⟩ := S.def_ 18 (d := d_is_prime) rfl
  exact F.kp
theorem mk_is_longer (S : He.SaysD fa fn K) (len : ∀ vs H Q E, sp vs H Q E → vs.length = 2)
    (hb : ∀ (cdv : Value) (A : Around) (outer : List Env) (s : Shared) (H : Hp) (vs : List V) (Q : VK) (E : XK), A.guards = some [] → Room k (A.deeper (envOfC "is_longer" (defScope s_is_longer) s.heap.objs.size (He.ga K "is_longer") cdv)) → sp vs H Q E →
      ∃ t, PSs (cxOf CX0 P w K mg base n_is_longer "is_longer" (defScope s_is_longer) (He.ga K "is_longer") cdv A outer s H E).nox (defBody s_is_longer) t ∧ t { nx := fun _ H' => Q .non H', rt := Q } (start n_is_longer vs) H) : FnG P w K mg base CX0 (k + 1) (He.ga K "is_longer") sp := by
  obtain ⟨fd, F⟩ := S.def_ 19 (d := d_is_longer) rfl
  exact ok0 F sc_is_longer (F.bindsA fun _ _ _ _ _ _ us hl => match us, hl with | [_, _], _ => rfl) len hb
theorem kp_is_longer (S : He.SaysD fa fn K) : PySem.W.keepIn K (.ref (He.ga K "is_longer")) = true := by
  obtain ⟨fd, F⟩ := S.def_ 19 (d := d_is_longer) rfl
  exact F.kp
theorem mk_parts (S : He.SaysD fa fn K) (len : ∀ vs H Q E, sp vs H Q E → vs.length = 1)
    (hb : ∀ (cdv : Value) (A : Around) (outer : List Env) (s : Shared) (H : Hp) (vs : List V) (Q : VK) (E : XK), A.guards = some [] → Room k (A.deeper (envOfC "parts" (defScope s_parts) s.heap.objs.size (He.ga K "parts") cdv)) → sp vs H Q E →
      ∃ t, PSs (cxOf CX0 P w K mg base n_parts "parts" (defScope s_parts) (He.ga K "parts") cdv A outer s H E).nox (defBody s_parts) t ∧ t { nx := fun _ H' => Q .non H', rt := Q } (start n_parts vs) H) : FnG P w K mg base CX0 (k + 1) (He.ga K "parts") sp := by
  obtain ⟨fd, F⟩ := S.def_ 20 (d := d_parts) rfl
  exact ok0 F sc_parts (F.bindsA fun _ _ _ _ _ _ us hl => match us, hl with | [_], _ => rfl) len hb
theorem kp_parts (S : He.SaysD fa fn K) : PySem.W.keepIn K (.ref (He.ga K "parts")) = true := by
  obtain ⟨fd, F⟩ := S.def_ 20 (d := d_parts) rfl
  exact F.kp
theorem mk_inverse (S : He.SaysD fa fn K) (len : ∀ vs H Q E, sp vs H Q E → vs.length = 2)
    (hb : ∀ (cdv : Value) (A : Around) (outer : List Env) (s : Shared) (H : Hp) (vs : List V) (Q : VK) (E : XK), A.guards = some [] → Room k (A.deeper (envOfC "inverse" (defScope s_inverse) s.heap.objs.size (He.ga K "inverse") cdv)) → sp vs H Q E →
      ∃ t, PSs (cxOf CX0 P w K mg base n_inverse "inverse" (defScope s_inverse) (He.ga K "inverse") cdv A outer s H E).nox (defBody s_inverse) t ∧ t { nx := fun _ H' => Q .non H', rt := Q } (start n_inverse vs) H) : FnG P w K mg base CX0 (k + 1) (He.ga K "inverse") sp := by
  obtain ⟨fd, F⟩ := S.def_ 21 (d := d_inverse) rfl
  exact ok0 F sc_inverse (F.bindsA fun _ _ _ _ _ _ us hl => match us, hl with | [_, _], _ => rfl) len hb
theorem kp_inverse (S : He.SaysD fa fn K) : PySem.W.keepIn K (.ref (He.ga K "inverse")) = true := by
  obtain ⟨fd, F⟩ := S.def_ 21 (d := d_inverse) rfl
  exact F.kp
theorem mk__law_pen (S : He.SaysD fa fn K) (len : ∀ vs H Q E, sp vs H Q E → vs.length = 1)
    (hb : ∀ (cdv : Value) (A : Around) (outer : List Env) (s : Shared) (H : Hp) (vs : List V) (Q : VK) (E : XK), A.guards = some [] → Room k (A.deeper (envOfC "_law_pen" (defScope s__law_pen) s.heap.objs.size (He.ga K "_law_pen") cdv)) → sp vs H Q E →
      ∃ t, PSs (cxOf CX0 P w K mg base n__law_pen "_law_pen" (defScope s__law_pen) (He.ga K "_law_pen") cdv A outer s H E).nox (defBody s__law_pen) t ∧ t { nx := fun _ H' => Q .non H', rt := Q } (start n__law_pen vs) H) : FnG P w K mg base CX0 (k + 1) (He.ga K "_law_pen") sp := by
  obtain ⟨fd, F⟩ := S.def_ 22 (d := d__law_pen) rfl
  exact ok0 F sc__law_pen (F.bindsA fun _ _ _ _ _ _ us hl => match us, hl with | [_], _ => rfl) len hb
theorem kp__law_pen (S : He.SaysD fa fn K) : PySem.W.keepIn K (.ref (He.ga K "_law_pen")) = true := by
  obtain ⟨fd, F⟩ := S.def_ 22 (d := d__law_pen) rfl
  exact F.kp
theorem mk__law_draw (S : He.SaysD fa fn K) (len : ∀ vs H Q E, sp vs H Q E → vs.length = 2)
    (hb : ∀ (cdv : Value) (A : Around) (outer : List Env) (s : Shared) (H : Hp) (vs : List V) (Q : VK) (E : XK), A.guards = some [] → Room k (A.deeper (envOfC "_law_draw" (defScope s__law_draw) s.heap.objs.size (He.ga K "_law_draw") cdv)) → sp vs H Q E →
      ∃ t, PSs (cxOf CX0 P w K mg base n__law_draw "_law_draw" (defScope s__law_draw) (He.ga K "_law_draw") cdv A outer s H E).nox (defBody s__law_draw) t ∧ t { nx := fun _ H' => Q .non H', rt := Q } (start n__law_draw vs) H) : FnG P w K mg base CX0 (k + 1) (He.ga K "_law_draw") sp := by
  obtain ⟨fd, F⟩ := S.def_ 23 (d := d__law_draw) rfl
  exact ok0 F sc__law_draw (F.bindsA fun _ _ _ _ _ _ us hl => match us, hl with | [_, _], _ => rfl) len hb
theorem kp__law_draw (S : He.SaysD fa fn K) : PySem.W.keepIn K (.ref (He.ga K "_law_draw")) = true := by
  obtain ⟨fd, F⟩ := S.def_ 23 (d := d__law_draw) rfl
  exact F.kp
theorem mk__law_pick (S : He.SaysD fa fn K) (len : ∀ vs H Q E, sp vs H Q E → vs.length = 2)
    (hb : ∀ (cdv : Value) (A : Around) (outer : List Env) (s : Shared) (H : Hp) (vs : List V) (Q : VK) (E : XK), A.guards = some [] → Room k (A.deeper (envOfC "_law_pick" (defScope s__law_pick) s.heap.objs.size (He.ga K "_law_pick") cdv)) → sp vs H Q E →
      ∃ t, PSs (cxOf CX0 P w K mg base n__law_pick "_law_pick" (defScope s__law_pick) (He.ga K "_law_pick") cdv A outer s H E).nox (defBody s__law_pick) t ∧ t { nx := fun _ H' => Q .non H', rt := Q } (start n__law_pick vs) H) : FnG P w K mg base CX0 (k + 1) (He.ga K "_law_pick") sp := by
  obtain ⟨fd, F⟩ := S.def_ 24 (d := d__law_pick) rfl
  exact ok0 F sc__law_pick (F.bindsA fun _ _ _ _ _ _ us hl => match us, hl with | [_, _], _ => rfl) len hb
theorem kp__law_pick (S : He.SaysD fa fn K) : PySem.W.keepIn K (.ref (He.ga K "_law_pick")) = true := by
  obtain ⟨fd, F⟩ := S.def_ 24 (d := d__law_pick) rfl
  exact F.kp
theorem mk__law_prime (S : He.SaysD fa fn K) (len : ∀ vs H Q E, sp vs H Q E → vs.length = 1)
    (hb : ∀ (cdv : Value) (A : Around) (outer : List Env) (s : Shared) (H : Hp) (vs : List V) (Q : VK) (E : XK), A.guards = some [] → Room k (A.deeper (envOfC "_law_prime" (defScope s__law_prime) s.heap.objs.size (He.ga K "_law_prime") cdv)) → sp vs H Q E →
      ∃ t, PSs (cxOf CX0 P w K mg base n__law_prime "_law_prime" (defScope s__law_prime) (He.ga K "_law_prime") cdv A outer s H E).nox (defBody s__law_prime) t ∧ t { nx := fun _ H' => Q .non H', rt := Q } (start n__law_prime vs) H) : FnG P w K mg base CX0 (k + 1) (He.ga K "_law_prime") sp := by
  obtain ⟨fd, F⟩ := S.def_ 25 (d := d__law_prime) rfl
  exact ok0 F sc__law_prime (F.bindsA fun _ _ _ _ _ _ us hl => match us, hl with | [_], _ => rfl) len hb
theorem kp__law_prime (S : He.SaysD fa fn K) : PySem.W.keepIn K (.ref (He.ga K "_law_prime")) = true := by
  obtain ⟨fd, F⟩ := S.def_ 25 (d := d__law_prime) rfl
  exact F.kp
theorem mk__law_number (S : He.SaysD fa fn K) (len : ∀ vs H Q E, sp vs H Q E → vs.length = 2)
    (hb : ∀ (cdv : Value) (A : Around) (outer : List Env) (s : Shared) (H : Hp) (vs : List V) (Q : VK) (E : XK), A.guards = some [] → Room k (A.deeper (envOfC "_law_number" (defScope s__law_number) s.heap.objs.size (He.ga K "_law_number") cdv)) → sp vs H Q E →
      ∃ t, PSs (cxOf CX0 P w K mg base n__law_number "_law_number" (defScope s__law_number) (He.ga K "_law_number") cdv A outer s H E).nox (defBody s__law_number) t ∧ t { nx := fun _ H' => Q .non H', rt := Q } (start n__law_number vs) H) : FnG P w K mg base CX0 (k + 1) (He.ga K "_law_number") sp := by
  obtain ⟨fd, F⟩ := S.def_ 26 (d := d__law_number) rfl
  exact ok0 F sc__law_number (F.bindsA fun _ _ _ _ _ _ us hl => match us, hl with | [_, _], _ => rfl) len hb
theorem kp__law_number (S : He.SaysD fa fn K) : PySem.W.keepIn K (.ref (He.ga K "_law_number")) = true := by
  obtain ⟨fd, F⟩ := S.def_ 26 (d := d__law_number) rfl
  exact F.kp
theorem mk__law_has_none (S : He.SaysD fa fn K) (len : ∀ vs H Q E, sp vs H Q E → vs.length = 2)
    (hb : ∀ (cdv : Value) (A : Around) (outer : List Env) (s : Shared) (H : Hp) (vs : List V) (Q : VK) (E : XK), A.guards = some [] → Room k (A.deeper (envOfC "_law_has_none" (defScope s__law_has_none) s.heap.objs.size (He.ga K "_law_has_none") cdv)) → sp vs H Q E →
      ∃ t, PSs (cxOf CX0 P w K mg base n__law_has_none "_law_has_none" (defScope s__law_has_none) (He.ga K "_law_has_none") cdv A outer s H E).nox (defBody s__law_has_none) t ∧ t { nx := fun _ H' => Q .non H', rt := Q } (start n__law_has_none vs) H) : FnG P w K mg base CX0 (k + 1) (He.ga K "_law_has_none") sp := by
  obtain ⟨fd, F⟩ := S.def_ 27 (d := d__law_has_none) rfl
  exact ok0 F sc__law_has_none (F.bindsA fun _ _ _ _ _ _ us hl => match us, hl with | [_, _], _ => rfl) len hb
theorem kp__law_has_none (S : He.SaysD fa fn K) : PySem.W.keepIn K (.ref (He.ga K "_law_has_none")) = true := by
  obtain ⟨fd, F⟩ := S.def_ 27 (d := d__law_has_none) rfl
  exact F.kp
theorem mk__law_pair_right (S : He.SaysD fa fn K) (len : ∀ vs H Q E, sp vs H Q E → vs.length = 4)
    (hb : ∀ (cdv : Value) (A : Around) (outer : List Env) (s : Shared) (H : Hp) (vs : List V) (Q : VK) (E : XK), A.guards = some [] → Room k (A.deeper (envOfC "_law_pair_right" (defScope s__law_pair_right) s.heap.objs.size (He.ga K "_law_pair_right") cdv)) → sp vs H Q E →
      ∃ t, PSs (cxOf CX0 P w K mg base n__law_pair_right "_law_pair_right" (defScope s__law_pair_right) (He.ga K "_law_pair_right") cdv A outer s H E).nox (defBody s__law_pair_right) t ∧ t { nx := fun _ H' => Q .non H', rt := Q } (start n__law_pair_right vs) H) : FnG P w K mg base CX0 (k + 1) (He.ga K "_law_pair_right") sp := by
  obtain ⟨fd, F⟩ := S.def_ 28 (d := d__law_pair_right) rfl
  exact ok0 F sc__law_pair_right (F.bindsA fun _ _ _ _ _ _ us hl => match us, hl with | [_, _, _, _], _ => rfl) len hb
theorem kp__law_pair_right (S : He.SaysD fa fn K) : PySem.W.keepIn K (.ref (He.ga K "_law_pair_right")) = true := by
  obtain ⟨fd, F⟩ := S.def_ 28 (d := d__law_pair_right) rfl
  exact F.kp
theorem mk_law (S : He.SaysD fa fn K) (len : ∀ vs H Q E, sp vs H Q E → vs.length = 1)
    (hb : ∀ (cdv : Value) (A : Around) (outer : List Env) (s : Shared) (H : Hp) (vs : List V) (Q : VK) (E : XK), A.guards = some [] → Room k (A.deeper (envOfC "law" (defScope s_law) s.heap.objs.size (He.ga K "law") cdv)) → sp vs H Q E →
      ∃ t, PSs (cxOf CX0 P w K mg base n_law "law" (defScope s_law) (He.ga K "law") cdv A outer s H E).nox (defBody s_law) t ∧ t { nx := fun _ H' => Q .non H', rt := Q } (start n_law vs) H) : FnG P w K mg base CX0 (k + 1) (He.ga K "law") sp := by
  obtain ⟨fd, F⟩ := S.def_ 29 (d := d_law) rfl
  exact ok0 F sc_law (F.bindsA fun _ _ _ _ _ _ us hl => match us, hl with | [_], _ => rfl) len hb
theorem kp_law (S : He.SaysD fa fn K) : PySem.W.keepIn K (.ref (He.ga K "law")) = true := by
  obtain ⟨fd, F⟩ := S.def_ 29 (d := d_law) rfl
  exact F.kp
theorem mk_NoQuotient___init__ (S : He.SaysD fa fn K) (len : ∀ vs H Q E, sp vs H Q E → vs.length = 1)
    (hb : ∀ (cdv : Value) (A : Around) (outer : List Env) (s : Shared) (H : Hp) (vs : List V) (Q : VK) (E : XK), A.guards = some [] → Room k (A.deeper (envOfC "NoQuotient.__init__" (defScope s_NoQuotient___init__) s.heap.objs.size (He.ma K (He.ga K "NoQuotient") "__init__") cdv)) → sp vs H Q E →
      ∃ t, PSs (cxOf CX0 P w K mg base n_NoQuotient___init__ "NoQuotient.__init__" (defScope s_NoQuotient___init__) (He.ma K (He.ga K "NoQuotient") "__init__") cdv A outer s H E).nox (defBody s_NoQuotient___init__) t ∧ t { nx := fun _ H' => Q .non H', rt := Q } (start n_NoQuotient___init__ vs) H) : FnG P w K mg base CX0 (k + 1) (He.ma K (He.ga K "NoQuotient") "__init__") sp := by
  obtain ⟨fd, F⟩ := S.def_ 30 (d := d_NoQuotient___init__) rfl
  exact ok0 F sc_NoQuotient___init__ (F.bindsA fun _ _ _ _ _ _ us hl => match us, hl with | [_], _ => rfl) len hb
theorem kp_NoQuotient___init__ (S : He.SaysD fa fn K) : PySem.W.keepIn K (.ref (He.ma K (He.ga K "NoQuotient") "__init__")) = true := by
  obtain ⟨fd, F⟩ := S.def_ 30 (d := d_NoQuotient___init__) rfl
  exact F.kp
end
end K04

/-! An own exception class directly over a built-in one, whose __init__ hands on to it and stores nothing. -/
namespace Ver
open PySem PySem.Spec PyProof.Rows L2
/-- what the written part tells of such a class -/
structure ExN (K : PySem.W.Frag) (C fI : Addr) (bmB : List Value) (newId : String) : Prop where
  q : PySem.W.excInitIn K C bmB newId = true
  iC : PySem.W.findIn K (.ref C) "__init__" = some (some (.ref fI))
  tI : PySem.W.typeIn K (.ref fI) = some (.type "function")
  exC : PySem.W.subIn K (.ref C) (.type "BaseException") = some true
  tyC : PySem.W.typeIn K (.ref C) = some (.type "type")
  kC : PySem.W.keepIn K (.ref C) = true
section
variable {X : Cx} {pins : List (Addr × Obj)} {σ : L2.St} {H : Hp} {s : Shared} {a C fI : Addr} {bmB : List Value} {B newId initId : String}
theorem binit_ok {A : Around} {E : Value → Shared → Prop} {us : List Value} {Q : Value → Shared → Prop} (F : ExcBaseFacts B newId initId bmB) (q : PySem.W.excInitIn X.K C bmB newId = true) (I : Inv X pins σ H s) (e : H a = some (exo a C none))
    (hl : us.length ≤ sizeLine) (h : ∀ s', Inv X pins σ H s' → Q .none s') : wpAny (model X.prog X.w) A (call (.builtin initId) (.ref a :: us)) Q E s := by
  obtain ⟨nm, N, qn, bs, bm, hd, sn, sub, ab, col, dd, k0, k1, k2, k3, k5, hC, hT⟩ := PySem.W.excInit_of I.kIn q
  obtain ⟨t1, ho⟩ := exo_at I.hok e
  obtain ⟨hp, g, d, t, os⟩ := s
  refine wpAny_call (PySem.HandSPX.init_base F hT hC ho hl fun h' t2 k hx => h _ ?_)
  have J := I.write (t' := t) (x := a) (e := a) (o := exo a C none) (by rw [e]; exact True.intro) (.inl rfl) k ⟨_, hx⟩ (exo_ok hx)
  have same : upd H a (exo a C none) = H := funext fun b => by
    by_cases z : b = a
    · rw [z, upd_same, e]
    · exact upd_ne z
  rwa [same] at J
variable {x : Str} {e : Expr} {es : List Expr} {ta : TA} {p p1 p2 pos : Pos}
/-- its reading: self is an exception that is being made, without a dict as yet -/
def tBi (K : PySem.W.Frag) (bmB : List Value) (newId : String) (ta : TA) : TE := fun σ H Q => ta σ H fun vs H1 => ∃ (a C : Addr) (ws : List V), vs = .ref a :: ws ∧ ws.length ≤ 1000 ∧ PySem.W.excInitIn K C bmB newId = true ∧ H1 a = some (exo a C none) ∧ Q .non H1
/-- B.__init__(self, ..), B a built-in class of errors -/
theorem pe_binit {pl : Sem Bool} (F : ExcBaseFacts B newId initId bmB) (hg : Gl X x) (hm : X.mg x = none) (hv : bootBuiltins x = some (.type B)) (hty : typeOf (.type B) = pure (.type "type")) (hst : Manifest.isStub B = false) (hh : PySem.W.handedIn (.builtin initId) = true)
    (hsp : PySem.W.findCls X.K (.type B) (.type "type") "__init__" = some (.val (.builtin initId))) (ha : PA X (e :: es) ta)
    (hc : eval (.Call (.Attribute (.Name x p1) "__init__" p2) (e :: es) [] pos) X.env = (do
      let ov ← eval (.Name x p1) X.env
      standAt p2.atName
      let (f, first) ← holding [ov] (getMethod ov "__init__" pl)
      callWith pos f first (backTo pos (starEach (e :: es) X.env)) (backToKw pos (keywordEach [] X.env))) := by rfl)
    (he : starEach (e :: es) X.env = (false, eval e X.env) :: starEach es X.env := by rfl) (hpl : (backTo pos (starEach es X.env)).any (·.1) = false := by rfl) (hn : x ≠ "__name__" := by decide) (hd : (x == ("__debug__" : Str)) = false := by decide) :
    PE X (.Call (.Attribute (.Name x p1) "__init__" p2) (e :: es) [] pos) (tBi X.K bmB newId ta) := by
  refine ⟨fun pins s σ H Q I h => PySem.W.methodCall_KW (ld_blt I hg hm hv ?_ hn hd) hc⟩
  obtain ⟨m, fr⟩ := I.fr
  refine PySem.W.method_type fr I.ok.mod.kin hty hst hsp hh ?_
  show wpAny _ _ (callWith pos (Value.builtin initId) [] (backTo pos (starEach (e :: es) X.env)) []) _ _ _
  refine PyProof.Rows.callWith_method1 (thn (ha.run pos pins _ σ H _ (I.tok _) h) fun us s1 z => ?_) he hpl
  obtain ⟨vs, H1, I1, r1, a, C, ws, rfl, hl, q, ea, qq⟩ := z
  match us, r1 with
  | u0 :: ur, .cons ra rw' =>
    cases (show u0 = Value.ref a from ra)
    exact binit_ok F q I1 ea (by rw [← Paired.length rw', sizeLine_eq]; omega) fun s' J => ⟨.non, H1, J, rfl, qq⟩
/-- the exception is let go: what stood ahead stands, and it is known no more -/
theorem let_go {H1 H2 : Hp} {hp hp2 h2 : Heap} {g1 g2 : Array GenState} {d1 d2 : Drawn} {t1 t2 : Nat} {os1 os2 : OsState} (I1 : Inv X pins σ H1 ⟨hp, g1, d1, t1, os1⟩) (ha : hp.objs.size ≤ a) (k : ∀ b o, hp.get? b = some o → hp2.get? b = some o)
    (un : Un (frs X.stack) [] (upd H1 a (exo a C none)) H2 hp2 h2) (hok : HOk X.prog X.w H2 h2) (ho : os2 = os1) (hb : AllBare g2) (ea : H2 a = some (exo a C none)) :
    ∃ (t0 : Addr) (G : Heap), Inv X pins σ (del H2 a) ⟨G, g2, d2, t2, os2⟩ ∧ (∀ b o, G.get? b = some o → h2.get? b = some o) ∧ G.get? a = none ∧
      h2.get? a = some ({ cls := .ref C, dict := none, data := .fields #[.ref t0, .none, .none, .none, .bool false, .none] } : Obj) := by
  obtain ⟨t0, hoe⟩ := exo_at hok ea
  have na : H1 a = none := I1.hok.fresh ha
  obtain ⟨G, in_, out⟩ := restrict h2 fun b => decide (b ≠ a)
  have gk : ∀ b, b ≠ a → G.get? b = h2.get? b := fun b hb => in_ b (decide_eq_true hb)
  have ge : G.get? a = none := out a (by simp)
  have old : ∀ {b : Addr} {o : Obj}, hp.get? b = some o → b ≠ a := fun z => Nat.ne_of_lt (Nat.lt_of_lt_of_le (Heap.lt_size z) ha)
  have up : ∀ {b : Addr}, b ≠ a → H1 b = none → upd H1 a (exo a C none) b = none := fun hb n => by rw [upd_ne hb]; exact n
  have U : Un (frs X.stack) [] H1 (del H2 a) hp G := {
    keep := fun b o z n hf hx => (gk b (old z)).trans (un.keep b o (k b o z) (up (old z) n) hf hx)
    slot := fun b o z n hf hx => by
      obtain ⟨sl, y⟩ := un.slot b o (k b o z) (up (old z) n) hf hx
      exact ⟨sl, (gk b (old z)).trans y⟩
    free := fun b o z n hx => (del_ne (old z)).trans (un.free b o (k b o z) (up (old z) n) hx)
    there := fun b o z hx => by
      obtain ⟨o', y⟩ := un.there b o (k b o z) hx
      exact ⟨o', (gk b (old z)).trans y⟩
    tups := fun b xs z => (del_ne (ne_of_none z na)).trans (un.tups b xs ((upd_ne (ne_of_none z na)).trans z))
    frzs := fun b o v z => (del_ne (ne_of_none z na)).trans (un.frzs b o v ((upd_ne (ne_of_none z na)).trans z))
    tbls := fun b ps z => by
      obtain ⟨more, y⟩ := un.tbls b ps ((upd_ne (ne_of_none z na)).trans z)
      exact ⟨more, (del_ne (ne_of_none z na)).trans y⟩ }
  have ok3 : HOk X.prog X.w (del H2 a) G := fun b o z => by
    have hba : b ≠ a := fun e => by
      rw [e, del_same] at z
      cases z
    rw [del_ne hba] at z
    have noa : ∀ {c : Addr}, H2 c = some (.own b) → c ≠ a := fun hc => at_ne ea hc exo_own
    refine (hok b o z).stay (fun c v hc y => (gk c ?_).trans y) (fun c hc => (del_ne (noa hc)).trans hc) fun c xs hc => (del_ne (at_ne ea hc exo_tup)).trans hc
    rcases hc with hc | hc
    · rw [hc]
      exact hba
    · exact noa hc
  refine ⟨t0, G, I1.call' (ch := []) ho U ok3 hb (fun b z => absurd z (by simp)), fun b o z => ?_, ge, hoe⟩
  by_cases e : b = a
  · rw [e, ge] at z
    cases z
  · exact (gk b e).symm.trans z
/-- the promise of an __init__ that stores nothing -/
def spInitN (C : Addr) : Sp := fun vs H Q _ => ∃ a : Addr, vs = [.ref a] ∧ H a = some (exo a C none) ∧ Q .non H
theorem pmk_n {CX : CXT} {k : Nat} (F : ExcBaseFacts B newId initId bmB) (T : ExN X.K C fI bmB newId) (F1 : FnG X.prog X.w X.K X.mg X.base CX k fI (spInitN C)) (hr : Room (k + 1) X.A) (hgd : X.A.guards = some []) (hx : Passes CX X (fun _ _ _ => False)) (hg : Gl X x) (hm : X.mg x = some (.ref C))
    (hdb : (x == ("__debug__" : Str)) = false := by decide) : PMk X (.Call (.Name x p) [] [] pos) (fun _ H Q => Q (.ref C) none H) := by
  intro pins s σ H Q I h
  refine wpAny_Call_Name_kw (ld_glob I hg hm (PySem.W.callWith_K0 I.kIn T.kC ?_) hdb)
  show wpAny _ _ (call (.ref C) []) _ _ _
  obtain ⟨nm, N, qn, bs, bm, hd, sn, sub, ab, col, dd, k0, k1, k2, k3, k5, hC, hT⟩ := PySem.W.excInit_of I.kIn T.q
  obtain ⟨hp, g, dr, tk, os⟩ := s
  have big : hp.objs.size ≤ hp.objs.size + 1 := Nat.le_succ _
  have hn : H (hp.objs.size + 1) = none := I.hok.fresh big
  have kk : ∀ b o, hp.get? b = some o → ((hp.push (PySem.W.kdv_tup [])).push (PySem.HandSPX.excO C hp.objs.size)).get? b = some o := fun b o z => Heap.get?_push_of_some _ (Heap.get?_push_of_some _ z)
  have made : ((hp.push (PySem.W.kdv_tup [])).push (PySem.HandSPX.excO C hp.objs.size)).get? (hp.objs.size + 1) = some (PySem.HandSPX.excO C hp.objs.size) := by heap_get
  have I2 : Inv X pins σ (upd H (hp.objs.size + 1) (exo (hp.objs.size + 1) C none)) ⟨(hp.push (PySem.W.kdv_tup [])).push (PySem.HandSPX.excO C hp.objs.size), g, dr, tk, os⟩ :=
    I.laid (t' := tk) (a := hp.objs.size + 1) (o := exo (hp.objs.size + 1) C none) (h' := (hp.push (PySem.W.kdv_tup [])).push (PySem.HandSPX.excO C hp.objs.size)) kk big (exo_ok made)
  have q2 : spInitN C [V.ref (hp.objs.size + 1)] (upd H (hp.objs.size + 1) (exo (hp.objs.size + 1) C none)) (fun v H2 => v = .non ∧ H2 = upd H (hp.objs.size + 1) (exo (hp.objs.size + 1) C none)) (fun _ _ _ => False) := ⟨_, rfl, upd_same, rfl, rfl⟩
  refine wpAny_call (PySem.HandSPX.call_own F hT hC (PySem.W.looks_findIn I.kIn T.iC) (fun self => PySem.W.bind_fn I.kIn self T.tI) (Nat.zero_le _)
    (codeAny_mono (F1 _ X.stack _ _ [Value.ref (hp.objs.size + 1)] [V.ref (hp.objs.size + 1)] _ (fun _ _ _ => False) (made_guards hgd C []) (hr.make C [] []) (I2.env0.make C [] []) (.cons rfl .nil) q2) fun rs s' hq => ?_))
  match rs, hq with
  | .error er, hq => exact hx pins σ _ _ er s' I2 hq
  | .ok .next, hq => exact hq.elim
  | .ok .brk, hq => exact hq.elim
  | .ok .cont, hq => exact hq.elim
  | .ok (.ret u), hq =>
    obtain ⟨v, H2, os2, bare2, un2, ok2, rv, rfl, rfl⟩ := hq
    obtain ⟨h2, g2, d2, t2, os'⟩ := s'
    obtain ⟨t0, G, J, kG, ge, hoe⟩ := let_go (a := hp.objs.size + 1) (C := C) (d2 := d2) (t2 := t2) I big kk un2 ok2 os2 bare2 upd_same
    have eH : del (upd H (hp.objs.size + 1) (exo (hp.objs.size + 1) C none)) (hp.objs.size + 1) = H := funext fun b => by
      by_cases z : b = hp.objs.size + 1
      · rw [z, del_same, hn]
      · rw [del_ne z, upd_ne z]
    rw [eH] at J
    exact ⟨rv, hp.objs.size + 1, _, _, ⟨G, g2, d2, t2, os'⟩, H, .ref C, none, rfl, J, kG, ge, hoe, ⟨rfl, rfl⟩, rfl, rfl, hn, rfl, bare2, raises_own T.exC T.tyC, h⟩
end
end Ver

namespace K04
open PySem PySem.Spec PyProof.Rows L2 Ver Num
/-- the names of the text's own defs and classes; the built-in names that it reads -/
def gl : List Str := ["is_integer", "is_between", "is_prime", "is_longer", "parts", "inverse", "_law_pen", "_law_draw", "_law_pick", "_law_prime", "_law_number", "_law_has_none", "_law_pair_right", "law", "Field", "Modulo", "NoQuotient"]
def fr : List Str := ["isinstance", "int", "bool", "tuple", "len", "abs", "list", "repr", "range", "sum", "ArithmeticError"]
def FL : Int := 10000000000000000000000000000000000000000000000000000000000000000000000000000000000000000000000000000
/-- a class of fields: its methods are Field's own -/
structure FC (K : PySem.W.Frag) (C : Addr) : Prop where
  cl : Cls K C
  np : NoAttr K C "_prime"
  m : ∀ m ∈ (["is_number", "plus", "minus", "times", "over", "total", "holds", "ratio", "product_of", "sum_of", "difference_of", "quotient_of", "common", "_check"] : List Str), Meth K C m (He.ma K (He.ga K "Field") m)
def aeB : List Value := [.type "ArithmeticError", .type "Exception", .type "BaseException", .type "object"]
def fa : List He.Fa := gl.map He.Fa.glo ++ fr.map He.Fa.free
/-- what the top has left -/
structure Tx (K : PySem.W.Frag) (mg : Str → Option Value) : Prop where
  d : He.SaysD fa fn K
  g : ∀ x ∈ gl, mg x = some (.ref (He.ga K x))
  z : ∀ x ∈ fr, mg x = none
  fl : ∃ t, mg "FIRST_LONG" = some (.int FL t)
  gp : ∃ t, mg "GREATEST_PRIME" = some (.int 1000000000 t)
  isq : mg "isqrt" = some (.builtin "math.isqrt")
  fc : FC K (He.ga K "Modulo")
  nq : ExN K (He.ga K "NoQuotient") (He.ma K (He.ga K "NoQuotient") "__init__") aeB "ArithmeticError.__new__"
  te : PySem.W.exmOne K (.ref (He.ga K "NoQuotient")) (.ref (He.ga K "NoQuotient")) = some true
  rdF : PySem.W.readsIn K (He.ga K "Field") (.type "type") = true
  gaF : PySem.W.specialIn K (.ref (He.ga K "Field")) "__getattribute__" = some (some (.builtin "type.__getattribute__"))
  fiF : PySem.W.findCls K (.ref (He.ga K "Field")) (.type "type") "__init__" = some (.val (.ref (He.ma K (He.ga K "Field") "__init__")))
  mkM : Mk K (He.ga K "Modulo") (He.ma K (He.ga K "Modulo") "__init__")
  isF : PySem.W.kitOne K (.ref (He.ga K "Modulo")) (.ref (He.ga K "Field")) = some true
  clM : PySem.W.findIn K (.ref (He.ga K "Modulo")) "__class__" = some (some (.builtin "object.__class__"))
  clS : PySem.W.specialIn K (.builtin "object.__class__") "__get__" = some (some (.builtin "getset_descriptor.__get__"))
  clT : PySem.W.takesIn K (.builtin "object.__class__") = some true
  clO : PySem.W.mroIn K (He.ga K "Modulo") (.type "object") = some true
theorem ifT {c : Bool} {A B : Prop} (h : c = true) (q : A) : if c = true then A else B := by
  rw [if_pos h]
  exact q
theorem ifF {c : Bool} {A B : Prop} (h : c = false) (q : B) : if c = true then A else B := by
  rw [if_neg (by rw [h]; exact Bool.false_ne_true)]
  exact q
theorem iEq (a b : Int) : decide (V.int a = V.int b) = decide (a = b) := by
  by_cases h : a = b
  · rw [decide_eq_true h, decide_eq_true (by rw [h])]
  · rw [decide_eq_false h, decide_eq_false fun z => h (V.int.inj z)]
theorem same_up {H : Hp} {p : Addr} {o : HO} (h : H p = none) : Same H (upd H p o) := fun b x e => by
  rw [upd_ne (ne_of_none e h)]
  exact e
section
variable {P : Program} {w : World} {K : PySem.W.Frag} {mg : Str → Option Value} {base : Heap}
/-! ### inverse -/
def spInverse : Sp := fun vs H Q _ => ∃ n p : Int, vs = [.int n, .int p] ∧ Md p ∧ 0 < n ∧ n < p ∧ ∀ (i : Int) (H' : Hp), Same H H' → 0 ≤ i → i < p → (i * n) % p = 1 → Q (.int i) H'
theorem ok_inverse (T : Tx K mg) : FnG P w K mg base CX0 1 (He.ga K "inverse") spInverse := by
  refine mk_inverse T.d (fun vs H Q E h => ?_) (fun cdv A outer s H vs Q E hg hr h => ?_)
  · obtain ⟨n, p, rfl, _⟩ := h
    rfl
  · obtain ⟨n, p, rfl, m, n0, np, q⟩ := h
    have hlo := m.lo
    have hhi := m.hi
    refine ⟨_, pss_cons (ps_par (i := 2) (j := 3) rfl sc_inverse.nd rfl rfl (by decide) rfl rfl (pa_cons (pv 1) (pa_cons (pe_op op_mod (pv 0) (pv 1)) pa_nil)) (by rfl))
      (pss_cons (ps_asg (pe_tup (pa_cons pe_int (pa_cons pe_int pa_nil))) (pg_tup rfl (pgs_cons (pg_name (i := 4) sc_inverse.nd rfl (.inl rfl)) (pgs_cons (pg_name (i := 5) sc_inverse.nd rfl (.inl rfl)) pgs_nil))))
      (pss_cons (ps_while PassesOwn.never (pt_cmpR op_ne (pv 3) pe_int (nomark _))
        (pss_cons (ps_set (i := 6) sc_inverse.nd rfl (Or.inl rfl) (pe_op op_fdiv (pv 2) (pv 3)))
        (pss_cons (ps_par (i := 2) (j := 3) rfl sc_inverse.nd rfl rfl (by decide) rfl rfl (pa_cons (pv 3) (pa_cons (pe_op op_sub (pv 2) (pe_op op_mul (pv 6) (pv 3))) pa_nil)) (by rfl))
        (pss_one (ps_par (i := 4) (j := 5) rfl sc_inverse.nd rfl rfl (by decide) rfl rfl (pa_cons (pv 5) (pa_cons (pe_op op_sub (pv 4) (pe_op op_mul (pv 6) (pv 5))) pa_nil)) (by rfl))))))
      (pss_one (ps_ret (pe_op op_mod (pv 4) (pv 1)))))), ?_⟩
    refine ⟨_, rfl, _, rfl, _, rfl, _, _, rfl, rfl, (by show 0 < p; omega), _, _, rfl, ?_⟩
    refine ⟨by decide, fun tp ntp => ⟨tp, _, rfl, .inl (.inl upd_same), rfl, _, _, rfl, _, _, rfl, rfl, ?_⟩⟩
    have sm : Same H (upd H tp (.tup [V.int 0, V.int 1])) := same_up ntp
    refine ⟨fun k σ H' => ∃ (rest left past now : Int) (t : Option V), k = left.toNat ∧ H' = upd H tp (.tup [V.int 0, V.int 1]) ∧ σ = [some (.int n), some (.int p), some (.int rest), some (.int left), some (.int past), some (.int now), t] ∧ Eu p n rest left past now,
      ⟨_, p, n % p, 0, 1, none, rfl, rfl, rfl, Eu.start m n0 np⟩, ?_⟩
    rintro k σ H' ⟨rest, left, past, now, t, rfl, rfl, rfl, E⟩
    refine ⟨_, rfl, rfl, _, rfl, ?_⟩
    rw [iEq]
    by_cases h0 : left = 0
    · subst h0
      refine ifF (by decide) ?_
      obtain ⟨i0, i1, i2⟩ := Eu.inv m E
      exact ⟨_, rfl, _, rfl, _, _, rfl, rfl, (by show 0 < p; omega), q _ _ sm i0 i1 i2⟩
    · refine ifT (by rw [decide_eq_false h0]; rfl) ?_
      have hl := E.l0
      have hlp := E.lp
      obtain ⟨t0, t1⟩ := Eu.times E h0
      refine ⟨fun σ' H' => ∃ (rest' left' past' now' : Int) (t : Option V), left'.toNat < left.toNat ∧ H' = upd H tp (.tup [V.int 0, V.int 1]) ∧ σ' = [some (.int n), some (.int p), some (.int rest'), some (.int left'), some (.int past'), some (.int now'), t] ∧ Eu p n rest' left' past' now', ?_, ?_⟩
      · rintro σ' H' ⟨r', l', p', n', t', hlt, e1, e2, E'⟩
        exact ⟨_, hlt, r', l', p', n', t', rfl, e1, e2, E'⟩
      · refine ⟨_, rfl, _, rfl, _, _, rfl, rfl, ⟨by show 0 < left; omega, by show left < 1073741824; omega⟩, ?_⟩
        refine ⟨_, rfl, _, rfl, _, rfl, _, rfl, _, _, rfl, rfl, .inl ⟨by show -(2 ^ 64) < rest / left; omega, by show rest / left < 2 ^ 64; omega⟩, _, _, rfl, rfl, _, _, rfl, ?_⟩
        refine ⟨_, rfl, _, rfl, _, rfl, _, rfl, _, _, rfl, rfl, .inl ⟨by show -(2 ^ 64) < rest / left; omega, by show rest / left < 2 ^ 64; omega⟩, _, _, rfl, rfl, _, _, rfl, ?_⟩
        have E2 := Eu.step E h0
        refine ⟨_, _, _, _, _, ?_, rfl, rfl, E2⟩
        have e : rest - rest / left * left = rest % left := by
          have := Int.emod_def rest left
          rw [Int.mul_comm] at this
          omega
        have m1 : rest % left < left := Int.emod_lt_of_pos _ (by omega)
        have m0 : 0 ≤ rest % left := Int.emod_nonneg _ h0
        omega
end
end K04

namespace K04
open PySem PySem.Spec PyProof.Rows L2 Ver Num
section
variable {P : Program} {w : World} {K : PySem.W.Frag} {mg : Str → Option Value} {base : Heap}
/-! ### is_integer, is_between -/
def spIsInteger (K : PySem.W.Frag) : Sp := fun vs H Q _ => ∃ (x : V) (t : Value) (b1 b2 : Bool), vs = [x] ∧ TyX K H x t ∧ PySem.W.kitOne K t (.type "int") = some b1 ∧ PySem.W.kitOne K t (.type "bool") = some b2 ∧ Q (.bl (b1 && !b2)) H
theorem ok_is_integer (T : Tx K mg) : FnG P w K mg base CX0 1 (He.ga K "is_integer") (spIsInteger K) := by
  refine mk_is_integer T.d (fun vs H Q E h => ?_) (fun cdv A outer s H vs Q E hg hr h => ?_)
  · obtain ⟨x, t, b1, b2, rfl, _⟩ := h
    rfl
  · obtain ⟨x, t, b1, b2, rfl, ty, k1, k2, q⟩ := h
    have zi := T.z "isinstance" (by decide +kernel)
    refine ⟨_, pss_one (ps_ret (pe_and (pe_callB call_isi (by rfl) zi (by decide +kernel) (pa_cons (pv 0) (pa_cons (pe_bltn (v := .ty "int") (by rfl) (T.z "int" (by decide +kernel)) (by decide +kernel) rfl) pa_nil)))
      (pe_one (pe_not (pe_callB call_isi (by rfl) zi (by decide +kernel) (pa_cons (pv 0) (pa_cons (pe_bltn (v := .ty "bool") (by rfl) (T.z "bool" (by decide +kernel)) (by decide +kernel) rfl) pa_nil))))))), ?_⟩
    refine ⟨_, rfl, _, _, _, _, _, rfl, .ty "int", ty, k1, _, rfl, ?_⟩
    cases b1 with
    | false => exact ifF rfl q
    | true => exact ifT rfl ⟨_, rfl, _, _, _, _, _, rfl, .ty "bool", ty, k2, _, rfl, q⟩
def spIsBetween : Sp := fun vs H Q _ => ∃ (i lo hi : Int), vs = [.int i, .int lo, .int hi] ∧ Q (.bl (decide (lo ≤ i) && decide (i ≤ hi))) H
theorem ok_is_between (T : Tx K mg) : FnG P w K mg base CX0 2 (He.ga K "is_between") spIsBetween := by
  refine mk_is_between T.d (fun vs H Q E h => ?_) (fun cdv A outer s H vs Q E hg hr h => ?_)
  · obtain ⟨i, lo, hi, rfl, _⟩ := h
    rfl
  · obtain ⟨i, lo, hi, rfl, q⟩ := h
    refine ⟨_, pss_one (ps_ret (pe_and (pe_callG (ok_is_integer T) hr hg (by rfl) (T.g "is_integer" (by decide +kernel)) (kp_is_integer T.d) pass0 (pa_cons (pv 0) pa_nil))
      (pe_one (pe_chain op_le op_le (pv 1) (pv 0) (pv 2))))), ?_⟩
    refine ⟨_, rfl, _, _, true, false, rfl, .base (.int i), kit_ty (by decide +kernel), kit_ty (by decide +kernel), _, rfl, ?_⟩
    refine ifT rfl ⟨_, rfl, _, rfl, _, _, rfl, rfl, _, rfl, ?_⟩
    by_cases h : lo ≤ i
    · rw [decide_eq_true h] at q
      exact ifT (decide_eq_true h) ⟨_, rfl, _, _, rfl, rfl, q⟩
    · rw [decide_eq_false h] at q
      exact ifF (decide_eq_false h) q
/-! ### parts, is_longer: of whole numbers -/
/-- a number: an int, or a pair of ints at an address -/
def Num2 (K : PySem.W.Frag) (H : Hp) (x : V) (t b : Int) : Prop := (x = .int t ∧ b = 1) ∨ ∃ a, x = .ref a ∧ H a = some (.tup [.int t, .int b])
def spParts (K : PySem.W.Frag) : Sp := fun vs H Q _ => ∃ (x : V) (t b : Int), vs = [x] ∧ Num2 K H x t b ∧ ∀ (p : Addr) (H' : Hp), Same H H' → H' p = some (.tup [.int t, .int b]) → Q (.ref p) H'
theorem ok_parts (T : Tx K mg) : FnG P w K mg base CX0 1 (He.ga K "parts") (spParts K) := by
  refine mk_parts T.d (fun vs H Q E h => ?_) (fun cdv A outer s H vs Q E hg hr h => ?_)
  · obtain ⟨x, t, b, rfl, _⟩ := h
    rfl
  · obtain ⟨x, t, b, rfl, n, q⟩ := h
    refine ⟨_, pss_one (ps_ret (pe_ifExp (pt_val (pe_callB call_isi (by rfl) (T.z "isinstance" (by decide +kernel)) (by decide +kernel) (pa_cons (pv 0) (pa_cons (pe_bltn (v := .ty "tuple") (by rfl) (T.z "tuple" (by decide +kernel)) (by decide +kernel) rfl) pa_nil))))
      (pv 0) (pe_tup (pa_cons (pv 0) (pa_cons pe_int pa_nil))))), ?_⟩
    rcases n with ⟨rfl, rfl⟩ | ⟨a, rfl, ha⟩
    · refine ⟨_, rfl, _, _, _, _, false, rfl, .ty "tuple", .base (.int t), kit_ty (by decide +kernel), _, rfl, ?_⟩
      exact ifF rfl ⟨_, rfl, (by show 2 ≤ sizeLine; decide), fun p np => q p _ (same_up np) upd_same⟩
    · refine ⟨_, rfl, _, _, _, _, true, rfl, .ty "tuple", .base (.tup ha), kit_ty (by decide +kernel), _, rfl, ?_⟩
      exact ifT rfl ⟨_, rfl, q a H (Same.refl H) ha⟩
def absI (i : Int) : Int := if i < 0 then -i else i
def spIsLonger (K : PySem.W.Frag) : Sp := fun vs H Q _ => ∃ (x : V) (t b l : Int), vs = [x, .int l] ∧ Num2 K H x t b ∧ ∀ H' : Hp, Same H H' → Q (.bl (decide (l ≤ absI t) || decide (l ≤ b))) H'
theorem ok_is_longer (T : Tx K mg) : FnG P w K mg base CX0 2 (He.ga K "is_longer") (spIsLonger K) := by
  refine mk_is_longer T.d (fun vs H Q E h => ?_) (fun cdv A outer s H vs Q E hg hr h => ?_)
  · obtain ⟨x, t, b, l, rfl, _⟩ := h
    rfl
  · obtain ⟨x, t, b, l, rfl, n, q⟩ := h
    refine ⟨_, pss_cons (ps_asg (pe_callG (ok_parts T) hr hg (by rfl) (T.g "parts" (by decide +kernel)) (kp_parts T.d) pass0 (pa_cons (pv 0) pa_nil))
        (pg_tup rfl (pgs_cons (pg_name (i := 2) sc_is_longer.nd rfl (.inl rfl)) (pgs_cons (pg_name (i := 3) sc_is_longer.nd rfl (.inl rfl)) pgs_nil))))
      (pss_one (ps_ret (pe_or (pe_cmpR op_ge (pe_callB call_abs (by rfl) (T.z "abs" (by decide +kernel)) (by decide +kernel) (pa_cons (pv 2) pa_nil)) (pv 1) (nomark _))
        (pe_one (pe_cmpR op_ge (pv 3) (pv 1) (nomark _)))))), ?_⟩
    refine ⟨_, rfl, x, t, b, rfl, n, fun p H1 s1 hp => ?_⟩
    refine ⟨p, _, rfl, .inl (.inl hp), rfl, _, _, rfl, _, _, rfl, rfl, ?_⟩
    refine ⟨_, rfl, _, rfl, _, rfl, _, _, rfl, rfl, _, rfl, ?_⟩
    have q1 := q H1 s1
    by_cases h : l ≤ absI t
    · rw [decide_eq_true h] at q1
      exact ifT (decide_eq_true h) q1
    · rw [decide_eq_false h] at q1
      exact ifF (decide_eq_false h) ⟨_, rfl, _, rfl, _, _, rfl, rfl, q1⟩
/-! ### is_prime -/
theorem call_isqrt {X : Cx} : CallR X (.builtin "math.isqrt") (fun vs H Q => ∃ a : Int, vs = [.int a] ∧ 0 ≤ a ∧ a < 2 ^ 64 ∧ Q (.int ((Float64.isqrt a.toNat : Nat) : Int)) H) := by
  intro pins s σ H vs us Q I r h
  obtain ⟨a, rfl, h0, h1, q⟩ := h
  obtain ⟨u, rfl, t, rfl⟩ := vals1 r
  exact PySem.W.mg_isqrt h0 h1 ⟨.int _, H, I.tok _, ⟨_, rfl⟩, q⟩
def spIsPrime : Sp := fun vs H Q _ => ∃ v : Int, vs = [.int v] ∧ prB Float64.isqrt v = true ∧ Float64.isqrt v.toNat ≤ 1000000 ∧ Q (.bl true) H
theorem range_odd (r : Nat) : Builtin.Range.rangeSize 3 ((r : Int) + 1) 2 = (((r + 1 - 3 + 1) / 2 : Nat) : Int) := by
  unfold Builtin.Range.rangeSize
  rw [if_pos (by decide)]
  by_cases h : (3 : Int) < (r : Int) + 1
  · rw [if_pos h]
    omega
  · rw [if_neg h]
    omega
theorem small_odd {r : Nat} (h : r ≤ 1000000) : Builtin.Range.small 3 ((r : Int) + 1) 2 = true := by
  unfold Builtin.Range.small
  rw [range_odd]
  have h2 : (r + 1 - 3 + 1) / 2 ≤ 1000000 := by omega
  generalize (r + 1 - 3 + 1) / 2 = n at h2
  have f1 : ∀ i : Int, 0 ≤ i → i ≤ 2000000 → Builtin.Range.rangeFitsLong i = true := fun i h0 h1 => by
    unfold Builtin.Range.rangeFitsLong
    rw [decide_eq_true (show -(2 ^ 63 : Int) ≤ i by omega), decide_eq_true (show i < (2 ^ 63 : Int) by omega)]
    rfl
  rw [f1 3 (by omega) (by omega), f1 ((r : Int) + 1) (by omega) (by omega), f1 2 (by omega) (by omega), f1 (n : Int) (by omega) (by omega), if_pos (by decide), f1 ((r : Int) + 1 + (2 - 1)) (by omega) (by omega), Bool.or_true]
  rfl
theorem ok_is_prime (T : Tx K mg) : FnG P w K mg base CX0 3 (He.ga K "is_prime") spIsPrime := by
  refine mk_is_prime T.d (fun vs H Q E h => ?_) (fun cdv A outer s H vs Q E hg hr h => ?_)
  · obtain ⟨v, rfl, _⟩ := h
    rfl
  · obtain ⟨v, rfl, hp, hq, q⟩ := h
    obtain ⟨tg, gp⟩ := T.gp
    have hp1 : ((decide (2 ≤ v) && decide (v ≤ 1000000000)) && (if v % 2 = 0 then decide (v = 2) else oddOk v.toNat ((Float64.isqrt v.toNat + 1 - 3 + 1) / 2))) = true := hp
    rw [Bool.and_eq_true, Bool.and_eq_true] at hp1
    obtain ⟨⟨p1, p2⟩, p3⟩ := hp1
    have v2 : 2 ≤ v := of_decide_eq_true p1
    have v9 : v ≤ 1000000000 := of_decide_eq_true p2
    refine ⟨_, pss_cons (ps_if (pt_not (pt_val (pe_callG (ok_is_between T) hr hg (by rfl) (T.g "is_between" (by decide +kernel)) (kp_is_between T.d) pass0 (pa_cons (pv 0) (pa_cons pe_int (pa_cons (pe_glob (v := .int 1000000000) (by rfl) gp ⟨_, rfl⟩) pa_nil)))))) (pss_one (ps_ret pe_bl)) pss_nil)
      (pss_cons (ps_if (pt_cmpR op_eq (pe_op op_and (pv 0) pe_int) pe_int (nomark _)) (pss_one (ps_ret (pe_cmpR op_eq (pv 0) pe_int (nomark _)))) pss_nil)
      (pss_cons (ps_for PassesOwn.never rfl (pi_range3 (by rfl) (T.z "range" (by decide +kernel)) (pa_cons pe_int (pa_cons (pe_op op_add (pe_callBfun call_isqrt (by rfl) T.isq (pa_cons (pv 0) pa_nil)) pe_int) (pa_cons pe_int pa_nil)))) (pg_name (i := 1) sc_is_prime.nd rfl (.inl rfl))
        (pss_one (ps_if (pt_cmpR op_eq (pe_op op_mod (pv 0) (pv 1)) pe_int (nomark _)) (pss_one (ps_ret pe_bl)) pss_nil)))
      (pss_one (ps_ret pe_bl)))), ?_⟩
    refine ⟨_, rfl, v, 2, 1000000000, rfl, _, rfl, ?_⟩
    rw [p1, p2]
    refine ifF rfl ⟨_, rfl, _, _, rfl, rfl, rfl, _, rfl, ?_⟩
    rw [iEq, bitAnd_m1]
    by_cases e : v % 2 = 0
    · rw [if_pos e] at p3
      refine ifT (decide_eq_true e) ⟨_, rfl, rfl, ?_⟩
      rw [iEq, p3]
      exact q
    · rw [if_neg e] at p3
      refine ifF (decide_eq_false e) ⟨_, rfl, v, rfl, by omega, by omega, _, _, rfl, rfl, 3, _, 2, _, rfl, ⟨by decide, by decide, small_odd hq, range_odd _⟩, ?_⟩
      refine for_rangeC (lo := 3) (c := 2) (fun i σ H' => ∃ d : Option V, σ = [some (.int v), d] ∧ H' = H) ⟨none, rfl, rfl⟩ ?_ ?_
      · rintro i σ H' hi ⟨d, rfl, rfl⟩
        refine ⟨_, rfl, _, rfl, _, _, rfl, rfl, (by show (0 : Int) < 3 + (i : Int) * 2; omega), rfl, _, rfl, ?_⟩
        rw [iEq]
        refine ifF (decide_eq_false fun z => ?_) ⟨_, rfl, rfl⟩
        have o := List.all_eq_true.mp p3 i (List.mem_range.mpr hi)
        have z2 : v.toNat % (3 + 2 * i) = 0 := by
          have e1 : ((v.toNat % (3 + 2 * i) : Nat) : Int) = v % (3 + (i : Int) * 2) := by
            rw [Int.natCast_emod]
            congr 1
            · omega
            · rw [Int.natCast_add, Int.natCast_mul]
              omega
          omega
        rw [z2] at o
        cases o
      · rintro σ H' ⟨d, rfl, rfl⟩
        exact q
end
end K04

namespace K04
open PySem PySem.Spec PyProof.Rows L2 Ver Num
/-- a field modulo p stands at f -/
def FieldAt (K : PySem.W.Frag) (H : Hp) (f : Addr) (p : Int) : Prop := ∃ C dx, FC K C ∧ H f = some (.ins C dx [(("_prime" : Str), V.int p)])
theorem FieldAt.same {K : PySem.W.Frag} {H H' : Hp} {f : Addr} {p : Int} (F : FieldAt K H f p) (s : Same H H') : FieldAt K H' f p := by
  obtain ⟨C, dx, c, e⟩ := F
  exact ⟨C, dx, c, s _ _ e⟩
theorem pf_look (v : V) : ([(("_prime" : Str), v)] : List (Str × V)).lookup ("_prime" : Str) = some v := by simp [List.lookup]
theorem pf_no (v : V) {m : Str} (h : (m == ("_prime" : Str)) = false) : ([(("_prime" : Str), v)] : List (Str × V)).lookup m = none := by simp [List.lookup, h]
theorem rd_prime {K : PySem.W.Frag} {σ : L2.St} {H : Hp} {f : Addr} {p : Int} {i : Nat} {Q : VK} (h0 : σ[i]? = some (some (.ref f))) (F : FieldAt K H f p) (q : Q (.int p) H) : tFld K (tVar i) "_prime" σ H Q := by
  obtain ⟨C, dx, c, e⟩ := F
  exact ⟨.ref f, h0, f, C, dx, _, .int p, rfl, e, c.cl, c.np, pf_look _, q⟩
theorem go_meth {K : PySem.W.Frag} {σ : L2.St} {H : Hp} {f : Addr} {p : Int} {i : Nat} {Q : VK} {m : Str} {sp : Sp} {E : XK} {t : TA} (h0 : σ[i]? = some (some (.ref f))) (F : FieldAt K H f p)
    (hm : m ∈ (["is_number", "plus", "minus", "times", "over", "total", "holds", "ratio", "product_of", "sum_of", "difference_of", "quotient_of", "common", "_check"] : List Str)) (hn : (m == ("_prime" : Str)) = false)
    (q : t σ H fun vs H2 => sp (.ref f :: vs) H2 Q E) : tMethG K m (He.ma K (He.ga K "Field") m) sp E (tVar i) t σ H Q := by
  obtain ⟨C, dx, c, e⟩ := F
  exact ⟨.ref f, h0, f, C, dx, _, rfl, e, c.cl, c.m m hm, pf_no _ hn, q⟩
section
variable {P : Program} {w : World} {K : PySem.W.Frag} {mg : Str → Option Value} {base : Heap}
/-! ### holds, is_number, _check -/
def spHolds (K : PySem.W.Frag) : Sp := fun vs H Q _ => ∃ (f : Addr) (p a : Int), vs = [.ref f, .int a] ∧ FieldAt K H f p ∧ Q (.bl (decide (0 ≤ a) && decide (a ≤ p - 1))) H
theorem ok_holds (T : Tx K mg) : FnG P w K mg base CX0 3 (He.ma K (He.ga K "Field") "holds") (spHolds K) := by
  refine mk_Field_holds T.d (fun vs H Q E h => ?_) (fun cdv A outer s H vs Q E hg hr h => ?_)
  · obtain ⟨f, p, a, rfl, _⟩ := h
    rfl
  · obtain ⟨f, p, a, rfl, F, q⟩ := h
    refine ⟨_, pss_cons (ps_if (pt_cmp (pc_notN (pe_fld (pv 0) rfl))) (pss_one (ps_ret (pe_callG (ok_is_between T) hr hg (by rfl) (T.g "is_between" (by decide +kernel)) (kp_is_between T.d) pass0
        (pa_cons (pv 1) (pa_cons pe_int (pa_cons (pe_op op_sub (pe_fld (pv 0) rfl) pe_int) pa_nil)))))) pss_nil) pss_never, ?_⟩
    refine rd_prime rfl F ⟨_, rfl, ifT rfl ?_⟩
    obtain ⟨C, dx, c, e⟩ := id F
    exact ⟨_, rfl, _, rfl, f, C, dx, _, _, rfl, e, c.cl, c.np, pf_look _, _, _, rfl, rfl, a, 0, p - 1, rfl, q⟩
def spIsNumber (K : PySem.W.Frag) : Sp := fun vs H Q _ => ∃ (f : Addr) (p a : Int), vs = [.ref f, .int a] ∧ FieldAt K H f p ∧ p ≤ 1000000000 ∧ 0 ≤ a ∧ a < p ∧ ∀ H', Same H H' → Q (.bl true) H'
theorem ok_is_number (T : Tx K mg) : FnG P w K mg base CX0 4 (He.ma K (He.ga K "Field") "is_number") (spIsNumber K) := by
  refine mk_Field_is_number T.d (fun vs H Q E h => ?_) (fun cdv A outer s H vs Q E hg hr h => ?_)
  · obtain ⟨f, p, a, rfl, _⟩ := h
    rfl
  · obtain ⟨f, p, a, rfl, F, p9, a0, ap, q⟩ := h
    obtain ⟨tl, gl⟩ := T.fl
    refine ⟨_, pss_one (ps_ret (pe_and (pe_methG (pv 0) (kp_Field_holds T.d) (ok_holds T) hr hg pass0 (pa_cons (pv 1) pa_nil))
      (pe_one (pe_not (pe_callG (ok_is_longer T) (hr.mono (by decide)) hg (by rfl) (T.g "is_longer" (by decide +kernel)) (kp_is_longer T.d) pass0 (pa_cons (pv 1) (pa_cons (pe_glob (v := .int FL) (by rfl) gl ⟨_, rfl⟩) pa_nil))))))), ?_⟩
    refine go_meth rfl F (by decide +kernel) (by decide +kernel) ⟨_, rfl, f, p, a, rfl, F, _, rfl, ?_⟩
    rw [decide_eq_true a0, decide_eq_true (show a ≤ p - 1 by omega)]
    refine ifT rfl ⟨_, rfl, _, a, 1, FL, rfl, .inl ⟨rfl, rfl⟩, fun H' s' => ⟨_, rfl, ?_⟩⟩
    have e1 : decide (FL ≤ absI a) = false := decide_eq_false (by unfold absI FL; split <;> omega)
    have e2 : decide (FL ≤ (1 : Int)) = false := by decide
    rw [e1, e2]
    exact q H' s'
/-- numbers of the field, in a list or a tuple -/
def Nums (K : PySem.W.Frag) (H : Hp) (l : Addr) (ns : List Int) : Prop := SqL K H l (ns.map V.int) ∨ SqT K H l (ns.map V.int)
def spCheck (K : PySem.W.Frag) : Sp := fun vs H Q _ => ∃ (f l : Addr) (p : Int) (ns : List Int), vs = [.ref f, .ref l] ∧ FieldAt K H f p ∧ p ≤ 1000000000 ∧ Nums K H l ns ∧ (∀ a ∈ ns, 0 ≤ a ∧ a < p) ∧ ∀ H', Same H H' → Q .non H'
theorem sameT {H H' : Hp} {a : Addr} {xs : List V} (e : Same H H') (h : SqT K H a xs) : SqT K H' a xs := by
  rcases h with (h | ⟨o, h⟩) | h
  · exact .inl (.inl (e _ _ h))
  · exact .inl (.inr ⟨o, e _ _ h⟩)
  · exact .inr h
theorem int_at {ns : List Int} {i : Nat} {x : V} (h : (ns.map V.int)[i]? = some x) : ∃ a, x = V.int a ∧ a ∈ ns := by
  rw [List.getElem?_map] at h
  cases e : ns[i]? with
  | none =>
    rw [e] at h
    cases h
  | some a =>
    rw [e] at h
    exact ⟨a, (Option.some.inj h).symm, List.mem_of_getElem? e⟩
theorem ok_check (T : Tx K mg) : FnG P w K mg base CX0 5 (He.ma K (He.ga K "Field") "_check") (spCheck K) := by
  refine mk_Field__check T.d (fun vs H Q E h => ?_) (fun cdv A outer s H vs Q E hg hr h => ?_)
  · obtain ⟨f, l, p, ns, rfl, _⟩ := h
    rfl
  · obtain ⟨f, l, p, ns, rfl, F, p9, hl, hn, q⟩ := h
    rcases hl with hl | hl
    · refine ⟨_, pss_one (ps_for PassesOwn.never rfl (pi_list (pv 1)) (pg_name (i := 2) sc_Field__check.nd rfl (.inl rfl))
        (pss_one (ps_if (pt_not (pt_val (pe_methG (pv 0) (kp_Field_is_number T.d) (ok_is_number T) hr hg pass0 (pa_cons (pv 2) pa_nil)))) pss_never pss_nil))), ?_⟩
      refine ⟨_, rfl, l, rfl, ⟨_, hl⟩, for_list (K := K) (a := l) (xs := ns.map V.int) (fun i σ H' => ∃ v : Option V, σ = [some (.ref f), some (.ref l), v] ∧ Same H H') ⟨none, rfl, Same.refl H⟩ (fun i σ H' _ ⟨_, _, sm⟩ => sm.seq hl) ?_ ?_⟩
      · rintro i x σ H' hi ⟨v, rfl, sm⟩
        obtain ⟨a, rfl, ha⟩ := int_at hi
        obtain ⟨a0, ap⟩ := hn a ha
        exact go_meth rfl (F.same sm) (by decide +kernel) (by decide +kernel) ⟨_, rfl, f, p, a, rfl, F.same sm, p9, a0, ap, fun H2 s2 => ⟨_, rfl, ifF rfl ⟨_, rfl, sm.trans s2⟩⟩⟩
      · rintro σ H' ⟨v, rfl, sm⟩
        exact q H' sm
    · refine ⟨_, pss_one (ps_for PassesOwn.never rfl (pi_tup (pv 1)) (pg_name (i := 2) sc_Field__check.nd rfl (.inl rfl))
        (pss_one (ps_if (pt_not (pt_val (pe_methG (pv 0) (kp_Field_is_number T.d) (ok_is_number T) hr hg pass0 (pa_cons (pv 2) pa_nil)))) pss_never pss_nil))), ?_⟩
      refine ⟨_, rfl, l, rfl, ⟨_, hl⟩, for_tup (K := K) (a := l) (xs := ns.map V.int) (fun i σ H' => ∃ v : Option V, σ = [some (.ref f), some (.ref l), v] ∧ Same H H') ⟨none, rfl, Same.refl H⟩ (fun i σ H' _ ⟨_, _, sm⟩ => sameT sm hl) ?_ ?_⟩
      · rintro i x σ H' hi ⟨v, rfl, sm⟩
        obtain ⟨a, rfl, ha⟩ := int_at hi
        obtain ⟨a0, ap⟩ := hn a ha
        exact go_meth rfl (F.same sm) (by decide +kernel) (by decide +kernel) ⟨_, rfl, f, p, a, rfl, F.same sm, p9, a0, ap, fun H2 s2 => ⟨_, rfl, ifF rfl ⟨_, rfl, sm.trans s2⟩⟩⟩
      · rintro σ H' ⟨v, rfl, sm⟩
        exact q H' sm
/-! ### ratio, product_of -/
def spRatio (K : PySem.W.Frag) : Sp := fun vs H Q _ => ∃ (f : Addr) (p t b : Int), vs = [.ref f, .int t, .int b] ∧ FieldAt K H f p ∧ Md p ∧ -(2 ^ 62) ≤ t ∧ t ≤ 2 ^ 62 ∧ 0 < b ∧ b < p ∧
  ∀ (i : Int) (H' : Hp), Same H H' → 0 ≤ i → i < p → (i * b) % p = 1 → Q (.int (t * i % p)) H'
theorem ok_ratio (T : Tx K mg) : FnG P w K mg base CX0 2 (He.ma K (He.ga K "Field") "ratio") (spRatio K) := by
  refine mk_Field_ratio T.d (fun vs H Q E h => ?_) (fun cdv A outer s H vs Q E hg hr h => ?_)
  · obtain ⟨f, p, t, b, rfl, _⟩ := h
    rfl
  · obtain ⟨f, p, t, b, rfl, F, m, t0, t1, b0, bp, q⟩ := h
    have hlo := m.lo
    have hhi := m.hi
    refine ⟨_, pss_cons (ps_if (pt_cmp (pc_isN (pe_fld (pv 0) rfl))) pss_never pss_nil)
      (pss_cons (ps_if (pt_cmpR op_eq (pv 2) pe_int (nomark _)) (pss_one (ps_ret (pe_op op_mod (pv 1) (pe_fld (pv 0) rfl)))) pss_nil)
      (pss_one (ps_ret (pe_op op_mod (pe_op op_mul (pv 1) (pe_callG (ok_inverse T) hr hg (by rfl) (T.g "inverse" (by decide +kernel)) (kp_inverse T.d) pass0 (pa_cons (pv 2) (pa_cons (pe_fld (pv 0) rfl) pa_nil)))) (pe_fld (pv 0) rfl))))), ?_⟩
    refine rd_prime rfl F ⟨_, rfl, ifF rfl ⟨_, rfl, rfl, _, rfl, ?_⟩⟩
    rw [iEq]
    by_cases e : b = 1
    · subst e
      refine ifT (decide_eq_true rfl) ⟨_, rfl, rd_prime rfl F ⟨_, _, rfl, rfl, (by show 0 < p; omega), ?_⟩⟩
      have q1 := q 1 H (Same.refl H) (by omega) (by omega) (Int.emod_eq_of_lt (by omega) (by omega))
      rw [Int.mul_one] at q1
      exact q1
    · refine ifF (decide_eq_false e) ⟨_, rfl, _, rfl, rd_prime rfl F ⟨b, p, rfl, m, b0, bp, fun i H1 s1 i0 i1 i2 => ?_⟩⟩
      refine ⟨_, _, rfl, rfl, .inl ⟨by show -(2 ^ 64) < t; omega, by show t < 2 ^ 64; omega⟩, rd_prime rfl (F.same s1) ⟨_, _, rfl, rfl, (by show 0 < p; omega), q i H1 s1 i0 i1 i2⟩⟩
theorem one_inv {p i : Int} (hp : 2 ≤ p) (h0 : 0 ≤ i) (h1 : i < p) (h : (i * 1) % p = 1) : i = 1 := by
  rw [Int.mul_one, Int.emod_eq_of_lt h0 h1] at h
  exact h
theorem prod_bound {a b p : Int} (p9 : p ≤ 1000000000) (a0 : 0 ≤ a) (ap : a < p) (b0 : 0 ≤ b) (bp : b < p) : 0 ≤ a * b ∧ a * b ≤ 1000000000000000000 := by
  refine ⟨Int.mul_nonneg a0 b0, ?_⟩
  have h1 : a * b ≤ 1000000000 * 1000000000 := Int.mul_le_mul (by omega) (by omega) b0 (by omega)
  omega
def spProd (K : PySem.W.Frag) : Sp := fun vs H Q _ => ∃ (f : Addr) (p a b : Int), vs = [.ref f, .int a, .int b] ∧ FieldAt K H f p ∧ Md p ∧ 0 ≤ a ∧ a < p ∧ 0 ≤ b ∧ b < p ∧ ∀ H', Same H H' → Q (.int (a * b % p)) H'
theorem ok_product_of (T : Tx K mg) : FnG P w K mg base CX0 3 (He.ma K (He.ga K "Field") "product_of") (spProd K) := by
  refine mk_Field_product_of T.d (fun vs H Q E h => ?_) (fun cdv A outer s H vs Q E hg hr h => ?_)
  · obtain ⟨f, p, a, b, rfl, _⟩ := h
    rfl
  · obtain ⟨f, p, a, b, rfl, F, m, a0, ap, b0, bp, q⟩ := h
    have hlo := m.lo
    have hhi := m.hi
    obtain ⟨c0, c1⟩ := prod_bound hhi a0 ap b0 bp
    have gp := T.g "parts" (by decide +kernel)
    have nd := sc_Field_product_of.nd
    refine ⟨_, pss_cons (ps_asg (pe_tup (pa_cons (pe_callG (ok_parts T) (hr.mono (by decide)) hg (by rfl) gp (kp_parts T.d) pass0 (pa_cons (pv 1) pa_nil)) (pa_cons (pe_callG (ok_parts T) (hr.mono (by decide)) hg (by rfl) gp (kp_parts T.d) pass0 (pa_cons (pv 2) pa_nil)) pa_nil)))
        (pg_tup rfl (pgs_cons (pg_tup rfl (pgs_cons (pg_name (i := 3) nd rfl (.inl rfl)) (pgs_cons (pg_name (i := 4) nd rfl (.inl rfl)) pgs_nil))) (pgs_cons (pg_tup rfl (pgs_cons (pg_name (i := 5) nd rfl (.inl rfl)) (pgs_cons (pg_name (i := 6) nd rfl (.inl rfl)) pgs_nil))) pgs_nil))))
      (pss_one (ps_ret (pe_methG (pv 0) (kp_Field_ratio T.d) (ok_ratio T) hr hg pass0 (pa_cons (pe_op op_mul (pv 3) (pv 5)) (pa_cons (pe_op op_mul (pv 4) (pv 6)) pa_nil))))), ?_⟩
    refine ⟨_, rfl, _, a, 1, rfl, .inl ⟨rfl, rfl⟩, fun u H1 s1 hu => ⟨_, rfl, _, b, 1, rfl, .inl ⟨rfl, rfl⟩, fun v H2 s2 hv => ⟨by show 2 ≤ sizeLine; decide, fun r nr => ?_⟩⟩⟩
    have s3 := same_up (o := .tup [V.ref u, V.ref v]) nr
    refine ⟨r, _, rfl, .inl (.inl upd_same), rfl, _, _, rfl, ⟨u, _, rfl, .inl (.inl (s3 _ _ (s2 _ _ hu))), rfl, _, _, rfl, _, _, rfl, rfl, ?_⟩⟩
    refine ⟨_, _, rfl, ⟨v, _, rfl, .inl (.inl (s3 _ _ hv)), rfl, _, _, rfl, _, _, rfl, rfl, rfl, ?_⟩⟩
    have s4 := (s1.trans s2).trans s3
    refine go_meth rfl (F.same s4) (by decide +kernel) (by decide +kernel) ⟨_, rfl, _, rfl, _, _, rfl, rfl, .inl ⟨by show -(2 ^ 64) < a; omega, by show a < 2 ^ 64; omega⟩, _, rfl, _, rfl, _, _, rfl, rfl, .inl ⟨by decide, by decide⟩, ?_⟩
    refine ⟨f, p, a * b, 1, rfl, F.same s4, m, by omega, by omega, by omega, by omega, fun i H5 s5 i0 i1 i2 => ?_⟩
    rw [one_inv hlo i0 i1 i2, Int.mul_one]
    exact q H5 (s4.trans s5)
end
end K04

namespace K04
open PySem PySem.Spec PyProof.Rows L2 Ver Num
section
variable {P : Program} {w : World} {K : PySem.W.Frag} {mg : Str → Option Value} {base : Heap}
theorem nums2 {K : PySem.W.Frag} {H : Hp} {l : Addr} {a b : Int} (h : H l = some (.lst [V.int a, V.int b])) : Nums K H l [a, b] := .inl (.inl (.inl h))
theorem in2 {a b p : Int} (a0 : 0 ≤ a) (ap : a < p) (b0 : 0 ≤ b) (bp : b < p) : ∀ x ∈ [a, b], 0 ≤ x ∧ x < p := fun x hx => by
  rcases List.mem_cons.mp hx with e | hx
  · rw [e]; exact ⟨a0, ap⟩
  · rw [List.mem_singleton.mp hx]; exact ⟨b0, bp⟩
def spOp (K : PySem.W.Frag) (g : Int → Int → Int) : Sp := fun vs H Q _ => ∃ (f : Addr) (p a b : Int), vs = [.ref f, .int a, .int b] ∧ FieldAt K H f p ∧ Md p ∧ 0 ≤ a ∧ a < p ∧ 0 ≤ b ∧ b < p ∧ ∀ H', Same H H' → Q (.int (g a b % p)) H'
theorem ok_sum_of (T : Tx K mg) : FnG P w K mg base CX0 3 (He.ma K (He.ga K "Field") "sum_of") (spOp K fun a b => a + b) := by
  refine mk_Field_sum_of T.d (fun vs H Q E h => ?_) (fun cdv A outer s H vs Q E hg hr h => ?_)
  · obtain ⟨f, p, a, b, rfl, _⟩ := h
    rfl
  · obtain ⟨f, p, a, b, rfl, F, m, a0, ap, b0, bp, q⟩ := h
    have hlo := m.lo
    have hhi := m.hi
    have gp := T.g "parts" (by decide +kernel)
    have nd := sc_Field_sum_of.nd
    refine ⟨_, pss_cons (ps_asg (pe_tup (pa_cons (pe_callG (ok_parts T) (hr.mono (by decide)) hg (by rfl) gp (kp_parts T.d) pass0 (pa_cons (pv 1) pa_nil)) (pa_cons (pe_callG (ok_parts T) (hr.mono (by decide)) hg (by rfl) gp (kp_parts T.d) pass0 (pa_cons (pv 2) pa_nil)) pa_nil)))
        (pg_tup rfl (pgs_cons (pg_tup rfl (pgs_cons (pg_name (i := 3) nd rfl (.inl rfl)) (pgs_cons (pg_name (i := 4) nd rfl (.inl rfl)) pgs_nil))) (pgs_cons (pg_tup rfl (pgs_cons (pg_name (i := 5) nd rfl (.inl rfl)) (pgs_cons (pg_name (i := 6) nd rfl (.inl rfl)) pgs_nil))) pgs_nil))))
      (pss_one (ps_ret (pe_methG (pv 0) (kp_Field_ratio T.d) (ok_ratio T) (hr.mono (by decide)) hg pass0 (pa_cons (pe_op op_add (pe_op op_mul (pv 3) (pv 6)) (pe_op op_mul (pv 5) (pv 4))) (pa_cons (pe_op op_mul (pv 4) (pv 6)) pa_nil))))), ?_⟩
    refine ⟨_, rfl, _, a, 1, rfl, .inl ⟨rfl, rfl⟩, fun u H1 s1 hu => ⟨_, rfl, _, b, 1, rfl, .inl ⟨rfl, rfl⟩, fun v H2 s2 hv => ⟨by show 2 ≤ sizeLine; decide, fun r nr => ?_⟩⟩⟩
    have s3 := same_up (o := .tup [V.ref u, V.ref v]) nr
    refine ⟨r, _, rfl, .inl (.inl upd_same), rfl, _, _, rfl, ⟨u, _, rfl, .inl (.inl (s3 _ _ (s2 _ _ hu))), rfl, _, _, rfl, _, _, rfl, rfl, ?_⟩⟩
    refine ⟨_, _, rfl, ⟨v, _, rfl, .inl (.inl (s3 _ _ hv)), rfl, _, _, rfl, _, _, rfl, rfl, rfl, ?_⟩⟩
    have s4 := (s1.trans s2).trans s3
    refine go_meth rfl (F.same s4) (by decide +kernel) (by decide +kernel) ⟨_, rfl, _, rfl, _, _, rfl, rfl, .inl ⟨by show -(2 ^ 64) < a; omega, by show a < 2 ^ 64; omega⟩,
      _, rfl, _, rfl, _, _, rfl, rfl, .inl ⟨by show -(2 ^ 64) < b; omega, by show b < 2 ^ 64; omega⟩, _, _, rfl, rfl, _, rfl, _, rfl, _, _, rfl, rfl, .inl ⟨by decide, by decide⟩, ?_⟩
    refine ⟨f, p, a * 1 + b * 1, 1, rfl, F.same s4, m, by omega, by omega, by omega, by omega, fun i H5 s5 i0 i1 i2 => ?_⟩
    rw [one_inv hlo i0 i1 i2, Int.mul_one, Int.mul_one, Int.mul_one]
    exact q H5 (s4.trans s5)
theorem ok_plus (T : Tx K mg) : FnG P w K mg base CX0 6 (He.ma K (He.ga K "Field") "plus") (spOp K fun a b => a + b) := by
  refine mk_Field_plus T.d (fun vs H Q E h => ?_) (fun cdv A outer s H vs Q E hg hr h => ?_)
  · obtain ⟨f, p, a, b, rfl, _⟩ := h
    rfl
  · obtain ⟨f, p, a, b, rfl, F, m, a0, ap, b0, bp, q⟩ := h
    refine ⟨_, pss_cons (ps_expr (pe_methG (pv 0) (kp_Field__check T.d) (ok_check T) hr hg pass0 (pa_cons (pe_lst (pa_cons (pv 1) (pa_cons (pv 2) pa_nil))) pa_nil)))
      (pss_one (ps_ret (pe_methG (pv 0) (kp_Field_sum_of T.d) (ok_sum_of T) (hr.mono (by decide)) hg pass0 (pa_cons (pv 1) (pa_cons (pv 2) pa_nil))))), ?_⟩
    refine go_meth rfl F (by decide +kernel) (by decide +kernel) ⟨_, rfl, _, rfl, by show 2 ≤ sizeLine; decide, fun l nl => ?_⟩
    have s0 := same_up (o := .lst [V.int a, V.int b]) nl
    refine ⟨f, l, p, [a, b], rfl, F.same s0, m.hi, nums2 upd_same, in2 a0 ap b0 bp, fun H0 sx => ?_⟩
    have sH := s0.trans sx
    exact go_meth rfl (F.same sH) (by decide +kernel) (by decide +kernel) ⟨_, rfl, _, rfl, f, p, a, b, rfl, F.same sH, m, a0, ap, b0, bp, fun H1 s1 => q H1 (sH.trans s1)⟩
theorem ok_difference_of (T : Tx K mg) : FnG P w K mg base CX0 3 (He.ma K (He.ga K "Field") "difference_of") (spOp K fun a b => a - b) := by
  refine mk_Field_difference_of T.d (fun vs H Q E h => ?_) (fun cdv A outer s H vs Q E hg hr h => ?_)
  · obtain ⟨f, p, a, b, rfl, _⟩ := h
    rfl
  · obtain ⟨f, p, a, b, rfl, F, m, a0, ap, b0, bp, q⟩ := h
    have hlo := m.lo
    have hhi := m.hi
    have gp := T.g "parts" (by decide +kernel)
    have nd := sc_Field_difference_of.nd
    refine ⟨_, pss_cons (ps_asg (pe_tup (pa_cons (pe_callG (ok_parts T) (hr.mono (by decide)) hg (by rfl) gp (kp_parts T.d) pass0 (pa_cons (pv 1) pa_nil)) (pa_cons (pe_callG (ok_parts T) (hr.mono (by decide)) hg (by rfl) gp (kp_parts T.d) pass0 (pa_cons (pv 2) pa_nil)) pa_nil)))
        (pg_tup rfl (pgs_cons (pg_tup rfl (pgs_cons (pg_name (i := 3) nd rfl (.inl rfl)) (pgs_cons (pg_name (i := 4) nd rfl (.inl rfl)) pgs_nil))) (pgs_cons (pg_tup rfl (pgs_cons (pg_name (i := 5) nd rfl (.inl rfl)) (pgs_cons (pg_name (i := 6) nd rfl (.inl rfl)) pgs_nil))) pgs_nil))))
      (pss_one (ps_ret (pe_methG (pv 0) (kp_Field_ratio T.d) (ok_ratio T) (hr.mono (by decide)) hg pass0 (pa_cons (pe_op op_sub (pe_op op_mul (pv 3) (pv 6)) (pe_op op_mul (pv 5) (pv 4))) (pa_cons (pe_op op_mul (pv 4) (pv 6)) pa_nil))))), ?_⟩
    refine ⟨_, rfl, _, a, 1, rfl, .inl ⟨rfl, rfl⟩, fun u H1 s1 hu => ⟨_, rfl, _, b, 1, rfl, .inl ⟨rfl, rfl⟩, fun v H2 s2 hv => ⟨by show 2 ≤ sizeLine; decide, fun r nr => ?_⟩⟩⟩
    have s3 := same_up (o := .tup [V.ref u, V.ref v]) nr
    refine ⟨r, _, rfl, .inl (.inl upd_same), rfl, _, _, rfl, ⟨u, _, rfl, .inl (.inl (s3 _ _ (s2 _ _ hu))), rfl, _, _, rfl, _, _, rfl, rfl, ?_⟩⟩
    refine ⟨_, _, rfl, ⟨v, _, rfl, .inl (.inl (s3 _ _ hv)), rfl, _, _, rfl, _, _, rfl, rfl, rfl, ?_⟩⟩
    have s4 := (s1.trans s2).trans s3
    refine go_meth rfl (F.same s4) (by decide +kernel) (by decide +kernel) ⟨_, rfl, _, rfl, _, _, rfl, rfl, .inl ⟨by show -(2 ^ 64) < a; omega, by show a < 2 ^ 64; omega⟩,
      _, rfl, _, rfl, _, _, rfl, rfl, .inl ⟨by show -(2 ^ 64) < b; omega, by show b < 2 ^ 64; omega⟩, _, _, rfl, rfl, _, rfl, _, rfl, _, _, rfl, rfl, .inl ⟨by decide, by decide⟩, ?_⟩
    refine ⟨f, p, a * 1 - b * 1, 1, rfl, F.same s4, m, by omega, by omega, by omega, by omega, fun i H5 s5 i0 i1 i2 => ?_⟩
    rw [one_inv hlo i0 i1 i2, Int.mul_one, Int.mul_one, Int.mul_one]
    exact q H5 (s4.trans s5)
theorem ok_minus (T : Tx K mg) : FnG P w K mg base CX0 6 (He.ma K (He.ga K "Field") "minus") (spOp K fun a b => a - b) := by
  refine mk_Field_minus T.d (fun vs H Q E h => ?_) (fun cdv A outer s H vs Q E hg hr h => ?_)
  · obtain ⟨f, p, a, b, rfl, _⟩ := h
    rfl
  · obtain ⟨f, p, a, b, rfl, F, m, a0, ap, b0, bp, q⟩ := h
    refine ⟨_, pss_cons (ps_expr (pe_methG (pv 0) (kp_Field__check T.d) (ok_check T) hr hg pass0 (pa_cons (pe_lst (pa_cons (pv 1) (pa_cons (pv 2) pa_nil))) pa_nil)))
      (pss_one (ps_ret (pe_methG (pv 0) (kp_Field_difference_of T.d) (ok_difference_of T) (hr.mono (by decide)) hg pass0 (pa_cons (pv 1) (pa_cons (pv 2) pa_nil))))), ?_⟩
    refine go_meth rfl F (by decide +kernel) (by decide +kernel) ⟨_, rfl, _, rfl, by show 2 ≤ sizeLine; decide, fun l nl => ?_⟩
    have s0 := same_up (o := .lst [V.int a, V.int b]) nl
    refine ⟨f, l, p, [a, b], rfl, F.same s0, m.hi, nums2 upd_same, in2 a0 ap b0 bp, fun H0 sx => ?_⟩
    have sH := s0.trans sx
    exact go_meth rfl (F.same sH) (by decide +kernel) (by decide +kernel) ⟨_, rfl, _, rfl, f, p, a, b, rfl, F.same sH, m, a0, ap, b0, bp, fun H1 s1 => q H1 (sH.trans s1)⟩
theorem ok_times (T : Tx K mg) : FnG P w K mg base CX0 6 (He.ma K (He.ga K "Field") "times") (spOp K fun a b => a * b) := by
  refine mk_Field_times T.d (fun vs H Q E h => ?_) (fun cdv A outer s H vs Q E hg hr h => ?_)
  · obtain ⟨f, p, a, b, rfl, _⟩ := h
    rfl
  · obtain ⟨f, p, a, b, rfl, F, m, a0, ap, b0, bp, q⟩ := h
    refine ⟨_, pss_cons (ps_expr (pe_methG (pv 0) (kp_Field__check T.d) (ok_check T) hr hg pass0 (pa_cons (pe_lst (pa_cons (pv 1) (pa_cons (pv 2) pa_nil))) pa_nil)))
      (pss_one (ps_ret (pe_methG (pv 0) (kp_Field_product_of T.d) (ok_product_of T) (hr.mono (by decide)) hg pass0 (pa_cons (pv 1) (pa_cons (pv 2) pa_nil))))), ?_⟩
    refine go_meth rfl F (by decide +kernel) (by decide +kernel) ⟨_, rfl, _, rfl, by show 2 ≤ sizeLine; decide, fun l nl => ?_⟩
    have s0 := same_up (o := .lst [V.int a, V.int b]) nl
    refine ⟨f, l, p, [a, b], rfl, F.same s0, m.hi, nums2 upd_same, in2 a0 ap b0 bp, fun H0 sx => ?_⟩
    have sH := s0.trans sx
    exact go_meth rfl (F.same sH) (by decide +kernel) (by decide +kernel) ⟨_, rfl, _, rfl, f, p, a, b, rfl, F.same sH, m, a0, ap, b0, bp, fun H1 s1 => q H1 (sH.trans s1)⟩
end
end K04

namespace K04
open PySem PySem.Spec PyProof.Rows L2 Ver Num
section
variable {P : Program} {w : World} {K : PySem.W.Frag} {mg : Str → Option Value} {base : Heap}
/-! ### over, and its error -/
theorem ok_nq (T : Tx K mg) : FnG P w K mg base CX0 1 (He.ma K (He.ga K "NoQuotient") "__init__") (spInitN (He.ga K "NoQuotient")) := by
  refine mk_NoQuotient___init__ T.d (fun vs H Q E h => ?_) (fun cdv A outer s H vs Q E hg hr h => ?_)
  · obtain ⟨a, rfl, _⟩ := h
    rfl
  · obtain ⟨a, rfl, ha, q⟩ := h
    refine ⟨_, pss_one (ps_expr (pe_binit PySem.F.excBase_ArithmeticError (by rfl) (T.z "ArithmeticError" (by decide +kernel)) (by decide +kernel) (by kernel_rfl) (by decide +kernel) (by decide +kernel) (by first | rfl | kernel_rfl) (pa_cons (pv 0) pa_nil))), ?_⟩
    exact ⟨_, rfl, a, He.ga K "NoQuotient", [], rfl, by decide, T.nq.q, ha, q⟩
def spOver (K : PySem.W.Frag) : Sp := fun vs H Q E => ∃ (f : Addr) (p a b : Int), vs = [.ref f, .int a, .int b] ∧ FieldAt K H f p ∧ Md p ∧ 0 ≤ a ∧ a < p ∧ 0 ≤ b ∧ b < p ∧
  (b = 0 → ∀ H', Same H H' → E (.ref (He.ga K "NoQuotient")) none H') ∧ (b ≠ 0 → ∀ (i : Int) (H' : Hp), Same H H' → 0 ≤ i → i < p → (i * b) % p = 1 → Q (.int (a * i % p)) H')
def spQuo (K : PySem.W.Frag) : Sp := fun vs H Q _ => ∃ (f : Addr) (p a b : Int), vs = [.ref f, .int a, .int b] ∧ FieldAt K H f p ∧ Md p ∧ 0 ≤ a ∧ a < p ∧ 0 ≤ b ∧ b < p ∧
  b ≠ 0 ∧ ∀ (i : Int) (H' : Hp), Same H H' → 0 ≤ i → i < p → (i * b) % p = 1 → Q (.int (a * i % p)) H'
theorem ok_quotient_of (T : Tx K mg) : FnG P w K mg base CX0 3 (He.ma K (He.ga K "Field") "quotient_of") (spQuo K) := by
  refine mk_Field_quotient_of T.d (fun vs H Q E h => ?_) (fun cdv A outer s H vs Q E hg hr h => ?_)
  · obtain ⟨f, p, a, b, rfl, _⟩ := h
    rfl
  · obtain ⟨f, p, a, b, rfl, F, m, a0, ap, b0, bp, e, q⟩ := h
    have hlo := m.lo
    have hhi := m.hi
    have gp := T.g "parts" (by decide +kernel)
    have nd := sc_Field_quotient_of.nd
    refine ⟨_, pss_cons (ps_asg (pe_tup (pa_cons (pe_callG (ok_parts T) (hr.mono (by decide)) hg (by rfl) gp (kp_parts T.d) pass0 (pa_cons (pv 1) pa_nil)) (pa_cons (pe_callG (ok_parts T) (hr.mono (by decide)) hg (by rfl) gp (kp_parts T.d) pass0 (pa_cons (pv 2) pa_nil)) pa_nil)))
        (pg_tup rfl (pgs_cons (pg_tup rfl (pgs_cons (pg_name (i := 3) nd rfl (.inl rfl)) (pgs_cons (pg_name (i := 4) nd rfl (.inl rfl)) pgs_nil))) (pgs_cons (pg_tup rfl (pgs_cons (pg_name (i := 5) nd rfl (.inl rfl)) (pgs_cons (pg_name (i := 6) nd rfl (.inl rfl)) pgs_nil))) pgs_nil))))
      (pss_one (ps_ret (pe_methG (pv 0) (kp_Field_ratio T.d) (ok_ratio T) (hr.mono (by decide)) hg pass0 (pa_cons (pe_op op_mul (pv 3) (pv 6)) (pa_cons (pe_op op_mul (pv 4) (pv 5)) pa_nil))))), ?_⟩
    refine ⟨_, rfl, _, a, 1, rfl, .inl ⟨rfl, rfl⟩, fun u H1 s1 hu => ⟨_, rfl, _, b, 1, rfl, .inl ⟨rfl, rfl⟩, fun v H2 s2 hv => ⟨by show 2 ≤ sizeLine; decide, fun r nr => ?_⟩⟩⟩
    have s3 := same_up (o := .tup [V.ref u, V.ref v]) nr
    refine ⟨r, _, rfl, .inl (.inl upd_same), rfl, _, _, rfl, ⟨u, _, rfl, .inl (.inl (s3 _ _ (s2 _ _ hu))), rfl, _, _, rfl, _, _, rfl, rfl, ?_⟩⟩
    refine ⟨_, _, rfl, ⟨v, _, rfl, .inl (.inl (s3 _ _ hv)), rfl, _, _, rfl, _, _, rfl, rfl, rfl, ?_⟩⟩
    have s4 := (s1.trans s2).trans s3
    refine go_meth rfl (F.same s4) (by decide +kernel) (by decide +kernel) ⟨_, rfl, _, rfl, _, _, rfl, rfl, .inl ⟨by show -(2 ^ 64) < a; omega, by show a < 2 ^ 64; omega⟩,
      _, rfl, _, rfl, _, _, rfl, rfl, .inl ⟨by decide, by decide⟩, ?_⟩
    refine ⟨f, p, a * 1, 1 * b, rfl, F.same s4, m, by omega, by omega, by omega, by omega, fun i H5 s5 i0 i1 i2 => ?_⟩
    rw [Int.mul_one]
    rw [Int.one_mul] at i2
    exact q i H5 (s4.trans s5) i0 i1 i2
/-! ### making a field -/
theorem ok_over (T : Tx K mg) : FnG P w K mg base (L2.CX P w) 6 (He.ma K (He.ga K "Field") "over") (spOver K) := by
  refine mkX_Field_over T.d (fun vs H Q E h => ?_) (fun cdv A outer s H vs Q E hg hr h => ?_)
  · obtain ⟨f, p, a, b, rfl, _⟩ := h
    rfl
  · obtain ⟨f, p, a, b, rfl, F, m, a0, ap, b0, bp, qe, q⟩ := h
    have hlo := m.lo
    have hhi := m.hi
    have gp := T.g "parts" (by decide +kernel)
    have nd := sc_Field_over.nd
    refine ⟨_, pss_cons (ps_expr (pe_methG (pv 0) (kp_Field__check T.d) (ok_check T) hr hg pass0 (pa_cons (pe_lst (pa_cons (pv 1) (pa_cons (pv 2) pa_nil))) pa_nil)))
      (pss_cons (ps_if (pt_cmpR op_eq (pv 2) pe_int (nomark _)) (pss_one (ps_raise rfl (takes_of rfl rfl rfl rfl) (pmk_n PySem.F.excBase_ArithmeticError T.nq (ok_nq T) (hr.mono (by decide)) hg pass0 (by rfl) (T.g "NoQuotient" (by decide +kernel))))) pss_nil)
      (pss_one (ps_ret (pe_methG (pv 0) (kp_Field_quotient_of T.d) (ok_quotient_of T) (hr.mono (by decide)) hg pass0 (pa_cons (pv 1) (pa_cons (pv 2) pa_nil)))))), ?_⟩
    refine go_meth rfl F (by decide +kernel) (by decide +kernel) ⟨_, rfl, _, rfl, by show 2 ≤ sizeLine; decide, fun l nl => ?_⟩
    have s0 := same_up (o := .lst [V.int a, V.int b]) nl
    refine ⟨f, l, p, [a, b], rfl, F.same s0, hhi, nums2 upd_same, in2 a0 ap b0 bp, fun H0 sx => ?_⟩
    have sH := s0.trans sx
    refine ⟨_, rfl, rfl, _, rfl, ?_⟩
    rw [iEq]
    by_cases e : b = 0
    · exact ifT (decide_eq_true e) (qe e H0 sH)
    · refine ifF (decide_eq_false e) ?_
      exact go_meth rfl (F.same sH) (by decide +kernel) (by decide +kernel) ⟨_, rfl, _, rfl, f, p, a, b, rfl, F.same sH, m, a0, ap, b0, bp, e, fun i H5 s5 i0 i1 i2 => q e i H5 (sH.trans s5) i0 i1 i2⟩
def spFInit (K : PySem.W.Frag) : Sp := fun vs H Q _ => ∃ (f C dx : Addr) (p : Int), vs = [.ref f, .int p] ∧ FC K C ∧ H f = some (.ins C dx []) ∧ Q .non (upd H f (.ins C dx [(("_prime" : Str), V.int p)]))
theorem ok_finit (T : Tx K mg) : FnG P w K mg base CX0 1 (He.ma K (He.ga K "Field") "__init__") (spFInit K) := by
  refine mk_Field___init__ T.d (fun vs H Q E h => ?_) (fun cdv A outer s H vs Q E hg hr h => ?_)
  · obtain ⟨f, C, dx, p, rfl, _⟩ := h
    rfl
  · obtain ⟨f, C, dx, p, rfl, c, hf, q⟩ := h
    exact ⟨_, pss_one (ps_fld (pv 0) (pv 1) rfl), ⟨_, rfl, _, rfl, f, C, dx, [], rfl, hf, c.cl, c.np, (by show 0 < 1000; decide), q⟩⟩
/-- C.m(e, ..), m a plain def of the class C itself or above it -/
theorem pe_clsG {X : Cx} {CX : CXT} {k : Nat} {f C : Addr} {sp : Sp} {E : XK} {x m : Str} {p pos apos : Pos} {e : Expr} {es : List Expr} {t : TA} {pl : Sem Bool} (hg : Gl X x) (hm : X.mg x = some (.ref C)) (rd : PySem.W.readsIn X.K C (.type "type") = true)
    (ga : PySem.W.specialIn X.K (.ref C) "__getattribute__" = some (some (.builtin "type.__getattribute__"))) (fi : PySem.W.findCls X.K (.ref C) (.type "type") m = some (.val (.ref f))) (hk : PySem.W.keepIn X.K (.ref f) = true)
    (F : FnG X.prog X.w X.K X.mg X.base CX k f sp) (hr : Room k X.A) (hgd : X.A.guards = some []) (hx : Passes CX X E) (ha : PA X (e :: es) t)
    (hst : starEach (e :: es) X.env = (false, eval e X.env) :: starEach es X.env := by rfl) (hpl : (backTo pos (starEach es X.env)).any (·.1) = false := by rfl)
    (ht : eval (.Call (.Attribute (.Name x p) m apos) (e :: es) [] pos) X.env = (do
      let ov ← eval (.Name x p) X.env
      standAt apos.atName
      let (g, first) ← holding [ov] (getMethod ov m pl)
      callWith pos g first (backTo pos (starEach (e :: es) X.env)) (backToKw pos (keywordEach [] X.env))) := by rfl) (hdb : (x == ("__debug__" : Str)) = false := by decide) :
    PE X (.Call (.Attribute (.Name x p) m apos) (e :: es) [] pos) (fun σ H Q => t σ H fun vs H1 => sp vs H1 Q E) := by
  refine ⟨fun pins s σ H Q I h => PySem.W.methodCall_KW (pl := pl) (ld_glob I hg hm ?_ hdb) ht⟩
  refine PySem.W.method_cls I.kIn ga (PySem.W.cls_value I.kIn rd fi rfl ?_)
  have J := I.tok (s.toks + 1)
  refine PySem.W.callWith_K (first := []) (h₀ := X.base) I.ok.mod.kin hk (thn (ha.run pos pins _ σ H _ J h) fun us s1 z => ?_) hst hpl
  obtain ⟨vs, H1, I1, r, q⟩ := z
  exact ⟨I1.kIn, runG F hr hgd hx I1 r q⟩
def spMInit (K : PySem.W.Frag) : Sp := fun vs H Q _ => ∃ (f dx : Addr) (p : Int), vs = [.ref f, .int p] ∧ prB Float64.isqrt p = true ∧ Float64.isqrt p.toNat ≤ 1000000 ∧ H f = some (.ins (He.ga K "Modulo") dx []) ∧ Q .non (upd H f (.ins (He.ga K "Modulo") dx [(("_prime" : Str), V.int p)]))
theorem ok_minit (T : Tx K mg) : FnG P w K mg base CX0 4 (He.ma K (He.ga K "Modulo") "__init__") (spMInit K) := by
  refine mk_Modulo___init__ T.d (fun vs H Q E h => ?_) (fun cdv A outer s H vs Q E hg hr h => ?_)
  · obtain ⟨f, dx, p, rfl, _⟩ := h
    rfl
  · obtain ⟨f, dx, p, rfl, p1, p2, hf, q⟩ := h
    refine ⟨_, pss_cons (ps_if (pt_not (pt_val (pe_callG (ok_is_prime T) hr hg (by rfl) (T.g "is_prime" (by decide +kernel)) (kp_is_prime T.d) pass0 (pa_cons (pv 1) pa_nil)))) pss_never pss_nil)
      (pss_one (ps_expr (pe_clsG (by rfl) (T.g "Field" (by decide +kernel)) T.rdF T.gaF T.fiF (kp_Field___init__ T.d) (ok_finit T) (hr.mono (by decide)) hg pass0 (pa_cons (pv 0) (pa_cons (pv 1) pa_nil))))), ?_⟩
    exact ⟨_, rfl, p, rfl, p1, p2, _, rfl, ifF rfl ⟨_, rfl, _, rfl, f, _, dx, p, rfl, T.fc, hf, q⟩⟩
end
end K04

/-! Defs with a star parameter; the sum of a tuple. -/
namespace Ver
open PySem PySem.Spec PyProof.Rows L2
theorem preSum_take {ns : List Int} : ∀ n, n ≤ ns.length → preSum (fun i => ns.getD i 0) n = (ns.take n).sum
  | 0, _ => by rw [List.take_zero]; rfl
  | n + 1, h => by
    have e : ns[n]? = some (ns.getD n 0) := by
      rw [List.getD_eq_getElem?_getD, List.getElem?_eq_getElem (by omega)]
      rfl
    show preSum _ n + ns.getD n 0 = _
    rw [preSum_take n (by omega), sum_take e]
section
variable {prog : Program} {w : World} {A : Around} {E : Value → Shared → Prop} {s : Shared} {l : Addr} {its : List Value} {ns : List Int} {Q : Value → Shared → Prop}
theorem sum_tup (hh : A.handled = none) (hl : IsTup s.heap l its.toArray) (rv : Vals (ns.map V.int) its)
    (h : ∀ h' tk t', (∀ b o, s.heap.get? b = some o → h'.get? b = some o) → Q (.int ns.sum t') { s with heap := h', toks := tk }) : wpAny (model prog w) A (call (.builtin "sum") [.ref l]) Q E s := by
  have hne : l ≠ s.heap.objs.size := Nat.ne_of_lt (by obtain ⟨o, e, _⟩ := hl; exact Heap.lt_size e)
  have hlen := rv.length
  rw [List.length_map] at hlen
  have sz : (s.heap.push { cls := .type "tuple_iterator", data := .fields #[.ref l, .int 0 0] }).objs.size = s.heap.objs.size + 1 := Heap.size_push ..
  refine call_sum_walkG (wpAny_pyIter_tuple (show s.heap.IsTuple l its.toArray from hl) ?_)
  refine ⟨_, _, _, _, _, _, fun i => ns.getD i 0, rfl, Walks.tuple (A := A.in1) hh _ l hne its.toArray, ⟨⟨_, Heap.get?_push_size _ rfl, rfl, rfl⟩, ?_⟩, fun b hb => ?_, fun i v hv => ?_, fun h' tk t' hk => ?_⟩
  · obtain ⟨o, e, c⟩ := hl
    exact ⟨o, Heap.get?_push_of_some _ e, c⟩
  · show b < (s.heap.push _).objs.size
    rw [Heap.size_push]
    rcases List.mem_cons.mp hb with e | hb
    · rw [e]
      exact Nat.lt_succ_self _
    · rw [List.mem_singleton.mp hb]
      exact Nat.lt_succ_of_lt (by obtain ⟨o, e, _⟩ := hl; exact Heap.lt_size e)
  · have hi : its[i]? = some v := by simpa using hv
    have lt : i < ns.length := by
      have := (List.getElem?_eq_some_iff.mp hi).1
      omega
    obtain ⟨u, hu, t, ru⟩ := rv.get (i := i) (x := V.int ns[i]) (by rw [List.getElem?_map, List.getElem?_eq_getElem lt]; rfl)
    rw [hi] at hu
    refine ⟨t, ?_⟩
    have e2 : ns.getD i 0 = ns[i] := by
      rw [List.getD_eq_getElem?_getD, List.getElem?_eq_getElem lt]
      rfl
    rw [Option.some.inj hu, ru]
    show Value.int ns[i] t = Value.int (ns.getD i 0) t
    rw [e2]
  · have e : preSum (fun i => ns.getD i 0) its.toArray.size = ns.sum := by
      rw [List.size_toArray, ← hlen, preSum_take _ (Nat.le_refl _), List.take_length]
    rw [e]
    refine h h' tk t' fun b o ho => hk b o (fun z => ?_) (Heap.get?_push_of_some _ ho)
    rw [List.mem_singleton.mp z] at ho
    exact absurd (Heap.lt_size ho) (Nat.lt_irrefl _)
end
/-- sum(t), t a tuple of ints -/
theorem cr_sumT {X : Cx} (hc : X.calm = true) : CallR X (.builtin "sum") (fun vs H Q => ∃ (a : Addr) (ns : List Int), vs = [V.ref a] ∧ SqT X.K H a (ns.map V.int) ∧ Q (.int ns.sum) H) := by
  intro pins s σ H vs us Q I r h
  obtain ⟨a, ns, rfl, hs, q⟩ := h
  obtain ⟨its, rv, hl, _⟩ := I.tuple hs
  obtain ⟨u, rfl, ru⟩ := vals1 r
  cases (show u = Value.ref a from ru)
  exact sum_tup (I.ok.hd hc) hl rv fun h' tk t' hk => ⟨.int _, H, I.kept hk, ⟨_, rfl⟩, q⟩
/-- def f(a, .., *rest) -/
theorem okStar {P : Program} {w : World} {K : PySem.W.Frag} {mg : Str → Option Value} {base : Heap} {k : Nat} {f : Addr} {fd : FuncData} {sp : Sp} {x qual pr : Str} {params : Arguments} {body : List Stmt} {scope : Scope} {N ps : List Str} {kws : List (Str × V)}
    (F : FunD K x qual params body scope [] kws f fd) (S : FnScope N (ps ++ [pr]) scope)
    (hb : ∀ (kV doc pm : Value) (an : Option Addr) (cdv ct : Value) (us rest : List Value), us.length = ps.length → bindArgs (PySem.W.fnOf x qual params body scope .none kV doc pm an cdv ct) ⟨us ++ rest, []⟩ = (newTuple rest >>= fun t => pure (ps.zip us ++ [(pr, t)])))
    (hbody : ∀ (cdv : Value) (A : Around) (outer : List Env) (s : Shared) (H : Hp) (vs : List V) (Q : VK) (E : XK), A.guards = some [] → Room k (A.deeper (envOfC qual scope s.heap.objs.size f cdv)) → sp vs H Q E →
      ∃ t, PSs (cxOf CX0 P w K mg base N qual scope f cdv A outer s H E).nox body t ∧ t { nx := fun _ H' => Q .non H', rt := Q } (start N vs) H) :
    FnG P w K mg base CX0 (k + 1) f (fun vs H Q E => ∃ ws rest, vs = ws ++ rest ∧ ws.length = ps.length ∧ rest.length ≤ sizeLine ∧ ∀ p, H p = none → sp (ws ++ [V.ref p]) (upd H p (.tup rest)) Q E) := by
  obtain ⟨⟨oc, od, dV, kV, doc, pm, an, cdv, ct, osl, rfl, lk, hcd, hD, _⟩, _⟩ := F
  have eD : dV = .none := by
    rcases hD with ⟨_, e⟩ | ⟨e, _⟩
    · exact e
    · exact absurd rfl e
  subst eD
  intro A outer s H us vs Q E hg hr e0 r hsp
  obtain ⟨ws, rest, rfl, hl, hz, hq⟩ := hsp
  obtain ⟨u1, u2, rfl, r1, r2⟩ := StX.vals_split r
  have n0 : H s.heap.objs.size = none := e0.hok.fresh (Nat.le_refl _)
  have l1 : u1.length = ps.length := r1.length.symm.trans hl
  refine StX.run_bnd lk hcd S hr e0 (G := fun xs H2 => ∃ p, H p = none ∧ xs = ws ++ [V.ref p] ∧ H2 = upd H p (.tup rest)) (fun A' Ex Q' h => ?_) fun s2 H2 xs g hr' => ?_
  · rw [hb _ _ _ _ _ _ u1 u2 l1]
    have new : ObjOk P w (upd H s.heap.objs.size (.tup rest)) (s.heap.push ({ cls := .type "tuple", data := .seq u2.toArray } : Obj)) s.heap.objs.size (.tup rest) := ⟨hz, u2, r2, ⟨_, Heap.get?_push_size _ rfl, rfl, _, rfl⟩⟩
    have z := h _ _ (ws ++ [V.ref s.heap.objs.size]) (u1 ++ [Value.ref s.heap.objs.size]) (StX.env0_laid e0 new) (StX.un_laid (fs := frs outer) (s := s) n0) rfl (fun e s' q => q) (r1.append (.cons rfl .nil))
      (by rw [List.length_append, List.length_append, hl] <;> rfl) ⟨_, n0, rfl, rfl⟩
    rw [List.zip_append l1.symm] at z
    exact wpAny_bind (wpAny_newTuple (wpAny_pure z) (by rw [← r2.length]; exact hz))
  · obtain ⟨p, hp, rfl, rfl⟩ := g
    obtain ⟨t, ht, q⟩ := hbody cdv A outer s2 _ _ Q E hg hr' (hq p hp)
    exact ⟨t, ht.nox, q⟩
end Ver

namespace K04
open PySem PySem.Spec PyProof.Rows L2 Ver Num
section
variable {P : Program} {w : World} {K : PySem.W.Frag} {mg : Str → Option Value} {base : Heap}
/-! ### common, total -/
def spCommon (K : PySem.W.Frag) : Sp := fun vs H Q _ => ∃ (f : Addr) (p : Int) (x : V), vs = [.ref f, x] ∧ FieldAt K H f p ∧ ∀ (t : Addr) (H' : Hp), Same H H' → H' t = some (.tup [x, .int 1]) → Q (.ref t) H'
theorem ok_common (T : Tx K mg) : FnG P w K mg base CX0 1 (He.ma K (He.ga K "Field") "common") (spCommon K) := by
  refine mk_Field_common T.d (fun vs H Q E h => ?_) (fun cdv A outer s H vs Q E hg hr h => ?_)
  · obtain ⟨f, p, x, rfl, _⟩ := h
    rfl
  · obtain ⟨f, p, x, rfl, F, q⟩ := h
    refine ⟨_, pss_cons (ps_if (pt_cmp (pc_notN (pe_fld (pv 0) rfl))) (pss_one (ps_ret (pe_tup (pa_cons (pv 1) (pa_cons pe_int pa_nil))))) pss_nil) pss_never, ?_⟩
    refine rd_prime rfl F ⟨_, rfl, ifT rfl ?_⟩
    exact ⟨_, rfl, by show 2 ≤ sizeLine; decide, fun t nt => q t _ (same_up nt) upd_same⟩
theorem small_sum {p : Int} (p9 : p ≤ 1000000000) : ∀ (ns : List Int), (∀ a ∈ ns, 0 ≤ a ∧ a < p) → 0 ≤ ns.sum ∧ ns.sum ≤ 1000000000 * (ns.length : Int)
  | [], _ => by simp
  | a :: ns, h => by
    have h1 := h a List.mem_cons_self
    have h2 := small_sum p9 ns fun b hb => h b (List.mem_cons_of_mem _ hb)
    rw [List.sum_cons, List.length_cons]
    omega
/-- total(*numbers), seen by its body: the numbers stand in a tuple -/
def spTotalB (K : PySem.W.Frag) : Sp := fun vs H Q _ => ∃ (f l : Addr) (p : Int) (ns : List Int), vs = [.ref f, .ref l] ∧ FieldAt K H f p ∧ Md p ∧ H l = some (.tup (ns.map V.int)) ∧ ns.length ≤ 1000 ∧ (∀ a ∈ ns, 0 ≤ a ∧ a < p) ∧ ∀ H', Same H H' → Q (.int (ns.sum % p)) H'
def spTotal (K : PySem.W.Frag) : Sp := fun vs H Q _ => ∃ (f : Addr) (p : Int) (ns : List Int), vs = V.ref f :: ns.map V.int ∧ FieldAt K H f p ∧ Md p ∧ ns.length ≤ 1000 ∧ (∀ a ∈ ns, 0 ≤ a ∧ a < p) ∧ ∀ H', Same H H' → Q (.int (ns.sum % p)) H'
theorem ok_total (T : Tx K mg) : FnG P w K mg base CX0 6 (He.ma K (He.ga K "Field") "total") (spTotal K) := by
  obtain ⟨fd, FD⟩ := T.d.def_ 8 (d := d_Field_total) rfl
  have star := okStar (P := P) (w := w) (mg := mg) (base := base) (k := 5) (sp := spTotalB K) (ps := ["self"]) (pr := "numbers") FD sc_Field_total
    (fun kV doc pm an cdv ct us rest hl => by
      match us, hl with
      | [a], _ => cases rest <;> rfl) (fun cdv A outer s H vs Q E hg hr h => by
      obtain ⟨f, l, p, ns, rfl, F, m, hl, hz, hn, q⟩ := h
      have hlo := m.lo
      have nd := sc_Field_total.nd
      refine ⟨_, pss_cons (ps_expr (pe_methG (pv 0) (kp_Field__check T.d) (ok_check T) hr hg pass0 (pa_cons (pv 1) pa_nil)))
        (pss_cons (ps_asg (pe_methG (pv 0) (kp_Field_common T.d) (ok_common T) (hr.mono (by decide)) hg pass0 (pa_cons (pv 1) pa_nil)) (pg_tup rfl (pgs_cons (pg_name (i := 2) nd rfl (.inl rfl)) (pgs_cons (pg_name (i := 3) nd rfl (.inl rfl)) pgs_nil))))
        (pss_one (ps_ret (pe_methG (pv 0) (kp_Field_ratio T.d) (ok_ratio T) (hr.mono (by decide)) hg pass0 (pa_cons (pe_callB (cr_sumT rfl) (by rfl) (T.z "sum" (by decide +kernel)) (by decide +kernel) (pa_cons (pv 2) pa_nil)) (pa_cons (pv 3) pa_nil)))))), ?_⟩
      refine go_meth rfl F (by decide +kernel) (by decide +kernel) ⟨_, rfl, f, l, p, ns, rfl, F, m.hi, .inr (.inl (.inl hl)), hn, fun H1 s1 => ?_⟩
      refine go_meth rfl (F.same s1) (by decide +kernel) (by decide +kernel) ⟨_, rfl, f, p, .ref l, rfl, F.same s1, fun t H2 s2 ht => ?_⟩
      have s12 := s1.trans s2
      refine ⟨t, _, rfl, .inl (.inl ht), rfl, _, _, rfl, _, _, rfl, rfl, ?_⟩
      have b := small_sum m.hi ns hn
      refine go_meth rfl (F.same s12) (by decide +kernel) (by decide +kernel) ⟨_, rfl, l, ns, rfl, .inl (.inl (s12 _ _ hl)), _, rfl, ?_⟩
      refine ⟨f, p, ns.sum, 1, rfl, F.same s12, m, by omega, by omega, by omega, by omega, fun i H3 s3 i0 i1 i2 => ?_⟩
      rw [one_inv hlo i0 i1 i2, Int.mul_one]
      exact q H3 (s12.trans s3))
  intro A outer s H us vs Q E hg hr e0 r h
  obtain ⟨f, p, ns, rfl, F, m, hz, hn, q⟩ := h
  refine star A outer s H us _ Q E hg hr e0 r ⟨[.ref f], ns.map V.int, rfl, rfl, ?_, fun t nt => ?_⟩
  · rw [List.length_map]
    exact Nat.le_of_lt (small1000 hz)
  · have s0 := same_up (o := .tup (ns.map V.int)) nt
    exact ⟨f, t, p, ns, rfl, F.same s0, m, upd_same, hz, hn, fun H' s' => q H' (s0.trans s')⟩
end
end K04

namespace K04
open PySem PySem.Spec PyProof.Rows L2 Ver Num
/-! ### the pen: a dict of the script's cells, a place, a rest -/
def penL (c : Addr) (b l : Int) : List (Key × V) := [(.inr "cells", .ref c), (.inr "begun", .int b), (.inr "left", .int l)]
structure PenAt (H : Hp) (d : Addr) (k : Int) : Prop where
  ex : ∃ (c : Addr) (cells : List Int) (b l : Int), H d = some (.dK (penL c b l)) ∧ H c = some (.lst (cells.map V.int)) ∧ cells.length ≤ 63 ∧ 0 ≤ b ∧ b ≤ k ∧ 0 ≤ l
/-- all but what stands at d is kept -/
def But (d : Addr) (H H' : Hp) : Prop := ∀ b o, H b = some o → b ≠ d → H' b = some o
theorem But.refl {d : Addr} {H : Hp} : But d H H := fun _ _ e _ => e
theorem But.trans {d : Addr} {H H1 H2 : Hp} (a : But d H H1) (b : But d H1 H2) : But d H H2 := fun c o e n => b c o (a c o e n) n
theorem But.same {d : Addr} {H H1 : Hp} (s : Same H H1) : But d H H1 := fun c o e _ => s c o e
theorem but_up {d : Addr} {H : Hp} {o : HO} : But d H (upd H d o) := fun b u e n => by rw [upd_ne n]; exact e
theorem PenAt.same {H H' : Hp} {d : Addr} {k : Int} (p : PenAt H d k) (s : Same H H') : PenAt H' d k := by
  obtain ⟨c, cells, b, l, h1, h2, r⟩ := p.ex
  exact ⟨c, cells, b, l, s _ _ h1, s _ _ h2, r⟩
theorem PenAt.mono {H : Hp} {d : Addr} {j k : Int} (p : PenAt H d j) (h : j ≤ k) : PenAt H d k := by
  obtain ⟨c, cells, b, l, h1, h2, h3, h4, h5, h6⟩ := p.ex
  exact ⟨c, cells, b, l, h1, h2, h3, h4, by omega, h6⟩
theorem ks1 : ¬ (("cells" : Str) = "begun") := by decide +kernel
theorem ks2 : ¬ (("cells" : Str) = "left") := by decide +kernel
theorem ks3 : ¬ (("begun" : Str) = "left") := by decide +kernel
theorem nk {a b : Str} (h : ¬ a = b) : ¬ ((Sum.inr a : Key) = (Sum.inr b : Key)) := fun z => h (Sum.inr.inj z)
theorem pen_cells (c : Addr) (b l : Int) : valV (penL c b l) (.inr "cells") = some (.ref c) := valV_pos rfl
theorem pen_begun (c : Addr) (b l : Int) : valV (penL c b l) (.inr "begun") = some (.int b) := (valV_neg (nk ks1)).trans (valV_pos rfl)
theorem pen_left (c : Addr) (b l : Int) : valV (penL c b l) (.inr "left") = some (.int l) := (valV_neg (nk ks2)).trans ((valV_neg (nk ks3)).trans (valV_pos rfl))
theorem put_begun (c : Addr) (b l b' : Int) : putK (penL c b l) (.inr "begun") (.int b') = penL c b' l := by
  have n1 := nk ks1
  have n2 := nk (Ne.symm ks3)
  simp [putK, penL, n1, n2]
theorem put_left (c : Addr) (b l l' : Int) : putK (penL c b l) (.inr "left") (.int l') = penL c b l' := by
  have n1 := nk ks2
  have n2 := nk ks3
  simp [putK, penL, n1, n2]
theorem get_cells {H : Hp} {d c : Addr} {b l : Int} (h : H d = some (.dK (penL c b l))) : DGet H d (.str "cells") (some (.ref c)) := by
  have z := DGet.k (k := Sum.inr "cells") h
  rwa [pen_cells] at z
theorem get_begun {H : Hp} {d c : Addr} {b l : Int} (h : H d = some (.dK (penL c b l))) : DGet H d (.str "begun") (some (.int b)) := by
  have z := DGet.k (k := Sum.inr "begun") h
  rwa [pen_begun] at z
theorem get_left {H : Hp} {d c : Addr} {b l : Int} (h : H d = some (.dK (penL c b l))) : DGet H d (.str "left") (some (.int l)) := by
  have z := DGet.k (k := Sum.inr "left") h
  rwa [pen_left] at z
theorem dput_begun {H : Hp} {d c : Addr} {b l b' : Int} (h : H d = some (.dK (penL c b l))) : DPut H d (.str "begun") (.int b') (upd H d (.dK (penL c b' l))) := by
  have z := DPut.k (k := Sum.inr "begun") (v := .int b') h (by show 3 < sizeLine; decide)
  rwa [put_begun] at z
theorem dput_left {H : Hp} {d c : Addr} {b l l' : Int} (h : H d = some (.dK (penL c b l))) : DPut H d (.str "left") (.int l') (upd H d (.dK (penL c b l'))) := by
  have z := DPut.k (k := Sum.inr "left") (v := .int l') h (by show 3 < sizeLine; decide)
  rwa [put_left] at z
theorem merge_pen (c : Addr) (b l : Int) : mergeK [] (penL c b l) = penL c b l := by
  have n1 := nk ks1
  have n2 := nk ks2
  have n3 := nk ks3
  simp [mergeK, putK, penL, n1, n2, n3]
/-! ### lists of ints as data -/
theorem dp_ints {K : PySem.W.Frag} {H : Hp} : ∀ ns : List Int, DpAll K H (ns.map V.int) (ns.map PyData.int)
  | [] => .nil
  | n :: ns => .cons (.int n) (dp_ints ns)
theorem ints_depth : ∀ ns : List Int, PyData.depthAll (ns.map PyData.int) ≤ 1
  | [] => by simp [PyData.depthAll]
  | n :: ns => by
    have := ints_depth ns
    simp only [List.map_cons, PyData.depthAll, PyData.depth]
    omega
theorem ints_can : ∀ ns : List Int, PyData.canLayAll0 (ns.map PyData.int) = true
  | [] => by simp [PyData.canLayAll0]
  | n :: ns => by simp only [List.map_cons, PyData.canLayAll0, PyData.canLay0, ints_can ns, Bool.and_true]
theorem ints_shaped (ns : List Int) : SeqAt.shaped (.list (ns.map PyData.int)) = true := by
  unfold SeqAt.shaped
  have h1 := ints_depth ns
  have h2 := ints_can ns
  have e1 : (PyData.list (ns.map PyData.int)).canLay0 = true := by simp only [PyData.canLay0, h2]
  have e2 : (PyData.list (ns.map PyData.int)).depth ≤ 64 := by
    simp only [PyData.depth]
    omega
  rw [e1, decide_eq_true e2]
  rfl
theorem ints_empty : ∀ ns : List Int, PyData.eqv (.list (ns.map PyData.int)) (.list []) = decide (ns = [])
  | [] => by simp [PyData.eqv, PyData.eqvAll]
  | n :: ns => by simp [PyData.eqv, PyData.eqvAll]
end K04

namespace K04
open PySem PySem.Spec PyProof.Rows L2 Ver Num
section
variable {P : Program} {w : World} {K : PySem.W.Frag} {mg : Str → Option Value} {base : Heap}
/-! ### _law_pen -/
theorem cut_ints (ns : List Int) (lo hi : Option Int) : cutV (ns.map V.int) lo hi = ((ns.drop (HT.sIx ns.length 0 lo)).take (HT.sIx ns.length ns.length hi - HT.sIx ns.length 0 lo)).map V.int := by
  unfold cutV
  rw [List.length_map, List.map_take, List.map_drop]
def spPen (K : PySem.W.Frag) : Sp := fun vs H Q _ => ∃ (a : Addr) (ns : List Int), vs = [.ref a] ∧ SqL K H a (ns.map V.int) ∧ ns.length ≤ 63 ∧ ∀ (d : Addr) (H' : Hp), Same H H' → H d = none → PenAt H' d 0 → Q (.ref d) H'
theorem ok_pen (T : Tx K mg) : FnG P w K mg base CX0 1 (He.ga K "_law_pen") (spPen K) := by
  refine mk__law_pen T.d (fun vs H Q E h => ?_) (fun cdv A outer s H vs Q E hg hr h => ?_)
  · obtain ⟨a, ns, rfl, _⟩ := h
    rfl
  · obtain ⟨a, ns, rfl, hs, hl, q⟩ := h
    refine ⟨_, pss_one (ps_ret (pe_disp (pps_cons pe_str (pe_callTy call_list_of (by rfl) (T.z "list" (by decide +kernel)) (by decide +kernel) (pa_cons (pe_slice sl_list (pv 0) po_none (po_some pe_int)) pa_nil))
      (pps_cons pe_str pe_int (pps_cons pe_str pe_int pps_nil))) (by rfl) (by rfl) (fun z => by cases z) (by decide))), ?_⟩
    intro d nd
    have s0 := same_up (o := .dK []) nd
    refine ⟨_, rfl, 63, rfl, a, _, rfl, s0.seq hs, fun m nm => ?_⟩
    have s1 := same_up (o := .lst (cutV (ns.map V.int) none (some 63))) nm
    refine ⟨m, _, rfl, .inl (.inl (.inl upd_same)), fun c nc => ?_⟩
    have s2 := same_up (o := .lst (cutV (ns.map V.int) none (some 63))) nc
    have sa := (s0.trans s1).trans s2
    have dd : H d = none := nd
    have dm : d ≠ m := ne_of_none upd_same nm
    have dc : d ≠ c := fun z => by
      rw [← z, upd_ne dm, upd_same] at nc
      cases nc
    refine ⟨?_, penL c 0 0, rfl, by show 3 ≤ 15; decide, ?_⟩
    · rw [upd_ne dc, upd_ne dm, upd_same]
    · rw [merge_pen]
      refine q d _ (fun b o e => ?_) nd ⟨c, (ns.drop (HT.sIx ns.length 0 none)).take (HT.sIx ns.length ns.length (some 63) - HT.sIx ns.length 0 none), 0, 0, upd_same, ?_, ?_, by omega, by omega, by omega⟩
      · rw [upd_ne (ne_of_none e nd)]
        exact sa _ _ e
      · rw [upd_ne (Ne.symm dc), upd_same, cut_ints]
      · rw [List.length_take, List.length_drop]
        omega
/-! ### _law_draw -/
theorem em1 {X m : Int} (h : 0 < m) (h2 : m ≤ 2 ^ 64) : -(2 ^ 64) < X % m ∧ X % m < 2 ^ 64 := by
  have a := Int.emod_nonneg X (show m ≠ 0 by omega)
  have b := Int.emod_lt_of_pos X h
  omega
def spDraw : Sp := fun vs H Q _ => ∃ (d : Addr) (k n : Int), vs = [.ref d, .int n] ∧ PenAt H d k ∧ k < 1000000000000 ∧ 0 < n ∧ n < 1073741824 ∧
  ∀ (i : Int) (H' : Hp), But d H H' → PenAt H' d (k + 1) → 0 ≤ i → i < n → Q (.int i) H'
theorem ok_draw (T : Tx K mg) : FnG P w K mg base CX0 1 (He.ga K "_law_draw") spDraw := by
  refine mk__law_draw T.d (fun vs H Q E h => ?_) (fun cdv A outer s H vs Q E hg hr h => ?_)
  · obtain ⟨d, k, n, rfl, _⟩ := h
    rfl
  · obtain ⟨d, k, n, rfl, pen, k9, n0, n9, q⟩ := h
    have hu := hu_of hr
    have nd := sc__law_draw.nd
    have zi := T.z "int" (by decide +kernel)
    have zl := T.z "len" (by decide +kernel)
    have za := T.z "abs" (by decide +kernel)
    have bi : bootBuiltins "int" = some (.type "int") := by decide +kernel
    have bl : bootBuiltins "len" = some (.builtin "len") := by decide +kernel
    have ba : bootBuiltins "abs" = some (.builtin "abs") := by decide +kernel
    obtain ⟨c, cells, b, l, hd, hc, cl, b0, bk, l0⟩ := pen.ex
    have dc : d ≠ c := ne_of hd hc (by intro z; cases z)
    refine ⟨_, pss_cons (ps_if (pt_cmpR op_gt (pe_dget hu (pv 0) pe_str (fun _ _ => rfl)) pe_int (nomark _))
        (pss_cons (ps_set (i := 2) nd rfl (Or.inl rfl) (pe_op op_mod (pe_callTy call_int1 (by rfl) zi bi (pa_cons (pe_dget hu (pv 0) pe_str (fun _ _ => rfl)) pa_nil)) (pv 1)))
        (pss_cons (ps_dput hu (pv 0) pe_str (pe_op op_fdiv (pe_dget hu (pv 0) pe_str (fun _ _ => rfl)) (pv 1)) rfl)
        (pss_one (ps_ret (pv 2))))) pss_nil)
      (pss_cons (ps_set (i := 3) nd rfl (Or.inl rfl) (pe_dget hu (pv 0) pe_str (fun _ _ => rfl)))
      (pss_cons (ps_dput hu (pv 0) pe_str (pe_op op_add (pv 3) pe_int) rfl)
      (pss_cons (ps_set (i := 4) nd rfl (Or.inl rfl) (pe_op op_add (pe_op op_mul pe_int (pv 3)) pe_int))
      (pss_cons (ps_if (pt_cmpR (op_neD hr.units) (pe_dget hu (pv 0) pe_str (fun _ _ => rfl)) (pe_lst pa_nil) (nomark _))
        (pss_one (ps_set (i := 4) nd rfl (Or.inl rfl) (pe_ix ix_list (pe_dget hu (pv 0) pe_str (fun _ _ => rfl))
          (pe_op op_mod (pe_callTy call_int1 (by rfl) zi bi (pa_cons (pv 3) pa_nil)) (pe_callB call_len_seq (by rfl) zl bl (pa_cons (pe_dget hu (pv 0) pe_str (fun _ _ => rfl)) pa_nil))) (fun _ _ => rfl)))) pss_nil)
      (pss_cons (ps_if (PW.pt (pw_and (pt_cmpR op_lt (pv 3) (pe_callB call_len_seq (by rfl) zl bl (pa_cons (pe_dget hu (pv 0) pe_str (fun _ _ => rfl)) pa_nil)) (nomark _))
          (pw_and1 (pt_cmpR op_ge (pe_callB call_abs (by rfl) za ba (pa_cons (pv 4) pa_nil)) (pe_op op_pow pe_int pe_int) (nomark _)))))
        (pss_cons (ps_dput hu (pv 0) pe_str (pe_op op_fdiv (pe_op op_sub (pe_callB call_abs (by rfl) za ba (pa_cons (pv 4) pa_nil)) (pe_op op_pow pe_int pe_int)) (pv 1)) rfl)
        (pss_one (ps_ret (pe_op op_mod (pe_callTy call_int1 (by rfl) zi bi (pa_cons (pe_op op_sub (pe_callB call_abs (by rfl) za ba (pa_cons (pv 4) pa_nil)) (pe_op op_pow pe_int pe_int)) pa_nil)) (pv 1))))) pss_nil)
      (pss_cons (ps_set (i := 5) nd rfl (Or.inl rfl) (pe_op op_mul (pe_op op_mod (pe_callTy call_int1 (by rfl) zi bi (pa_cons (pv 4) pa_nil)) pe_int) pe_int))
      (pss_cons (ps_set (i := 6) nd rfl (Or.inl rfl) (pe_op op_mod (pe_callTy call_int1 (by rfl) zi bi (pa_cons (pe_op op_add (pe_op op_add (pv 5) (pe_op op_mul (pv 3) (pe_op op_add (pe_op op_mul pe_int (pv 3)) pe_int))) pe_int) pa_nil)) pe_int))
      (pss_cons (ps_set (i := 6) nd rfl (Or.inl rfl) (pe_op op_mod (pe_callTy call_int1 (by rfl) zi bi (pa_cons (pe_op op_add (pe_op op_add (pe_op op_add (pe_op op_mul (pv 6) (pv 6)) (pe_op op_mul pe_int (pv 6))) (pe_op op_mul pe_int (pv 3))) pe_int) pa_nil)) pe_int))
      (pss_one (ps_ret (pe_op op_mod (pe_callTy call_int1 (by rfl) zi bi (pa_cons (pe_op op_fdiv (pe_op op_mod (pe_callTy call_int1 (by rfl) zi bi (pa_cons (pe_op op_mul (pv 6) (pe_op op_add (pv 6) pe_int)) pa_nil)) pe_int) pe_int) pa_nil)) (pv 1)))))))))))), ?_⟩
    refine ⟨_, rfl, d, _, rfl, get_left hd, _, _, rfl, rfl, _, rfl, ?_⟩
    refine ite2 (fun hz => ?_) (fun hz => ?_)
    · -- the rest of a great cell
      refine ⟨_, rfl, d, _, rfl, get_left hd, .inl ⟨_, rfl, _, rfl, _, _, rfl, rfl, (by show 0 < n; omega), ?_⟩⟩
      refine ⟨_, rfl, d, _, rfl, get_left hd, _, rfl, _, _, rfl, rfl, ⟨by show 0 < n; omega, by show n < 1073741824; omega⟩, _, rfl, d, _, rfl, dput_left hd, ?_⟩
      refine ⟨_, rfl, q _ _ but_up ⟨c, cells, b, l / n, upd_same, by rw [upd_ne (Ne.symm dc)]; exact hc, cl, b0, by omega, Int.ediv_nonneg l0 (by omega)⟩ (Int.emod_nonneg _ (by omega)) (Int.emod_lt_of_pos _ n0)⟩
    · -- a new cell
      have hd1 : (upd H d (.dK (penL c (b + 1) l))) d = some (.dK (penL c (b + 1) l)) := upd_same
      have hc1 : (upd H d (.dK (penL c (b + 1) l))) c = some (.lst (cells.map V.int)) := by rw [upd_ne (Ne.symm dc)]; exact hc
      refine ⟨_, rfl, d, _, rfl, get_begun hd, ?_⟩
      refine ⟨_, rfl, _, _, rfl, rfl, _, rfl, d, _, rfl, dput_begun hd, ?_⟩
      refine ⟨_, rfl, _, _, rfl, rfl, .inl ⟨by decide, by decide⟩, _, _, rfl, rfl, ?_⟩
      refine ⟨_, rfl, d, _, rfl, get_cells hd1, Nat.zero_le _, fun z nz => ?_⟩
      have sz := same_up (o := .lst []) nz
      have hd2 := sz _ _ hd1
      have hc2 := sz _ _ hc1
      have bt : But d H (upd (upd H d (.dK (penL c (b + 1) l))) z (.lst [])) := but_up.trans (But.same sz)
      refine ⟨.list (cells.map PyData.int), .list [], .lst (SqL.of hc2) (dp_ints cells), .lst (SqL.of upd_same) .nil, ints_shaped cells, ints_shaped [], _, rfl, ?_⟩
      rw [ints_empty]
      generalize upd (upd H d (.dK (penL c (b + 1) l))) z (.lst []) = H2 at hd2 hc2 bt
      have pen2 : ∀ l' : Int, 0 ≤ l' → PenAt (upd H2 d (.dK (penL c (b + 1) l'))) d (k + 1) := fun l' z0 => ⟨c, cells, b + 1, l', upd_same, by rw [upd_ne (Ne.symm dc)]; exact hc2, cl, by omega, by omega, z0⟩
      have pen0 : PenAt H2 d (k + 1) := ⟨c, cells, b + 1, l, hd2, hc2, cl, by omega, by omega, l0⟩
      by_cases he : cells = []
      all_goals
        first
        | (refine ifF (by rw [decide_eq_true he]; rfl) ?_)
        | (have hlen : 0 < (cells.map V.int).length := by
            rw [List.length_map]
            exact List.length_pos_iff.mpr he
           have hm0 := Int.emod_nonneg b (show (((cells.map V.int).length : Nat) : Int) ≠ 0 by omega)
           have hm1 := Int.emod_lt_of_pos b (show (0 : Int) < (((cells.map V.int).length : Nat) : Int) by omega)
           obtain ⟨j, hj⟩ : ∃ j : Nat, b % (((cells.map V.int).length : Nat) : Int) = (j : Int) := ⟨(b % (((cells.map V.int).length : Nat) : Int)).toNat, by omega⟩
           have jl : j < cells.length := by
            rw [hj, List.length_map] at hm1
            omega
           have hat : atI (cells.map V.int) (b % (((cells.map V.int).length : Nat) : Int)) = some (V.int cells[j]) := by
            rw [hj]
            exact atI_nat (by rw [List.getElem?_map, List.getElem?_eq_getElem jl]; rfl)
           refine ifT (by rw [decide_eq_false he]; rfl) ?_
           refine ⟨_, rfl, d, _, rfl, get_cells hd2, _, rfl, .inl ⟨_, rfl, _, rfl, d, _, rfl, get_cells hd2, c, _, rfl, .inl (SqL.of hc2), _, _, rfl, rfl, (by show (0 : Int) < (((cells.map V.int).length : Nat) : Int); omega), c, _, _, _, rfl, rfl, SqL.of hc2, hat, ?_⟩⟩)
        refine ⟨_, rfl, _, rfl, d, _, rfl, get_cells hd2, c, _, rfl, .inl (SqL.of hc2), _, _, rfl, rfl, _, rfl, ?_⟩
        refine ite2 (fun h1 => ?_) (fun h1 => iteF ?_)
        all_goals
          first
          | (refine ⟨_, rfl, _, rfl, _, _, rfl, rfl, ⟨by decide, by decide, by decide⟩, _, _, rfl, rfl, _, rfl, ?_⟩
             refine ite2 (fun h2 => ?_) (fun h2 => ?_))
          | skip
        all_goals
          first
          | (have h3 := of_decide_eq_true h2
             refine ⟨_, rfl, _, rfl, _, _, rfl, rfl, ⟨by decide, by decide, by decide⟩, _, _, rfl, rfl, _, rfl, _, _, rfl, rfl, ⟨by show 0 < n; omega, by show n < 1073741824; omega⟩, _, rfl, d, _, rfl, dput_left hd2, ?_⟩
             refine ⟨_, rfl, _, rfl, _, _, rfl, rfl, ⟨by decide, by decide, by decide⟩, _, _, rfl, rfl, .inl ⟨_, rfl, _, rfl, _, _, rfl, rfl, (by show 0 < n; omega), ?_⟩⟩
             exact q _ _ (bt.trans but_up) (pen2 _ (Int.ediv_nonneg (Int.sub_nonneg.mpr h3) (by omega))) (Int.emod_nonneg _ (by omega)) (Int.emod_lt_of_pos _ n0))
          | (refine ⟨_, rfl, .inl ⟨_, rfl, _, _, rfl, rfl, (by show (0 : Int) < 4294967197; decide), _, _, rfl, rfl, .inr ⟨by decide, by decide⟩, ?_⟩⟩
             refine ⟨_, rfl, _, rfl, _, rfl, _, _, rfl, rfl, .inl ⟨by decide, by decide⟩, _, _, rfl, rfl, _, _, rfl, rfl, .inl ⟨by show -(2 ^ 64) < b; omega, by show b < 2 ^ 64; omega⟩, _, _, rfl, rfl, _, _, rfl, rfl, .inl ⟨_, rfl, _, _, rfl, rfl, (by show (0 : Int) < 4294967189; decide), ?_⟩⟩
             refine ⟨_, rfl, _, rfl, _, _, rfl, rfl, .inl (em1 (by decide) (by decide)), _, rfl, _, _, rfl, rfl, .inl ⟨by decide, by decide⟩, _, _, rfl, rfl, _, rfl, _, _, rfl, rfl, .inl ⟨by decide, by decide⟩, _, _, rfl, rfl, _, _, rfl, rfl, .inl ⟨_, rfl, _, _, rfl, rfl, (by show (0 : Int) < 4294967161; decide), ?_⟩⟩
             refine ⟨_, rfl, _, rfl, _, _, rfl, rfl, _, _, rfl, rfl, .inl (em1 (by decide) (by decide)), .inl ⟨_, rfl, _, _, rfl, rfl, (by show (0 : Int) < 4294967143; decide), _, _, rfl, rfl, ⟨by decide, by decide⟩, .inl ⟨_, rfl, _, rfl, _, _, rfl, rfl, (by show 0 < n; omega), ?_⟩⟩⟩
             exact q _ _ bt pen0 (Int.emod_nonneg _ (by omega)) (Int.emod_lt_of_pos _ n0))
end
end K04

namespace K04
open PySem PySem.Spec PyProof.Rows L2 Ver Num
section
variable {P : Program} {w : World} {K : PySem.W.Frag} {mg : Str → Option Value} {base : Heap}
theorem pen_ne {H : Hp} {d a : Addr} {k : Int} {xs : List V} (p : PenAt H d k) (h : H a = some (.lst xs)) : a ≠ d := by
  obtain ⟨c, cells, b, l, h1, _⟩ := p.ex
  exact ne_of h h1 (by intro z; cases z)
/-! ### _law_pick, _law_prime, _law_number -/
def spPick : Sp := fun vs H Q _ => ∃ (d a : Addr) (k : Int) (xs : List V), vs = [.ref d, .ref a] ∧ PenAt H d k ∧ k < 1000000000000 ∧ H a = some (.lst xs) ∧ 0 < xs.length ∧ xs.length < 1000 ∧
  ∀ (x : V) (H' : Hp), x ∈ xs → But d H H' → PenAt H' d (k + 1) → Q x H'
theorem ok_pick (T : Tx K mg) : FnG P w K mg base CX0 2 (He.ga K "_law_pick") spPick := by
  refine mk__law_pick T.d (fun vs H Q E h => ?_) (fun cdv A outer s H vs Q E hg hr h => ?_)
  · obtain ⟨d, a, k, xs, rfl, _⟩ := h
    rfl
  · obtain ⟨d, a, k, xs, rfl, pen, k9, ha, l0, l9, q⟩ := h
    refine ⟨_, pss_one (ps_ret (pe_ix ix_list (pv 1) (pe_callG (ok_draw T) hr hg (by rfl) (T.g "_law_draw" (by decide +kernel)) (kp__law_draw T.d) pass0
      (pa_cons (pv 0) (pa_cons (pe_callB call_len_seq (by rfl) (T.z "len" (by decide +kernel)) (by decide +kernel) (pa_cons (pv 1) pa_nil)) pa_nil))) (fun _ _ => rfl))), ?_⟩
    refine ⟨_, rfl, _, rfl, _, rfl, a, xs, rfl, .inl (SqL.of ha), d, k, _, rfl, pen, k9, by omega, by omega, fun i H1 bt pen1 i0 i1 => ?_⟩
    have ha1 := bt a _ ha (pen_ne pen ha)
    obtain ⟨j, rfl⟩ : ∃ j : Nat, i = (j : Int) := ⟨i.toNat, by omega⟩
    have jl : j < xs.length := by omega
    refine ⟨a, xs, _, xs[j], rfl, rfl, SqL.of ha1, atI_nat (List.getElem?_eq_getElem jl), q _ H1 (List.getElem_mem jl) bt pen1⟩
/-- what the text asks of a prime that it draws -/
structure Pm (p : Int) : Prop where
  md : Md p
  pr : prB Float64.isqrt p = true
  sq : Float64.isqrt p.toNat ≤ 1000000
theorem pm2 : Pm 2 := ⟨md2, by decide +kernel, by decide +kernel⟩
theorem pm3 : Pm 3 := ⟨md3, by decide +kernel, by decide +kernel⟩
theorem pm5 : Pm 5 := ⟨md5, by decide +kernel, by decide +kernel⟩
theorem pm7 : Pm 7 := ⟨md7, by decide +kernel, by decide +kernel⟩
theorem pm101 : Pm 101 := ⟨md101, by decide +kernel, by decide +kernel⟩
theorem pm1000003 : Pm 1000003 := ⟨md1000003, by decide +kernel, by decide +kernel⟩
def spPrime : Sp := fun vs H Q _ => ∃ (d : Addr) (k : Int), vs = [.ref d] ∧ PenAt H d k ∧ k < 1000000000000 ∧ ∀ (p : Int) (H' : Hp), Pm p → But d H H' → PenAt H' d (k + 1) → Q (.int p) H'
theorem ok_lprime (T : Tx K mg) : FnG P w K mg base CX0 3 (He.ga K "_law_prime") spPrime := by
  refine mk__law_prime T.d (fun vs H Q E h => ?_) (fun cdv A outer s H vs Q E hg hr h => ?_)
  · obtain ⟨d, k, rfl, _⟩ := h
    rfl
  · obtain ⟨d, k, rfl, pen, k9, q⟩ := h
    refine ⟨_, pss_one (ps_ret (pe_callG (ok_pick T) hr hg (by rfl) (T.g "_law_pick" (by decide +kernel)) (kp__law_pick T.d) pass0
      (pa_cons (pv 0) (pa_cons (pe_lst (pa_cons pe_int (pa_cons pe_int (pa_cons pe_int (pa_cons pe_int (pa_cons pe_int (pa_cons pe_int (pa_cons pe_int (pa_cons pe_int pa_nil))))))))) pa_nil)))), ?_⟩
    refine ⟨_, rfl, by show 8 ≤ sizeLine; decide, fun l nl => ?_⟩
    have s0 := same_up (o := .lst [V.int 2, V.int 2, V.int 3, V.int 3, V.int 5, V.int 7, V.int 101, V.int 1000003]) nl
    refine ⟨d, l, k, _, rfl, pen.same s0, k9, upd_same, by show 0 < 8; decide, by show 8 < 1000; decide, fun x H1 hx bt pen1 => ?_⟩
    have b := (But.same s0).trans bt
    simp only [List.mem_cons, List.not_mem_nil, or_false] at hx
    rcases hx with rfl | rfl | rfl | rfl | rfl | rfl | rfl | rfl
    · exact q _ H1 pm2 b pen1
    · exact q _ H1 pm2 b pen1
    · exact q _ H1 pm3 b pen1
    · exact q _ H1 pm3 b pen1
    · exact q _ H1 pm5 b pen1
    · exact q _ H1 pm7 b pen1
    · exact q _ H1 pm101 b pen1
    · exact q _ H1 pm1000003 b pen1
def spNumber : Sp := fun vs H Q _ => ∃ (d : Addr) (k p : Int), vs = [.ref d, .int p] ∧ PenAt H d k ∧ k < 1000000000 ∧ Md p ∧ ∀ (a : Int) (H' : Hp), 0 ≤ a → a < p → But d H H' → PenAt H' d (k + 2) → Q (.int a) H'
theorem ok_number (T : Tx K mg) : FnG P w K mg base CX0 3 (He.ga K "_law_number") spNumber := by
  refine mk__law_number T.d (fun vs H Q E h => ?_) (fun cdv A outer s H vs Q E hg hr h => ?_)
  · obtain ⟨d, k, p, rfl, _⟩ := h
    rfl
  · obtain ⟨d, k, p, rfl, pen, k9, m, q⟩ := h
    have hlo := m.lo
    have hhi := m.hi
    refine ⟨_, pss_one (ps_ret (pe_callG (ok_pick T) hr hg (by rfl) (T.g "_law_pick" (by decide +kernel)) (kp__law_pick T.d) pass0
      (pa_cons (pv 0) (pa_cons (pe_lst (pa_cons pe_int (pa_cons pe_int (pa_cons pe_int (pa_cons (pe_op op_sub (pe_callTy call_int1 (by rfl) (T.z "int" (by decide +kernel)) (by decide +kernel) (pa_cons (pv 1) pa_nil)) pe_int)
        (pa_cons (pe_callG (ok_draw T) (hr.mono (by decide)) hg (by rfl) (T.g "_law_draw" (by decide +kernel)) (kp__law_draw T.d) pass0 (pa_cons (pv 0) (pa_cons (pv 1) pa_nil))) pa_nil)))))) pa_nil)))), ?_⟩
    refine ⟨_, rfl, _, rfl, .inl ⟨_, rfl, _, _, rfl, rfl, _, rfl, _, rfl, d, k, p, rfl, pen, by omega, by omega, by omega, fun i H1 bt pen1 i0 i1 => ⟨by show 5 ≤ sizeLine; decide, fun l nl => ?_⟩⟩⟩
    have s0 := same_up (o := .lst [V.int 0, V.int 0, V.int 1, V.int (p - 1), V.int i]) nl
    refine ⟨d, l, k + 1, _, rfl, pen1.same s0, by omega, upd_same, by show 0 < 5; decide, by show 5 < 1000; decide, fun x H2 hx bt2 pen2 => ?_⟩
    have b := bt.trans ((But.same s0).trans bt2)
    have pen3 : PenAt H2 d (k + 2) := pen2.mono (by omega)
    simp only [List.mem_cons, List.not_mem_nil, or_false] at hx
    rcases hx with rfl | rfl | rfl | rfl | rfl
    · exact q _ H2 (by omega) (by omega) b pen3
    · exact q _ H2 (by omega) (by omega) b pen3
    · exact q _ H2 (by omega) (by omega) b pen3
    · exact q _ H2 (by omega) (by omega) b pen3
    · exact q _ H2 i0 i1 b pen3
end
end K04

namespace Ver
open PySem PySem.Spec PyProof.Rows L2
section
variable {X : Cx} {CX : CXT} {k : Nat} {f : Addr} {sp : Sp} {E : L2.St → XK} {m : Str} {pos apos : Pos} {e o : Expr} {es : List Expr} {t : TA} {ta : TE}
/-- o.m(e, ..), what it lets out is caught here -/
def tMethGS (K : PySem.W.Frag) (m : Str) (f : Addr) (sp : Sp) (E : L2.St → XK) (ta : TE) (t : TA) : TE := fun σ H Q => ta σ H fun x H1 => ∃ a C dx fs, x = .ref a ∧ H1 a = some (.ins C dx fs) ∧ Cls K C ∧ Meth K C m f ∧ fs.lookup m = none ∧
  t σ H1 fun vs H2 => sp (.ref a :: vs) H2 Q (E σ)
theorem pe_methGS {pl : Sem Bool} (K' : PySem.W.Frag) (hK : X.K = K') (he : PE X o ta) (hk : PySem.W.keepIn X.K (.ref f) = true) (F : FnG X.prog X.w X.K X.mg X.base CX k f sp) (hr : Room k X.A) (hgd : X.A.guards = some []) (hx : ∀ σ, PassesAt CX X σ (E σ)) (ha : PA X (e :: es) t)
    (hst : starEach (e :: es) X.env = (false, eval e X.env) :: starEach es X.env := by rfl) (hpl : (backTo pos (starEach es X.env)).any (·.1) = false := by rfl)
    (ht : eval (.Call (.Attribute o m apos) (e :: es) [] pos) X.env = (do
      let ov ← eval o X.env
      standAt apos.atName
      let (g, first) ← holding [ov] (getMethod ov m pl)
      callWith pos g first (backTo pos (starEach (e :: es) X.env)) (backToKw pos (keywordEach [] X.env))) := by rfl) :
    PE X (.Call (.Attribute o m apos) (e :: es) [] pos) (tMethGS K' m f sp E ta t) := by
  subst hK
  refine ⟨fun pins s σ H Q I h => PySem.W.methodCall_KW (pl := pl) (thn (he.run pins s σ H _ I h) fun u s1 z => ?_) ht⟩
  obtain ⟨x, H1, I1, rx, a, C, dx, fs, rfl, ea, c, hm, l, q⟩ := z
  cases (show u = Value.ref a from rx)
  refine getmeth_ok I1 ea c hm l (PySem.W.callWith_K (first := [.ref a]) (h₀ := X.base) I.ok.mod.kin hk (thn (ha.run pos pins s1 σ H1 _ I1 q) fun us s2 y => ?_) hst hpl)
  obtain ⟨vs, H2, I2, r, q2⟩ := y
  refine ⟨I2.kIn, ?_⟩
  exact wpAny_call (codeAny_mono (F X.A X.stack s2 H2 (.ref a :: us) (.ref a :: vs) Q (E σ) hgd hr I2.env0 (.cons rfl r) q2) fun rs s' hq => by
    match rs, hq with
    | .error e', hq => exact hx σ pins H2 s2 e' s' I2 hq
    | .ok (.ret u), hq => exact I2.after hq
    | .ok .next, hq => exact hq.elim
    | .ok .brk, hq => exact hq.elim
    | .ok .cont, hq => exact hq.elim)
end
end Ver
namespace K04
open PySem PySem.Spec PyProof.Rows L2 Ver Num
theorem go_methS {K : PySem.W.Frag} {σ : L2.St} {H : Hp} {f : Addr} {p : Int} {i : Nat} {Q : VK} {m : Str} {sp : Sp} {E : L2.St → XK} {t : TA} (h0 : σ[i]? = some (some (.ref f))) (F : FieldAt K H f p)
    (hm : m ∈ (["is_number", "plus", "minus", "times", "over", "total", "holds", "ratio", "product_of", "sum_of", "difference_of", "quotient_of", "common", "_check"] : List Str)) (hn : (m == ("_prime" : Str)) = false)
    (q : t σ H fun vs H2 => sp (.ref f :: vs) H2 Q (E σ)) : tMethGS K m (He.ma K (He.ga K "Field") m) sp E (tVar i) t σ H Q := by
  obtain ⟨C, dx, c, e⟩ := F
  exact ⟨.ref f, h0, f, C, dx, _, rfl, e, c.cl, c.m m hm, pf_no _ hn, q⟩
section
variable {P : Program} {w : World} {K : PySem.W.Frag} {mg : Str → Option Value} {base : Heap}
def spHasNone (K : PySem.W.Frag) : Sp := fun vs H Q _ => ∃ (f : Addr) (p a : Int), vs = [.ref f, .int a] ∧ FieldAt K H f p ∧ Md p ∧ 0 ≤ a ∧ a < p ∧ ∀ H', Same H H' → Q (.bl true) H'
theorem ok_has_none (T : Tx K mg) : FnG P w K mg base CX0 7 (He.ga K "_law_has_none") (spHasNone K) := by
  refine mk__law_has_none T.d (fun vs H Q E h => ?_) (fun cdv A outer s H vs Q E hg hr h => ?_)
  · obtain ⟨f, p, a, rfl, _⟩ := h
    rfl
  · obtain ⟨f, p, a, rfl, F, m, a0, ap, q⟩ := h
    have hlo := m.lo
    refine ⟨_, pss_cons (ps_try_only rfl rfl ⟨rfl, by decide +kernel, .inl (T.g "NoQuotient" (by decide +kernel))⟩ takes0
        (fun W pn xe tk _ => pss_one (ps_expr (pe_methGS K rfl (E := WE W) (pv 0) (kp_Field_over T.d) (ok_over T) hr hg (passAt tk) (pa_cons (pv 1) (pa_cons pe_int pa_nil)))))
        (fun a oe cls d pn _ _ => pss_one (ps_ret pe_bl)))
      (pss_one (ps_ret pe_bl)), ?_⟩
    refine go_methS rfl F (by decide +kernel) (by decide +kernel) ⟨_, rfl, f, p, a, 0, rfl, F, m, a0, ap, by omega, by omega, fun _ H' s' => ⟨true, T.te, fun _ b hb => q H' s', fun z => nomatch z⟩, fun z => absurd rfl z⟩
end
end K04

namespace Ver
open PySem PySem.Spec PyProof.Rows L2
/-! ### lists of ints, shown -/
theorem textFrom_up : ∀ (ts : List Str) (k : Nat) (acc : Str), (textFrom k acc ts).length ≤ acc.length + piled ts
  | [], _, acc => by show acc.length ≤ acc.length + 0; omega
  | t :: r, k, acc => by
    have ih := textFrom_up r (k + 1) (acc ++ (if k > 0 then ", " else "" : String) ++ t)
    have e : (acc ++ (if k > 0 then ", " else "" : String) ++ t).length ≤ acc.length + 2 + t.length := by
      rw [strLen_append, strLen_append]
      by_cases h : k > 0
      · rw [if_pos h]
        exact Nat.le_refl _
      · rw [if_neg h]
        show acc.length + 0 + t.length ≤ _
        omega
    show (textFrom (k + 1) _ r).length ≤ _
    rw [piled_cons]
    omega
def Small (ns : List Int) : Prop := ∀ n ∈ ns, n.natAbs.log2 < 100
theorem ints_showable : ∀ ns : List Int, Small ns → PyData.showableAll (ns.map PyData.int) = true
  | [], _ => by simp [PyData.showableAll]
  | n :: ns, h => by
    have h1 := h n List.mem_cons_self
    simp only [List.map_cons, PyData.showableAll, PyData.showable, ints_showable ns fun x hx => h x (List.mem_cons_of_mem _ hx), Bool.and_true]
    exact decide_eq_true (by omega)
theorem ints_piled : ∀ ns : List Int, Small ns → piled (PyData.shownAll (ns.map PyData.int)) ≤ 103 * ns.length
  | [], _ => by simp [PyData.shownAll, piled]
  | n :: ns, h => by
    have h1 := h n List.mem_cons_self
    have ih := ints_piled ns fun x hx => h x (List.mem_cons_of_mem _ hx)
    have e := int_text_length_le (k := 100) (by decide) h1
    simp only [List.map_cons, PyData.shownAll, PyData.shown, List.length_cons]
    rw [piled_cons]
    have e2 : (Str.ofString (toString n)).length ≤ 101 := by
      rw [PySem.ofString_length]
      exact e
    show (Str.ofString (toString n)).length + 2 + _ ≤ _
    omega
theorem ints_shown {ns : List Int} (h : Small ns) (hl : ns.length ≤ 1000) : (PyData.list (ns.map PyData.int)).showable = true ∧ (PyData.list (ns.map PyData.int)).shown.length ≤ sizeLine := by
  refine ⟨by simp only [PyData.showable, ints_showable ns h], ?_⟩
  have e1 := textFrom_up (PyData.shownAll (ns.map PyData.int)) 0 "["
  have e2 := ints_piled ns h
  have e3 : (listText (PyData.shownAll (ns.map PyData.int))).length = (textFrom 0 "[" (PyData.shownAll (ns.map PyData.int))).length + 1 := by
    show (textFrom 0 "[" _ ++ "]").length = _
    rw [strLen_append]
    rfl
  have e4 : ("[" : Str).length = 1 := rfl
  simp only [PyData.shown]
  rw [e3, sizeLine_eq]
  omega
theorem small_of {n : Int} (h0 : -(2 ^ 64) < n) (h1 : n < 2 ^ 64) : n.natAbs.log2 < 100 := by
  by_cases z : n.natAbs = 0
  · rw [z]; decide
  · exact (Nat.log2_lt z).mpr (by omega)
end Ver
namespace K04
open PySem PySem.Spec PyProof.Rows L2 Ver Num
theorem ints_depth2 (ns : List Int) : (PyData.list (ns.map PyData.int)).depth ≤ 60 := by
  have := ints_depth ns
  simp only [PyData.depth]
  omega
section
variable {P : Program} {w : World} {K : PySem.W.Frag} {mg : Str → Option Value} {base : Heap}
/-- repr of a list of small ints that stands at a: what the call wants -/
theorem r_repr {H : Hp} {a : Addr} (ns : List Int) (h : H a = some (.lst (ns.map V.int))) (hs : Small ns) (hl : ns.length ≤ 1000) :
    Dp K H (.ref a) (.list (ns.map PyData.int)) ∧ (PyData.list (ns.map PyData.int)).showable = true ∧ (PyData.list (ns.map PyData.int)).shown.length ≤ sizeLine ∧ (PyData.list (ns.map PyData.int)).depth ≤ 60 :=
  ⟨.lst (SqL.of h) (dp_ints ns), (ints_shown hs hl).1, (ints_shown hs hl).2, ints_depth2 ns⟩
theorem iStr (a b : Str) : decide (V.str a = V.str b) = decide (a = b) := by
  by_cases h : a = b
  · rw [decide_eq_true h, decide_eq_true (by rw [h])]
  · rw [decide_eq_false h, decide_eq_false fun z => h (V.str.inj z)]
theorem small3 {p a b c : Int} (m : Md p) : Small [a % p, b % p, c % p] := fun n hn => by
  have hlo := m.lo
  have hhi := m.hi
  have f : ∀ x : Int, (x % p).natAbs.log2 < 100 := fun x => by
    have h0 := Int.emod_nonneg x (show p ≠ 0 by omega)
    have h1 := Int.emod_lt_of_pos x (show 0 < p by omega)
    exact small_of (by omega) (by omega)
  simp only [List.mem_cons, List.not_mem_nil, or_false] at hn
  rcases hn with rfl | rfl | rfl <;> exact f _
def spPair (K : PySem.W.Frag) : Sp := fun vs H Q _ => ∃ (f : Addr) (p a b : Int), vs = [.ref f, .int p, .int a, .int b] ∧ FieldAt K H f p ∧ Md p ∧ 0 ≤ a ∧ a < p ∧ 0 ≤ b ∧ b < p ∧ ∀ H', Same H H' → Q (.bl true) H'
theorem ok_pair (T : Tx K mg) : FnG P w K mg base CX0 8 (He.ga K "_law_pair_right") (spPair K) := by
  refine mk__law_pair_right T.d (fun vs H Q E h => ?_) (fun cdv A outer s H vs Q E hg hr h => ?_)
  · obtain ⟨f, p, a, b, rfl, _⟩ := h
    rfl
  · obtain ⟨f, p, a, b, rfl, F, m, a0, ap, b0, bp, q⟩ := h
    have hlo := m.lo
    have hhi := m.hi
    obtain ⟨c0, c1⟩ := prod_bound hhi a0 ap b0 bp
    have nd := sc__law_pair_right.nd
    have zi := T.z "int" (by decide +kernel)
    have bi : bootBuiltins "int" = some (.type "int") := by decide +kernel
    have zr := T.z "repr" (by decide +kernel)
    have br : bootBuiltins "repr" = some (.builtin "repr") := by decide +kernel
    refine ⟨_, pss_cons (ps_set (i := 4) nd rfl (Or.inl rfl) (pe_lst
        (pa_cons (pe_op op_mod (pe_callTy call_int1 (by rfl) zi bi (pa_cons (pe_op op_add (pv 2) (pv 3)) pa_nil)) (pv 1))
        (pa_cons (pe_op op_mod (pe_callTy call_int1 (by rfl) zi bi (pa_cons (pe_op op_sub (pv 2) (pv 3)) pa_nil)) (pv 1))
        (pa_cons (pe_op op_mod (pe_callTy call_int1 (by rfl) zi bi (pa_cons (pe_op op_mul (pv 2) (pv 3)) pa_nil)) (pv 1)) pa_nil)))))
      (pss_cons (ps_if (pt_cmpR op_ne (pe_callB (call_repr hg hr.units) (by rfl) zr br (pa_cons (pe_lst
          (pa_cons (pe_methG (pv 0) (kp_Field_plus T.d) (ok_plus T) (hr.mono (by decide)) hg pass0 (pa_cons (pv 2) (pa_cons (pv 3) pa_nil)))
          (pa_cons (pe_methG (pv 0) (kp_Field_minus T.d) (ok_minus T) (hr.mono (by decide)) hg pass0 (pa_cons (pv 2) (pa_cons (pv 3) pa_nil)))
          (pa_cons (pe_methG (pv 0) (kp_Field_times T.d) (ok_times T) (hr.mono (by decide)) hg pass0 (pa_cons (pv 2) (pa_cons (pv 3) pa_nil))) pa_nil)))) pa_nil))
        (pe_callB (call_repr hg hr.units) (by rfl) zr br (pa_cons (pv 4) pa_nil)) (nomark _)) (pss_one (ps_ret pe_bl)) pss_nil)
      (pss_cons (ps_if (pt_cmpR op_eq (pv 3) pe_int (nomark _)) (pss_one (ps_ret (pe_callG (ok_has_none T) hr hg (by rfl) (T.g "_law_has_none" (by decide +kernel)) (kp__law_has_none T.d) pass0 (pa_cons (pv 0) (pa_cons (pv 2) pa_nil))))) pss_nil)
      (pss_cons (ps_set (i := 5) nd rfl (Or.inl rfl) (pe_methG (pv 0) (kp_Field_over T.d) (ok_over T) (hr.mono (by decide)) hg passL (pa_cons (pv 2) (pa_cons (pv 3) pa_nil))))
      (pss_one (ps_ret (pe_and (pe_methG (pv 0) (kp_Field_is_number T.d) (ok_is_number T) (hr.mono (by decide)) hg pass0 (pa_cons (pv 5) pa_nil))
        (pe_one (pe_cmpR op_eq (pe_op op_mod (pe_callTy call_int1 (by rfl) zi bi (pa_cons (pe_op op_mul (pv 5) (pv 3)) pa_nil)) (pv 1)) (pv 2) (nomark _))))))))), ?_⟩
    refine ⟨_, rfl, _, rfl, _, _, rfl, rfl, .inl ⟨_, rfl, _, rfl, _, _, rfl, rfl, (by show 0 < p; omega), ?_⟩⟩
    refine ⟨_, rfl, _, rfl, _, _, rfl, rfl, .inl ⟨_, rfl, _, rfl, _, _, rfl, rfl, (by show 0 < p; omega), ?_⟩⟩
    refine ⟨_, rfl, _, rfl, _, _, rfl, rfl, .inl ⟨by show -(2 ^ 64) < a; omega, by show a < 2 ^ 64; omega⟩, .inl ⟨_, rfl, _, rfl, _, _, rfl, rfl, (by show 0 < p; omega), by show 3 ≤ sizeLine; decide, fun u nu => ?_⟩⟩
    have s0 := same_up (o := .lst [V.int ((a + b) % p), V.int ((a - b) % p), V.int ((a * b) % p)]) nu
    have hu : upd H u (.lst [V.int ((a + b) % p), V.int ((a - b) % p), V.int ((a * b) % p)]) u = some (.lst ([(a + b) % p, (a - b) % p, (a * b) % p].map V.int)) := upd_same
    generalize upd H u (.lst [V.int ((a + b) % p), V.int ((a - b) % p), V.int ((a * b) % p)]) = H0 at s0 hu
    refine ?_
    refine go_meth rfl (F.same s0) (by decide +kernel) (by decide +kernel) ⟨_, rfl, _, rfl, f, p, a, b, rfl, F.same s0, m, a0, ap, b0, bp, fun H1 s1 => ?_⟩
    have t1 := s0.trans s1
    refine go_meth rfl (F.same t1) (by decide +kernel) (by decide +kernel) ⟨_, rfl, _, rfl, f, p, a, b, rfl, F.same t1, m, a0, ap, b0, bp, fun H2 s2 => ?_⟩
    have t2 := t1.trans s2
    refine go_meth rfl (F.same t2) (by decide +kernel) (by decide +kernel) ⟨_, rfl, _, rfl, f, p, a, b, rfl, F.same t2, m, a0, ap, b0, bp, fun H3 s3 => ⟨by show 3 ≤ sizeLine; decide, fun v nv => ?_⟩⟩
    have s4 := same_up (o := .lst [V.int ((a + b) % p), V.int ((a - b) % p), V.int ((a * b) % p)]) nv
    have t4 := (t2.trans s3).trans s4
    have hu4 := s4 _ _ (s3 _ _ (s2 _ _ (s1 _ _ hu)))
    obtain ⟨x1, x2, x3, x4⟩ := r_repr (K := K) [(a + b) % p, (a - b) % p, (a * b) % p] (upd_same (H := H3) (a := v)) (small3 m) (by show 3 ≤ 1000; decide)
    refine ⟨_, _, rfl, x1, x2, x3, x4, _, rfl, ?_⟩
    obtain ⟨y1, y2, y3, y4⟩ := r_repr (K := K) [(a + b) % p, (a - b) % p, (a * b) % p] hu4 (small3 m) (by show 3 ≤ 1000; decide)
    refine ⟨_, _, rfl, y1, y2, y3, y4, rfl, _, rfl, ?_⟩
    refine ifF (by rw [decide_eq_true rfl]; rfl) ⟨_, rfl, rfl, _, rfl, ?_⟩
    rw [iEq]
    by_cases e : b = 0
    · exact ifT (decide_eq_true e) ⟨_, rfl, _, rfl, f, p, a, rfl, F.same t4, m, a0, ap, fun H5 s5 => q H5 (t4.trans s5)⟩
    · refine ifF (decide_eq_false e) (go_meth rfl (F.same t4) (by decide +kernel) (by decide +kernel) ⟨_, rfl, _, rfl, f, p, a, b, rfl, F.same t4, m, a0, ap, b0, bp, fun z => absurd z e, fun _ i H5 s5 i0 i1 i2 => ?_⟩)
      have t5 := t4.trans s5
      have o0 := Int.emod_nonneg (a * i) (show p ≠ 0 by omega)
      have o1 := Int.emod_lt_of_pos (a * i) (show 0 < p by omega)
      refine go_meth rfl (F.same t5) (by decide +kernel) (by decide +kernel) ⟨_, rfl, f, p, a * i % p, rfl, F.same t5, hhi, o0, o1, fun H6 s6 => ⟨_, rfl, ifT rfl ?_⟩⟩
      refine ⟨_, rfl, _, rfl, _, _, rfl, rfl, .inl ⟨by show -(2 ^ 64) < a * i % p; omega, by show a * i % p < 2 ^ 64; omega⟩, .inl ⟨_, rfl, _, rfl, _, _, rfl, rfl, (by show 0 < p; omega), _, rfl, rfl, ?_⟩⟩
      rw [iEq]
      have ob : a * i % p * b % p = a := by
        refine over_back ⟨a0, ap⟩ ?_
        rw [i2, Int.emod_eq_of_lt (by decide) (by omega)]
      rw [decide_eq_true ob]
      exact q H6 (t5.trans s6)
end
end K04

namespace K04
open PySem PySem.Spec PyProof.Rows L2 Ver Num
theorem made_same {H : Hp} {x dx : Addr} {o1 o2 o3 : HO} (hx : H x = none) (hd : H dx = none) : Same H (upd (upd (upd H dx o1) x o2) x o3) := fun b o e => by
  rw [upd_ne (ne_of_none e hx), upd_ne (ne_of_none e hx), upd_ne (ne_of_none e hd)]
  exact e
theorem FieldAt.but {K : PySem.W.Frag} {H H' : Hp} {f d : Addr} {p k : Int} (F : FieldAt K H f p) (pen : PenAt H d k) (b : But d H H') : FieldAt K H' f p := by
  obtain ⟨C, dx, c, e⟩ := F
  obtain ⟨cc, cells, b1, l, h1, _⟩ := pen.ex
  exact ⟨C, dx, c, b _ _ e (ne_of e h1 (by intro z; cases z))⟩
section
variable {P : Program} {w : World} {K : PySem.W.Frag} {mg : Str → Option Value} {base : Heap}
theorem sums3 {p a b c : Int} (c0 : 0 ≤ c) (cp : c < p) : [([] : List Int).sum % p, [c].sum % p, [a, b, c].sum % p] = [0, c, (a + b + c) % p] := by
  have e1 : ([] : List Int).sum % p = 0 := by
    show (0 : Int) % p = 0
    exact Int.zero_emod p
  have e2 : [c].sum % p = c := by
    rw [List.sum_cons, List.sum_nil, Int.add_zero]
    exact Int.emod_eq_of_lt c0 cp
  have e3 : [a, b, c].sum = a + b + c := by
    rw [List.sum_cons, List.sum_cons, List.sum_cons, List.sum_nil]
    omega
  rw [e1, e2, e3]
def spLaw (K : PySem.W.Frag) : Sp := fun vs H Q _ => ∃ (a : Addr) (ns : List Int), vs = [.ref a] ∧ SqL K H a (ns.map V.int) ∧ ns.length ≤ 63 ∧ ∀ H', Q (.bl true) H'
theorem ok_law (T : Tx K mg) : FnG P w K mg base CX0 9 (He.ga K "law") (spLaw K) := by
  refine mk_law T.d (fun vs H Q E h => ?_) (fun cdv A outer s H vs Q E hg hr h => ?_)
  · obtain ⟨a, ns, rfl, _⟩ := h
    rfl
  · obtain ⟨a, ns, rfl, hs, hl, q⟩ := h
    have nd := sc_law.nd
    have zi := T.z "int" (by decide +kernel)
    have bi : bootBuiltins "int" = some (.type "int") := by decide +kernel
    have zr := T.z "repr" (by decide +kernel)
    have br : bootBuiltins "repr" = some (.builtin "repr") := by decide +kernel
    have zg := T.z "range" (by decide +kernel)
    have gd := T.g "_law_draw" (by decide +kernel)
    have gm := T.g "Modulo" (by decide +kernel)
    have gp := T.g "_law_pair_right" (by decide +kernel)
    refine ⟨_, pss_cons (ps_set (i := 1) nd rfl (Or.inl rfl) (pe_callG (ok_pen T) (hr.mono (by decide)) hg (by rfl) (T.g "_law_pen" (by decide +kernel)) (kp__law_pen T.d) pass0 (pa_cons (pv 0) pa_nil)))
      (pss_cons (ps_set (i := 2) nd rfl (Or.inl rfl) (pe_callG (ok_pick T) (hr.mono (by decide)) hg (by rfl) (T.g "_law_pick" (by decide +kernel)) (kp__law_pick T.d) pass0
        (pa_cons (pv 1) (pa_cons (pe_lst (pa_cons pe_int (pa_cons pe_int (pa_cons pe_int (pa_cons pe_int pa_nil))))) pa_nil))))
      (pss_cons (ps_set (i := 3) nd rfl (Or.inl rfl) (pe_makeG T.mkM (ok_minit T) (hr.mono (by decide)) hg (by rfl) gm pass0 (pa_cons (pv 2) pa_nil)))
      (pss_cons (ps_if (pt_not (pt_val (pe_callB call_isi (by rfl) (T.z "isinstance" (by decide +kernel)) (by decide +kernel) (pa_cons (pv 3) (pa_cons (pe_glob (v := .ref (He.ga K "Field")) (by rfl) (T.g "Field" (by decide +kernel)) rfl) pa_nil))))) pss_never pss_nil)
      (pss_cons (ps_for PassesOwn.never rfl (pi_range1 (by rfl) zg (pa_cons (pv 2) pa_nil)) (pg_name (i := 4) nd rfl (.inl rfl))
        (pss_one (ps_for PassesOwn.never rfl (pi_range1 (by rfl) zg (pa_cons (pv 2) pa_nil)) (pg_name (i := 5) nd rfl (.inl rfl))
          (pss_one (ps_if (pt_not (pt_val (pe_callG (ok_pair T) hr hg (by rfl) gp (kp__law_pair_right T.d) pass0 (pa_cons (pv 3) (pa_cons (pv 2) (pa_cons (pv 4) (pa_cons (pv 5) pa_nil))))))) pss_never pss_nil)))))
      (pss_cons (ps_for PassesOwn.never rfl (pi_range1 (by rfl) zg (pa_cons pe_int pa_nil)) (pg_name (i := 6) nd rfl (.inl rfl))
        (pss_cons (ps_set (i := 7) nd rfl (Or.inl rfl) (pe_callG (ok_lprime T) (hr.mono (by decide)) hg (by rfl) (T.g "_law_prime" (by decide +kernel)) (kp__law_prime T.d) pass0 (pa_cons (pv 1) pa_nil)))
        (pss_cons (ps_par3 (i := 3) (j := 4) (l := 5) rfl nd rfl rfl rfl (by decide) (by decide) (by decide) rfl rfl rfl
          (pa_cons (pe_makeG T.mkM (ok_minit T) (hr.mono (by decide)) hg (by rfl) gm pass0 (pa_cons (pv 7) pa_nil))
          (pa_cons (pe_callG (ok_draw T) (hr.mono (by decide)) hg (by rfl) gd (kp__law_draw T.d) pass0 (pa_cons (pv 1) (pa_cons (pv 7) pa_nil)))
          (pa_cons (pe_callG (ok_number T) (hr.mono (by decide)) hg (by rfl) (T.g "_law_number" (by decide +kernel)) (kp__law_number T.d) pass0 (pa_cons (pv 1) (pa_cons (pv 7) pa_nil))) pa_nil))) (by rfl))
        (pss_cons (ps_if (pt_not (pt_val (pe_callG (ok_pair T) hr hg (by rfl) gp (kp__law_pair_right T.d) pass0 (pa_cons (pv 3) (pa_cons (pv 7) (pa_cons (pv 4) (pa_cons (pv 5) pa_nil))))))) pss_never pss_nil)
        (pss_cons (ps_set (i := 8) nd rfl (Or.inl rfl) (pe_callG (ok_draw T) (hr.mono (by decide)) hg (by rfl) gd (kp__law_draw T.d) pass0 (pa_cons (pv 1) (pa_cons (pv 7) pa_nil))))
        (pss_one (ps_if (pt_cmpR op_ne (pe_callB (call_repr hg hr.units) (by rfl) zr br (pa_cons (pe_lst
            (pa_cons (pe_methG0 (pv 3) (kp_Field_total T.d) (ok_total T) (hr.mono (by decide)) hg pass0)
            (pa_cons (pe_methG (pv 3) (kp_Field_total T.d) (ok_total T) (hr.mono (by decide)) hg pass0 (pa_cons (pv 8) pa_nil))
            (pa_cons (pe_methG (pv 3) (kp_Field_total T.d) (ok_total T) (hr.mono (by decide)) hg pass0 (pa_cons (pv 4) (pa_cons (pv 5) (pa_cons (pv 8) pa_nil)))) pa_nil)))) pa_nil))
          (pe_callB (call_repr hg hr.units) (by rfl) zr br (pa_cons (pe_lst (pa_cons pe_int (pa_cons (pv 8) (pa_cons (pe_op op_mod (pe_callTy call_int1 (by rfl) zi bi (pa_cons (pe_op op_add (pe_op op_add (pv 4) (pv 5)) (pv 8)) pa_nil)) (pv 7)) pa_nil)))) pa_nil)) (nomark _)) pss_never pss_nil)))))))
      (pss_one (ps_ret pe_bl))))))), ?_⟩
    refine ⟨_, rfl, a, ns, rfl, hs, hl, fun d H1 s1 hd pen1 => ?_⟩
    refine ⟨_, rfl, by show 4 ≤ sizeLine; decide, fun l nl => ?_⟩
    have s2 := same_up (o := .lst [V.int 2, V.int 3, V.int 5, V.int 7]) nl
    refine ⟨d, l, 0, _, rfl, pen1.same s2, by decide, upd_same, by show 0 < 4; decide, by show 4 < 1000; decide, fun x H3 hx bt3 pen3 => ?_⟩
    obtain ⟨p, rfl, pm, p7⟩ : ∃ p : Int, x = .int p ∧ Pm p ∧ p ≤ 7 := by
      simp only [List.mem_cons, List.not_mem_nil, or_false] at hx
      rcases hx with rfl | rfl | rfl | rfl
      · exact ⟨2, rfl, pm2, by decide⟩
      · exact ⟨3, rfl, pm3, by decide⟩
      · exact ⟨5, rfl, pm5, by decide⟩
      · exact ⟨7, rfl, pm7, by decide⟩
    have hlo := pm.md.lo
    refine ⟨_, rfl, fun f dx nf nx ne => ⟨f, dx, p, rfl, pm.pr, pm.sq, upd_same, rfl, ?_⟩⟩
    have s4 := made_same (o1 := .own f) (o2 := .ins (He.ga K "Modulo") dx []) (o3 := .ins (He.ga K "Modulo") dx [(("_prime" : Str), V.int p)]) nf nx
    have hf : (upd (upd (upd H3 dx (.own f)) f (.ins (He.ga K "Modulo") dx [])) f (.ins (He.ga K "Modulo") dx [(("_prime" : Str), V.int p)])) f = some (.ins (He.ga K "Modulo") dx [(("_prime" : Str), V.int p)]) := upd_same
    have F : FieldAt K _ f p := ⟨_, dx, T.fc, hf⟩
    have pen4 : PenAt _ d 1 := (pen3.same s4).mono (by decide)
    refine ⟨_, rfl, _, _, _, _, true, rfl, .own _, .base (.ins upd_same T.fc.cl T.clM T.clS T.clT T.clO), T.isF, _, rfl, ifF rfl ?_⟩
    refine ⟨_, rfl, _, rfl, by omega, by omega, ?_⟩
    refine for_range (lo := 0) (fun i σ H' => ∃ v4 v5 : Option V, Same (upd (upd (upd H3 dx (.own f)) f (.ins (He.ga K "Modulo") dx [])) f (.ins (He.ga K "Modulo") dx [(("_prime" : Str), V.int p)])) H' ∧ σ = [some (.ref a), some (.ref d), some (.int p), some (.ref f), v4, v5, none, none, none]) ⟨none, none, Same.refl _, rfl⟩ ?_ ?_
    · rintro i σ H5 hi ⟨v4, v5, s5, rfl⟩
      refine ⟨_, rfl, _, rfl, by omega, by omega, ?_⟩
      refine for_range (lo := 0) (fun j σ H' => ∃ v5 : Option V, Same (upd (upd (upd H3 dx (.own f)) f (.ins (He.ga K "Modulo") dx [])) f (.ins (He.ga K "Modulo") dx [(("_prime" : Str), V.int p)])) H' ∧ σ = [some (.ref a), some (.ref d), some (.int p), some (.ref f), some (.int (0 + (i : Int))), v5, none, none, none]) ⟨v5, s5, rfl⟩ ?_ ?_
      · rintro j σ H6 hj ⟨v5', s6, rfl⟩
        refine ⟨_, rfl, _, rfl, _, rfl, _, rfl, f, p, 0 + (i : Int), 0 + (j : Int), rfl, F.same s6, pm.md, by omega, by omega, by omega, by omega, fun H7 s7 => ⟨_, rfl, ifF rfl ?_⟩⟩
        exact ⟨_, s6.trans s7, rfl⟩
      · rintro σ H6 ⟨v5', s6, rfl⟩
        exact ⟨_, _, s6, rfl⟩
    · rintro σ H5 ⟨v4, v5, s5, rfl⟩
      refine ⟨_, rfl, by decide, by decide, ?_⟩
      refine for_range (lo := 0) (fun i σ H' => ∃ v3 v4 v5 v6 v7 v8 : Option V, PenAt H' d (1 + 5 * (i : Int)) ∧ σ = [some (.ref a), some (.ref d), some (.int p), v3, v4, v5, v6, v7, v8]) ⟨_, _, _, _, _, _, (pen4.same s5).mono (by omega), rfl⟩ ?_ ?_
      · rintro i σ H6 hi ⟨v3, v4, v5, v6, v7, v8, pen6, rfl⟩
        have hi20 : i < 20 := hi
        refine ⟨_, rfl, d, _, rfl, pen6, by omega, fun r H7 pr bt7 pen7 => ?_⟩
        have rlo := pr.md.lo
        have rhi := pr.md.hi
        refine ⟨_, rfl, fun g dy ng ny ne2 => ⟨g, dy, r, rfl, pr.pr, pr.sq, upd_same, rfl, ?_⟩⟩
        have s8 := made_same (o1 := .own g) (o2 := .ins (He.ga K "Modulo") dy []) (o3 := .ins (He.ga K "Modulo") dy [(("_prime" : Str), V.int r)]) ng ny
        have hg8 : (upd (upd (upd H7 dy (.own g)) g (.ins (He.ga K "Modulo") dy [])) g (.ins (He.ga K "Modulo") dy [(("_prime" : Str), V.int r)])) g = some (.ins (He.ga K "Modulo") dy [(("_prime" : Str), V.int r)]) := upd_same
        have F8 : FieldAt K _ g r := ⟨_, dy, T.fc, hg8⟩
        have pen8 := pen7.same s8
        refine ⟨_, rfl, _, rfl, d, _, r, rfl, pen8, by omega, by omega, by omega, fun x H9 bt9 pen9 x0 x1 => ?_⟩
        have F9 := F8.but pen8 bt9
        refine ⟨_, rfl, _, rfl, d, _, r, rfl, pen9, by omega, pr.md, fun y H10 y0 y1 bt10 pen10 => ⟨_, _, _, rfl, ?_⟩⟩
        have F10 := F9.but pen9 bt10
        refine ⟨_, rfl, _, rfl, _, rfl, _, rfl, g, r, x, y, rfl, F10, pr.md, x0, x1, y0, y1, fun H11 s11 => ⟨_, rfl, ifF rfl ?_⟩⟩
        have F11 := F10.same s11
        have pen11 := pen10.same s11
        refine ⟨_, rfl, _, rfl, d, _, r, rfl, pen11, by omega, by omega, by omega, fun z H12 bt12 pen12 z0 z1 => ?_⟩
        have F12 := F11.but pen11 bt12
        refine go_meth rfl F12 (by decide +kernel) (by decide +kernel) ⟨g, r, [], rfl, F12, pr.md, by decide, (fun n hn => by cases hn), fun H13 s13 => ?_⟩
        refine go_meth rfl (F12.same s13) (by decide +kernel) (by decide +kernel) ⟨_, rfl, g, r, [z], rfl, F12.same s13, pr.md, (by show 1 ≤ 1000; decide), (fun n hn => by rw [List.mem_singleton.mp hn]; exact ⟨z0, z1⟩), fun H14 s14 => ?_⟩
        have t14 := s13.trans s14
        refine go_meth rfl (F12.same t14) (by decide +kernel) (by decide +kernel) ⟨_, rfl, _, rfl, _, rfl, g, r, [x, y, z], rfl, F12.same t14, pr.md, (by show 3 ≤ 1000; decide), (fun n hn => by
            simp only [List.mem_cons, List.not_mem_nil, or_false] at hn
            rcases hn with rfl | rfl | rfl
            · exact ⟨x0, x1⟩
            · exact ⟨y0, y1⟩
            · exact ⟨z0, z1⟩), fun H15 s15 => ⟨by show 3 ≤ sizeLine; decide, fun u nu => ?_⟩⟩
        have es := sums3 (p := r) (a := x) (b := y) (c := z) z0 z1
        have sm : Small [([] : List Int).sum % r, [z].sum % r, [x, y, z].sum % r] := small3 pr.md
        obtain ⟨x1', x2', x3', x4'⟩ := r_repr (K := K) [([] : List Int).sum % r, [z].sum % r, [x, y, z].sum % r] (upd_same (H := H15) (a := u)) sm (by show 3 ≤ 1000; decide)
        refine ⟨_, _, rfl, x1', x2', x3', x4', _, rfl, _, rfl, _, rfl, _, _, rfl, rfl, _, rfl, _, _, rfl, rfl, .inl ⟨_, rfl, _, rfl, _, _, rfl, rfl, (by show 0 < r; omega), by show 3 ≤ sizeLine; decide, fun v nv => ?_⟩⟩
        obtain ⟨y1', y2', y3', y4'⟩ := r_repr (K := K) [0, z, (x + y + z) % r] (upd_same (H := upd H15 u _) (a := v)) (by rw [← es]; exact sm) (by show 3 ≤ 1000; decide)
        refine ⟨_, _, rfl, y1', y2', y3', y4', rfl, _, rfl, ifF ?_ ?_⟩
        · rw [es, decide_eq_true rfl]
          rfl
        · exact ⟨_, _, _, _, _, _, (pen12.same (((t14.trans s15).trans (same_up nu)).trans (same_up nv))).mono (by omega), rfl⟩
      · rintro σ H6 ⟨v3, v4, v5, v6, v7, v8, pen6, rfl⟩
        exact q H6
end
end K04

namespace K04
open PySem PySem.Spec PyProof.Rows L2 Ver Num
/-! ### the head: what it tells -/
abbrev R : PySem.W.OpenRow := PySem.W.OpenLaw.row PySem.Challenge.rw_firstanswers_k04_whole_sums_modulo_prime
def ads (g : Addr → Option Obj) : List Addr := (PySem.cStatics :: He.asD g 5).eraseDups
def KF (g : Addr → Option Obj) : PySem.W.Frag := He.frG g (ads g)
def fms : List Str := ["is_number", "plus", "minus", "times", "over", "total", "holds", "ratio", "product_of", "sum_of", "difference_of", "quotient_of", "common", "_check"]
def fcls (K : PySem.W.Frag) (C a : Addr) (m : Str) : Bool := match PySem.W.findCls K (.ref C) (.type "type") m with
  | some (.val (.ref b)) => decide (b = a)
  | _ => false
theorem fcls_ok {K : PySem.W.Frag} {C a : Addr} {m : Str} (h : fcls K C a m = true) : PySem.W.findCls K (.ref C) (.type "type") m = some (.val (.ref a)) := by
  unfold fcls at h
  split at h
  · rename_i b e
    rw [e, of_decide_eq_true h]
  · cases h
def x1 (K : PySem.W.Frag) : List Bool := [(He.Fa.int "FIRST_LONG" FL).ok K, (He.Fa.int "GREATEST_PRIME" 1000000000).ok K, He.eqO (PySem.W.nsIn K mainGlobals "isqrt") (some (some (.builtin "math.isqrt"))),
  (He.Fa.cls "Modulo").ok K, (He.Fa.noat "Modulo" "_prime").ok K,
  fms.all fun m => He.eqO (PySem.W.findIn K (.ref (He.ga K "Modulo")) m) (some (some (.ref (He.ma K (He.ga K "Field") m)))) && (PySem.W.isFn K (.ref (He.ma K (He.ga K "Field") m)) && PySem.W.keepIn K (.ref (He.ma K (He.ga K "Field") m)))]
def x2 (K : PySem.W.Frag) : List Bool := [PySem.W.excInitIn K (He.ga K "NoQuotient") aeB "ArithmeticError.__new__", (He.Fa.meth "NoQuotient" "__init__").ok K, decide (PySem.W.typeIn K (.ref (He.ma K (He.ga K "NoQuotient") "__init__")) = some (.type "function")),
  decide (PySem.W.subIn K (.ref (He.ga K "NoQuotient")) (.type "BaseException") = some true), decide (PySem.W.typeIn K (.ref (He.ga K "NoQuotient")) = some (.type "type")), PySem.W.keepIn K (.ref (He.ga K "NoQuotient")), (He.Fa.exm "NoQuotient" "NoQuotient" true).ok K]
def x3 (K : PySem.W.Frag) : List Bool := [PySem.W.readsIn K (He.ga K "Field") (.type "type"), He.eqO (PySem.W.specialIn K (.ref (He.ga K "Field")) "__getattribute__") (some (some (.builtin "type.__getattribute__"))),
  fcls K (He.ga K "Field") (He.ma K (He.ga K "Field") "__init__") "__init__", (He.Fa.mkr "Modulo").ok K, decide (PySem.W.kitOne K (.ref (He.ga K "Modulo")) (.ref (He.ga K "Field")) = some true),
  He.eqO (PySem.W.findIn K (.ref (He.ga K "Modulo")) "__class__") (some (some (.builtin "object.__class__"))), He.eqO (PySem.W.specialIn K (.builtin "object.__class__") "__get__") (some (some (.builtin "getset_descriptor.__get__"))),
  decide (PySem.W.takesIn K (.builtin "object.__class__") = some true), decide (PySem.W.mroIn K (He.ga K "Modulo") (.type "object") = some true)]
def ex (K : PySem.W.Frag) : Bool := (x1 K).all id && ((x2 K).all id && (x3 K).all id)
def hook : PySem.W.Hook where
  α := He.AlD × Bool
  obs := fun s => (He.obsD fa fn (KF s.heap.get?), ex (KF s.heap.get?))
  val := fun _ => (He.valD fn, true)
  says := fun _ h => ∃ K : PySem.W.Frag, K.In h ∧ He.SaysD fa fn K ∧ ex K = true
  of := fun _ _ e => ⟨_, He.frG_in, congrArg (fun z : He.AlD × Bool => z.1) e, congrArg (fun z : He.AlD × Bool => z.2) e⟩
  keeps := fun _ _ _ ⟨K, hK, c⟩ k => ⟨K, PySem.W.Frag.In.keeps hK k, c⟩
def ob (s : PySem.W.SharedT) : He.AlD × Bool := (He.obsD fa fn (KF (HandSHeadRun.getT s)), ex (KF (HandSHeadRun.getT s)))
theorem ob_eq (s : PySem.W.SharedT) : ob s = hook.obs s.abs := by
  have e : HandSHeadRun.getT s = s.abs.heap.get? := funext (HandSHeadRun.getT_eq s)
  unfold ob
  rw [e]
  rfl
def lo : List Str := ["_wall", "is_integer", "is_between", "InvalidPrime", "InvalidNumber", "InvalidText", "NoQuotient", "TooLong", "GREATEST_PRIME", "DECIMAL_DIGITS", "FIRST_LONG", "Field", "Modulo", "is_prime", "is_fraction", "is_longer", "parts", "shortened", "inverse",
  "integer_of", "signed_integer_of", "number_of", "_law_pen", "_law_draw", "_law_pick", "_law_prime", "_law_number", "_law_has_none", "_law_pair_right"]
abbrev qv : Program := PySem.W.view R.prog [0, 34]
end K04

namespace K04
open PySem PySem.Spec PyProof.Rows L2 Ver Num
theorem run (w : World) : HandSHeadRun.RunEqI R qv hook ob 8000 lo w := by
  unfold HandSHeadRun.RunEqI
  kernel_rfl
end K04

namespace K04
open PySem PySem.Spec PyProof.Rows L2 Ver Num
theorem all_cons_ok {b : Bool} {l : List Bool} (h : (b :: l).all id = true) : b = true ∧ l.all id = true := He.ba h
theorem tx_of {K : PySem.W.Frag} {h : Heap} {mg : Str → Option Value} (X : K.In h) (G : h.Ns mainGlobals mg) (c : He.SaysD fa fn K) (e : ex K = true) : Tx K mg := by
  obtain ⟨e1, e⟩ := He.ba e
  obtain ⟨e2, e3⟩ := He.ba e
  obtain ⟨a1, e1⟩ := all_cons_ok e1
  obtain ⟨a2, e1⟩ := all_cons_ok e1
  obtain ⟨a3, e1⟩ := all_cons_ok e1
  obtain ⟨a4, e1⟩ := all_cons_ok e1
  obtain ⟨a5, e1⟩ := all_cons_ok e1
  obtain ⟨a6, e1⟩ := all_cons_ok e1
  obtain ⟨b1, e2⟩ := all_cons_ok e2
  obtain ⟨b2, e2⟩ := all_cons_ok e2
  obtain ⟨b3, e2⟩ := all_cons_ok e2
  obtain ⟨b4, e2⟩ := all_cons_ok e2
  obtain ⟨b5, e2⟩ := all_cons_ok e2
  obtain ⟨b6, e2⟩ := all_cons_ok e2
  obtain ⟨b7, e2⟩ := all_cons_ok e2
  obtain ⟨c1, e3⟩ := all_cons_ok e3
  obtain ⟨c2, e3⟩ := all_cons_ok e3
  obtain ⟨c3, e3⟩ := all_cons_ok e3
  obtain ⟨c4, e3⟩ := all_cons_ok e3
  obtain ⟨c5, e3⟩ := all_cons_ok e3
  obtain ⟨c6, e3⟩ := all_cons_ok e3
  obtain ⟨c7, e3⟩ := all_cons_ok e3
  obtain ⟨c8, e3⟩ := all_cons_ok e3
  obtain ⟨c9, e3⟩ := all_cons_ok e3
  exact
    { d := c
      g := fun x hx => He.glo_ok X G (He.SaysD.facts c (List.mem_append_left _ (List.mem_map_of_mem hx)))
      z := fun x hx => He.free_ok X G (He.SaysD.facts c (List.mem_append_right _ (List.mem_map_of_mem hx)))
      fl := He.int_ok X G a1
      gp := He.int_ok X G a2
      isq := PySem.W.mg_of X G (He.eqO_ok a3)
      fc := ⟨He.cls_ok a4, He.noat_ok a5, fun m hm => by
        obtain ⟨h1, h2⟩ := He.ba (List.all_eq_true.mp a6 m hm)
        obtain ⟨h2, h3⟩ := He.ba h2
        exact ⟨He.eqO_ok h1, h2, h3⟩⟩
      nq := ⟨b1, He.eqO_ok (He.ba b2).1, of_decide_eq_true b3, of_decide_eq_true b4, of_decide_eq_true b5, b6⟩
      te := He.exm_ok b7
      rdF := c1
      gaF := He.eqO_ok c2
      fiF := fcls_ok c3
      mkM := He.mkr_ok c4
      isF := of_decide_eq_true c5
      clM := He.eqO_ok c6
      clS := He.eqO_ok c7
      clT := of_decide_eq_true c8
      clO := of_decide_eq_true c9 }
end K04
open PySem PySem.W PySem.Calls PyProof.Rows
theorem PySem.Challenge.cw_firstanswers_k04_whole_sums_modulo_prime_holds : PySem.Challenge.rw_firstanswers_k04_whole_sums_modulo_prime.Holds := by
  w_on; o_law
  refine HandSHeadRun.head_imp (r := K04.R) (q := K04.qv) (H := K04.hook) (ob := K04.ob) (M := 8000) (loose := K04.lo) (d := HandSHeadRun.topDef K04.R.prog 34) (kwd := []) K04.ob_eq K04.run
    (by kernel_rfl) (by kernel_rfl) (by kernel_rfl) (by rfl) (by first | assumption | decide +kernel) (by decide +kernel) ⟨rfl, rfl, rfl, rfl, rfl, by decide +kernel⟩ ?hw ?hc
  case hw => w_witness2
  case hc =>
    refine Ver.walkG (l := PySem.Challenge.rw_firstanswers_k04_whole_sums_modulo_prime) (n := 63) (k := 9) rfl (by decide) (by kernel_rfl) ⟨rfl, by decide, by decide⟩ ?F
    intro w mg fa h Y G hmg0
    obtain ⟨K, KX, c, e⟩ := Y
    have hmg : mg ("law" : PySem.Str) = some (.ref fa) := by
      have q : (HandSHeadRun.topDef K04.R.prog 34).name = ("law" : PySem.Str) := by kernel_rfl
      rw [← q]
      exact hmg0
    have T := K04.tx_of KX G c e
    have ef := hmg.symm.trans (T.g "law" (by decide +kernel))
    cases ef
    exact ⟨K, K04.spLaw K, KX, fun H a ns hl _ hS => ⟨a, ns, rfl, hS, hl, fun _ => rfl⟩, fun base h1 h2 => K04.ok_law T⟩
