import PyProof.Rows.All
import Wide.All
import OpenK.AllK
import Wide.FinOn
import PySem.Challenge.RW_firstanswers_k19_values_of_fractions
import HandS.Base
import HandS.Call
import HandS.List
import HandS.Ends
import HandS.Dict
import HandS.More
import HandS.Defaults
import HandS.Words
import HandS.Star
import PyProof.ReprRoads
import HandS.Nested
import HandS.ExcOwn
import HandS.TryMany
import HandS.EndTab
import HandS.HeadHook1
import HandS.HeadHook2
import HandS.Wide
import HandS.Gcd
import HandS.IsInst
import HandS.Exc
import HandS.ExcInit
import HandS.WordsExc
import KE.KExcInit
import HandS.TryOnly
import PyProof.InstEq
import PyProof.StrOps2
import HandS.Deep
import HandS.SlotsOwn
import HandS.ExcIs
import HandS.ExcField
import KE.KExcIs
import HandS.Property
import PyProof.EqKinds
import PyProof.SumWalkG
import PyProof.WalksMore
import HandS.WordsList
import HandS.SetTxt0
import HandS.SetFor
import PyProof.StrWalks
import PyProof.DictUpdate
import PyProof.Ns1
import KE.KStar
import HandS.MakeKw
import HandS.ClsMeth
import HandS.MethStar
import HandS.TupSets
import HandS.SetBool
import KE.KSortTupG
import HandS.FStr
import HandS.Text
import HandS.HeadHook4
import HandS.HeadNt
import HandS.Iter
import HandS.Head0
import HandS.Head1
import HandS.Head2
import HandS.Head3
import HandS.Comp
import KE.DataEq
import HandS.ListItems
import HandS.Conv
import PyProof.Rows.SortShellAny
import HandS.Codes
import PyProof.Rows.SortStr
import HandS.Walk
import HandS.SortKw
import HandS.StrMore
import HandS.DictComp
import HandS.Style
import HandS.Zip
import HandS.WordsDict
set_option Elab.async false
set_option linter.all false
set_option maxRecDepth 100000
set_option maxHeartbeats 0
/-! Defs that show data (repr): their promise wants that no show is under way around them. -/
namespace Ver
open PySem PySem.Spec PyProof.Rows L2
/-- a promise for callers around whom nothing is being shown -/
def FnG (P : Program) (w : World) (K : PySem.W.Frag) (mg : Str → Option Value) (base : Heap) (CX : CXT) (k : Nat) (f : Addr) (sp : Sp) : Prop :=
  ∀ (A : Around) (outer : List Env) (s : Shared) (H : Hp) (us : List Value) (vs : List V) (Q : VK) (E : XK), A.guards = some [] → Room k A →
    Env0 P w K mg base A outer s H → Vals vs us → sp vs H Q E → codeAny (model P w) A (.call (.ref f) ⟨us, []⟩) (CR CX outer P w H s Q E) s
section
variable {P : Program} {w : World} {K : PySem.W.Frag} {mg : Str → Option Value} {base : Heap} {CX : CXT} {k : Nat} {f : Addr} {fd : FuncData} {sp : Sp}
variable {x qual : Str} {params : Arguments} {body : List Stmt} {scope : Scope} {N ps : List Str} {kws : List (Str × V)}
theorem FnG.ofR (F : FnR P w K mg base CX k f sp) : FnG P w K mg base CX k f sp := fun A outer s H us vs Q E _ hr e0 r h => F A outer s H us vs Q E hr e0 r h
theorem FnG.mono {j : Nat} (F : FnG P w K mg base CX j f sp) (h : j ≤ k) : FnG P w K mg base CX k f sp := fun A outer s H us vs Q E g hr e0 r q => F A outer s H us vs Q E g (hr.mono h) e0 r q
/-- the rule for such a def, its body as a term -/
theorem okG (F : FunD K x qual params body scope [] kws f fd) (S : FnScope N ps scope)
    (hb : ∀ (s : Shared) (us : List Value), us.length = ps.length → BindsTo s fd ⟨us, []⟩ (ps.zip us)) (len : ∀ vs H Q E, sp vs H Q E → vs.length = ps.length)
    (hbody : ∀ (cdv : Value) (A : Around) (outer : List Env) (s : Shared) (H : Hp) (vs : List V) (Q : VK) (E : XK), A.guards = some [] → Room k (A.deeper (envOfC qual scope s.heap.objs.size f cdv)) → sp vs H Q E →
      ∃ t, PSs (cxOf CX P w K mg base N qual scope f cdv A outer s H E) body t ∧ t { nx := fun _ H' => Q .non H', rt := Q } (start N vs) H) : FnG P w K mg base CX (k + 1) f sp := by
  obtain ⟨⟨oc, od, dV, kV, doc, pm, an, cdv, ct, osl, rfl, lk, hcd, _⟩, _⟩ := F
  intro A outer s H us vs Q E hg hr e0 r hsp
  have hl := len _ _ _ _ hsp
  refine StX.run_bnd (G := fun xs H2 => xs = vs ∧ H2 = H) lk hcd S hr e0 (fun A' Ex Q' q => ?_) fun s2 H2 xs g hr' => ?_
  · exact hb s us (by rw [← r.length]; exact hl) _ A' Ex Q' (q s H vs us e0 Un.refl rfl (fun _ _ z => z) r hl ⟨rfl, rfl⟩)
  · obtain ⟨rfl, rfl⟩ := g
    exact hbody cdv A outer s2 H2 xs Q E hg hr' hsp
end
section
variable {X : Cx} {CX : CXT} {k : Nat} {f : Addr} {sp : Sp} {E : XK} {x : Str} {p pos : Pos} {e : Expr} {es : List Expr} {t : TA}
/-- f(e, ..) -/
theorem pe_callG (F : FnG X.prog X.w X.K X.mg X.base CX k f sp) (hr : Room k X.A) (hgd : X.A.guards = some []) (hg : Gl X x) (hm : X.mg x = some (.ref f)) (hk : PySem.W.keepIn X.K (.ref f) = true) (hx : Passes CX X E)
    (ha : PA X (e :: es) t) (hdb : (x == ("__debug__" : Str)) = false := by decide) (he : starEach (e :: es) X.env = (false, eval e X.env) :: starEach es X.env := by rfl)
    (hpl : (backTo pos (starEach es X.env)).any (·.1) = false := by rfl) : PE X (.Call (.Name x p) (e :: es) [] pos) (fun σ H Q => t σ H fun vs H1 => sp vs H1 Q E) := by
  refine ⟨fun pins s σ H Q I h => wpAny_Call_Name_kw (ld_glob I hg hm (PySem.W.callWith_K (h₀ := X.base) I.ok.mod.kin hk (thn (ha.run pos pins s σ H _ I h) fun us s1 z => ?_) he hpl) hdb)⟩
  obtain ⟨vs, H1, I1, r, q⟩ := z
  refine ⟨I1.kIn, wpAny_call (codeAny_mono (F X.A X.stack s1 H1 us vs Q E hgd hr I1.env0 r q) fun rs s' hq => ?_)⟩
  match rs, hq with
  | .error e', hq => exact hx pins σ H1 s1 e' s' I1 hq
  | .ok (.ret u), hq => exact I1.after hq
  | .ok .next, hq => exact hq.elim
  | .ok .brk, hq => exact hq.elim
  | .ok .cont, hq => exact hq.elim
end
/-- the same rule for a def that lets no exception out -/
theorem ok0 {P : Program} {w : World} {K : PySem.W.Frag} {mg : Str → Option Value} {base : Heap} {k : Nat} {f : Addr} {fd : FuncData} {sp : Sp} {x qual : Str} {params : Arguments} {body : List Stmt} {scope : Scope} {N ps : List Str} {kws : List (Str × V)}
    (F : FunD K x qual params body scope [] kws f fd) (S : FnScope N ps scope)
    (hb : ∀ (s : Shared) (us : List Value), us.length = ps.length → BindsTo s fd ⟨us, []⟩ (ps.zip us)) (len : ∀ vs H Q E, sp vs H Q E → vs.length = ps.length)
    (hbody : ∀ (cdv : Value) (A : Around) (outer : List Env) (s : Shared) (H : Hp) (vs : List V) (Q : VK) (E : XK), A.guards = some [] → Room k (A.deeper (envOfC qual scope s.heap.objs.size f cdv)) → sp vs H Q E →
      ∃ t, PSs (cxOf CX0 P w K mg base N qual scope f cdv A outer s H E).nox body t ∧ t { nx := fun _ H' => Q .non H', rt := Q } (start N vs) H) : FnG P w K mg base CX0 (k + 1) f sp :=
  okG F S hb len fun cdv A outer s H vs Q E hg hr h => by
    obtain ⟨t, ht, q⟩ := hbody cdv A outer s H vs Q E hg hr h
    exact ⟨t, ht.nox, q⟩
section
variable {X : Cx} {CX : CXT} {k : Nat} {f C : Addr} {sp : Sp} {E : XK} {x m : Str} {p pos apos : Pos} {e o : Expr} {es : List Expr} {t : TA} {ta : TE} {pins : List (Addr × Obj)} {σ : L2.St} {H : Hp} {s : Shared} {Q : VK} {us : List Value} {vs : List V}
/-- the callee's run, seen by the caller -/
theorem runG (F : FnG X.prog X.w X.K X.mg X.base CX k f sp) (hr : Room k X.A) (hgd : X.A.guards = some []) (hx : Passes CX X E) (I : Inv X pins σ H s) (r : Vals vs us) (h : sp vs H Q E) :
    wpAny (model X.prog X.w) X.A (call (.ref f) us) (EP X pins σ Q) X.xe s :=
  wpAny_call (codeAny_mono (F X.A X.stack s H us vs Q E hgd hr I.env0 r h) fun rs s' hq => by
    match rs, hq with
    | .error e', hq => exact hx pins σ H s e' s' I hq
    | .ok (.ret u), hq => exact I.after hq
    | .ok .next, hq => exact hq.elim
    | .ok .brk, hq => exact hq.elim
    | .ok .cont, hq => exact hq.elim)
/-- f() -/
theorem pe_callG0 (F : FnG X.prog X.w X.K X.mg X.base CX k f sp) (hr : Room k X.A) (hgd : X.A.guards = some []) (hg : Gl X x) (hm : X.mg x = some (.ref f)) (hk : PySem.W.keepIn X.K (.ref f) = true) (hx : Passes CX X E)
    (hdb : (x == ("__debug__" : Str)) = false := by decide) : PE X (.Call (.Name x p) [] [] pos) (fun _ H Q => sp [] H Q E) :=
  ⟨fun pins s σ H Q I h => wpAny_Call_Name_kw (ld_glob I hg hm (PySem.W.callWith_K0 I.kIn hk (runG (us := []) F hr hgd hx I .nil h)) hdb)⟩
/-- o.m(e, ..) of an instance of the class at C or of any class that has the method at f -/
def tMethG (K : PySem.W.Frag) (m : Str) (f : Addr) (sp : Sp) (E : XK) (ta : TE) (t : TA) : TE := fun σ H Q => ta σ H fun x H1 => ∃ a C dx fs, x = .ref a ∧ H1 a = some (.ins C dx fs) ∧ Cls K C ∧ Meth K C m f ∧ fs.lookup m = none ∧
  t σ H1 fun vs H2 => sp (.ref a :: vs) H2 Q E
theorem pe_methG {pl : Sem Bool} (he : PE X o ta) (hk : PySem.W.keepIn X.K (.ref f) = true) (F : FnG X.prog X.w X.K X.mg X.base CX k f sp) (hr : Room k X.A) (hgd : X.A.guards = some []) (hx : Passes CX X E) (ha : PA X (e :: es) t)
    (hst : starEach (e :: es) X.env = (false, eval e X.env) :: starEach es X.env := by rfl) (hpl : (backTo pos (starEach es X.env)).any (·.1) = false := by rfl)
    (ht : eval (.Call (.Attribute o m apos) (e :: es) [] pos) X.env = (do
      let ov ← eval o X.env
      standAt apos.atName
      let (g, first) ← holding [ov] (getMethod ov m pl)
      callWith pos g first (backTo pos (starEach (e :: es) X.env)) (backToKw pos (keywordEach [] X.env))) := by rfl) :
    PE X (.Call (.Attribute o m apos) (e :: es) [] pos) (tMethG X.K m f sp E ta t) := by
  refine ⟨fun pins s σ H Q I h => PySem.W.methodCall_KW (pl := pl) (thn (he.run pins s σ H _ I h) fun u s1 z => ?_) ht⟩
  obtain ⟨x, H1, I1, rx, a, C, dx, fs, rfl, ea, c, hm, l, q⟩ := z
  cases (show u = Value.ref a from rx)
  refine getmeth_ok I1 ea c hm l (PySem.W.callWith_K (first := [.ref a]) (h₀ := X.base) I.ok.mod.kin hk (thn (ha.run pos pins s1 σ H1 _ I1 q) fun us s2 y => ?_) hst hpl)
  obtain ⟨vs, H2, I2, r, q2⟩ := y
  exact ⟨I2.kIn, runG (us := .ref a :: us) (vs := .ref a :: vs) F hr hgd hx I2 (.cons rfl r) q2⟩
/-- o.m() -/
theorem pe_methG0 {pl : Sem Bool} (he : PE X o ta) (hk : PySem.W.keepIn X.K (.ref f) = true) (F : FnG X.prog X.w X.K X.mg X.base CX k f sp) (hr : Room k X.A) (hgd : X.A.guards = some []) (hx : Passes CX X E)
    (ht : eval (.Call (.Attribute o m apos) [] [] pos) X.env = (do
      let ov ← eval o X.env
      standAt apos.atName
      let (g, first) ← holding [ov] (getMethod ov m pl)
      callWith pos g first (backTo pos (starEach [] X.env)) (backToKw pos (keywordEach [] X.env))) := by rfl) :
    PE X (.Call (.Attribute o m apos) [] [] pos) (tMethG X.K m f sp E ta tNil) := by
  refine ⟨fun pins s σ H Q I h => PySem.W.methodCall_KW (pl := pl) (thn (he.run pins s σ H _ I h) fun u s1 z => ?_) ht⟩
  obtain ⟨x, H1, I1, rx, a, C, dx, fs, rfl, ea, c, hm, l, q⟩ := z
  cases (show u = Value.ref a from rx)
  exact getmeth_ok I1 ea c hm l (PySem.W.callWith_K0 (first := [.ref a]) I1.kIn hk (runG (us := [.ref a]) (vs := [.ref a]) F hr hgd hx I1 (.cons rfl .nil) q))
theorem made_guards {A : Around} (h : A.guards = some []) (C : Addr) (us : List Value) : (A.under (.builtin "type.__call__" ⟨.ref C :: us, []⟩)).guards = some [] := by
  show pushGuards (Code.builtin "type.__call__" ⟨.ref C :: us, []⟩).guards A.guards = some []
  rw [h]
  first
    | rfl
    | decide +kernel
/-- C(e, ..) -/
theorem pe_makeG (M : Mk X.K C f) (F : FnG X.prog X.w X.K X.mg X.base CX k f sp) (hr : Room (k + 1) X.A) (hgd : X.A.guards = some []) (hg : Gl X x) (hm : X.mg x = some (.ref C)) (hx : Passes CX X E) (ha : PA X (e :: es) t)
    (hdb : (x == ("__debug__" : Str)) = false := by decide) (he : starEach (e :: es) X.env = (false, eval e X.env) :: starEach es X.env := by rfl)
    (hpl : (backTo pos (starEach es X.env)).any (·.1) = false := by rfl) : PE X (.Call (.Name x p) (e :: es) [] pos) (StX.tMakeR C sp E t) := by
  refine ⟨fun pins s σ H Q I h => wpAny_Call_Name_kw (ld_glob I hg hm (PySem.W.callWith_K (h₀ := X.base) I.ok.mod.kin M.kp (thn (ha.run pos pins s σ H _ I h) fun us s1 z => ?_) he hpl) hdb)⟩
  obtain ⟨vs, H1, I1, r, q⟩ := z
  refine ⟨I1.kIn, wpAny_call (make_map (f := f) I1.kIn M.makes M.init (beq_iff_eq.mp M.fn) ?_)⟩
  have q2 := q (s1.heap.objs.size + 1) s1.heap.objs.size (I1.hok.fresh (Nat.le_succ _)) (I1.hok.fresh (Nat.le_refl _)) (Nat.ne_of_lt (Nat.lt_succ_self _))
  have I2 := Inv.made (C := C) I1
  refine codeAny_mono (F _ X.stack _ _ (Value.ref (s1.heap.objs.size + 1) :: us) (V.ref (s1.heap.objs.size + 1) :: vs) _ E (made_guards hgd C us) (hr.make C us []) (I2.env0.make C us []) (.cons rfl r) q2) fun rs s' hq => ?_
  match rs, hq with
  | .error e', hq => exact hx pins σ _ _ e' s' I2 hq
  | .ok (.ret u), hq =>
    obtain ⟨v, H', I3, rv, ev, q3⟩ := I2.after hq
    subst ev
    exact ⟨rv, V.ref (s1.heap.objs.size + 1), H', I3, rfl, q3⟩
  | .ok .next, hq => exact hq.elim
  | .ok .brk, hq => exact hq.elim
  | .ok .cont, hq => exact hq.elim
end
/-! ### repr of data -/
section
variable {X : Cx}
/-- repr(x), x data: none, a bool, an int, a text, lists and tuples of such -/
def rRepr (K : PySem.W.Frag) : List V → Hp → VK → Prop := fun xs H Q => ∃ (x : V) (d : PyData), xs = [x] ∧ Dp K H x d ∧ d.showable = true ∧ d.shown.length ≤ sizeLine ∧ d.depth ≤ 60 ∧ Q (.str d.shown) H
mutual
theorem noD {K : PySem.W.Frag} {H : Hp} : ∀ (d : PyData) (v : V), Dp K H v d → d.hasDict = false
  | .none, _, _ => by simp only [PyData.hasDict]
  | .bool _, _, _ => by simp only [PyData.hasDict]
  | .int _, _, _ => by simp only [PyData.hasDict]
  | .str _, _, _ => by simp only [PyData.hasDict]
  | .list ds, _, h => by
    cases h with
    | lst _ ha =>
      simp only [PyData.hasDict]
      exact noDs ds _ ha
  | .tuple ds, _, h => by
    cases h with
    | tup _ ha =>
      simp only [PyData.hasDict]
      exact noDs ds _ ha
  | .dict _, _, h => by cases h
theorem noDs {K : PySem.W.Frag} {H : Hp} : ∀ (ds : List PyData) (vs : List V), DpAll K H vs ds → PyData.hasDictAll ds = false
  | [], _, _ => by simp only [PyData.hasDictAll]
  | d :: ds, _, h => by
    cases h with
    | cons h1 h2 =>
      simp only [PyData.hasDictAll, noD d _ h1, noDs ds _ h2, Bool.or_false]
end
theorem call_repr (hg : X.A.guards = some []) (hu : X.A.units + 64 < cLine) : CallR X (.builtin "repr") (rRepr X.K) := by
  intro pins s σ H xs us Q I r h
  obtain ⟨x, d, rfl, hd, hs, hz, hdp, q⟩ := h
  obtain ⟨u, rfl, rx⟩ := vals1 r
  obtain ⟨as, rd⟩ := Dp.reads I d x u hd rx
  have nd := noD d x hd
  cases rd with
  | none => exact PySem.P.repr_of_none ⟨.str _, H, I.tok _, ⟨_, rfl⟩, by simpa only [PyData.shown] using q⟩
  | bool b => exact PySem.P.repr_of_bool ⟨.str _, H, I.tok _, ⟨_, rfl⟩, by simpa only [PyData.shown] using q⟩
  | int i t => exact PySem.P.repr_of_int (by simpa [PyData.showable] using hs) ⟨.str _, H, I.tok _, ⟨_, rfl⟩, by simpa only [PyData.shown] using q⟩
  | str y t => exact PySem.P.repr_of_str ⟨.str _, H, I.tok _, ⟨_, rfl⟩, by simpa only [PyData.shown] using q⟩ (by simpa only [PyData.shown] using hz)
  | list h1 h2 h3 h4 =>
    exact repr_of_reads' (.list h1 h2 h3 h4) hs (fun z => by rw [nd] at z; cases z) hg (by omega) (fun _ _ z => z) (fun h' u tk hk => ⟨.str _, H, I.kept (t' := tk) hk, ⟨u, rfl⟩, q⟩) hz
  | tuple h1 h2 h3 h4 =>
    exact repr_of_reads' (.tuple h1 h2 h3 h4) hs (fun z => by rw [nd] at z; cases z) hg (by omega) (fun _ _ z => z) (fun h' u tk hk => ⟨.str _, H, I.kept (t' := tk) hk, ⟨u, rfl⟩, q⟩) hz
  | dict h1 h2 h3 h4 h5 => cases hd
end
/-! ### the law's end -/
section
variable {P : Program} {w : World} {K : PySem.W.Frag} {mg mb : Str → Option Value} {k : Nat} {fa a : Addr} {sp : Sp} {s₁ : Shared} {vs : List Value} {ns : List Int}
/-- the law's call over one abstract heap -/
theorem lawOn {H : Hp} (KX : K.In s₁.heap) (hns : s₁.heap.Ns mainGlobals mg) (hb : s₁.heap.Ns builtinsNs mb) (hbb : ∀ x : Str, x ≠ "__name__" → mb x = bootBuiltins x) (hlim : s₁.heap.NoLimit) (hg : s₁.gens = #[])
    (ha : s₁.heap.get? a = some { cls := .type "list", data := .seq vs.toArray }) (hr : Room k callerA)
    (F : ∀ base : Heap, K.In base → base.Ns mainGlobals mg → FnG P w K mg base CX0 k fa sp)
    (hO : Only H) (hsp : sp [.ref a] H (fun v _ => v = .bl true) fun _ _ _ => False) (hok : HOk P w H s₁.heap) (hA : ∀ b, H b ≠ none → b = a) (hK : H a ≠ none → K.lookup a = none) :
    codeAny (model P w) callerA (.call (.ref fa) ⟨[.ref a], []⟩) (fun r s' => r = .ok (.ret (.bool true)) ∧ OldK s₁.heap s'.heap ∧ s'.os = s₁.os ∧ AllBare s'.gens) s₁ := by
  have free : ∀ b o, s₁.heap.get? b = some o → (∀ w n, o.data ≠ Data.seq w n) → H b = none := fun b o e hd => Classical.byContradiction fun z => by
    have eb := hA b z
    rw [eb, ha] at e
    exact hd _ _ (congrArg Obj.data (Option.some.inj e)).symm
  have names : ∀ b m, s₁.heap.Ns b m → (hidT s₁.heap H).Ns b m := fun b m hn => by
    obtain ⟨o, es, ep, e, d, r⟩ := hn
    exact ⟨o, es, ep, hidT_get e (free b o e fun w n z => by rw [d] at z; cases z), d, r⟩
  have KB : K.In (hidT s₁.heap H) := fun b o e => hidT_get (KX b o e) (Classical.byContradiction fun z => by
    have eb := hA b z
    subst eb
    rw [hK z] at e
    cases e)
  have md : Mod K mg (hidT s₁.heap H) := ⟨KB, names _ _ hns, ⟨mb, names _ _ hb, hbb⟩, by obtain ⟨mc, h1, h2⟩ := hlim; exact ⟨mc, names _ _ h1, h2⟩⟩
  have nof : ∀ b, b ∉ frs ([] : List Env) := fun b z => by cases z
  have e0 : Env0 P w K mg (hidT s₁.heap H) callerA [] s₁ H := ⟨rfl, md, fun _ _ e => of_hidT e, Nat.le_of_eq (hidT_size _ _), True.intro, fun b z => absurd z (nof b), hok, .of_eq hg⟩
  refine codeAny_mono (F _ KB (names _ _ hns) callerA [] s₁ H [.ref a] [.ref a] _ _ rfl hr e0 (.cons rfl .nil) hsp) fun rs s' z => ?_
  match rs, z with
  | .error _, z => exact z.elim
  | .ok .next, z => exact z.elim
  | .ok .brk, z => exact z.elim
  | .ok .cont, z => exact z.elim
  | .ok (.ret u), z =>
    obtain ⟨v, H', os, bare, un, ok', rv, ev⟩ := z
    cases (show v = V.bl true from ev)
    cases (show u = Value.bool true from rv)
    refine ⟨rfl, OldK.of_keep fun b o e => ?_, os, bare⟩
    rcases hO b with n | ⟨ob, xs, n⟩
    · exact un.keep b o e n (nof b) (by simp)
    · have h1 := (hok b _ n).1
      have h2 := (ok' b _ (un.frzs b ob _ n)).1
      rw [e] at h1
      cases h1
      exact h2
theorem lawG (KX : K.In s₁.heap) (hns : s₁.heap.Ns mainGlobals mg) (hb : s₁.heap.Ns builtinsNs mb) (hbb : ∀ x : Str, x ≠ "__name__" → mb x = bootBuiltins x) (hlim : s₁.heap.NoLimit) (hg : s₁.gens = #[])
    (ha : s₁.heap.get? a = some { cls := .type "list", data := .seq vs.toArray }) (hi : IntsAre vs ns) (hl : ns.length ≤ sizeLine) (hr : Room k callerA)
    (F : ∀ base : Heap, K.In base → base.Ns mainGlobals mg → FnG P w K mg base CX0 k fa sp)
    (hsp : ∀ H : Hp, Only H → SqL K H a (ns.map V.int) → sp [.ref a] H (fun v _ => v = .bl true) fun _ _ _ => False) :
    codeAny (model P w) callerA (.call (.ref fa) ⟨[.ref a], []⟩) (fun r s' => r = .ok (.ret (.bool true)) ∧ OldK s₁.heap s'.heap ∧ s'.os = s₁.os ∧ AllBare s'.gens) s₁ := by
  have rv := vals_ints hi
  cases ek : K.lookup a with
  | some o =>
    have eo : o = _ := Option.some.inj ((KX a o ek).symm.trans ha)
    have O0 : Only (fun _ => none) := fun _ => .inl rfl
    have S0 : SqL K (fun _ => none) a (ns.map V.int) := .inr ⟨o, vs.toArray, _, ek, by rw [eo], by rw [eo], by rw [eo], by rw [List.size_toArray, ← rv.length, List.length_map]; exact hl, by simpa using rv⟩
    exact lawOn (H := fun _ => none) KX hns hb hbb hlim hg ha hr F O0 (hsp _ O0 S0) (fun b u z => by cases z) (fun b z => absurd rfl z) fun z => absurd rfl z
  | none =>
    let H1 : Hp := fun b => if b = a then some (.frz { cls := .type "list", data := .seq vs.toArray } (.lst (ns.map V.int))) else none
    have at_ : H1 a = some (.frz { cls := .type "list", data := .seq vs.toArray } (.lst (ns.map V.int))) := if_pos rfl
    have off : ∀ b, b ≠ a → H1 b = none := fun b z => if_neg z
    have O1 : Only H1 := fun b => by
      by_cases z : b = a
      · exact .inr ⟨_, _, by rw [z]; exact at_⟩
      · exact .inl (off b z)
    refine lawOn (H := H1) KX hns hb hbb hlim hg ha hr F O1 (hsp _ O1 (.inl (.inr ⟨_, at_⟩))) (fun b u z => ?_) (fun b z => Classical.byContradiction fun q => z (off b q)) fun _ => ek
    by_cases q : b = a
    · subst q
      rw [at_] at z
      cases z
      exact ⟨ha, by rw [List.length_map]; exact hl, vs, _, rv, ha⟩
    · rw [off b q] at z
      cases z
end
/-- the goal that the head leaves -/
theorem walkG {l : PySem.W.OpenLaw} {n k : Nat} {q : Program} {loose : List Str} {XP : (Str → Option Value) → Heap → Prop} {YP : World → Heap → Prop} {d : DefRec}
    (hn : l.most = some n) (hn2 : n ≤ sizeLine) (hdf : d.params.defaults = []) (hr : Room k callerA)
    (F : ∀ (w : World) (mg : Str → Option Value) (fa : Addr) (h : Heap), YP w h → h.Ns mainGlobals mg → mg d.name = some (.ref fa) → ∃ (K : PySem.W.Frag) (sp : Sp), K.In h ∧
      (∀ (H : Hp) (a : Addr) (ns : List Int), ns.length ≤ n → Only H → SqL K H a (ns.map V.int) → sp [.ref a] H (fun v _ => v = .bl true) fun _ _ _ => False) ∧
      ∀ base : Heap, K.In base → base.Ns mainGlobals mg → FnG l.prog w K mg base CX0 k fa sp) :
    PySem.W.WalkO q loose XP YP l.row.toRowW d [] (fun f vs => PySem.call f vs) :=
  Att.attach_call hn hdf fun w s₀ s₁ mg mb fa o pm cd doc a vs ns G Y ho hd hcd hmg hobj hints hlen hg => by
    obtain ⟨K, sp, KX, hsp, hF⟩ := F w mg fa _ Y G.T.g hmg
    exact lawG KX G.T.g G.T.b G.T.builtins G.T.nolimit hg hobj hints (Nat.le_trans hlen hn2) hr hF fun H hO hS => hsp H a ns hlen hO hS
end Ver

/-! Lambdas without parameters that are kept as values. -/
namespace Ver
open PySem PySem.Spec PyProof.Rows L2 LamX NdefX
/-- a lambda's words, what it captured, its code object -/
structure LF where
  qual : Str
  params : Arguments
  body : Expr
  scope : Scope
  cl : List (Str × Addr)
  c : Addr
abbrev LF.nf (F : LF) : NF := ⟨"<lambda>", F.qual, F.params, [], F.scope, F.cl, F.c⟩
/-- such a lambda stands at f -/
def LamO (f : Addr) (F : LF) : HO := .ext fun g => ∃ pm ct : Value,
  g.get? f = some (PySem.W.kla_obj "<lambda>" F.qual F.params F.body F.scope F.cl pm F.c ct)
theorem lamO_tbl {f : Addr} {F : LF} (qs : Array Value) : LamO f F ≠ .tbl qs := by
  intro z
  unfold LamO at z
  cases z
section
variable {X : Cx} {pins : List (Addr × Obj)} {σ : L2.St} {H : Hp} {s : Shared}
/-- a lambda that was just laid is tracked -/
theorem lam_laid {F : LF} {t' : Nat} {pm ct : Value} (I : Inv X pins σ H s) :
    Inv X pins σ (upd H s.heap.objs.size (LamO s.heap.objs.size F))
      { s with toks := t', heap := s.heap.push (PySem.W.kla_obj "<lambda>" F.qual F.params F.body F.scope F.cl pm F.c ct) } := by
  have at_ : (s.heap.push (PySem.W.kla_obj "<lambda>" F.qual F.params F.body F.scope F.cl pm F.c ct)).get? s.heap.objs.size = some (PySem.W.kla_obj "<lambda>" F.qual F.params F.body F.scope F.cl pm F.c ct) := Heap.get?_push_size _ rfl
  exact I.laid (fun b u e => Heap.get?_push_of_some _ e) (Nat.le_refl _) ⟨⟨pm, ct, at_⟩, ⟨_, at_⟩, fun _ _ ⟨p, c, z⟩ st => ⟨p, c, st _ z⟩⟩
/-- what a value made by a lambda brings -/
abbrev LamK (X : Cx) (H : Hp) (T : List (Addr × Str)) (params : Arguments) (body : Expr) (scope : Scope) (Q : Value → Shared → Prop) (pins : List (Addr × Obj)) (σ : L2.St) : Prop :=
  ∀ (f c' : Addr) (H1 : Hp) (s' : Shared), Inv X pins σ H1 s' → ExtN H H1 → Tabs T H1 → H1 f = some (LamO f ⟨X.env.qual ++ "<lambda>", params, body, scope, cloFrom X.env.cells scope.names [], c'⟩) →
    H1 c' = some (CodeO c' (X.env.qual ++ "<lambda>")) → Q (.ref f) s'
theorem lam_new {T : List (Addr × Str)} {c P : Addr} {params : Arguments} {body : Expr} {scope : Scope} {pos : Pos} {E Q : Value → Shared → Prop}
    (I : Inv X pins σ H s) (TB : TabB X.base X.mg c P) (hcode : X.env.code = .ref c) (inT : (P, X.env.qual ++ "<lambda>") ∈ T)
    (one : ∀ p ∈ T, p.1 = P → p.2 = X.env.qual ++ "<lambda>") (hT : Tabs T H) (hdef : defaultsOf params X.env = ([], []))
    (fr : ∀ y ∈ scope.names, y.2 = .free → ∃ a, X.env.cells.lookup y.1 = some a) (h : LamK X H T params body scope Q pins σ) :
    wpAny (model X.prog X.w) X.A (eval (.Lambda params body scope pos) X.env) Q E s := by
  obtain ⟨ps, tabH, tri, named⟩ := hT _ inT
  have tab : s.heap.get? P = some { cls := .none, data := .fields ps } := I.hok P _ tabH
  have blt : s.heap.BuiltinsAt X.mg P := TB.bm.keeps I.bk
  refine PySem.W.kla_eval hdef ?_
  cases e : codeAmong pos ps.toList with
  | some cv =>
    obtain ⟨c', rfl, hco⟩ := named pos cv e
    refine PySem.W.kla_makeFunctionHit (mg := X.mg) (c := c) (P := P) (ps := ps) (closure_ok fr) I.ok.glob
      (I.mod.glob.keeps I.bk) hcode (TB.code.keeps I.bk) tab tri e blt fun ct h' tk hx hsz => ?_
    have I1 : Inv X pins σ H { s with toks := tk, heap := h' } := I.kept hx
    have new : H h'.objs.size = none := I1.hok.fresh (Nat.le_refl _)
    have I2 := lam_laid (t' := tk) (pm := (X.mg "__name__").getD .none) (ct := ct) (F := ⟨X.env.qual ++ "<lambda>", params, body, scope, cloFrom X.env.cells scope.names [], c'⟩) I1
    have up : ∀ b o, H b = some o → upd H h'.objs.size (LamO h'.objs.size ⟨X.env.qual ++ "<lambda>", params, body, scope, cloFrom X.env.cells scope.names [], c'⟩) b = some o :=
      fun b o eb => by rw [upd_ne (ne_of_none eb new), eb]
    exact h _ c' _ _ I2 (ExtN.of up) (hT.ext up) upd_same (up _ _ hco)
  | none =>
    refine PySem.W.kla_makeFunction (mg := X.mg) (c := c) (P := P) (ps := ps) (closure_ok fr) I.ok.glob
      (I.mod.glob.keeps I.bk) hcode (TB.code.keeps I.bk) tab tri e TB.gP blt fun c' ct h' tk hx hge hlt ⟨c2, oc, vs, t, e2, hoc, hd, hv⟩ htb => ?_
    cases e2
    have nC : H c' = none := I.hok.fresh hge
    have I1 := inv_table (t' := tk) (h' := h') (more := #[rawInt pos.line, rawInt pos.col, .ref c']) (q := X.env.qual ++ "<lambda>") I tabH
      (fun b o hb eb => hx b o hb eb) htb hge ⟨oc, vs, t, hoc, hd, hv⟩
    generalize hG : upd (upd H P (.tbl (ps ++ #[rawInt pos.line, rawInt pos.col, .ref c']))) c' (CodeO c' (X.env.qual ++ "<lambda>")) = G at I1
    have gP : G P = some (.tbl (ps ++ #[rawInt pos.line, rawInt pos.col, .ref c'])) := by rw [← hG, upd_ne (ne_of_none tabH nC), upd_same]
    have gC : G c' = some (CodeO c' (X.env.qual ++ "<lambda>")) := by rw [← hG, upd_same]
    have gO : ∀ b o, H b = some o → b ≠ P → G b = some o := fun b o eb nb => by rw [← hG, upd_ne (ne_of_none eb nC), upd_ne nb, eb]
    have ext : ExtN H G := fun b o eb n => gO b o eb fun z => by
      rw [z, tabH] at eb
      exact n ps (Option.some.inj eb).symm
    have T1 : Tabs T G := fun p hp => by
      by_cases hb : p.1 = P
      · rw [one p hp hb, hb]
        have eL : (ps ++ #[rawInt pos.line, rawInt pos.col, .ref c']).toList = ps.toList ++ [rawInt pos.line, rawInt pos.col, .ref c'] := by
          rw [Array.toList_append]
        refine ⟨_, gP, ?_, fun p' cv hcv => ?_⟩
        · rw [eL]
          exact PySem.TriplesOk_snoc _ _ _ _ tri
        · rw [eL] at hcv
          rcases among_app _ tri hcv with z | z
          · obtain ⟨c0, e1, e3⟩ := named p' cv z
            exact ⟨c0, e1, ext _ _ e3 codeO_ne⟩
          · exact ⟨c', z, gC⟩
      · obtain ⟨ps', a1, a2, a3⟩ := hT p hp
        refine ⟨ps', gO _ _ a1 hb, a2, fun p' cv hcv => ?_⟩
        obtain ⟨c0, e1, e3⟩ := a3 p' cv hcv
        exact ⟨c0, e1, ext _ _ e3 codeO_ne⟩
    have new : G h'.objs.size = none := I1.hok.fresh (Nat.le_refl _)
    have I2 := lam_laid (t' := tk) (pm := (X.mg "__name__").getD .none) (ct := ct) (F := ⟨X.env.qual ++ "<lambda>", params, body, scope, cloFrom X.env.cells scope.names [], c'⟩) I1
    have up : ∀ b o, G b = some o → upd G h'.objs.size (LamO h'.objs.size ⟨X.env.qual ++ "<lambda>", params, body, scope, cloFrom X.env.cells scope.names [], c'⟩) b = some o :=
      fun b o eb => by rw [upd_ne (ne_of_none eb new), eb]
    exact h _ c' _ _ I2 (ext.trans (ExtN.of up)) (T1.ext up) upd_same (up _ _ gC)
end
/-! ### the value -/
section
variable {X : Cx}
/-- lambda: body -/
def tLamV (T : List (Addr × Str)) (mk : Addr → LF) : TE := fun σ H Q => Tabs T H ∧ ∀ (f c' : Addr) (H1 : Hp), ExtN H H1 → Tabs T H1 → H1 f = some (LamO f (mk c')) → H1 c' = some (CodeO c' (mk c').qual) → Q (.ref f) H1
theorem pe_lam {T : List (Addr × Str)} {c P : Addr} {params : Arguments} {body : Expr} {scope : Scope} {pos : Pos} {mk : Addr → LF} (TB : TabB X.base X.mg c P) (hcode : X.env.code = .ref c) (inT : (P, X.env.qual ++ "<lambda>") ∈ T)
    (one : ∀ p ∈ T, p.1 = P → p.2 = X.env.qual ++ "<lambda>") (hdef : defaultsOf params X.env = ([], [])) (L : LamS X.env.scope scope)
    (hmk : mk = fun c' => ⟨X.env.qual ++ "<lambda>", params, body, scope, cloFrom X.env.cells scope.names [], c'⟩) :
    PE X (.Lambda params body scope pos) (tLamV T mk) := by
  subst hmk
  refine ⟨fun pins s σ H Q I ⟨hT, h⟩ => lam_new I TB hcode inT one hT hdef (L.has I.ok) fun f c' H1 s' I1 x t hf hc => ?_⟩
  exact ⟨.ref f, H1, I1, rfl, h f c' H1 x t hf hc⟩
end
/-! ### its promise -/
/-- what a lambda promises of a call; ws: what its captured names hold then -/
abbrev LSp := List (Option V) → Hp → VK → XK → Prop
def LOk (P : Program) (w : World) (K : PySem.W.Frag) (mg : Str → Option Value) (base : Heap) (CX : CXT) (k : Nat) (f : Addr) (F : LF) (fr : List Str) (sp : LSp) : Prop :=
  ∀ (A : Around) (outer : List Env) (s : Shared) (H : Hp) (ws : List (Option V)) (Q : VK) (E : XK), A.guards = some [] → Room k A →
    Env0 P w K mg base A outer s H → H f = some (LamO f F) → H F.c = some (CodeO F.c F.qual) → CellsAt F.cl fr ws s.heap H → sp ws H Q E →
    codeAny (model P w) A (.call (.ref f) ⟨[], []⟩) (CR CX outer P w H s Q E) s
section
variable {P : Program} {w : World} {K : PySem.W.Frag} {mg : Str → Option Value} {base : Heap} {CX : CXT} {k j : Nat} {f : Addr} {F : LF} {N fr : List Str} {sp : LSp}
theorem LOk.mono (o : LOk P w K mg base CX j f F fr sp) (h : j ≤ k) : LOk P w K mg base CX k f F fr sp :=
  fun A outer s H ws Q E g hr => o A outer s H ws Q E g (hr.mono h)
/-- by its body -/
theorem lok_of (S : NScope N [] fr F.scope)
    (hb : ∀ pm ct : Value, bindArgs (PySem.W.kla_fn "<lambda>" F.qual F.params F.body F.scope F.cl pm (.ref F.c) ct) ⟨[], []⟩ = pure [])
    (body : ∀ (A : Around) (outer : List Env) (s : Shared) (H : Hp) (ws : List (Option V)) (Q : VK) (E : XK), A.guards = some [] → Room k (A.deeper (envF F.nf f s.heap.objs.size)) →
      ws.length = fr.length → sp ws H Q E → ∃ te : TE, PE (ncx CX P w K mg base N F.nf f A outer s H E) F.body te ∧ te (startF N [] ws) H Q) :
    LOk P w K mg base CX (k + 1) f F fr sp := by
  intro A outer s H ws Q E hg hr e0 hf hc C hsp
  obtain ⟨⟨pm, ct, at_⟩, _, _⟩ := e0.hok f _ hf
  have room : s.heap.NoLimit := e0.mod.nolimit.keeps fun b o e => (e0.bs b o e).1
  obtain ⟨te, ht, hq⟩ := body A outer s H ws Q E hg (hr.deeper _) C.len hsp
  refine PySem.W.kla_callFunE hr.depth at_ rfl S.co S.gen rfl (codeO_at e0.hok hc) ?_
  rw [hb]
  refine wpAny_pure (wpAny_newFunctionEnv S.nocell (fun y hy => absurd hy (by simp)) (fun h₁ hns hsb => ⟨room.fresh _ hsb, ?_⟩) S.kind)
  have kp : ∀ b o, s.heap.get? b = some o → h₁.get? b = some o := fun b o e =>
    hsb.extBut b o (Nat.ne_of_lt (Heap.lt_size e)) (Heap.get?_push_of_some _ e)
  have I := inv_startN (CX := CX) (P := P) (w := w) (K := K) (mg := mg) (base := base) (f := f) (F := F.nf) (E := E) (us := []) (vs := []) (tk := s.toks + ([] : List (Str × Value)).length)
    S hr.hd e0 rfl .nil C hns kp
  show codeAny _ _ (.expr F.body (envF F.nf f s.heap.objs.size)) _ _
  refine PySem.W.kla_codeExpr (wpAny_mono (ht.run [] _ _ H _ I hq) (fun v s' z => ?_) fun _ _ z => z)
  obtain ⟨x, H', J, rv, q⟩ := z
  exact ⟨x, H', J.os, J.bare, J.base, J.hok, rv, q⟩
end
/-! ### its call, by a def that got it -/
theorem cells_on {cl : List (Str × Addr)} {fr : List Str} {ws : List (Option V)} {h h' : Heap} {H H' : Hp} {fs : List Addr} (C : CellsAt cl fr ws h H) (u : Un fs [] H H' h h') : CellsAt cl fr ws h' H' := by
  have cell : ∀ {a : Addr} {v : Option Value}, H a = none → h.IsCell a v → h'.IsCell a v := fun {a v} n ⟨o, ho, hd⟩ => by
    obtain ⟨sl, q⟩ := u.any ho n (by simp)
    exact ⟨_, q, hd⟩
  refine ⟨C.len, fun y a e => ?_, C.inj, fun i y e => ?_⟩
  · obtain ⟨n, v, z⟩ := C.all y a e
    obtain ⟨o, ho, _⟩ := id z
    exact ⟨u.free a o ho n (by simp), v, cell n z⟩
  · obtain ⟨a, ha, hv⟩ := C.has i y e
    refine ⟨a, ha, fun v ev => ?_⟩
    obtain ⟨x, r, z⟩ := hv v ev
    exact ⟨x, r, cell (C.all y a ha).1 z⟩
section
variable {X : Cx} {CX : CXT} {k j i : Nat} {f : Addr} {F : LF} {fr : List Str} {sp : LSp} {E : L2.St → XK} {x : Str} {p pos : Pos} {ws : List (Option V)}
/-- x(), x a name that holds the lambda; the cells are known from the frame's entry on -/
theorem pe_lcall (Fn : LOk X.prog X.w X.K X.mg X.base CX k f F fr sp) (C : CellsAt F.cl fr ws X.s_0.heap X.H_0) (hex : X.ex = []) (hr : Room k X.A) (hgd : X.A.guards = some []) (hx : ∀ σ, PassesAt CX X σ (E σ))
    (hN : X.N[i]? = some x) (hv : Vis X.env.scope x) (hd : (x == ("__debug__" : Str)) = false := by decide) (hcd : (x == ("__classdict__" : Str)) = false := by decide) :
    PE X (.Call (.Name x p) [] [] pos) (fun σ H Q => σ[i]? = some (some (.ref f)) ∧ H f = some (LamO f F) ∧ H F.c = some (CodeO F.c F.qual) ∧ sp ws H Q (E σ)) := by
  refine ⟨fun pins s σ H Q I h => ?_⟩
  obtain ⟨hs, hf, hc, q⟩ := h
  refine wpAny_Call_Name_kw (thn ((pe_var (pos := p) hN hv hd hcd).run pins s σ H (fun v H1 => v = .ref f ∧ H1 = H) I ⟨.ref f, hs, rfl, rfl⟩) fun u s1 ⟨v, H1, I1, r1, e1, e2⟩ => ?_)
  subst e1
  subst e2
  cases (show u = Value.ref f from r1)
  obtain ⟨⟨pm, ct, at_⟩, _, _⟩ := I1.hok f _ hf
  refine PySem.W.callWith_F0 (first := []) ⟨_, _, _, _, at_⟩ ?_
  have C1 : CellsAt F.cl fr ws s1.heap H1 := cells_on (fs := X.fs) C (by
    have u := I1.base
    rw [hex] at u
    exact u)
  exact wpAny_call (codeAny_mono (Fn X.A X.stack s1 H1 ws Q (E σ) hgd hr I1.env0 hf hc C1 q) fun rs s' hq => by
    match rs, hq with
    | .error e', hq => exact hx σ pins H1 s1 e' s' I1 hq
    | .ok (.ret u), hq => exact I1.after hq
    | .ok .next, hq => exact hq.elim
    | .ok .brk, hq => exact hq.elim
    | .ok .cont, hq => exact hq.elim)
end
/-! ### a def that gets a lambda, called where the cells are -/
/-- the promise of the def at g of a call with the lambda F at f -/
def TOk (P : Program) (w : World) (K : PySem.W.Frag) (mg : Str → Option Value) (base : Heap) (CX : CXT) (k : Nat) (g f : Addr) (F : LF) (fr : List Str) (sp : LSp) : Prop :=
  ∀ (A : Around) (outer : List Env) (s : Shared) (H : Hp) (ws : List (Option V)) (Q : VK) (E : XK), A.guards = some [] → Room k A →
    Env0 P w K mg base A outer s H → H f = some (LamO f F) → H F.c = some (CodeO F.c F.qual) → CellsAt F.cl fr ws s.heap H → sp ws H Q E →
    codeAny (model P w) A (.call (.ref g) ⟨[.ref f], []⟩) (CR CX outer P w H s Q E) s
section
variable {P : Program} {w : World} {K : PySem.W.Frag} {mg : Str → Option Value} {base : Heap} {CX : CXT} {k : Nat} {g f : Addr} {F : LF} {fd : FuncData} {fr : List Str} {sp : LSp}
variable {x qual : Str} {params : Arguments} {body : List Stmt} {scope : Scope} {N : List Str} {y : Str} {kws : List (Str × V)}
theorem tok_of (D : FunD K x qual params body scope [] kws g fd) (S : FnScope N [y] scope)
    (hb : ∀ (s : Shared) (us : List Value), us.length = 1 → BindsTo s fd ⟨us, []⟩ (List.zip [y] us))
    (hbody : ∀ (cdv : Value) (A : Around) (outer : List Env) (s : Shared) (H : Hp) (ws : List (Option V)) (Q : VK) (E : XK), A.guards = some [] → Room k (A.deeper (envOfC qual scope s.heap.objs.size g cdv)) →
      H f = some (LamO f F) → H F.c = some (CodeO F.c F.qual) → CellsAt F.cl fr ws s.heap H → sp ws H Q E →
      ∃ t, PSs (cxOf CX P w K mg base N qual scope g cdv A outer s H E) body t ∧ t { nx := fun _ H' => Q .non H', rt := Q } (start N [.ref f]) H) : TOk P w K mg base CX (k + 1) g f F fr sp := by
  obtain ⟨⟨oc, od, dV, kV, doc, pm, an, cdv, ct, osl, rfl, lk, hcd, _⟩, _⟩ := D
  intro A outer s H ws Q E hg hr e0 hf hc C q
  exact run_ofS (us := [.ref f]) (vs := [.ref f]) lk hcd S hr e0 (hb s [.ref f] rfl) (.cons rfl .nil) rfl fun hr' => hbody cdv A outer s H ws Q E hg hr' hf hc C q
end
section
variable {X : Cx} {CX : CXT} {k : Nat} {g : Addr} {E : XK} {x : Str} {p pos : Pos} {e : Expr} {t : TA} {I0 : Type}
/-- x(e), e a lambda of a family -/
theorem pe_tcall {fam : I0 → Addr → LF} {fr : I0 → List Str} {js : I0 → List Nat} {sp : I0 → LSp} (Fn : ∀ i f c', TOk X.prog X.w X.K X.mg X.base CX k g f (fam i c') (fr i) (sp i)) (cp : ∀ i c', X.Ok → Caps X (fam i c').cl (fr i) (js i)) (hr : Room k X.A) (hgd : X.A.guards = some []) (hg : Gl X x)
    (hm : X.mg x = some (.ref g)) (hk : PySem.W.keepIn X.K (.ref g) = true) (hx : Passes CX X E) (ha : PA X [e] t) (hdb : (x == ("__debug__" : Str)) = false := by decide) (he : starEach [e] X.env = (false, eval e X.env) :: starEach [] X.env := by rfl)
    (hpl : (backTo pos (starEach [] X.env)).any (·.1) = false := by rfl) :
    PE X (.Call (.Name x p) [e] [] pos) (fun σ H Q => t σ H fun vs H1 => ∃ i f c', vs = [.ref f] ∧ H1 f = some (LamO f (fam i c')) ∧ H1 (fam i c').c = some (CodeO (fam i c').c (fam i c').qual) ∧ sp i ((js i).map (slotAt σ)) H1 Q E) := by
  refine ⟨fun pins s σ H Q I h => wpAny_Call_Name_kw (ld_glob I hg hm (PySem.W.callWith_K (h₀ := X.base) I.ok.mod.kin hk (thn (ha.run pos pins s σ H _ I h) fun us s1 z => ?_) he hpl) hdb)⟩
  obtain ⟨vs, H1, I1, r, i, f, c', rfl, hf, hc, q⟩ := z
  match us, r with
  | [u], .cons ru .nil =>
    cases (show u = Value.ref f from ru)
    refine ⟨I1.kIn, wpAny_call (codeAny_mono (Fn i f c' X.A X.stack s1 H1 _ Q E hgd hr I1.env0 hf hc (cells_of I1 (cp i c' I1.ok)) q) fun rs s' hq => ?_)⟩
    match rs, hq with
    | .error e', hq => exact hx pins σ H1 s1 e' s' I1 hq
    | .ok (.ret u), hq => exact I1.after hq
    | .ok .next, hq => exact hq.elim
    | .ok .brk, hq => exact hq.elim
    | .ok .cont, hq => exact hq.elim
end
end Ver

/-! Methods called by names; a try with two clauses, the first one with a name; a law's end with the law's own table. -/
namespace Ver
open PySem PySem.Spec PyProof.Rows L2
/-! ### by names -/
/-- f(e, .., k = v, ..), no defaults -/
theorem kbN {K : PySem.W.Frag} {x qual : Str} {params : Arguments} {body : List Stmt} {scope : Scope} {f : Addr} {fd : FuncData} {ps : List Str} (F : FunD K x qual params body scope [] [] f fd) (n : Nat) (ks : List Str) (g : {α : Type} → List α → List α → List α)
    (hrel : ∀ {vs zs : List V} {us ws : List Value}, Vals vs us → Vals zs ws → Vals (g vs zs) (g us ws))
    (h : ∀ (kV doc pm : Value) (an : Option Addr) (cdv ct : Value) (us ws : List Value), us.length = n → ws.length = ks.length → bindArgs (PySem.W.fnOf x qual params body scope .none kV doc pm an cdv ct) ⟨us, ks.zip ws⟩ = pure (ps.zip (g us ws))) :
    KBn K fd ps n ks (fun us ws => g us ws) (fun vs zs => g vs zs) := by
  obtain ⟨oc, od, dV, kV, doc, pm, an, cdv, ct, osl, rfl, lk, hcd, hD, hK⟩ := F.ex
  rcases hD with ⟨_, rfl⟩ | ⟨e, _⟩
  · exact ⟨fun s us ws X l1 l2 => BindsTo.of_looks fun M => by
      rw [h kV doc pm an cdv ct us ws l1 l2]
      exact .of_pure rfl, hrel⟩
  · exact absurd rfl e
/-- a promise of calls with so many places and these names -/
def FnK (P : Program) (w : World) (K : PySem.W.Frag) (mg : Str → Option Value) (base : Heap) (CX : CXT) (k : Nat) (f : Addr) (n : Nat) (ks : List Str) (gV : List V → List V → List V) (sp : Sp) : Prop :=
  ∀ (A : Around) (outer : List Env) (s : Shared) (H : Hp) (us ws : List Value) (vs zs : List V) (Q : VK) (E : XK), A.guards = some [] → Room k A → Env0 P w K mg base A outer s H →
    Vals vs us → us.length = n → Vals zs ws → ws.length = ks.length → sp (gV vs zs) H Q E → codeAny (model P w) A (.call (.ref f) ⟨us, ks.zip ws⟩) (CR CX outer P w H s Q E) s
section
variable {P : Program} {w : World} {K : PySem.W.Frag} {mg : Str → Option Value} {base : Heap} {CX : CXT} {k n : Nat} {f : Addr} {fd : FuncData} {sp : Sp}
variable {x qual : Str} {params : Arguments} {body : List Stmt} {scope : Scope} {N ps ks : List Str} {kws : List (Str × V)} {g : List Value → List Value → List Value} {gV : List V → List V → List V}
theorem okK (F : FunD K x qual params body scope [] kws f fd) (S : FnScope N ps scope) (hb : KBn K fd ps n ks g gV) (len : ∀ vs H Q E, sp vs H Q E → vs.length = ps.length)
    (hbody : ∀ (cdv : Value) (A : Around) (outer : List Env) (s : Shared) (H : Hp) (vs : List V) (Q : VK) (E : XK), A.guards = some [] → Room k (A.deeper (envOfC qual scope s.heap.objs.size f cdv)) → sp vs H Q E →
      ∃ t, PSs (cxOf CX P w K mg base N qual scope f cdv A outer s H E) body t ∧ t { nx := fun _ H' => Q .non H', rt := Q } (start N vs) H) : FnK P w K mg base CX (k + 1) f n ks gV sp := by
  obtain ⟨⟨oc, od, dV, kV, doc, pm, an, cdv, ct, osl, rfl, lk, hcd, _⟩, _⟩ := F
  intro A outer s H us ws vs zs Q E hg hr e0 r ln rz lz hsp
  have KX : K.In s.heap := e0.mod.kin.keeps fun b o e => (e0.bs b o e).1
  refine StX.run_bnd (G := fun xs H2 => xs = gV vs zs ∧ H2 = H) lk hcd S hr e0 (fun A' Ex Q' q => ?_) fun s2 H2 xs z hr' => ?_
  · exact hb.to s us ws KX ln lz _ A' Ex Q' (q s H _ _ e0 Un.refl rfl (fun _ _ z => z) (hb.rel r rz) (len _ _ _ _ hsp) ⟨rfl, rfl⟩)
  · obtain ⟨rfl, rfl⟩ := z
    exact hbody cdv A outer s2 H2 _ Q E hg hr' hsp
end
section
variable {X : Cx} {CX : CXT} {k : Nat} {f : Addr} {sp : Sp} {E : XK} {m : Str} {pos apos : Pos} {o : Expr} {ta : TE} {kws : List Keyword} {ks : List Str} {gV : List V → List V → List V} {tk : TA}
/-- o.m(k = e, ..) -/
def tMethK (K : PySem.W.Frag) (m : Str) (f : Addr) (n : Nat) (gV : List V → List V → List V) (sp : Sp) (E : XK) (ta : TE) (t : TA) : TE := fun σ H Q => ta σ H fun x H1 => ∃ a C dx fs, x = .ref a ∧ H1 a = some (.ins C dx fs) ∧ Cls K C ∧ Meth K C m f ∧ fs.lookup m = none ∧
  t σ H1 fun zs H2 => zs.length = n ∧ sp (gV [.ref a] zs) H2 Q E
theorem pe_methK {pl : Sem Bool} (he : PE X o ta) (hk : PySem.W.keepIn X.K (.ref f) = true) (F : FnK X.prog X.w X.K X.mg X.base CX k f 1 ks gV sp) (hr : Room k X.A) (hgd : X.A.guards = some []) (hx : Passes CX X E) (ha : PK X kws tk)
    (hall : (backToKw pos (keywordEach kws X.env)).all (·.1.isSome) = true := by rfl) (hks : (backToKw pos (keywordEach kws X.env)).filterMap (·.1) = ks := by rfl)
    (hpl : ((backTo pos (starEach [] X.env)).any (·.1) || (backToKw pos (keywordEach kws X.env)).any (·.1.isNone)) = false := by rfl)
    (ht : eval (.Call (.Attribute o m apos) [] kws pos) X.env = (do
      let ov ← eval o X.env
      standAt apos.atName
      let (g, first) ← holding [ov] (getMethod ov m pl)
      callWith pos g first (backTo pos (starEach [] X.env)) (backToKw pos (keywordEach kws X.env))) := by rfl) :
    PE X (.Call (.Attribute o m apos) [] kws pos) (tMethK X.K m f ks.length gV sp E ta tk) := by
  refine ⟨fun pins s σ H Q I h => PySem.W.methodCall_KW (pl := pl) (thn (he.run pins s σ H _ I h) fun u s1 z => ?_) ht⟩
  obtain ⟨x, H1, I1, rx, a, C, dx, fs, rfl, ea, c, hm, l, q⟩ := z
  cases (show u = Value.ref a from rx)
  refine getmeth_ok I1 ea c hm l ?_
  refine PySem.W.callWith_KW0 (first := [.ref a]) (h₀ := X.base) I.ok.mod.kin hk hall ?_ hpl
  refine thn (ha.run pos pins s1 σ H1 _ I1 q) fun ws s2 ⟨zs, H2, I2, rz, lz, q2⟩ => ⟨I2.kIn, ?_⟩
  rw [hks]
  exact wpAny_call (codeAny_mono (F X.A X.stack s2 H2 [.ref a] ws [.ref a] zs Q E hgd hr I2.env0 (.cons rfl .nil) rfl rz (rz.length.symm.trans lz) q2) fun rs s' hq => by
    match rs, hq with
    | .error e', hq => exact hx pins σ H2 s2 e' s' I2 hq
    | .ok (.ret u), hq => exact I2.after hq
    | .ok .next, hq => exact hq.elim
    | .ok .brk, hq => exact hq.elim
    | .ok .cont, hq => exact hq.elim)
end
/-! ### a star parameter, errors let out -/
theorem ub_back {fs : List Addr} {H H' : Hp} {h B h' : Heap} {o : Obj} {u : HO} (n0 : H h.objs.size = none) (x : UB fs (upd H h.objs.size u) H' (h.push o) B h') : UB fs H H' h B h' := by
  have lt : ∀ {b : Addr} {v : Obj}, h.get? b = some v → b ≠ h.objs.size := fun e => Nat.ne_of_lt (Heap.lt_size e)
  have up : ∀ {b : Addr} {v : Obj}, h.get? b = some v → (h.push o).get? b = some v := fun e => Heap.get?_push_of_some _ e
  exact {
    keep := fun b v e n nf => x.keep b v (up e) ((upd_ne (lt e)).trans n) nf
    slot := fun b v e m => x.slot b v (up e) m
    free := fun b v e n => x.free b v (up e) ((upd_ne (lt e)).trans n)
    there := fun b v e nf => x.there b v (up e) nf
    tups := fun b xs e => x.tups b xs ((upd_ne (ne_of_none e n0)).trans e)
    frzs := fun b v xs e => x.frzs b v xs ((upd_ne (ne_of_none e n0)).trans e)
    tbls := fun b ps e => x.tbls b ps ((upd_ne (ne_of_none e n0)).trans e) }
theorem okStarX {P : Program} {w : World} {K : PySem.W.Frag} {mg : Str → Option Value} {base : Heap} {k : Nat} {f : Addr} {fd : FuncData} {sp : Sp} {x qual pr : Str} {params : Arguments} {body : List Stmt} {scope : Scope} {N ps : List Str} {kws : List (Str × V)}
    (F : FunD K x qual params body scope [] kws f fd) (S : FnScope N (ps ++ [pr]) scope)
    (hb : ∀ (kV doc pm : Value) (an : Option Addr) (cdv ct : Value) (us rest : List Value), us.length = ps.length → bindArgs (PySem.W.fnOf x qual params body scope .none kV doc pm an cdv ct) ⟨us ++ rest, []⟩ = (newTuple rest >>= fun t => pure (ps.zip us ++ [(pr, t)])))
    (hbody : ∀ (cdv : Value) (A : Around) (outer : List Env) (s : Shared) (H : Hp) (vs : List V) (Q : VK) (E : XK), A.guards = some [] → Room k (A.deeper (envOfC qual scope s.heap.objs.size f cdv)) → sp vs H Q E →
      ∃ t, PSs (cxOf (L2.CX P w) P w K mg base N qual scope f cdv A outer s H E) body t ∧ t { nx := fun _ H' => Q .non H', rt := Q } (start N vs) H) :
    FnG P w K mg base (L2.CX P w) (k + 1) f (fun vs H Q E => ∃ ws rest, vs = ws ++ rest ∧ ws.length = ps.length ∧ rest.length ≤ sizeLine ∧ ∀ p, H p = none → sp (ws ++ [V.ref p]) (upd H p (.tup rest)) Q E) := by
  obtain ⟨⟨oc, od, dV, kV, doc, pm, an, cdv, ct, osl, rfl, lk, hcd, hD, _⟩, _⟩ := F
  have eD : dV = .none := by
    rcases hD with ⟨_, e⟩ | ⟨e, _⟩
    · exact e
    · exact absurd rfl e
  subst eD
  intro A outer s H us vs Q E hg hr e0 r hsp
  obtain ⟨ws, rest, rfl, hl, hz, hq⟩ := hsp
  obtain ⟨u1, u2, rfl, r1, r2⟩ := StX.vals_split r
  have n0 : H s.heap.objs.size = none := e0.hok.fresh (Nat.le_refl _)
  have l1 : u1.length = ps.length := r1.length.symm.trans hl
  refine StX.run_bnd lk hcd S hr e0 (G := fun xs H2 => ∃ p, H p = none ∧ xs = ws ++ [V.ref p] ∧ H2 = upd H p (.tup rest)) (fun A' Ex Q' h => ?_) fun s2 H2 xs g hr' => ?_
  · rw [hb _ _ _ _ _ _ u1 u2 l1]
    have new : ObjOk P w (upd H s.heap.objs.size (.tup rest)) (s.heap.push ({ cls := .type "tuple", data := .seq u2.toArray } : Obj)) s.heap.objs.size (.tup rest) := ⟨hz, u2, r2, ⟨_, Heap.get?_push_size _ rfl, rfl, _, rfl⟩⟩
    have z := h _ _ (ws ++ [V.ref s.heap.objs.size]) (u1 ++ [Value.ref s.heap.objs.size]) (StX.env0_laid e0 new) (StX.un_laid (fs := frs outer) (s := s) n0) rfl (fun e s' ⟨a, B, H', cls, d, z1, z2, z3, z4, z5⟩ => ⟨a, B, H', cls, d, z1, z2, z3, ub_back n0 z4, z5⟩) (r1.append (.cons rfl .nil))
      (by rw [List.length_append, List.length_append, hl] <;> rfl) ⟨_, n0, rfl, rfl⟩
    rw [List.zip_append l1.symm] at z
    exact wpAny_bind (wpAny_newTuple (wpAny_pure z) (by rw [← r2.length]; exact hz))
  · obtain ⟨p, hp, rfl, rfl⟩ := g
    obtain ⟨t, ht, q⟩ := hbody cdv A outer s2 _ _ Q E hg hr' (hq p hp)
    exact ⟨t, ht, q⟩
/-! ### two clauses -/
section
variable {X : Cx} {x x2 n : Str} {c c2 : Value} {i : Nat} {body : List Stmt} {w1 w2 : List Stmt} {b1 b2 : Stmt} {q1 q2 r1 r2 pos : Pos} {tb : WX → TS} {t1 t2 : Addr → Value → Option Addr → TS} {Wout : WX}
theorem ps_try_as2 (stk : X.stack = X.env :: X.outer) (hf : X.env.frame = some X.env.locals) (hN : X.N.Nodup) (hi : X.N[i]? = some n) (loc : X.env.kindOf n = some .local) (hc : Names X x c) (hc2 : Names X x2 c2) (tk : Takes X Wout)
    (hb : ∀ (W : WX) (pn : List (Addr × Obj)) (xe : Value → Shared → Prop), Takes (X.tr pn xe) W → PassesOwn (model X.prog X.w) X.A X.env xe → PSs (X.tr pn xe) body (tb W))
    (s1 : ∀ (a : Addr) (oe : Obj) (cls : Value) (d : Option Addr) (pn : List (Addr × Obj)), Zc cls d oe → (∃ vs, oe.data = .fields vs) → PSs (X.suite a ((a, oe) :: pn)) (b1 :: w1) (t1 a cls d))
    (s2 : ∀ (a : Addr) (oe : Obj) (cls : Value) (d : Option Addr) (pn : List (Addr × Obj)), Zc cls d oe → (∃ vs, oe.data = .fields vs) → PSs (X.suite a ((a, oe) :: pn)) (b2 :: w2) (t2 a cls d)) :
    PS X (.Try body [.ExceptHandler (some (.Name x q1)) (some n) (b1 :: w1) r1, .ExceptHandler (some (.Name x2 q2)) none (b2 :: w2) r2] [] [] pos) (fun D σ H => tb (wAs X.K c i t1 (wOnly X.K c2 t2 Wout D) D) D σ H) := by
  refine ⟨fun pins s σ H D I h => ?_⟩
  have ok := I.ok
  have frm : X.A.frames = some (X.env :: X.outer) := ok.frames.trans (congrArg some stk)
  refine wpAny_Try_except (wpAny_mono ((hb _ (X.pn ++ pins) (fun e s₁ => wpAny (model X.prog X.w) X.A (noteFrame e X.env) (fun _ s₂ => wpAny (model X.prog X.w) X.A (setFlight e none) (fun _ s₃ =>
    wpAny (model X.prog X.w) X.A (handleBy e X.env [.ExceptHandler (some (.Name x q1)) (some n) (b1 :: w1) r1, .ExceptHandler (some (.Name x2 q2)) none (b2 :: w2) r2])
      (SP X pins D) X.xe s₃) X.xe s₂) X.xe s₁) (fun u s' xx => ?_) PassesOwn.looking).run [] s σ H D (I.toTry _) h) (fun f sE z => ?_) fun _ _ z => z)
  · obtain ⟨a, B, sI, pins', σ', H', cls, d, rfl, Jt, nb, up, sky, na, os, ag, b, m1, yes, no⟩ := xx
    have J : Inv X pins σ' H' sI := Jt.ofTry ok
    rw [stk] at sky
    show wpAny (model X.prog X.w) X.A (noteFrame (.ref a) X.env) _ _ _
    refine Sky.land Zc.steady frm hf sky fun h3 fl3 up3 => ?_
    have J3 : Inv X pins σ' H' { s' with heap := h3 } := J.landed nb fl3.1 (up.trans up3) os ag
    obtain ⟨o3, v3, e3, z3, d3⟩ := fl3.there
    have off : a ∉ frs (X.env :: X.outer) := fun hm => by
      obtain ⟨_, o', e', nf⟩ := fl3.2.2.1.mem hm
      rw [e3] at e'
      cases e'
      exact nf _ d3
    have offL : a ≠ X.env.locals := fun z => off (List.mem_filterMap.mpr ⟨X.env, List.mem_cons_self, by rw [hf, z]⟩)
    have offF : a ∉ X.fs := fun hm => by
      obtain ⟨e, he, q⟩ := List.mem_filterMap.mp hm
      exact off (List.mem_filterMap.mpr ⟨e, List.mem_cons_of_mem _ he, q⟩)
    have S3 := J3.suite e3 d3 na offL offF
    have read : ∀ {y : Str} {cy : Value} {np : Pos} {Q E : Value → Shared → Prop}, Names X y cy → Q cy { s' with heap := h3 } →
        wpAny (model X.prog X.w) (X.A.mark (some (.ref a))) (eval (.Name y np) X.env) Q E { s' with heap := h3 } := fun {y cy np Q E} hy q => by
      obtain ⟨hg, db, hm | ⟨hm, hv, hn⟩⟩ := hy
      · exact ld_glob (X := X.suite a ((a, o3) :: (X.pn ++ pins))) S3 hg hm q db
      · exact ld_blt (X := X.suite a ((a, o3) :: (X.pn ++ pins))) S3 hg hm hv q hn db
    have ty : PySem.W.Looks (model X.prog X.w) h3 (typeOf (.ref a)) cls := fun A Q E s k q =>
      wpAny_typeOf_ref (k _ _ e3) (by rw [z3.1]; exact q)
    refine wpAny_handleBy_cons (codeAny_handlers_test (read hc ((PySem.W.exm_one (M := model X.prog X.w) J3.kIn ty m1).here ?_))) (by intro q; cases q)
    cases b with
    | true =>
      refine codeAny_handlers_suite_as (HandSPX.lands_againZ fl3 fun h4 fl4 up4 => ?_)
      have J4 : Inv X pins σ' H' { s' with heap := h4 } := J.landed nb fl4.1 ((up.trans up3).trans up4) os ag
      obtain ⟨o4, v4, e4, z4, d4⟩ := fl4.there
      refine store_ok (X := X.suite a ((a, o4) :: (X.pn ++ pins))) (v := .ref a) (J4.suite e4 d4 na offL offF) hN hi (.inl loc) rfl (fun s5 S5 => ?_) (.inr loc)
      refine wpAny_mono ((s1 a o4 cls d (X.pn ++ pins) z4 ⟨_, d4⟩).run [] s5 _ H' _ S5 (yes rfl a na)) (fun f s6 z => ?_) fun _ _ z => z.elim
      have fin : ∀ {σ6 : L2.St} {H6 : Hp} {Q : Shared → Prop}, Inv (X.suite a ((a, o4) :: (X.pn ++ pins))) [] σ6 H6 s6 → (∀ s7, Inv X pins (σ6.set i none) H6 s7 → Q s7) →
          wpAny (model X.prog X.w) X.A (do bindName X.env n .none; unbindBehindTheSuite X.env n r1) (fun _ s7 => Q s7) X.xe s6 :=
        fun {σ6 H6 Q} S6 hq => gone_ok (S6.unsuite ok) hN hi loc hq
      match f, z with
      | .next, ⟨_, _, S6, q6⟩ => exact fin S6 fun s7 J7 => ⟨_, _, J7, q6⟩
      | .brk, ⟨_, _, S6, q6⟩ => exact fin S6 fun s7 J7 => ⟨_, _, J7, q6⟩
      | .cont, ⟨_, _, S6, q6⟩ => exact fin S6 fun s7 J7 => ⟨_, _, J7, q6⟩
      | .ret u, ⟨_, _, _, S6, r6, q6⟩ => exact fin S6 fun s7 J7 => ⟨_, _, _, J7, r6, q6⟩
    | false =>
      obtain ⟨b, m2, yes2, no2⟩ := no rfl
      show wpAny _ X.A (handleBy (.ref a) X.env [.ExceptHandler (some (.Name x2 q2)) none (b2 :: w2) r2]) _ _ _
      refine wpAny_handleBy_cons (codeAny_handlers_test (read hc2 ((PySem.W.exm_one (M := model X.prog X.w) J3.kIn ty m2).here ?_))) (by intro q; cases q)
      cases b with
      | true =>
        refine codeAny_handlers_suite (HandSPX.lands_againZ fl3 fun h4 fl4 up4 => ?_)
        have J4 : Inv X pins σ' H' { s' with heap := h4 } := J.landed nb fl4.1 ((up.trans up3).trans up4) os ag
        obtain ⟨o4, v4, e4, z4, d4⟩ := fl4.there
        refine wpAny_mono ((s2 a o4 cls d (X.pn ++ pins) z4 ⟨_, d4⟩).run [] _ _ H' _ (J4.suite e4 d4 na offL offF) (yes2 rfl a na)) (fun f s6 z => ?_) fun _ _ z => z.elim
        match f, z with
        | .next, ⟨_, _, S6, q6⟩ => exact ⟨_, _, S6.unsuite ok, q6⟩
        | .brk, ⟨_, _, S6, q6⟩ => exact ⟨_, _, S6.unsuite ok, q6⟩
        | .cont, ⟨_, _, S6, q6⟩ => exact ⟨_, _, S6.unsuite ok, q6⟩
        | .ret u, ⟨_, _, _, S6, r6, q6⟩ => exact ⟨_, _, _, S6.unsuite ok, r6, q6⟩
      | false =>
        show wpAny _ X.A (handleBy (.ref a) X.env []) _ _ _
        obtain ⟨_, _, _, oe, vs, T, oT, ts', he, hz, hd, h1, hr⟩ := id fl3
        refine wpAny_handleBy_nil ?_
        unfold PySem.passOn
        refine wpAny_bind (wpAny_field he hd h1 ?_)
        have nn : ¬ ((Value.ref T == Value.none) = true) := by simp
        rw [if_neg nn]
        have out : wpAny (model X.prog X.w) X.A (setFlight (.ref a) X.env.frame)
            (fun _ s4 => wpAny (model X.prog X.w) X.A (throw (.ref a) : Sem Flow) (SP X pins D) X.xe s4) X.xe { s' with heap := h3 } := by
          rw [hf]
          refine HandSPX.setFlight_upZ fl3 fun h4 hh4 up4 => wpAny_throw (tk _ _ ?_)
          rw [← stk] at hh4
          exact ⟨a, B, sI, pins, σ', H', cls, d, rfl, J, nb, (up.trans up3).trans up4, .inr (.inr hh4), na, os, ag, no2 rfl⟩
        first
          | exact wpAny_bind (wpAny_pure (wpAny_bind out))
          | exact wpAny_bind out
  · match f, z with
    | .next, ⟨_, _, J, q⟩ => exact wpAny_execs_nil ⟨_, _, J.ofTry ok, q⟩
    | .brk, ⟨_, _, J, q⟩ => exact ⟨_, _, J.ofTry ok, q⟩
    | .cont, ⟨_, _, J, q⟩ => exact ⟨_, _, J.ofTry ok, q⟩
    | .ret u, ⟨_, _, _, J, r, q⟩ => exact ⟨_, _, _, J.ofTry ok, r, q⟩
end
end Ver

namespace Ver
open PySem PySem.Spec PyProof.Rows L2 LamX
section
variable {P : Program} {w : World} {K : PySem.W.Frag} {mg mb : Str → Option Value} {k : Nat} {fa a c T : Addr} {sp : Sp} {s₁ : Shared} {vs : List Value} {ns : List Int}
/-- an empty table -/
abbrev noTab : Obj := { cls := .none, data := .fields #[] }
/-- the law's call over one abstract heap, the law's own table in it -/
theorem lawTOn {H : Hp} (KX : K.In s₁.heap) (hns : s₁.heap.Ns mainGlobals mg) (hb : s₁.heap.Ns builtinsNs mb) (hbb : ∀ x : Str, x ≠ "__name__" → mb x = bootBuiltins x) (hlim : s₁.heap.NoLimit) (hg : s₁.gens = #[])
    (tab : s₁.heap.get? T = some noTab) (nT : K.lookup T = none) (hC : PySem.W.CodeHd s₁.heap c T)
    (hbm : ∃ (m : Addr) (o : Obj), mg "__builtins__" = some (.ref m) ∧ m ≠ builtinsNs ∧ s₁.heap.get? m = some o ∧ o.cls = .type "module" ∧ o.dict = some builtinsNs ∧ o.data = .plain)
    (ha : s₁.heap.get? a = some { cls := .type "list", data := .seq vs.toArray }) (hr : Room k callerA)
    (F : ∀ base : Heap, K.In base → base.Ns mainGlobals mg → TabB base mg c T → FnG P w K mg base CX0 k fa sp)
    (HT : H T = some (.tbl #[])) (HA : ∀ b, b ≠ T → H b = none ∨ (b = a ∧ ∃ o xs, H b = some (.frz o (.lst xs))))
    (hsp : sp [.ref a] H (fun v _ => v = .bl true) fun _ _ _ => False) (hok : HOk P w H s₁.heap) (hK : H a ≠ none → K.lookup a = none) :
    codeAny (model P w) callerA (.call (.ref fa) ⟨[.ref a], []⟩) (fun r s' => r = .ok (.ret (.bool true)) ∧ OldK s₁.heap s'.heap ∧ s'.os = s₁.os ∧ AllBare s'.gens) s₁ := by
  have free : ∀ b o, s₁.heap.get? b = some o → (∀ w n, o.data ≠ Data.seq w n) → o.data ≠ .fields #[] → H b = none := fun b o e n1 n2 => by
    by_cases z : b = T
    · rw [z, tab] at e
      cases e
      exact absurd rfl n2
    · rcases HA b z with h | ⟨h, _⟩
      · exact h
      · rw [h, ha] at e
        cases e
        exact absurd rfl (n1 _ _)
  have names : ∀ b m, s₁.heap.Ns b m → (hidT s₁.heap H).Ns b m := fun b m ⟨o, es, ep, e, d, r⟩ =>
    ⟨o, es, ep, hidT_get e (free b o e (fun w n z => by rw [d] at z; cases z) fun z => by rw [d] at z; cases z), d, r⟩
  have KB : K.In (hidT s₁.heap H) := fun b o e => hidT_get (KX b o e) (by
    by_cases z : b = T
    · rw [z, nT] at e
      cases e
    · rcases HA b z with h | ⟨h, o2, xs, h2⟩
      · exact h
      · rw [h] at e h2
        rw [hK (by rw [h2]; simp)] at e
        cases e)
  have md : Mod K mg (hidT s₁.heap H) := ⟨KB, names _ _ hns, ⟨mb, names _ _ hb, hbb⟩, by obtain ⟨mc, h1, h2⟩ := hlim; exact ⟨mc, names _ _ h1, h2⟩⟩
  have nof : ∀ b, b ∉ frs ([] : List Env) := fun b z => by cases z
  have TB : TabB (hidT s₁.heap H) mg c T := by
    obtain ⟨o, us, file, tf, flags, tg, inF, text, tt, e1, r1, r2, r3, r⟩ := hC
    obtain ⟨m, om, b1, b2, b3, b4, b5, b6⟩ := hbm
    have nG : m ≠ mainGlobals := fun q => by
      obtain ⟨o', es, ep, e, d, _⟩ := hns
      rw [q, e] at b3
      cases b3
      rw [d] at b6
      cases b6
    have nP : m ≠ T := fun q => by
      rw [q, tab] at b3
      cases b3
      cases b6
    refine ⟨⟨o, us, file, tf, flags, tg, inF, text, tt, hidT_get e1 (free c o e1 (fun w n z => ?_) fun z => ?_), r1, r2, r3, r⟩,
      ⟨m, om, b1, b2, nG, nP, hidT_get b3 (free m om b3 (fun w n z => ?_) fun z => ?_), b4, b5, b6⟩, fun z => ?_⟩
    · rw [r2] at z
      cases z
    · rw [r2] at z
      cases z
      simp at r3
    · rw [b6] at z
      cases z
    · rw [b6] at z
      cases z
    · obtain ⟨o', es, ep, e, d, _⟩ := hns
      rw [z, tab] at e
      cases e
      cases d
  have e0 : Env0 P w K mg (hidT s₁.heap H) callerA [] s₁ H := ⟨rfl, md, fun _ _ e => of_hidT e, Nat.le_of_eq (hidT_size _ _), True.intro, fun b z => absurd z (nof b), hok, .of_eq hg⟩
  refine codeAny_mono (F _ KB (names _ _ hns) TB callerA [] s₁ H [.ref a] [.ref a] _ _ rfl hr e0 (.cons rfl .nil) hsp) fun rs s' z => ?_
  match rs, z with
  | .error _, z => exact z.elim
  | .ok .next, z => exact z.elim
  | .ok .brk, z => exact z.elim
  | .ok .cont, z => exact z.elim
  | .ok (.ret u), z =>
    obtain ⟨v, H', os, bare, un, ok', rv, ev⟩ := z
    cases (show v = V.bl true from ev)
    cases (show u = Value.bool true from rv)
    have stays : ∀ b o, b ≠ T → s₁.heap.get? b = some o → s'.heap.get? b = some o := fun b o nb e => by
      rcases HA b nb with n | ⟨_, ob, xs, n⟩
      · exact un.keep b o e n (nof b) (by simp)
      · have h1 := (hok b _ n).1
        have h2 := (ok' b _ (un.frzs b ob _ n)).1
        rw [e] at h1
        cases h1
        exact h2
    obtain ⟨more, hm⟩ := un.tbls T #[] HT
    have tab2 := ok' T _ hm
    rw [Array.empty_append] at tab2
    refine ⟨rfl, ⟨fun b o e => ?_, fun b o e => ?_⟩, os, bare⟩
    · by_cases z : b = T
      · rw [z] at e ⊢
        rw [tab] at e
        cases e
        exact .inr (.inl ⟨(hC.tab tab).isCodeTable, rfl, #[], more, rfl, by rw [Array.empty_append]; exact tab2⟩)
      · exact .inl (stays b o z e)
    · by_cases z : b = T
      · rw [z]
        exact ⟨_, tab2⟩
      · exact ⟨o, stays b o z e⟩
theorem lawT (KX : K.In s₁.heap) (hns : s₁.heap.Ns mainGlobals mg) (hb : s₁.heap.Ns builtinsNs mb) (hbb : ∀ x : Str, x ≠ "__name__" → mb x = bootBuiltins x) (hlim : s₁.heap.NoLimit) (hg : s₁.gens = #[])
    (tab : s₁.heap.get? T = some noTab) (nT : K.lookup T = none) (hC : PySem.W.CodeHd s₁.heap c T)
    (hbm : ∃ (m : Addr) (o : Obj), mg "__builtins__" = some (.ref m) ∧ m ≠ builtinsNs ∧ s₁.heap.get? m = some o ∧ o.cls = .type "module" ∧ o.dict = some builtinsNs ∧ o.data = .plain)
    (ha : s₁.heap.get? a = some { cls := .type "list", data := .seq vs.toArray }) (hi : IntsAre vs ns) (hl : ns.length ≤ sizeLine) (hr : Room k callerA)
    (F : ∀ base : Heap, K.In base → base.Ns mainGlobals mg → TabB base mg c T → FnG P w K mg base CX0 k fa sp)
    (hsp : ∀ H : Hp, H T = some (.tbl #[]) → SqL K H a (ns.map V.int) → sp [.ref a] H (fun v _ => v = .bl true) fun _ _ _ => False) :
    codeAny (model P w) callerA (.call (.ref fa) ⟨[.ref a], []⟩) (fun r s' => r = .ok (.ret (.bool true)) ∧ OldK s₁.heap s'.heap ∧ s'.os = s₁.os ∧ AllBare s'.gens) s₁ := by
  have rv := vals_ints hi
  have aT : a ≠ T := fun z => by
    rw [z, tab] at ha
    cases ha
  cases ek : K.lookup a with
  | some o =>
    have eo : o = _ := Option.some.inj ((KX a o ek).symm.trans ha)
    let H1 : Hp := fun b => if b = T then some (.tbl #[]) else none
    have on : H1 T = some (.tbl #[]) := if_pos rfl
    have off : ∀ b, b ≠ T → H1 b = none := fun b z => if_neg z
    have S0 : SqL K H1 a (ns.map V.int) := .inr ⟨o, vs.toArray, _, ek, by rw [eo], by rw [eo], by rw [eo], by rw [List.size_toArray, ← rv.length, List.length_map]; exact hl, by simpa using rv⟩
    refine lawTOn (H := H1) KX hns hb hbb hlim hg tab nT hC hbm ha hr F on (fun b z => .inl (off b z)) (hsp _ on S0) (fun b u z => ?_) fun z => absurd (off a aT) z
    by_cases q : b = T
    · rw [q, on] at z
      cases z
      rw [q]
      exact tab
    · rw [off b q] at z
      cases z
  | none =>
    let H1 : Hp := fun b => if b = T then some (.tbl #[]) else if b = a then some (.frz { cls := .type "list", data := .seq vs.toArray } (.lst (ns.map V.int))) else none
    have on : H1 T = some (.tbl #[]) := if_pos rfl
    have at_ : H1 a = some (.frz { cls := .type "list", data := .seq vs.toArray } (.lst (ns.map V.int))) := (if_neg aT).trans (if_pos rfl)
    have off : ∀ b, b ≠ T → b ≠ a → H1 b = none := fun b z z2 => (if_neg z).trans (if_neg z2)
    refine lawTOn (H := H1) KX hns hb hbb hlim hg tab nT hC hbm ha hr F on (fun b z => ?_) (hsp _ on (.inl (.inr ⟨_, at_⟩))) (fun b u z => ?_) fun _ => ek
    · by_cases q : b = a
      · exact .inr ⟨q, _, _, by rw [q]; exact at_⟩
      · exact .inl (off b z q)
    · by_cases q : b = T
      · rw [q, on] at z
        cases z
        rw [q]
        exact tab
      · by_cases q2 : b = a
        · subst q2
          rw [at_] at z
          cases z
          exact ⟨ha, by rw [List.length_map]; exact hl, vs, _, rv, ha⟩
        · rw [off b q q2] at z
          cases z
end
/-- the goal that the head leaves, for a law with lambdas -/
theorem walkT {l : PySem.W.OpenLaw} {n k : Nat} {q : Program} {loose : List Str} {XP : (Str → Option Value) → Heap → Prop} {YP : World → Heap → Prop} {d : DefRec}
    (hn : l.most = some n) (hn2 : n ≤ sizeLine) (hdf : d.params.defaults = []) (hr : Room k callerA)
    (F : ∀ (w : World) (mg : Str → Option Value) (fa : Addr) (h : Heap), YP w h → h.Ns mainGlobals mg → mg d.name = some (.ref fa) → ∃ (K : PySem.W.Frag) (c T : Addr) (sp : Sp), K.In h ∧
      h.get? T = some noTab ∧ K.lookup T = none ∧ PySem.W.CodeHd h c T ∧
      (∀ (H : Hp) (a : Addr) (ns : List Int), ns.length ≤ n → H T = some (.tbl #[]) → SqL K H a (ns.map V.int) → sp [.ref a] H (fun v _ => v = .bl true) fun _ _ _ => False) ∧
      ∀ base : Heap, K.In base → base.Ns mainGlobals mg → TabB base mg c T → FnG l.prog w K mg base CX0 k fa sp) :
    PySem.W.WalkO q loose XP YP l.row.toRowW d [] (fun f vs => PySem.call f vs) :=
  Att.attach_call hn hdf fun w s₀ s₁ mg mb fa o pm cd doc a vs ns G Y ho hd hcd hmg hobj hints hlen hg => by
    obtain ⟨K, c, T, sp, KX, tab, nT, hC, hsp, hF⟩ := F w mg fa _ Y G.T.g hmg
    exact lawT KX G.T.g G.T.b G.T.builtins G.T.nolimit hg tab nT hC G.T.bmain hobj hints (Nat.le_trans hlen hn2) hr hF fun H hT hS => hsp H a ns hlen hT hS
end Ver

/-! The mathematics of the numbers modulo a prime: Euclid's way, trial division. -/
namespace Num
/-- trial division by odd divisors from 3 on, up to the root -/
def oddOk (v : Nat) (n : Nat) : Bool := (List.range n).all fun i => v % (3 + 2 * i) != 0
/-- is_prime's answer, for an int -/
def prB (r : Nat → Nat) (v : Int) : Bool :=
  decide (2 ≤ v) && decide (v ≤ 1000000000) && (if v % 2 = 0 then decide (v = 2) else oddOk v.toNat ((r v.toNat + 1 - 3 + 1) / 2))
/-- what the walk asks of a modulus -/
structure Md (p : Int) : Prop where
  lo : 2 ≤ p
  hi : p ≤ 1000000000
  pr : ∀ n : Int, 0 < n → n < p → Int.gcd n p = 1
theorem gcd_one {p b : Nat} (hb : p < b * b) (h : (List.range b).all (fun d => decide (d < 2) || p % d != 0) = true) (n : Nat) (h0 : 0 < n) (h1 : n < p) : Nat.gcd n p = 1 := by
  have small : ∀ d, 2 ≤ d → d < b → ¬ d ∣ p := fun d h2 h3 hd => by
    have q := List.all_eq_true.mp h d (List.mem_range.mpr h3)
    rw [Bool.or_eq_true] at q
    rcases q with q | q
    · have := of_decide_eq_true q
      omega
    · have e : p % d = 0 := Nat.mod_eq_zero_of_dvd hd
      rw [e] at q
      cases q
  have hg : Nat.gcd n p ∣ p := Nat.gcd_dvd_right n p
  have hn : Nat.gcd n p ∣ n := Nat.gcd_dvd_left n p
  have gpos : 0 < Nat.gcd n p := Nat.gcd_pos_of_pos_left _ h0
  have gle : Nat.gcd n p ≤ n := Nat.le_of_dvd h0 hn
  by_cases g1 : Nat.gcd n p = 1
  · exact g1
  · exfalso
    obtain ⟨m, hm⟩ := hg
    have m2 : 2 ≤ m := by
      cases m with
      | zero => omega
      | succ m =>
        cases m with
        | zero => omega
        | succ m => omega
    have hmd : m ∣ p := ⟨Nat.gcd n p, by rw [Nat.mul_comm]; exact hm⟩
    by_cases c : Nat.gcd n p < b
    · exact small _ (by omega) c (Nat.gcd_dvd_right n p)
    · by_cases c2 : m < b
      · exact small m m2 c2 hmd
      · have : b * b ≤ Nat.gcd n p * m := Nat.mul_le_mul (by omega) (by omega)
        omega
theorem md_of (p b : Nat) (h2 : 2 ≤ p) (h9 : p ≤ 1000000000) (hb : p < b * b) (h : (List.range b).all (fun d => decide (d < 2) || p % d != 0) = true) : Md (p : Int) :=
  ⟨by omega, by omega, fun n h0 h1 => by
    have e : n = ((n.toNat : Nat) : Int) := by omega
    rw [e]
    show Nat.gcd _ _ = 1
    exact gcd_one hb h n.toNat (by omega) (by omega)⟩
theorem md2 : Md 2 := md_of 2 2 (by decide) (by decide) (by decide) (by decide)
theorem md3 : Md 3 := md_of 3 2 (by decide) (by decide) (by decide) (by decide)
theorem md5 : Md 5 := md_of 5 3 (by decide) (by decide) (by decide) (by decide)
theorem md7 : Md 7 := md_of 7 3 (by decide) (by decide) (by decide) (by decide)
theorem md101 : Md 101 := md_of 101 11 (by decide) (by decide) (by decide) (by decide)
theorem md1000003 : Md 1000003 := md_of 1000003 1001 (by decide) (by decide) (by decide) (by decide +kernel)

/-! ### Euclid -/
/-- the state of the loop: past and now times the number are rest and left, modulo p -/
structure Eu (p n rest left past now : Int) : Prop where
  l0 : 0 ≤ left
  lp : left < p
  r0 : 0 < rest
  rp : rest ≤ p
  a : p ∣ past * n - rest
  b : p ∣ now * n - left
  g : Int.gcd rest left = 1
theorem Eu.start {p n : Int} (m : Md p) (h0 : 0 < n) (h1 : n < p) : Eu p n p (n % p) 0 1 := by
  have e : n % p = n := Int.emod_eq_of_lt (by omega) h1
  have hlo := m.lo
  refine ⟨by omega, by omega, by omega, Int.le_refl _, ⟨-1, by omega⟩, ⟨0, by omega⟩, ?_⟩
  rw [e, Int.gcd_comm]
  exact m.pr n h0 h1
theorem Eu.step {p n rest left past now : Int} (E : Eu p n rest left past now) (h : left ≠ 0) : Eu p n left (rest - rest / left * left) now (past - rest / left * now) := by
  have hl : 0 < left := by have := E.l0; omega
  have e : rest - rest / left * left = rest % left := by
    have := Int.emod_def rest left
    rw [Int.mul_comm] at this
    omega
  rw [e]
  have m0 : 0 ≤ rest % left := Int.emod_nonneg _ h
  have m1 : rest % left < left := Int.emod_lt_of_pos _ hl
  refine ⟨m0, by have := E.lp; omega, hl, by have := E.lp; omega, E.b, ?_, ?_⟩
  · obtain ⟨x, hx⟩ := E.a
    obtain ⟨y, hy⟩ := E.b
    refine ⟨x - rest / left * y, ?_⟩
    rw [← e]
    have h1 : (past - rest / left * now) * n - (rest - rest / left * left) = (past * n - rest) - rest / left * (now * n - left) := by
      rw [Int.sub_mul, Int.mul_sub, Int.mul_assoc]
      omega
    rw [h1, hx, hy, Int.mul_sub]
    congr 1
    rw [← Int.mul_assoc, ← Int.mul_assoc, Int.mul_comm (rest / left) p]
  · rw [Int.gcd_comm]
    have := E.g
    rw [Int.gcd_comm] at this
    rw [← this]
    show Nat.gcd _ _ = Nat.gcd _ _
    have a1 : (rest % left).natAbs = rest.natAbs % left.natAbs := by
      have hr := E.r0
      have q : ((rest.natAbs % left.natAbs : Nat) : Int) = rest % left := by
        rw [Int.natCast_emod]
        rw [Int.natAbs_of_nonneg (by omega), Int.natAbs_of_nonneg (by omega)]
      omega
    rw [a1, ← Nat.gcd_rec, Nat.gcd_comm]
theorem Eu.times {p n rest left past now : Int} (E : Eu p n rest left past now) (h : left ≠ 0) : 0 ≤ rest / left ∧ rest / left ≤ p := by
  have hl : 0 < left := by have := E.l0; omega
  have hr := E.r0
  have hp := E.rp
  refine ⟨Int.ediv_nonneg (by omega) (by omega), ?_⟩
  have : rest / left ≤ rest := Int.ediv_le_self _ (by omega)
  omega
/-- at the end: the inverse -/
theorem Eu.inv {p n rest past now : Int} (m : Md p) (E : Eu p n rest 0 past now) : 0 ≤ past % p ∧ past % p < p ∧ (past % p * n) % p = 1 := by
  have hlo := m.lo
  have r1 : rest = 1 := by
    have g := E.g
    have h0 := E.r0
    rw [Int.gcd_zero_right] at g
    omega
  have hm : (past * n) % p = 1 := by
    obtain ⟨x, hx⟩ := E.a
    have e : past * n = 1 + p * x := by omega
    rw [e, Int.add_mul_emod_self_left]
    exact Int.emod_eq_of_lt (by omega) (by omega)
  refine ⟨Int.emod_nonneg _ (by omega), Int.emod_lt_of_pos _ (by omega), ?_⟩
  rw [Int.mul_emod, Int.emod_emod, ← Int.mul_emod]
  exact hm
/-- what over tells, times what it divided by -/
theorem over_back {p a b i : Int} (ha : 0 ≤ a ∧ a < p) (hi : (i * b) % p = 1 % p) : (a * i % p * b) % p = a := by
  have e : (a * i % p * b) % p = (a * (i * b)) % p := by
    rw [Int.mul_emod, Int.emod_emod, ← Int.mul_emod, Int.mul_assoc]
  rw [e, Int.mul_emod, hi, ← Int.mul_emod, Int.mul_one]
  exact Int.emod_eq_of_lt ha.1 ha.2
end Num

namespace K19
open PySem PySem.Spec PyProof.Rows L2 Ver
def top (i : Nat) : Stmt := PySem.Challenge.pw_firstanswers_k19_values_of_fractions.main.body.getD i (.Pass ⟨0, 0, 0, 0⟩)
abbrev s_is_integer : Stmt := top 5
abbrev n_is_integer : List Str := ["value"]
theorem sc_is_integer : FnScope n_is_integer ["value"] (defScope s_is_integer) := ⟨rfl, rfl, rfl, by decide +kernel, rfl, by decide +kernel, by decide +kernel⟩
def d_is_integer : He.DefD := ⟨("is_integer", none), "is_integer", "is_integer", defArgs s_is_integer, defBody s_is_integer, defScope s_is_integer, [], []⟩
abbrev s_is_between : Stmt := top 6
abbrev n_is_between : List Str := ["value", "low", "high"]
theorem sc_is_between : FnScope n_is_between ["value", "low", "high"] (defScope s_is_between) := ⟨rfl, rfl, rfl, by decide +kernel, rfl, by decide +kernel, by decide +kernel⟩
def d_is_between : He.DefD := ⟨("is_between", none), "is_between", "is_between", defArgs s_is_between, defBody s_is_between, defScope s_is_between, [], []⟩
abbrev s_is_letters : Stmt := top 7
abbrev n_is_letters : List Str := ["value", "letter"]
theorem sc_is_letters : FnScope n_is_letters ["value"] (defScope s_is_letters) := ⟨rfl, rfl, rfl, by decide +kernel, rfl, by decide +kernel, by decide +kernel⟩
def d_is_letters : He.DefD := ⟨("is_letters", none), "is_letters", "is_letters", defArgs s_is_letters, defBody s_is_letters, defScope s_is_letters, [], []⟩
abbrev s_is_word : Stmt := top 8
abbrev n_is_word : List Str := ["value", "letters"]
theorem sc_is_word : FnScope n_is_word ["value", "letters"] (defScope s_is_word) := ⟨rfl, rfl, rfl, by decide +kernel, rfl, by decide +kernel, by decide +kernel⟩
def d_is_word : He.DefD := ⟨("is_word", none), "is_word", "is_word", defArgs s_is_word, defBody s_is_word, defScope s_is_word, [], []⟩
abbrev s_InvalidWord___init__ : Stmt := inClass (top 12) 0
abbrev n_InvalidWord___init__ : List Str := ["self", "value"]
theorem sc_InvalidWord___init__ : FnScope n_InvalidWord___init__ ["self", "value"] (defScope s_InvalidWord___init__) := ⟨rfl, rfl, rfl, by decide +kernel, rfl, by decide +kernel, by decide +kernel⟩
def d_InvalidWord___init__ : He.DefD := ⟨("InvalidWord", some "__init__"), "__init__", "InvalidWord.__init__", defArgs s_InvalidWord___init__, defBody s_InvalidWord___init__, defScope s_InvalidWord___init__, [], []⟩
abbrev s_Field___init__ : Stmt := inClass (top 24) 1
abbrev n_Field___init__ : List Str := ["self", "prime"]
theorem sc_Field___init__ : FnScope n_Field___init__ ["self", "prime"] (defScope s_Field___init__) := ⟨rfl, rfl, rfl, by decide +kernel, rfl, by decide +kernel, by decide +kernel⟩
def d_Field___init__ : He.DefD := ⟨("Field", some "__init__"), "__init__", "Field.__init__", defArgs s_Field___init__, defBody s_Field___init__, defScope s_Field___init__, [], []⟩
abbrev s_Field_is_number : Stmt := inClass (top 24) 6
abbrev n_Field_is_number : List Str := ["self", "value"]
theorem sc_Field_is_number : FnScope n_Field_is_number ["self", "value"] (defScope s_Field_is_number) := ⟨rfl, rfl, rfl, by decide +kernel, rfl, by decide +kernel, by decide +kernel⟩
def d_Field_is_number : He.DefD := ⟨("Field", some "is_number"), "is_number", "Field.is_number", defArgs s_Field_is_number, defBody s_Field_is_number, defScope s_Field_is_number, [], []⟩
abbrev s_Field_holds : Stmt := inClass (top 24) 14
abbrev n_Field_holds : List Str := ["self", "value"]
theorem sc_Field_holds : FnScope n_Field_holds ["self", "value"] (defScope s_Field_holds) := ⟨rfl, rfl, rfl, by decide +kernel, rfl, by decide +kernel, by decide +kernel⟩
def d_Field_holds : He.DefD := ⟨("Field", some "holds"), "holds", "Field.holds", defArgs s_Field_holds, defBody s_Field_holds, defScope s_Field_holds, [], []⟩
abbrev s_Field_ratio : Stmt := inClass (top 24) 15
abbrev n_Field_ratio : List Str := ["self", "top", "bottom"]
theorem sc_Field_ratio : FnScope n_Field_ratio ["self", "top", "bottom"] (defScope s_Field_ratio) := ⟨rfl, rfl, rfl, by decide +kernel, rfl, by decide +kernel, by decide +kernel⟩
def d_Field_ratio : He.DefD := ⟨("Field", some "ratio"), "ratio", "Field.ratio", defArgs s_Field_ratio, defBody s_Field_ratio, defScope s_Field_ratio, [], []⟩
abbrev s_Field_common : Stmt := inClass (top 24) 21
abbrev n_Field_common : List Str := ["self", "numbers", "bottom", "number", "each", "above", "below"]
theorem sc_Field_common : FnScope n_Field_common ["self", "numbers"] (defScope s_Field_common) := ⟨rfl, rfl, rfl, by decide +kernel, rfl, by decide +kernel, by decide +kernel⟩
def d_Field_common : He.DefD := ⟨("Field", some "common"), "common", "Field.common", defArgs s_Field_common, defBody s_Field_common, defScope s_Field_common, [], []⟩
abbrev s_Fractions___init__ : Stmt := inClass (top 25) 0
abbrev n_Fractions___init__ : List Str := ["self"]
theorem sc_Fractions___init__ : FnScope n_Fractions___init__ ["self"] (defScope s_Fractions___init__) := ⟨rfl, rfl, rfl, by decide +kernel, rfl, by decide +kernel, by decide +kernel⟩
def d_Fractions___init__ : He.DefD := ⟨("Fractions", some "__init__"), "__init__", "Fractions.__init__", defArgs s_Fractions___init__, defBody s_Fractions___init__, defScope s_Fractions___init__, [], []⟩
abbrev s_Modulo___init__ : Stmt := inClass (top 26) 0
abbrev n_Modulo___init__ : List Str := ["self", "prime"]
theorem sc_Modulo___init__ : FnScope n_Modulo___init__ ["self", "prime"] (defScope s_Modulo___init__) := ⟨rfl, rfl, rfl, by decide +kernel, rfl, by decide +kernel, by decide +kernel⟩
def d_Modulo___init__ : He.DefD := ⟨("Modulo", some "__init__"), "__init__", "Modulo.__init__", defArgs s_Modulo___init__, defBody s_Modulo___init__, defScope s_Modulo___init__, [], []⟩
abbrev s_is_prime : Stmt := top 27
abbrev n_is_prime : List Str := ["value", "divisor"]
theorem sc_is_prime : FnScope n_is_prime ["value"] (defScope s_is_prime) := ⟨rfl, rfl, rfl, by decide +kernel, rfl, by decide +kernel, by decide +kernel⟩
def d_is_prime : He.DefD := ⟨("is_prime", none), "is_prime", "is_prime", defArgs s_is_prime, defBody s_is_prime, defScope s_is_prime, [], []⟩
abbrev s_is_fraction : Stmt := top 28
abbrev n_is_fraction : List Str := ["value", "top", "bottom"]
theorem sc_is_fraction : FnScope n_is_fraction ["value"] (defScope s_is_fraction) := ⟨rfl, rfl, rfl, by decide +kernel, rfl, by decide +kernel, by decide +kernel⟩
def d_is_fraction : He.DefD := ⟨("is_fraction", none), "is_fraction", "is_fraction", defArgs s_is_fraction, defBody s_is_fraction, defScope s_is_fraction, [], []⟩
abbrev s_is_longer : Stmt := top 29
abbrev n_is_longer : List Str := ["number", "first_long", "top", "bottom"]
theorem sc_is_longer : FnScope n_is_longer ["number", "first_long"] (defScope s_is_longer) := ⟨rfl, rfl, rfl, by decide +kernel, rfl, by decide +kernel, by decide +kernel⟩
def d_is_longer : He.DefD := ⟨("is_longer", none), "is_longer", "is_longer", defArgs s_is_longer, defBody s_is_longer, defScope s_is_longer, [], []⟩
abbrev s_parts : Stmt := top 30
abbrev n_parts : List Str := ["number"]
theorem sc_parts : FnScope n_parts ["number"] (defScope s_parts) := ⟨rfl, rfl, rfl, by decide +kernel, rfl, by decide +kernel, by decide +kernel⟩
def d_parts : He.DefD := ⟨("parts", none), "parts", "parts", defArgs s_parts, defBody s_parts, defScope s_parts, [], []⟩
abbrev s_shortened : Stmt := top 31
abbrev n_shortened : List Str := ["top", "bottom", "divisor"]
theorem sc_shortened : FnScope n_shortened ["top", "bottom"] (defScope s_shortened) := ⟨rfl, rfl, rfl, by decide +kernel, rfl, by decide +kernel, by decide +kernel⟩
def d_shortened : He.DefD := ⟨("shortened", none), "shortened", "shortened", defArgs s_shortened, defBody s_shortened, defScope s_shortened, [], []⟩
abbrev s_step_of : Stmt := top 37
abbrev n_step_of : List Str := ["field", "table", "size", "tops", "bottom", "row", "number", "at"]
theorem sc_step_of : FnScope n_step_of ["field", "table"] (defScope s_step_of) := ⟨rfl, rfl, rfl, by decide +kernel, rfl, by decide +kernel, by decide +kernel⟩
def d_step_of : He.DefD := ⟨("step_of", none), "step_of", "step_of", defArgs s_step_of, defBody s_step_of, defScope s_step_of, [], []⟩
abbrev s_row_after : Stmt := top 38
abbrev n_row_after : List Str := ["field", "row", "step", "tops", "bottom", "columns", "below", "column"]
theorem sc_row_after : FnScope n_row_after ["field", "row", "step"] (defScope s_row_after) := ⟨rfl, rfl, rfl, by decide +kernel, rfl, by decide +kernel, by decide +kernel⟩
def d_row_after : He.DefD := ⟨("row_after", none), "row_after", "row_after", defArgs s_row_after, defBody s_row_after, defScope s_row_after, [], []⟩
abbrev s_whole_dot : Stmt := top 39
abbrev n_whole_dot : List Str := ["field", "one", "other", "x", "y"]
theorem sc_whole_dot : FnScope n_whole_dot ["field", "one", "other"] (defScope s_whole_dot) := ⟨rfl, rfl, rfl, by decide +kernel, rfl, by decide +kernel, by decide +kernel⟩
def d_whole_dot : He.DefD := ⟨("whole_dot", none), "whole_dot", "whole_dot", defArgs s_whole_dot, defBody s_whole_dot, defScope s_whole_dot, [], []⟩
abbrev s_row_dot : Stmt := top 40
abbrev n_row_dot : List Str := ["field", "one", "other", "tops", "bottom", "above", "below"]
theorem sc_row_dot : FnScope n_row_dot ["field", "one", "other"] (defScope s_row_dot) := ⟨rfl, rfl, rfl, by decide +kernel, rfl, by decide +kernel, by decide +kernel⟩
def d_row_dot : He.DefD := ⟨("row_dot", none), "row_dot", "row_dot", defArgs s_row_dot, defBody s_row_dot, defScope s_row_dot, [], []⟩
abbrev s_numbers_of : Stmt := top 41
abbrev n_numbers_of : List Str := ["field", "row", "tops", "bottom", "top"]
theorem sc_numbers_of : FnScope n_numbers_of ["field", "row"] (defScope s_numbers_of) := ⟨rfl, rfl, rfl, by decide +kernel, rfl, by decide +kernel, by decide +kernel⟩
def d_numbers_of : He.DefD := ⟨("numbers_of", none), "numbers_of", "numbers_of", defArgs s_numbers_of, defBody s_numbers_of, defScope s_numbers_of, [], []⟩
abbrev s_Machine___init__ : Stmt := inClass (top 49) 0
abbrev n_Machine___init__ : List Str := ["self", "field", "letters", "start", "tables", "ends", "row", "letter"]
theorem sc_Machine___init__ : FnScope n_Machine___init__ ["self", "field", "letters", "start", "tables", "ends"] (defScope s_Machine___init__) := ⟨rfl, rfl, rfl, by decide +kernel, rfl, by decide +kernel, by decide +kernel⟩
def d_Machine___init__ : He.DefD := ⟨("Machine", some "__init__"), "__init__", "Machine.__init__", defArgs s_Machine___init__, defBody s_Machine___init__, defScope s_Machine___init__, [], []⟩
abbrev s_Machine_value_of : Stmt := inClass (top 49) 11
abbrev n_Machine_value_of : List Str := ["self", "word"]
theorem sc_Machine_value_of : FnScope n_Machine_value_of ["self", "word"] (defScope s_Machine_value_of) := ⟨rfl, rfl, rfl, by decide +kernel, rfl, by decide +kernel, by decide +kernel⟩
def d_Machine_value_of : He.DefD := ⟨("Machine", some "value_of"), "value_of", "Machine.value_of", defArgs s_Machine_value_of, defBody s_Machine_value_of, defScope s_Machine_value_of, [], []⟩
abbrev s_Machine_state_after : Stmt := inClass (top 49) 12
abbrev n_Machine_state_after : List Str := ["self", "word"]
theorem sc_Machine_state_after : FnScope n_Machine_state_after ["self", "word"] (defScope s_Machine_state_after) := ⟨rfl, rfl, rfl, by decide +kernel, rfl, by decide +kernel, by decide +kernel⟩
def d_Machine_state_after : He.DefD := ⟨("Machine", some "state_after"), "state_after", "Machine.state_after", defArgs s_Machine_state_after, defBody s_Machine_state_after, defScope s_Machine_state_after, [], []⟩
abbrev s_Machine__check_words : Stmt := inClass (top 49) 26
abbrev n_Machine__check_words : List Str := ["self", "values", "value"]
theorem sc_Machine__check_words : FnScope n_Machine__check_words ["self", "values"] (defScope s_Machine__check_words) := ⟨rfl, rfl, rfl, by decide +kernel, rfl, by decide +kernel, by decide +kernel⟩
def d_Machine__check_words : He.DefD := ⟨("Machine", some "_check_words"), "_check_words", "Machine._check_words", defArgs s_Machine__check_words, defBody s_Machine__check_words, defScope s_Machine__check_words, [], []⟩
abbrev s_Machine__row_after : Stmt := inClass (top 49) 28
abbrev n_Machine__row_after : List Str := ["self", "row", "word", "letter"]
theorem sc_Machine__row_after : FnScope n_Machine__row_after ["self", "row", "word"] (defScope s_Machine__row_after) := ⟨rfl, rfl, rfl, by decide +kernel, rfl, by decide +kernel, by decide +kernel⟩
def d_Machine__row_after : He.DefD := ⟨("Machine", some "_row_after"), "_row_after", "Machine._row_after", defArgs s_Machine__row_after, defBody s_Machine__row_after, defScope s_Machine__row_after, [], []⟩
abbrev s_Machine__row_behind : Stmt := inClass (top 49) 29
abbrev n_Machine__row_behind : List Str := ["self", "word"]
theorem sc_Machine__row_behind : FnScope n_Machine__row_behind ["self", "word"] (defScope s_Machine__row_behind) := ⟨rfl, rfl, rfl, by decide +kernel, rfl, by decide +kernel, by decide +kernel⟩
def d_Machine__row_behind : He.DefD := ⟨("Machine", some "_row_behind"), "_row_behind", "Machine._row_behind", defArgs s_Machine__row_behind, defBody s_Machine__row_behind, defScope s_Machine__row_behind, [], []⟩
abbrev s_Machine__value_at : Stmt := inClass (top 49) 32
abbrev n_Machine__value_at : List Str := ["self", "row"]
theorem sc_Machine__value_at : FnScope n_Machine__value_at ["self", "row"] (defScope s_Machine__value_at) := ⟨rfl, rfl, rfl, by decide +kernel, rfl, by decide +kernel, by decide +kernel⟩
def d_Machine__value_at : He.DefD := ⟨("Machine", some "_value_at"), "_value_at", "Machine._value_at", defArgs s_Machine__value_at, defBody s_Machine__value_at, defScope s_Machine__value_at, [], []⟩
abbrev s_check_parts : Stmt := top 51
abbrev n_check_parts : List Str := ["field", "letters", "start", "tables", "ends", "size", "letter"]
theorem sc_check_parts : FnScope n_check_parts ["field", "letters", "start", "tables", "ends"] (defScope s_check_parts) := ⟨rfl, rfl, rfl, by decide +kernel, rfl, by decide +kernel, by decide +kernel⟩
def d_check_parts : He.DefD := ⟨("check_parts", none), "check_parts", "check_parts", defArgs s_check_parts, defBody s_check_parts, defScope s_check_parts, [], []⟩
abbrev s_is_row : Stmt := top 52
abbrev n_is_row : List Str := ["field", "value", "number"]
theorem sc_is_row : FnScope n_is_row ["field", "value"] (defScope s_is_row) := ⟨rfl, rfl, rfl, by decide +kernel, rfl, by decide +kernel, by decide +kernel⟩
def d_is_row : He.DefD := ⟨("is_row", none), "is_row", "is_row", defArgs s_is_row, defBody s_is_row, defScope s_is_row, [], []⟩
abbrev s_is_table : Stmt := top 53
abbrev n_is_table : List Str := ["field", "value", "size", "row"]
theorem sc_is_table : FnScope n_is_table ["field", "value", "size"] (defScope s_is_table) := ⟨rfl, rfl, rfl, by decide +kernel, rfl, by decide +kernel, by decide +kernel⟩
def d_is_table : He.DefD := ⟨("is_table", none), "is_table", "is_table", defArgs s_is_table, defBody s_is_table, defScope s_is_table, [], []⟩
abbrev s__law_pen : Stmt := top 55
abbrev n__law_pen : List Str := ["_law_script"]
theorem sc__law_pen : FnScope n__law_pen ["_law_script"] (defScope s__law_pen) := ⟨rfl, rfl, rfl, by decide +kernel, rfl, by decide +kernel, by decide +kernel⟩
def d__law_pen : He.DefD := ⟨("_law_pen", none), "_law_pen", "_law_pen", defArgs s__law_pen, defBody s__law_pen, defScope s__law_pen, [], []⟩
abbrev s__law_draw : Stmt := top 56
abbrev n__law_draw : List Str := ["_law_pen_here", "_law_many", "_law_digit", "_law_place", "_law_cell", "_law_mixed", "_law_drawn"]
theorem sc__law_draw : FnScope n__law_draw ["_law_pen_here", "_law_many"] (defScope s__law_draw) := ⟨rfl, rfl, rfl, by decide +kernel, rfl, by decide +kernel, by decide +kernel⟩
def d__law_draw : He.DefD := ⟨("_law_draw", none), "_law_draw", "_law_draw", defArgs s__law_draw, defBody s__law_draw, defScope s__law_draw, [], []⟩
abbrev s__law_pick : Stmt := top 57
abbrev n__law_pick : List Str := ["_law_pen_here", "_law_options"]
theorem sc__law_pick : FnScope n__law_pick ["_law_pen_here", "_law_options"] (defScope s__law_pick) := ⟨rfl, rfl, rfl, by decide +kernel, rfl, by decide +kernel, by decide +kernel⟩
def d__law_pick : He.DefD := ⟨("_law_pick", none), "_law_pick", "_law_pick", defArgs s__law_pick, defBody s__law_pick, defScope s__law_pick, [], []⟩
abbrev s__law_shuffled : Stmt := top 58
abbrev n__law_shuffled : List Str := ["_law_pen_here", "_law_items", "_law_rest", "_law_found"]
theorem sc__law_shuffled : FnScope n__law_shuffled ["_law_pen_here", "_law_items"] (defScope s__law_shuffled) := ⟨rfl, rfl, rfl, by decide +kernel, rfl, by decide +kernel, by decide +kernel⟩
def d__law_shuffled : He.DefD := ⟨("_law_shuffled", none), "_law_shuffled", "_law_shuffled", defArgs s__law_shuffled, defBody s__law_shuffled, defScope s__law_shuffled, [], []⟩
abbrev s__law_prime : Stmt := top 59
abbrev n__law_prime : List Str := ["_law_pen_here"]
theorem sc__law_prime : FnScope n__law_prime ["_law_pen_here"] (defScope s__law_prime) := ⟨rfl, rfl, rfl, by decide +kernel, rfl, by decide +kernel, by decide +kernel⟩
def d__law_prime : He.DefD := ⟨("_law_prime", none), "_law_prime", "_law_prime", defArgs s__law_prime, defBody s__law_prime, defScope s__law_prime, [], []⟩
abbrev s__law_letters : Stmt := top 60
abbrev n__law_letters : List Str := ["_law_pen_here", "_law_most", "_law_places", "_law_place"]
theorem sc__law_letters : FnScope n__law_letters ["_law_pen_here", "_law_most"] (defScope s__law_letters) := ⟨rfl, rfl, rfl, by decide +kernel, rfl, by decide +kernel, by decide +kernel⟩
def d__law_letters : He.DefD := ⟨("_law_letters", none), "_law_letters", "_law_letters", defArgs s__law_letters, defBody s__law_letters, defScope s__law_letters, [], []⟩
abbrev s__law_word : Stmt := top 61
abbrev n__law_word : List Str := ["_law_pen_here", "_law_letters_here", "_law_most", "_law_k"]
theorem sc__law_word : FnScope n__law_word ["_law_pen_here", "_law_letters_here", "_law_most"] (defScope s__law_word) := ⟨rfl, rfl, rfl, by decide +kernel, rfl, by decide +kernel, by decide +kernel⟩
def d__law_word : He.DefD := ⟨("_law_word", none), "_law_word", "_law_word", defArgs s__law_word, defBody s__law_word, defScope s__law_word, [], []⟩
abbrev s__law_made : Stmt := top 62
abbrev n__law_made : List Str := ["_law_plain", "_law_prime_here", "_law_letters_here"]
theorem sc__law_made : FnScope n__law_made ["_law_plain", "_law_prime_here", "_law_letters_here"] (defScope s__law_made) := ⟨rfl, rfl, rfl, by decide +kernel, rfl, by decide +kernel, by decide +kernel⟩
def d__law_made : He.DefD := ⟨("_law_made", none), "_law_made", "_law_made", defArgs s__law_made, defBody s__law_made, defScope s__law_made, [], []⟩
abbrev s__law_divisor : Stmt := top 63
abbrev n__law_divisor : List Str := ["_law_one", "_law_two"]
theorem sc__law_divisor : FnScope n__law_divisor ["_law_one", "_law_two"] (defScope s__law_divisor) := ⟨rfl, rfl, rfl, by decide +kernel, rfl, by decide +kernel, by decide +kernel⟩
def d__law_divisor : He.DefD := ⟨("_law_divisor", none), "_law_divisor", "_law_divisor", defArgs s__law_divisor, defBody s__law_divisor, defScope s__law_divisor, [], []⟩
abbrev s__law_fraction : Stmt := top 64
abbrev n__law_fraction : List Str := ["_law_top", "_law_bottom", "_law_shared"]
theorem sc__law_fraction : FnScope n__law_fraction ["_law_top", "_law_bottom"] (defScope s__law_fraction) := ⟨rfl, rfl, rfl, by decide +kernel, rfl, by decide +kernel, by decide +kernel⟩
def d__law_fraction : He.DefD := ⟨("_law_fraction", none), "_law_fraction", "_law_fraction", defArgs s__law_fraction, defBody s__law_fraction, defScope s__law_fraction, [], []⟩
abbrev s__law_pair : Stmt := top 65
abbrev n__law_pair : List Str := ["_law_number"]
theorem sc__law_pair : FnScope n__law_pair ["_law_number"] (defScope s__law_pair) := ⟨rfl, rfl, rfl, by decide +kernel, rfl, by decide +kernel, by decide +kernel⟩
def d__law_pair : He.DefD := ⟨("_law_pair", none), "_law_pair", "_law_pair", defArgs s__law_pair, defBody s__law_pair, defScope s__law_pair, [], []⟩
abbrev s__law_dotted : Stmt := top 66
abbrev n__law_dotted : List Str := ["_law_row", "_law_column", "_law_top", "_law_bottom", "_law_k", "_law_one", "_law_two"]
theorem sc__law_dotted : FnScope n__law_dotted ["_law_row", "_law_column"] (defScope s__law_dotted) := ⟨rfl, rfl, rfl, by decide +kernel, rfl, by decide +kernel, by decide +kernel⟩
def d__law_dotted : He.DefD := ⟨("_law_dotted", none), "_law_dotted", "_law_dotted", defArgs s__law_dotted, defBody s__law_dotted, defScope s__law_dotted, [], []⟩
abbrev s__law_small_fraction : Stmt := top 67
abbrev n__law_small_fraction : List Str := ["_law_pen_here", "_law_top"]
theorem sc__law_small_fraction : FnScope n__law_small_fraction ["_law_pen_here"] (defScope s__law_small_fraction) := ⟨rfl, rfl, rfl, by decide +kernel, rfl, by decide +kernel, by decide +kernel⟩
def d__law_small_fraction : He.DefD := ⟨("_law_small_fraction", none), "_law_small_fraction", "_law_small_fraction", defArgs s__law_small_fraction, defBody s__law_small_fraction, defScope s__law_small_fraction, [], []⟩
abbrev s__law_plain_fractions : Stmt := top 68
abbrev n__law_plain_fractions : List Str := ["_law_pen_here", "_law_letters_here", "_law_size", "_law_tables", "_law_letter", "_law_j", "_law_i", "_law_start", "_law_ends"]
theorem sc__law_plain_fractions : FnScope n__law_plain_fractions ["_law_pen_here", "_law_letters_here", "_law_size"] (defScope s__law_plain_fractions) := ⟨rfl, rfl, rfl, by decide +kernel, rfl, by decide +kernel, by decide +kernel⟩
def d__law_plain_fractions : He.DefD := ⟨("_law_plain_fractions", none), "_law_plain_fractions", "_law_plain_fractions", defArgs s__law_plain_fractions, defBody s__law_plain_fractions, defScope s__law_plain_fractions, [], []⟩
abbrev s__law_fraction_state : Stmt := top 69
abbrev n__law_fraction_state : List Str := ["_law_plain", "_law_word_here", "_law_state", "_law_letter", "_law_table", "_law_row", "_law_j"]
theorem sc__law_fraction_state : FnScope n__law_fraction_state ["_law_plain", "_law_word_here"] (defScope s__law_fraction_state) := ⟨rfl, rfl, rfl, by decide +kernel, rfl, by decide +kernel, by decide +kernel⟩
def d__law_fraction_state : He.DefD := ⟨("_law_fraction_state", none), "_law_fraction_state", "_law_fraction_state", defArgs s__law_fraction_state, defBody s__law_fraction_state, defScope s__law_fraction_state, [], []⟩
abbrev s__law_made_of_fractions : Stmt := top 70
abbrev n__law_made_of_fractions : List Str := ["_law_plain", "_law_letters_here"]
theorem sc__law_made_of_fractions : FnScope n__law_made_of_fractions ["_law_plain", "_law_letters_here"] (defScope s__law_made_of_fractions) := ⟨rfl, rfl, rfl, by decide +kernel, rfl, by decide +kernel, by decide +kernel⟩
def d__law_made_of_fractions : He.DefD := ⟨("_law_made_of_fractions", none), "_law_made_of_fractions", "_law_made_of_fractions", defArgs s__law_made_of_fractions, defBody s__law_made_of_fractions, defScope s__law_made_of_fractions, [], []⟩
abbrev s__law_whole : Stmt := top 71
abbrev n__law_whole : List Str := ["_law_pen_here", "_law_letters_here", "_law_size", "_law_tables", "_law_letter", "_law_j", "_law_i"]
theorem sc__law_whole : FnScope n__law_whole ["_law_pen_here", "_law_letters_here", "_law_size"] (defScope s__law_whole) := ⟨rfl, rfl, rfl, by decide +kernel, rfl, by decide +kernel, by decide +kernel⟩
def d__law_whole : He.DefD := ⟨("_law_whole", none), "_law_whole", "_law_whole", defArgs s__law_whole, defBody s__law_whole, defScope s__law_whole, [], []⟩
abbrev s__law_remainders : Stmt := top 72
abbrev n__law_remainders : List Str := ["_law_plain", "_law_prime_here", "_law_tables", "_law_letter", "_law_number", "_law_row"]
theorem sc__law_remainders : FnScope n__law_remainders ["_law_plain", "_law_prime_here"] (defScope s__law_remainders) := ⟨rfl, rfl, rfl, by decide +kernel, rfl, by decide +kernel, by decide +kernel⟩
def d__law_remainders : He.DefD := ⟨("_law_remainders", none), "_law_remainders", "_law_remainders", defArgs s__law_remainders, defBody s__law_remainders, defScope s__law_remainders, [], []⟩
abbrev s_law : Stmt := top 73
abbrev n_law : List Str := ["_law_script", "_law_pen_here", "_law_turn", "_law_letters_here", "_law_size", "_law_plain", "_law_told", "_law_again", "_law_word_here", "_law_state", "_law_whole_here", "_law_prime_here", "_law_rest", "_law_number"]
theorem sc_law : FnScope n_law ["_law_script"] (defScope s_law) := ⟨rfl, rfl, rfl, by decide +kernel, rfl, by decide +kernel, by decide +kernel⟩
def d_law : He.DefD := ⟨("law", none), "law", "law", defArgs s_law, defBody s_law, defScope s_law, [], []⟩
def fn : List He.DefD := [d_is_integer, d_is_between, d_is_letters, d_is_word, d_InvalidWord___init__, d_Field___init__, d_Field_is_number, d_Field_holds, d_Field_ratio, d_Field_common, d_Fractions___init__, d_Modulo___init__, d_is_prime, d_is_fraction, d_is_longer, d_parts, d_shortened, d_step_of, d_row_after, d_whole_dot, d_row_dot, d_numbers_of, d_Machine___init__, d_Machine_value_of, d_Machine_state_after, d_Machine__check_words, d_Machine__row_after, d_Machine__row_behind, d_Machine__value_at, d_check_parts, d_is_row, d_is_table, d__law_pen, d__law_draw, d__law_pick, d__law_shuffled, d__law_prime, d__law_letters, d__law_word, d__law_made, d__law_divisor, d__law_fraction, d__law_pair, d__law_dotted, d__law_small_fraction, d__law_plain_fractions, d__law_fraction_state, d__law_made_of_fractions, d__law_whole, d__law_remainders, d_law]
section
variable {P : Program} {w : World} {K : PySem.W.Frag} {fa : List He.Fa} {mg : Str → Option Value} {base : Heap} {k : Nat} {sp : Sp}
theorem mk_is_integer (S : He.SaysD fa fn K) (len : ∀ vs H Q E, sp vs H Q E → vs.length = 1)
    (hb : ∀ (cdv : Value) (A : Around) (outer : List Env) (s : Shared) (H : Hp) (vs : List V) (Q : VK) (E : XK), A.guards = some [] → Room k (A.deeper (envOfC "is_integer" (defScope s_is_integer) s.heap.objs.size (He.ga K "is_integer") cdv)) → sp vs H Q E →
      ∃ t, PSs (cxOf CX0 P w K mg base n_is_integer "is_integer" (defScope s_is_integer) (He.ga K "is_integer") cdv A outer s H E).nox (defBody s_is_integer) t ∧ t { nx := fun _ H' => Q .non H', rt := Q } (start n_is_integer vs) H) : FnG P w K mg base CX0 (k + 1) (He.ga K "is_integer") sp := by
  obtain ⟨fd, F⟩ := S.def_ 0 (d := d_is_integer) rfl
  exact ok0 F sc_is_integer (F.bindsA fun _ _ _ _ _ _ us hl => match us, hl with | [_], _ => rfl) len hb
theorem kp_is_integer (S : He.SaysD fa fn K) : PySem.W.keepIn K (.ref (He.ga K "is_integer")) = true := by
  obtain ⟨fd, F⟩ := S.def_ 0 (d := d_is_integer) rfl
  exact F.kp
theorem mk_is_between (S : He.SaysD fa fn K) (len : ∀ vs H Q E, sp vs H Q E → vs.length = 3)
    (hb : ∀ (cdv : Value) (A : Around) (outer : List Env) (s : Shared) (H : Hp) (vs : List V) (Q : VK) (E : XK), A.guards = some [] → Room k (A.deeper (envOfC "is_between" (defScope s_is_between) s.heap.objs.size (He.ga K "is_between") cdv)) → sp vs H Q E →
      ∃ t, PSs (cxOf CX0 P w K mg base n_is_between "is_between" (defScope s_is_between) (He.ga K "is_between") cdv A outer s H E).nox (defBody s_is_between) t ∧ t { nx := fun _ H' => Q .non H', rt := Q } (start n_is_between vs) H) : FnG P w K mg base CX0 (k + 1) (He.ga K "is_between") sp := by
  obtain ⟨fd, F⟩ := S.def_ 1 (d := d_is_between) rfl
  exact ok0 F sc_is_between (F.bindsA fun _ _ _ _ _ _ us hl => match us, hl with | [_, _, _], _ => rfl) len hb
theorem kp_is_between (S : He.SaysD fa fn K) : PySem.W.keepIn K (.ref (He.ga K "is_between")) = true := by
  obtain ⟨fd, F⟩ := S.def_ 1 (d := d_is_between) rfl
  exact F.kp
theorem mk_is_letters (S : He.SaysD fa fn K) (len : ∀ vs H Q E, sp vs H Q E → vs.length = 1)
    (hb : ∀ (cdv : Value) (A : Around) (outer : List Env) (s : Shared) (H : Hp) (vs : List V) (Q : VK) (E : XK), A.guards = some [] → Room k (A.deeper (envOfC "is_letters" (defScope s_is_letters) s.heap.objs.size (He.ga K "is_letters") cdv)) → sp vs H Q E →
      ∃ t, PSs (cxOf CX0 P w K mg base n_is_letters "is_letters" (defScope s_is_letters) (He.ga K "is_letters") cdv A outer s H E).nox (defBody s_is_letters) t ∧ t { nx := fun _ H' => Q .non H', rt := Q } (start n_is_letters vs) H) : FnG P w K mg base CX0 (k + 1) (He.ga K "is_letters") sp := by
  obtain ⟨fd, F⟩ := S.def_ 2 (d := d_is_letters) rfl
  exact ok0 F sc_is_letters (F.bindsA fun _ _ _ _ _ _ us hl => match us, hl with | [_], _ => rfl) len hb
theorem kp_is_letters (S : He.SaysD fa fn K) : PySem.W.keepIn K (.ref (He.ga K "is_letters")) = true := by
  obtain ⟨fd, F⟩ := S.def_ 2 (d := d_is_letters) rfl
  exact F.kp
theorem mk_is_word (S : He.SaysD fa fn K) (len : ∀ vs H Q E, sp vs H Q E → vs.length = 2)
    (hb : ∀ (cdv : Value) (A : Around) (outer : List Env) (s : Shared) (H : Hp) (vs : List V) (Q : VK) (E : XK), A.guards = some [] → Room k (A.deeper (envOfC "is_word" (defScope s_is_word) s.heap.objs.size (He.ga K "is_word") cdv)) → sp vs H Q E →
      ∃ t, PSs (cxOf CX0 P w K mg base n_is_word "is_word" (defScope s_is_word) (He.ga K "is_word") cdv A outer s H E).nox (defBody s_is_word) t ∧ t { nx := fun _ H' => Q .non H', rt := Q } (start n_is_word vs) H) : FnG P w K mg base CX0 (k + 1) (He.ga K "is_word") sp := by
  obtain ⟨fd, F⟩ := S.def_ 3 (d := d_is_word) rfl
  exact ok0 F sc_is_word (F.bindsA fun _ _ _ _ _ _ us hl => match us, hl with | [_, _], _ => rfl) len hb
theorem kp_is_word (S : He.SaysD fa fn K) : PySem.W.keepIn K (.ref (He.ga K "is_word")) = true := by
  obtain ⟨fd, F⟩ := S.def_ 3 (d := d_is_word) rfl
  exact F.kp
theorem mk_InvalidWord___init__ (S : He.SaysD fa fn K) (len : ∀ vs H Q E, sp vs H Q E → vs.length = 2)
    (hb : ∀ (cdv : Value) (A : Around) (outer : List Env) (s : Shared) (H : Hp) (vs : List V) (Q : VK) (E : XK), A.guards = some [] → Room k (A.deeper (envOfC "InvalidWord.__init__" (defScope s_InvalidWord___init__) s.heap.objs.size (He.ma K (He.ga K "InvalidWord") "__init__") cdv)) → sp vs H Q E →
      ∃ t, PSs (cxOf CX0 P w K mg base n_InvalidWord___init__ "InvalidWord.__init__" (defScope s_InvalidWord___init__) (He.ma K (He.ga K "InvalidWord") "__init__") cdv A outer s H E).nox (defBody s_InvalidWord___init__) t ∧ t { nx := fun _ H' => Q .non H', rt := Q } (start n_InvalidWord___init__ vs) H) : FnG P w K mg base CX0 (k + 1) (He.ma K (He.ga K "InvalidWord") "__init__") sp := by
  obtain ⟨fd, F⟩ := S.def_ 4 (d := d_InvalidWord___init__) rfl
  exact ok0 F sc_InvalidWord___init__ (F.bindsA fun _ _ _ _ _ _ us hl => match us, hl with | [_, _], _ => rfl) len hb
theorem kp_InvalidWord___init__ (S : He.SaysD fa fn K) : PySem.W.keepIn K (.ref (He.ma K (He.ga K "InvalidWord") "__init__")) = true := by
  obtain ⟨fd, F⟩ := S.def_ 4 (d := d_InvalidWord___init__) rfl
  exact F.kp
theorem mk_Field___init__ (S : He.SaysD fa fn K) (len : ∀ vs H Q E, sp vs H Q E → vs.length = 2)
    (hb : ∀ (cdv : Value) (A : Around) (outer : List Env) (s : Shared) (H : Hp) (vs : List V) (Q : VK) (E : XK), A.guards = some [] → Room k (A.deeper (envOfC "Field.__init__" (defScope s_Field___init__) s.heap.objs.size (He.ma K (He.ga K "Field") "__init__") cdv)) → sp vs H Q E →
      ∃ t, PSs (cxOf CX0 P w K mg base n_Field___init__ "Field.__init__" (defScope s_Field___init__) (He.ma K (He.ga K "Field") "__init__") cdv A outer s H E).nox (defBody s_Field___init__) t ∧ t { nx := fun _ H' => Q .non H', rt := Q } (start n_Field___init__ vs) H) : FnG P w K mg base CX0 (k + 1) (He.ma K (He.ga K "Field") "__init__") sp := by
  obtain ⟨fd, F⟩ := S.def_ 5 (d := d_Field___init__) rfl
  exact ok0 F sc_Field___init__ (F.bindsA fun _ _ _ _ _ _ us hl => match us, hl with | [_, _], _ => rfl) len hb
theorem kp_Field___init__ (S : He.SaysD fa fn K) : PySem.W.keepIn K (.ref (He.ma K (He.ga K "Field") "__init__")) = true := by
  obtain ⟨fd, F⟩ := S.def_ 5 (d := d_Field___init__) rfl
  exact F.kp
theorem mk_Field_is_number (S : He.SaysD fa fn K) (len : ∀ vs H Q E, sp vs H Q E → vs.length = 2)
    (hb : ∀ (cdv : Value) (A : Around) (outer : List Env) (s : Shared) (H : Hp) (vs : List V) (Q : VK) (E : XK), A.guards = some [] → Room k (A.deeper (envOfC "Field.is_number" (defScope s_Field_is_number) s.heap.objs.size (He.ma K (He.ga K "Field") "is_number") cdv)) → sp vs H Q E →
      ∃ t, PSs (cxOf CX0 P w K mg base n_Field_is_number "Field.is_number" (defScope s_Field_is_number) (He.ma K (He.ga K "Field") "is_number") cdv A outer s H E).nox (defBody s_Field_is_number) t ∧ t { nx := fun _ H' => Q .non H', rt := Q } (start n_Field_is_number vs) H) : FnG P w K mg base CX0 (k + 1) (He.ma K (He.ga K "Field") "is_number") sp := by
  obtain ⟨fd, F⟩ := S.def_ 6 (d := d_Field_is_number) rfl
  exact ok0 F sc_Field_is_number (F.bindsA fun _ _ _ _ _ _ us hl => match us, hl with | [_, _], _ => rfl) len hb
theorem kp_Field_is_number (S : He.SaysD fa fn K) : PySem.W.keepIn K (.ref (He.ma K (He.ga K "Field") "is_number")) = true := by
  obtain ⟨fd, F⟩ := S.def_ 6 (d := d_Field_is_number) rfl
  exact F.kp
theorem mk_Field_holds (S : He.SaysD fa fn K) (len : ∀ vs H Q E, sp vs H Q E → vs.length = 2)
    (hb : ∀ (cdv : Value) (A : Around) (outer : List Env) (s : Shared) (H : Hp) (vs : List V) (Q : VK) (E : XK), A.guards = some [] → Room k (A.deeper (envOfC "Field.holds" (defScope s_Field_holds) s.heap.objs.size (He.ma K (He.ga K "Field") "holds") cdv)) → sp vs H Q E →
      ∃ t, PSs (cxOf CX0 P w K mg base n_Field_holds "Field.holds" (defScope s_Field_holds) (He.ma K (He.ga K "Field") "holds") cdv A outer s H E).nox (defBody s_Field_holds) t ∧ t { nx := fun _ H' => Q .non H', rt := Q } (start n_Field_holds vs) H) : FnG P w K mg base CX0 (k + 1) (He.ma K (He.ga K "Field") "holds") sp := by
  obtain ⟨fd, F⟩ := S.def_ 7 (d := d_Field_holds) rfl
  exact ok0 F sc_Field_holds (F.bindsA fun _ _ _ _ _ _ us hl => match us, hl with | [_, _], _ => rfl) len hb
theorem kp_Field_holds (S : He.SaysD fa fn K) : PySem.W.keepIn K (.ref (He.ma K (He.ga K "Field") "holds")) = true := by
  obtain ⟨fd, F⟩ := S.def_ 7 (d := d_Field_holds) rfl
  exact F.kp
theorem mk_Field_ratio (S : He.SaysD fa fn K) (len : ∀ vs H Q E, sp vs H Q E → vs.length = 3)
    (hb : ∀ (cdv : Value) (A : Around) (outer : List Env) (s : Shared) (H : Hp) (vs : List V) (Q : VK) (E : XK), A.guards = some [] → Room k (A.deeper (envOfC "Field.ratio" (defScope s_Field_ratio) s.heap.objs.size (He.ma K (He.ga K "Field") "ratio") cdv)) → sp vs H Q E →
      ∃ t, PSs (cxOf CX0 P w K mg base n_Field_ratio "Field.ratio" (defScope s_Field_ratio) (He.ma K (He.ga K "Field") "ratio") cdv A outer s H E).nox (defBody s_Field_ratio) t ∧ t { nx := fun _ H' => Q .non H', rt := Q } (start n_Field_ratio vs) H) : FnG P w K mg base CX0 (k + 1) (He.ma K (He.ga K "Field") "ratio") sp := by
  obtain ⟨fd, F⟩ := S.def_ 8 (d := d_Field_ratio) rfl
  exact ok0 F sc_Field_ratio (F.bindsA fun _ _ _ _ _ _ us hl => match us, hl with | [_, _, _], _ => rfl) len hb
theorem kp_Field_ratio (S : He.SaysD fa fn K) : PySem.W.keepIn K (.ref (He.ma K (He.ga K "Field") "ratio")) = true := by
  obtain ⟨fd, F⟩ := S.def_ 8 (d := d_Field_ratio) rfl
  exact F.kp
theorem mk_Field_common (S : He.SaysD fa fn K) (len : ∀ vs H Q E, sp vs H Q E → vs.length = 2)
    (hb : ∀ (cdv : Value) (A : Around) (outer : List Env) (s : Shared) (H : Hp) (vs : List V) (Q : VK) (E : XK), A.guards = some [] → Room k (A.deeper (envOfC "Field.common" (defScope s_Field_common) s.heap.objs.size (He.ma K (He.ga K "Field") "common") cdv)) → sp vs H Q E →
      ∃ t, PSs (cxOf CX0 P w K mg base n_Field_common "Field.common" (defScope s_Field_common) (He.ma K (He.ga K "Field") "common") cdv A outer s H E).nox (defBody s_Field_common) t ∧ t { nx := fun _ H' => Q .non H', rt := Q } (start n_Field_common vs) H) : FnG P w K mg base CX0 (k + 1) (He.ma K (He.ga K "Field") "common") sp := by
  obtain ⟨fd, F⟩ := S.def_ 9 (d := d_Field_common) rfl
  exact ok0 F sc_Field_common (F.bindsA fun _ _ _ _ _ _ us hl => match us, hl with | [_, _], _ => rfl) len hb
theorem kp_Field_common (S : He.SaysD fa fn K) : PySem.W.keepIn K (.ref (He.ma K (He.ga K "Field") "common")) = true := by
  obtain ⟨fd, F⟩ := S.def_ 9 (d := d_Field_common) rfl
  exact F.kp
theorem mk_Fractions___init__ (S : He.SaysD fa fn K) (len : ∀ vs H Q E, sp vs H Q E → vs.length = 1)
    (hb : ∀ (cdv : Value) (A : Around) (outer : List Env) (s : Shared) (H : Hp) (vs : List V) (Q : VK) (E : XK), A.guards = some [] → Room k (A.deeper (envOfC "Fractions.__init__" (defScope s_Fractions___init__) s.heap.objs.size (He.ma K (He.ga K "Fractions") "__init__") cdv)) → sp vs H Q E →
      ∃ t, PSs (cxOf CX0 P w K mg base n_Fractions___init__ "Fractions.__init__" (defScope s_Fractions___init__) (He.ma K (He.ga K "Fractions") "__init__") cdv A outer s H E).nox (defBody s_Fractions___init__) t ∧ t { nx := fun _ H' => Q .non H', rt := Q } (start n_Fractions___init__ vs) H) : FnG P w K mg base CX0 (k + 1) (He.ma K (He.ga K "Fractions") "__init__") sp := by
  obtain ⟨fd, F⟩ := S.def_ 10 (d := d_Fractions___init__) rfl
  exact ok0 F sc_Fractions___init__ (F.bindsA fun _ _ _ _ _ _ us hl => match us, hl with | [_], _ => rfl) len hb
theorem kp_Fractions___init__ (S : He.SaysD fa fn K) : PySem.W.keepIn K (.ref (He.ma K (He.ga K "Fractions") "__init__")) = true := by
  obtain ⟨fd, F⟩ := S.def_ 10 (d := d_Fractions___init__) rfl
  exact F.kp
theorem mk_Modulo___init__ (S : He.SaysD fa fn K) (len : ∀ vs H Q E, sp vs H Q E → vs.length = 2)
    (hb : ∀ (cdv : Value) (A : Around) (outer : List Env) (s : Shared) (H : Hp) (vs : List V) (Q : VK) (E : XK), A.guards = some [] → Room k (A.deeper (envOfC "Modulo.__init__" (defScope s_Modulo___init__) s.heap.objs.size (He.ma K (He.ga K "Modulo") "__init__") cdv)) → sp vs H Q E →
      ∃ t, PSs (cxOf CX0 P w K mg base n_Modulo___init__ "Modulo.__init__" (defScope s_Modulo___init__) (He.ma K (He.ga K "Modulo") "__init__") cdv A outer s H E).nox (defBody s_Modulo___init__) t ∧ t { nx := fun _ H' => Q .non H', rt := Q } (start n_Modulo___init__ vs) H) : FnG P w K mg base CX0 (k + 1) (He.ma K (He.ga K "Modulo") "__init__") sp := by
  obtain ⟨fd, F⟩ := S.def_ 11 (d := d_Modulo___init__) rfl
  exact ok0 F sc_Modulo___init__ (F.bindsA fun _ _ _ _ _ _ us hl => match us, hl with | [_, _], _ => rfl) len hb
theorem kp_Modulo___init__ (S : He.SaysD fa fn K) : PySem.W.keepIn K (.ref (He.ma K (He.ga K "Modulo") "__init__")) = true := by
  obtain ⟨fd, F⟩ := S.def_ 11 (d := d_Modulo___init__) rfl
  exact F.kp
theorem mk_is_prime (S : He.SaysD fa fn K) (len : ∀ vs H Q E, sp vs H Q E → vs.length = 1)
    (hb : ∀ (cdv : Value) (A : Around) (outer : List Env) (s : Shared) (H : Hp) (vs : List V) (Q : VK) (E : XK), A.guards = some [] → Room k (A.deeper (envOfC "is_prime" (defScope s_is_prime) s.heap.objs.size (He.ga K "is_prime") cdv)) → sp vs H Q E →
      ∃ t, PSs (cxOf CX0 P w K mg base n_is_prime "is_prime" (defScope s_is_prime) (He.ga K "is_prime") cdv A outer s H E).nox (defBody s_is_prime) t ∧ t { nx := fun _ H' => Q .non H', rt := Q } (start n_is_prime vs) H) : FnG P w K mg base CX0 (k + 1) (He.ga K "is_prime") sp := by
  obtain ⟨fd, F⟩ := S.def_ 12 (d := d_is_prime) rfl
  exact ok0 F sc_is_prime (F.bindsA fun _ _ _ _ _ _ us hl => match us, hl with | [_], _ => rfl) len hb
theorem kp_is_prime (S : He.SaysD fa fn K) : PySem.W.keepIn K (.ref (He.ga K "is_prime")) = true := by
  obtain ⟨fd, F⟩ := S.def_ 12 (d := d_is_prime) rfl
  exact F.kp
theorem mk_is_fraction (S : He.SaysD fa fn K) (len : ∀ vs H Q E, sp vs H Q E → vs.length = 1)
    (hb : ∀ (cdv : Value) (A : Around) (outer : List Env) (s : Shared) (H : Hp) (vs : List V) (Q : VK) (E : XK), A.guards = some [] → Room k (A.deeper (envOfC "is_fraction" (defScope s_is_fraction) s.heap.objs.size (He.ga K "is_fraction") cdv)) → sp vs H Q E →
      ∃ t, PSs (cxOf CX0 P w K mg base n_is_fraction "is_fraction" (defScope s_is_fraction) (He.ga K "is_fraction") cdv A outer s H E).nox (defBody s_is_fraction) t ∧ t { nx := fun _ H' => Q .non H', rt := Q } (start n_is_fraction vs) H) : FnG P w K mg base CX0 (k + 1) (He.ga K "is_fraction") sp := by
  obtain ⟨fd, F⟩ := S.def_ 13 (d := d_is_fraction) rfl
  exact ok0 F sc_is_fraction (F.bindsA fun _ _ _ _ _ _ us hl => match us, hl with | [_], _ => rfl) len hb
theorem kp_is_fraction (S : He.SaysD fa fn K) : PySem.W.keepIn K (.ref (He.ga K "is_fraction")) = true := by
  obtain ⟨fd, F⟩ := S.def_ 13 (d := d_is_fraction) rfl
  exact F.kp
theorem mk_is_longer (S : He.SaysD fa fn K) (len : ∀ vs H Q E, sp vs H Q E → vs.length = 2)
    (hb : ∀ (cdv : Value) (A : Around) (outer : List Env) (s : Shared) (H : Hp) (vs : List V) (Q : VK) (E : XK), A.guards = some [] → Room k (A.deeper (envOfC "is_longer" (defScope s_is_longer) s.heap.objs.size (He.ga K "is_longer") cdv)) → sp vs H Q E →
      ∃ t, PSs (cxOf CX0 P w K mg base n_is_longer "is_longer" (defScope s_is_longer) (He.ga K "is_longer") cdv A outer s H E).nox (defBody s_is_longer) t ∧ t { nx := fun _ H' => Q .non H', rt := Q } (start n_is_longer vs) H) : FnG P w K mg base CX0 (k + 1) (He.ga K "is_longer") sp := by
  obtain ⟨fd, F⟩ := S.def_ 14 (d := d_is_longer) rfl
  exact ok0 F sc_is_longer (F.bindsA fun _ _ _ _ _ _ us hl => match us, hl with | [_, _], _ => rfl) len hb
theorem kp_is_longer (S : He.SaysD fa fn K) : PySem.W.keepIn K (.ref (He.ga K "is_longer")) = true := by
  obtain ⟨fd, F⟩ := S.def_ 14 (d := d_is_longer) rfl
  exact F.kp
theorem mk_parts (S : He.SaysD fa fn K) (len : ∀ vs H Q E, sp vs H Q E → vs.length = 1)
    (hb : ∀ (cdv : Value) (A : Around) (outer : List Env) (s : Shared) (H : Hp) (vs : List V) (Q : VK) (E : XK), A.guards = some [] → Room k (A.deeper (envOfC "parts" (defScope s_parts) s.heap.objs.size (He.ga K "parts") cdv)) → sp vs H Q E →
      ∃ t, PSs (cxOf CX0 P w K mg base n_parts "parts" (defScope s_parts) (He.ga K "parts") cdv A outer s H E).nox (defBody s_parts) t ∧ t { nx := fun _ H' => Q .non H', rt := Q } (start n_parts vs) H) : FnG P w K mg base CX0 (k + 1) (He.ga K "parts") sp := by
  obtain ⟨fd, F⟩ := S.def_ 15 (d := d_parts) rfl
  exact ok0 F sc_parts (F.bindsA fun _ _ _ _ _ _ us hl => match us, hl with | [_], _ => rfl) len hb
theorem kp_parts (S : He.SaysD fa fn K) : PySem.W.keepIn K (.ref (He.ga K "parts")) = true := by
  obtain ⟨fd, F⟩ := S.def_ 15 (d := d_parts) rfl
  exact F.kp
theorem mk_shortened (S : He.SaysD fa fn K) (len : ∀ vs H Q E, sp vs H Q E → vs.length = 2)
    (hb : ∀ (cdv : Value) (A : Around) (outer : List Env) (s : Shared) (H : Hp) (vs : List V) (Q : VK) (E : XK), A.guards = some [] → Room k (A.deeper (envOfC "shortened" (defScope s_shortened) s.heap.objs.size (He.ga K "shortened") cdv)) → sp vs H Q E →
      ∃ t, PSs (cxOf CX0 P w K mg base n_shortened "shortened" (defScope s_shortened) (He.ga K "shortened") cdv A outer s H E).nox (defBody s_shortened) t ∧ t { nx := fun _ H' => Q .non H', rt := Q } (start n_shortened vs) H) : FnG P w K mg base CX0 (k + 1) (He.ga K "shortened") sp := by
  obtain ⟨fd, F⟩ := S.def_ 16 (d := d_shortened) rfl
  exact ok0 F sc_shortened (F.bindsA fun _ _ _ _ _ _ us hl => match us, hl with | [_, _], _ => rfl) len hb
theorem kp_shortened (S : He.SaysD fa fn K) : PySem.W.keepIn K (.ref (He.ga K "shortened")) = true := by
  obtain ⟨fd, F⟩ := S.def_ 16 (d := d_shortened) rfl
  exact F.kp
theorem mk_step_of (S : He.SaysD fa fn K) (len : ∀ vs H Q E, sp vs H Q E → vs.length = 2)
    (hb : ∀ (cdv : Value) (A : Around) (outer : List Env) (s : Shared) (H : Hp) (vs : List V) (Q : VK) (E : XK), A.guards = some [] → Room k (A.deeper (envOfC "step_of" (defScope s_step_of) s.heap.objs.size (He.ga K "step_of") cdv)) → sp vs H Q E →
      ∃ t, PSs (cxOf CX0 P w K mg base n_step_of "step_of" (defScope s_step_of) (He.ga K "step_of") cdv A outer s H E).nox (defBody s_step_of) t ∧ t { nx := fun _ H' => Q .non H', rt := Q } (start n_step_of vs) H) : FnG P w K mg base CX0 (k + 1) (He.ga K "step_of") sp := by
  obtain ⟨fd, F⟩ := S.def_ 17 (d := d_step_of) rfl
  exact ok0 F sc_step_of (F.bindsA fun _ _ _ _ _ _ us hl => match us, hl with | [_, _], _ => rfl) len hb
theorem kp_step_of (S : He.SaysD fa fn K) : PySem.W.keepIn K (.ref (He.ga K "step_of")) = true := by
  obtain ⟨fd, F⟩ := S.def_ 17 (d := d_step_of) rfl
  exact F.kp
theorem mk_row_after (S : He.SaysD fa fn K) (len : ∀ vs H Q E, sp vs H Q E → vs.length = 3)
    (hb : ∀ (cdv : Value) (A : Around) (outer : List Env) (s : Shared) (H : Hp) (vs : List V) (Q : VK) (E : XK), A.guards = some [] → Room k (A.deeper (envOfC "row_after" (defScope s_row_after) s.heap.objs.size (He.ga K "row_after") cdv)) → sp vs H Q E →
      ∃ t, PSs (cxOf CX0 P w K mg base n_row_after "row_after" (defScope s_row_after) (He.ga K "row_after") cdv A outer s H E).nox (defBody s_row_after) t ∧ t { nx := fun _ H' => Q .non H', rt := Q } (start n_row_after vs) H) : FnG P w K mg base CX0 (k + 1) (He.ga K "row_after") sp := by
  obtain ⟨fd, F⟩ := S.def_ 18 (d := d_row_after) rfl
  exact ok0 F sc_row_after (F.bindsA fun _ _ _ _ _ _ us hl => match us, hl with | [_, _, _], _ => rfl) len hb
theorem kp_row_after (S : He.SaysD fa fn K) : PySem.W.keepIn K (.ref (He.ga K "row_after")) = true := by
  obtain ⟨fd, F⟩ := S.def_ 18 (d := d_row_after) rfl
  exact F.kp
theorem mk_whole_dot (S : He.SaysD fa fn K) (len : ∀ vs H Q E, sp vs H Q E → vs.length = 3)
    (hb : ∀ (cdv : Value) (A : Around) (outer : List Env) (s : Shared) (H : Hp) (vs : List V) (Q : VK) (E : XK), A.guards = some [] → Room k (A.deeper (envOfC "whole_dot" (defScope s_whole_dot) s.heap.objs.size (He.ga K "whole_dot") cdv)) → sp vs H Q E →
      ∃ t, PSs (cxOf CX0 P w K mg base n_whole_dot "whole_dot" (defScope s_whole_dot) (He.ga K "whole_dot") cdv A outer s H E).nox (defBody s_whole_dot) t ∧ t { nx := fun _ H' => Q .non H', rt := Q } (start n_whole_dot vs) H) : FnG P w K mg base CX0 (k + 1) (He.ga K "whole_dot") sp := by
  obtain ⟨fd, F⟩ := S.def_ 19 (d := d_whole_dot) rfl
  exact ok0 F sc_whole_dot (F.bindsA fun _ _ _ _ _ _ us hl => match us, hl with | [_, _, _], _ => rfl) len hb
theorem kp_whole_dot (S : He.SaysD fa fn K) : PySem.W.keepIn K (.ref (He.ga K "whole_dot")) = true := by
  obtain ⟨fd, F⟩ := S.def_ 19 (d := d_whole_dot) rfl
  exact F.kp
theorem mk_row_dot (S : He.SaysD fa fn K) (len : ∀ vs H Q E, sp vs H Q E → vs.length = 3)
    (hb : ∀ (cdv : Value) (A : Around) (outer : List Env) (s : Shared) (H : Hp) (vs : List V) (Q : VK) (E : XK), A.guards = some [] → Room k (A.deeper (envOfC "row_dot" (defScope s_row_dot) s.heap.objs.size (He.ga K "row_dot") cdv)) → sp vs H Q E →
      ∃ t, PSs (cxOf CX0 P w K mg base n_row_dot "row_dot" (defScope s_row_dot) (He.ga K "row_dot") cdv A outer s H E).nox (defBody s_row_dot) t ∧ t { nx := fun _ H' => Q .non H', rt := Q } (start n_row_dot vs) H) : FnG P w K mg base CX0 (k + 1) (He.ga K "row_dot") sp := by
  obtain ⟨fd, F⟩ := S.def_ 20 (d := d_row_dot) rfl
  exact ok0 F sc_row_dot (F.bindsA fun _ _ _ _ _ _ us hl => match us, hl with | [_, _, _], _ => rfl) len hb
theorem kp_row_dot (S : He.SaysD fa fn K) : PySem.W.keepIn K (.ref (He.ga K "row_dot")) = true := by
  obtain ⟨fd, F⟩ := S.def_ 20 (d := d_row_dot) rfl
  exact F.kp
theorem mk_numbers_of (S : He.SaysD fa fn K) (len : ∀ vs H Q E, sp vs H Q E → vs.length = 2)
    (hb : ∀ (cdv : Value) (A : Around) (outer : List Env) (s : Shared) (H : Hp) (vs : List V) (Q : VK) (E : XK), A.guards = some [] → Room k (A.deeper (envOfC "numbers_of" (defScope s_numbers_of) s.heap.objs.size (He.ga K "numbers_of") cdv)) → sp vs H Q E →
      ∃ t, PSs (cxOf CX0 P w K mg base n_numbers_of "numbers_of" (defScope s_numbers_of) (He.ga K "numbers_of") cdv A outer s H E).nox (defBody s_numbers_of) t ∧ t { nx := fun _ H' => Q .non H', rt := Q } (start n_numbers_of vs) H) : FnG P w K mg base CX0 (k + 1) (He.ga K "numbers_of") sp := by
  obtain ⟨fd, F⟩ := S.def_ 21 (d := d_numbers_of) rfl
  exact ok0 F sc_numbers_of (F.bindsA fun _ _ _ _ _ _ us hl => match us, hl with | [_, _], _ => rfl) len hb
theorem kp_numbers_of (S : He.SaysD fa fn K) : PySem.W.keepIn K (.ref (He.ga K "numbers_of")) = true := by
  obtain ⟨fd, F⟩ := S.def_ 21 (d := d_numbers_of) rfl
  exact F.kp
theorem mk_Machine___init__ (S : He.SaysD fa fn K) (len : ∀ vs H Q E, sp vs H Q E → vs.length = 6)
    (hb : ∀ (cdv : Value) (A : Around) (outer : List Env) (s : Shared) (H : Hp) (vs : List V) (Q : VK) (E : XK), A.guards = some [] → Room k (A.deeper (envOfC "Machine.__init__" (defScope s_Machine___init__) s.heap.objs.size (He.ma K (He.ga K "Machine") "__init__") cdv)) → sp vs H Q E →
      ∃ t, PSs (cxOf CX0 P w K mg base n_Machine___init__ "Machine.__init__" (defScope s_Machine___init__) (He.ma K (He.ga K "Machine") "__init__") cdv A outer s H E).nox (defBody s_Machine___init__) t ∧ t { nx := fun _ H' => Q .non H', rt := Q } (start n_Machine___init__ vs) H) : FnG P w K mg base CX0 (k + 1) (He.ma K (He.ga K "Machine") "__init__") sp := by
  obtain ⟨fd, F⟩ := S.def_ 22 (d := d_Machine___init__) rfl
  exact ok0 F sc_Machine___init__ (F.bindsA fun _ _ _ _ _ _ us hl => match us, hl with | [_, _, _, _, _, _], _ => rfl) len hb
theorem kp_Machine___init__ (S : He.SaysD fa fn K) : PySem.W.keepIn K (.ref (He.ma K (He.ga K "Machine") "__init__")) = true := by
  obtain ⟨fd, F⟩ := S.def_ 22 (d := d_Machine___init__) rfl
  exact F.kp
theorem mk_Machine_value_of (S : He.SaysD fa fn K) (len : ∀ vs H Q E, sp vs H Q E → vs.length = 2)
    (hb : ∀ (cdv : Value) (A : Around) (outer : List Env) (s : Shared) (H : Hp) (vs : List V) (Q : VK) (E : XK), A.guards = some [] → Room k (A.deeper (envOfC "Machine.value_of" (defScope s_Machine_value_of) s.heap.objs.size (He.ma K (He.ga K "Machine") "value_of") cdv)) → sp vs H Q E →
      ∃ t, PSs (cxOf CX0 P w K mg base n_Machine_value_of "Machine.value_of" (defScope s_Machine_value_of) (He.ma K (He.ga K "Machine") "value_of") cdv A outer s H E).nox (defBody s_Machine_value_of) t ∧ t { nx := fun _ H' => Q .non H', rt := Q } (start n_Machine_value_of vs) H) : FnG P w K mg base CX0 (k + 1) (He.ma K (He.ga K "Machine") "value_of") sp := by
  obtain ⟨fd, F⟩ := S.def_ 23 (d := d_Machine_value_of) rfl
  exact ok0 F sc_Machine_value_of (F.bindsA fun _ _ _ _ _ _ us hl => match us, hl with | [_, _], _ => rfl) len hb
theorem mkX_Machine_value_of (S : He.SaysD fa fn K) (len : ∀ vs H Q E, sp vs H Q E → vs.length = 2)
    (hb : ∀ (cdv : Value) (A : Around) (outer : List Env) (s : Shared) (H : Hp) (vs : List V) (Q : VK) (E : XK), A.guards = some [] → Room k (A.deeper (envOfC "Machine.value_of" (defScope s_Machine_value_of) s.heap.objs.size (He.ma K (He.ga K "Machine") "value_of") cdv)) → sp vs H Q E →
      ∃ t, PSs (cxOf (L2.CX P w) P w K mg base n_Machine_value_of "Machine.value_of" (defScope s_Machine_value_of) (He.ma K (He.ga K "Machine") "value_of") cdv A outer s H E) (defBody s_Machine_value_of) t ∧ t { nx := fun _ H' => Q .non H', rt := Q } (start n_Machine_value_of vs) H) : FnG P w K mg base (L2.CX P w) (k + 1) (He.ma K (He.ga K "Machine") "value_of") sp := by
  obtain ⟨fd, F⟩ := S.def_ 23 (d := d_Machine_value_of) rfl
  exact okG F sc_Machine_value_of (F.bindsA fun _ _ _ _ _ _ us hl => match us, hl with | [_, _], _ => rfl) len hb
theorem kp_Machine_value_of (S : He.SaysD fa fn K) : PySem.W.keepIn K (.ref (He.ma K (He.ga K "Machine") "value_of")) = true := by
  obtain ⟨fd, F⟩ := S.def_ 23 (d := d_Machine_value_of) rfl
  exact F.kp
theorem mk_Machine_state_after (S : He.SaysD fa fn K) (len : ∀ vs H Q E, sp vs H Q E → vs.length = 2)
    (hb : ∀ (cdv : Value) (A : Around) (outer : List Env) (s : Shared) (H : Hp) (vs : List V) (Q : VK) (E : XK), A.guards = some [] → Room k (A.deeper (envOfC "Machine.state_after" (defScope s_Machine_state_after) s.heap.objs.size (He.ma K (He.ga K "Machine") "state_after") cdv)) → sp vs H Q E →
      ∃ t, PSs (cxOf CX0 P w K mg base n_Machine_state_after "Machine.state_after" (defScope s_Machine_state_after) (He.ma K (He.ga K "Machine") "state_after") cdv A outer s H E).nox (defBody s_Machine_state_after) t ∧ t { nx := fun _ H' => Q .non H', rt := Q } (start n_Machine_state_after vs) H) : FnG P w K mg base CX0 (k + 1) (He.ma K (He.ga K "Machine") "state_after") sp := by
  obtain ⟨fd, F⟩ := S.def_ 24 (d := d_Machine_state_after) rfl
  exact ok0 F sc_Machine_state_after (F.bindsA fun _ _ _ _ _ _ us hl => match us, hl with | [_, _], _ => rfl) len hb
theorem mkX_Machine_state_after (S : He.SaysD fa fn K) (len : ∀ vs H Q E, sp vs H Q E → vs.length = 2)
    (hb : ∀ (cdv : Value) (A : Around) (outer : List Env) (s : Shared) (H : Hp) (vs : List V) (Q : VK) (E : XK), A.guards = some [] → Room k (A.deeper (envOfC "Machine.state_after" (defScope s_Machine_state_after) s.heap.objs.size (He.ma K (He.ga K "Machine") "state_after") cdv)) → sp vs H Q E →
      ∃ t, PSs (cxOf (L2.CX P w) P w K mg base n_Machine_state_after "Machine.state_after" (defScope s_Machine_state_after) (He.ma K (He.ga K "Machine") "state_after") cdv A outer s H E) (defBody s_Machine_state_after) t ∧ t { nx := fun _ H' => Q .non H', rt := Q } (start n_Machine_state_after vs) H) : FnG P w K mg base (L2.CX P w) (k + 1) (He.ma K (He.ga K "Machine") "state_after") sp := by
  obtain ⟨fd, F⟩ := S.def_ 24 (d := d_Machine_state_after) rfl
  exact okG F sc_Machine_state_after (F.bindsA fun _ _ _ _ _ _ us hl => match us, hl with | [_, _], _ => rfl) len hb
theorem kp_Machine_state_after (S : He.SaysD fa fn K) : PySem.W.keepIn K (.ref (He.ma K (He.ga K "Machine") "state_after")) = true := by
  obtain ⟨fd, F⟩ := S.def_ 24 (d := d_Machine_state_after) rfl
  exact F.kp
theorem kp_Machine__check_words (S : He.SaysD fa fn K) : PySem.W.keepIn K (.ref (He.ma K (He.ga K "Machine") "_check_words")) = true := by
  obtain ⟨fd, F⟩ := S.def_ 25 (d := d_Machine__check_words) rfl
  exact F.kp
theorem mk_Machine__row_after (S : He.SaysD fa fn K) (len : ∀ vs H Q E, sp vs H Q E → vs.length = 3)
    (hb : ∀ (cdv : Value) (A : Around) (outer : List Env) (s : Shared) (H : Hp) (vs : List V) (Q : VK) (E : XK), A.guards = some [] → Room k (A.deeper (envOfC "Machine._row_after" (defScope s_Machine__row_after) s.heap.objs.size (He.ma K (He.ga K "Machine") "_row_after") cdv)) → sp vs H Q E →
      ∃ t, PSs (cxOf CX0 P w K mg base n_Machine__row_after "Machine._row_after" (defScope s_Machine__row_after) (He.ma K (He.ga K "Machine") "_row_after") cdv A outer s H E).nox (defBody s_Machine__row_after) t ∧ t { nx := fun _ H' => Q .non H', rt := Q } (start n_Machine__row_after vs) H) : FnG P w K mg base CX0 (k + 1) (He.ma K (He.ga K "Machine") "_row_after") sp := by
  obtain ⟨fd, F⟩ := S.def_ 26 (d := d_Machine__row_after) rfl
  exact ok0 F sc_Machine__row_after (F.bindsA fun _ _ _ _ _ _ us hl => match us, hl with | [_, _, _], _ => rfl) len hb
theorem kp_Machine__row_after (S : He.SaysD fa fn K) : PySem.W.keepIn K (.ref (He.ma K (He.ga K "Machine") "_row_after")) = true := by
  obtain ⟨fd, F⟩ := S.def_ 26 (d := d_Machine__row_after) rfl
  exact F.kp
theorem mk_Machine__row_behind (S : He.SaysD fa fn K) (len : ∀ vs H Q E, sp vs H Q E → vs.length = 2)
    (hb : ∀ (cdv : Value) (A : Around) (outer : List Env) (s : Shared) (H : Hp) (vs : List V) (Q : VK) (E : XK), A.guards = some [] → Room k (A.deeper (envOfC "Machine._row_behind" (defScope s_Machine__row_behind) s.heap.objs.size (He.ma K (He.ga K "Machine") "_row_behind") cdv)) → sp vs H Q E →
      ∃ t, PSs (cxOf CX0 P w K mg base n_Machine__row_behind "Machine._row_behind" (defScope s_Machine__row_behind) (He.ma K (He.ga K "Machine") "_row_behind") cdv A outer s H E).nox (defBody s_Machine__row_behind) t ∧ t { nx := fun _ H' => Q .non H', rt := Q } (start n_Machine__row_behind vs) H) : FnG P w K mg base CX0 (k + 1) (He.ma K (He.ga K "Machine") "_row_behind") sp := by
  obtain ⟨fd, F⟩ := S.def_ 27 (d := d_Machine__row_behind) rfl
  exact ok0 F sc_Machine__row_behind (F.bindsA fun _ _ _ _ _ _ us hl => match us, hl with | [_, _], _ => rfl) len hb
theorem kp_Machine__row_behind (S : He.SaysD fa fn K) : PySem.W.keepIn K (.ref (He.ma K (He.ga K "Machine") "_row_behind")) = true := by
  obtain ⟨fd, F⟩ := S.def_ 27 (d := d_Machine__row_behind) rfl
  exact F.kp
theorem mk_Machine__value_at (S : He.SaysD fa fn K) (len : ∀ vs H Q E, sp vs H Q E → vs.length = 2)
    (hb : ∀ (cdv : Value) (A : Around) (outer : List Env) (s : Shared) (H : Hp) (vs : List V) (Q : VK) (E : XK), A.guards = some [] → Room k (A.deeper (envOfC "Machine._value_at" (defScope s_Machine__value_at) s.heap.objs.size (He.ma K (He.ga K "Machine") "_value_at") cdv)) → sp vs H Q E →
      ∃ t, PSs (cxOf CX0 P w K mg base n_Machine__value_at "Machine._value_at" (defScope s_Machine__value_at) (He.ma K (He.ga K "Machine") "_value_at") cdv A outer s H E).nox (defBody s_Machine__value_at) t ∧ t { nx := fun _ H' => Q .non H', rt := Q } (start n_Machine__value_at vs) H) : FnG P w K mg base CX0 (k + 1) (He.ma K (He.ga K "Machine") "_value_at") sp := by
  obtain ⟨fd, F⟩ := S.def_ 28 (d := d_Machine__value_at) rfl
  exact ok0 F sc_Machine__value_at (F.bindsA fun _ _ _ _ _ _ us hl => match us, hl with | [_, _], _ => rfl) len hb
theorem kp_Machine__value_at (S : He.SaysD fa fn K) : PySem.W.keepIn K (.ref (He.ma K (He.ga K "Machine") "_value_at")) = true := by
  obtain ⟨fd, F⟩ := S.def_ 28 (d := d_Machine__value_at) rfl
  exact F.kp
theorem mk_check_parts (S : He.SaysD fa fn K) (len : ∀ vs H Q E, sp vs H Q E → vs.length = 5)
    (hb : ∀ (cdv : Value) (A : Around) (outer : List Env) (s : Shared) (H : Hp) (vs : List V) (Q : VK) (E : XK), A.guards = some [] → Room k (A.deeper (envOfC "check_parts" (defScope s_check_parts) s.heap.objs.size (He.ga K "check_parts") cdv)) → sp vs H Q E →
      ∃ t, PSs (cxOf CX0 P w K mg base n_check_parts "check_parts" (defScope s_check_parts) (He.ga K "check_parts") cdv A outer s H E).nox (defBody s_check_parts) t ∧ t { nx := fun _ H' => Q .non H', rt := Q } (start n_check_parts vs) H) : FnG P w K mg base CX0 (k + 1) (He.ga K "check_parts") sp := by
  obtain ⟨fd, F⟩ := S.def_ 29 (d := d_check_parts) rfl
  exact ok0 F sc_check_parts (F.bindsA fun _ _ _ _ _ _ us hl => match us, hl with | [_, _, _, _, _], _ => rfl) len hb
theorem kp_check_parts (S : He.SaysD fa fn K) : PySem.W.keepIn K (.ref (He.ga K "check_parts")) = true := by
  obtain ⟨fd, F⟩ := S.def_ 29 (d := d_check_parts) rfl
  exact F.kp
theorem mk_is_row (S : He.SaysD fa fn K) (len : ∀ vs H Q E, sp vs H Q E → vs.length = 2)
    (hb : ∀ (cdv : Value) (A : Around) (outer : List Env) (s : Shared) (H : Hp) (vs : List V) (Q : VK) (E : XK), A.guards = some [] → Room k (A.deeper (envOfC "is_row" (defScope s_is_row) s.heap.objs.size (He.ga K "is_row") cdv)) → sp vs H Q E →
      ∃ t, PSs (cxOf CX0 P w K mg base n_is_row "is_row" (defScope s_is_row) (He.ga K "is_row") cdv A outer s H E).nox (defBody s_is_row) t ∧ t { nx := fun _ H' => Q .non H', rt := Q } (start n_is_row vs) H) : FnG P w K mg base CX0 (k + 1) (He.ga K "is_row") sp := by
  obtain ⟨fd, F⟩ := S.def_ 30 (d := d_is_row) rfl
  exact ok0 F sc_is_row (F.bindsA fun _ _ _ _ _ _ us hl => match us, hl with | [_, _], _ => rfl) len hb
theorem kp_is_row (S : He.SaysD fa fn K) : PySem.W.keepIn K (.ref (He.ga K "is_row")) = true := by
  obtain ⟨fd, F⟩ := S.def_ 30 (d := d_is_row) rfl
  exact F.kp
theorem mk_is_table (S : He.SaysD fa fn K) (len : ∀ vs H Q E, sp vs H Q E → vs.length = 3)
    (hb : ∀ (cdv : Value) (A : Around) (outer : List Env) (s : Shared) (H : Hp) (vs : List V) (Q : VK) (E : XK), A.guards = some [] → Room k (A.deeper (envOfC "is_table" (defScope s_is_table) s.heap.objs.size (He.ga K "is_table") cdv)) → sp vs H Q E →
      ∃ t, PSs (cxOf CX0 P w K mg base n_is_table "is_table" (defScope s_is_table) (He.ga K "is_table") cdv A outer s H E).nox (defBody s_is_table) t ∧ t { nx := fun _ H' => Q .non H', rt := Q } (start n_is_table vs) H) : FnG P w K mg base CX0 (k + 1) (He.ga K "is_table") sp := by
  obtain ⟨fd, F⟩ := S.def_ 31 (d := d_is_table) rfl
  exact ok0 F sc_is_table (F.bindsA fun _ _ _ _ _ _ us hl => match us, hl with | [_, _, _], _ => rfl) len hb
theorem kp_is_table (S : He.SaysD fa fn K) : PySem.W.keepIn K (.ref (He.ga K "is_table")) = true := by
  obtain ⟨fd, F⟩ := S.def_ 31 (d := d_is_table) rfl
  exact F.kp
theorem mk__law_pen (S : He.SaysD fa fn K) (len : ∀ vs H Q E, sp vs H Q E → vs.length = 1)
    (hb : ∀ (cdv : Value) (A : Around) (outer : List Env) (s : Shared) (H : Hp) (vs : List V) (Q : VK) (E : XK), A.guards = some [] → Room k (A.deeper (envOfC "_law_pen" (defScope s__law_pen) s.heap.objs.size (He.ga K "_law_pen") cdv)) → sp vs H Q E →
      ∃ t, PSs (cxOf CX0 P w K mg base n__law_pen "_law_pen" (defScope s__law_pen) (He.ga K "_law_pen") cdv A outer s H E).nox (defBody s__law_pen) t ∧ t { nx := fun _ H' => Q .non H', rt := Q } (start n__law_pen vs) H) : FnG P w K mg base CX0 (k + 1) (He.ga K "_law_pen") sp := by
  obtain ⟨fd, F⟩ := S.def_ 32 (d := d__law_pen) rfl
  exact ok0 F sc__law_pen (F.bindsA fun _ _ _ _ _ _ us hl => match us, hl with | [_], _ => rfl) len hb
theorem kp__law_pen (S : He.SaysD fa fn K) : PySem.W.keepIn K (.ref (He.ga K "_law_pen")) = true := by
  obtain ⟨fd, F⟩ := S.def_ 32 (d := d__law_pen) rfl
  exact F.kp
theorem mk__law_draw (S : He.SaysD fa fn K) (len : ∀ vs H Q E, sp vs H Q E → vs.length = 2)
    (hb : ∀ (cdv : Value) (A : Around) (outer : List Env) (s : Shared) (H : Hp) (vs : List V) (Q : VK) (E : XK), A.guards = some [] → Room k (A.deeper (envOfC "_law_draw" (defScope s__law_draw) s.heap.objs.size (He.ga K "_law_draw") cdv)) → sp vs H Q E →
      ∃ t, PSs (cxOf CX0 P w K mg base n__law_draw "_law_draw" (defScope s__law_draw) (He.ga K "_law_draw") cdv A outer s H E).nox (defBody s__law_draw) t ∧ t { nx := fun _ H' => Q .non H', rt := Q } (start n__law_draw vs) H) : FnG P w K mg base CX0 (k + 1) (He.ga K "_law_draw") sp := by
  obtain ⟨fd, F⟩ := S.def_ 33 (d := d__law_draw) rfl
  exact ok0 F sc__law_draw (F.bindsA fun _ _ _ _ _ _ us hl => match us, hl with | [_, _], _ => rfl) len hb
theorem kp__law_draw (S : He.SaysD fa fn K) : PySem.W.keepIn K (.ref (He.ga K "_law_draw")) = true := by
  obtain ⟨fd, F⟩ := S.def_ 33 (d := d__law_draw) rfl
  exact F.kp
theorem mk__law_pick (S : He.SaysD fa fn K) (len : ∀ vs H Q E, sp vs H Q E → vs.length = 2)
    (hb : ∀ (cdv : Value) (A : Around) (outer : List Env) (s : Shared) (H : Hp) (vs : List V) (Q : VK) (E : XK), A.guards = some [] → Room k (A.deeper (envOfC "_law_pick" (defScope s__law_pick) s.heap.objs.size (He.ga K "_law_pick") cdv)) → sp vs H Q E →
      ∃ t, PSs (cxOf CX0 P w K mg base n__law_pick "_law_pick" (defScope s__law_pick) (He.ga K "_law_pick") cdv A outer s H E).nox (defBody s__law_pick) t ∧ t { nx := fun _ H' => Q .non H', rt := Q } (start n__law_pick vs) H) : FnG P w K mg base CX0 (k + 1) (He.ga K "_law_pick") sp := by
  obtain ⟨fd, F⟩ := S.def_ 34 (d := d__law_pick) rfl
  exact ok0 F sc__law_pick (F.bindsA fun _ _ _ _ _ _ us hl => match us, hl with | [_, _], _ => rfl) len hb
theorem kp__law_pick (S : He.SaysD fa fn K) : PySem.W.keepIn K (.ref (He.ga K "_law_pick")) = true := by
  obtain ⟨fd, F⟩ := S.def_ 34 (d := d__law_pick) rfl
  exact F.kp
theorem mk__law_shuffled (S : He.SaysD fa fn K) (len : ∀ vs H Q E, sp vs H Q E → vs.length = 2)
    (hb : ∀ (cdv : Value) (A : Around) (outer : List Env) (s : Shared) (H : Hp) (vs : List V) (Q : VK) (E : XK), A.guards = some [] → Room k (A.deeper (envOfC "_law_shuffled" (defScope s__law_shuffled) s.heap.objs.size (He.ga K "_law_shuffled") cdv)) → sp vs H Q E →
      ∃ t, PSs (cxOf CX0 P w K mg base n__law_shuffled "_law_shuffled" (defScope s__law_shuffled) (He.ga K "_law_shuffled") cdv A outer s H E).nox (defBody s__law_shuffled) t ∧ t { nx := fun _ H' => Q .non H', rt := Q } (start n__law_shuffled vs) H) : FnG P w K mg base CX0 (k + 1) (He.ga K "_law_shuffled") sp := by
  obtain ⟨fd, F⟩ := S.def_ 35 (d := d__law_shuffled) rfl
  exact ok0 F sc__law_shuffled (F.bindsA fun _ _ _ _ _ _ us hl => match us, hl with | [_, _], _ => rfl) len hb
theorem kp__law_shuffled (S : He.SaysD fa fn K) : PySem.W.keepIn K (.ref (He.ga K "_law_shuffled")) = true := by
  obtain ⟨fd, F⟩ := S.def_ 35 (d := d__law_shuffled) rfl
  exact F.kp
theorem mk__law_prime (S : He.SaysD fa fn K) (len : ∀ vs H Q E, sp vs H Q E → vs.length = 1)
    (hb : ∀ (cdv : Value) (A : Around) (outer : List Env) (s : Shared) (H : Hp) (vs : List V) (Q : VK) (E : XK), A.guards = some [] → Room k (A.deeper (envOfC "_law_prime" (defScope s__law_prime) s.heap.objs.size (He.ga K "_law_prime") cdv)) → sp vs H Q E →
      ∃ t, PSs (cxOf CX0 P w K mg base n__law_prime "_law_prime" (defScope s__law_prime) (He.ga K "_law_prime") cdv A outer s H E).nox (defBody s__law_prime) t ∧ t { nx := fun _ H' => Q .non H', rt := Q } (start n__law_prime vs) H) : FnG P w K mg base CX0 (k + 1) (He.ga K "_law_prime") sp := by
  obtain ⟨fd, F⟩ := S.def_ 36 (d := d__law_prime) rfl
  exact ok0 F sc__law_prime (F.bindsA fun _ _ _ _ _ _ us hl => match us, hl with | [_], _ => rfl) len hb
theorem kp__law_prime (S : He.SaysD fa fn K) : PySem.W.keepIn K (.ref (He.ga K "_law_prime")) = true := by
  obtain ⟨fd, F⟩ := S.def_ 36 (d := d__law_prime) rfl
  exact F.kp
theorem mk__law_letters (S : He.SaysD fa fn K) (len : ∀ vs H Q E, sp vs H Q E → vs.length = 2)
    (hb : ∀ (cdv : Value) (A : Around) (outer : List Env) (s : Shared) (H : Hp) (vs : List V) (Q : VK) (E : XK), A.guards = some [] → Room k (A.deeper (envOfC "_law_letters" (defScope s__law_letters) s.heap.objs.size (He.ga K "_law_letters") cdv)) → sp vs H Q E →
      ∃ t, PSs (cxOf CX0 P w K mg base n__law_letters "_law_letters" (defScope s__law_letters) (He.ga K "_law_letters") cdv A outer s H E).nox (defBody s__law_letters) t ∧ t { nx := fun _ H' => Q .non H', rt := Q } (start n__law_letters vs) H) : FnG P w K mg base CX0 (k + 1) (He.ga K "_law_letters") sp := by
  obtain ⟨fd, F⟩ := S.def_ 37 (d := d__law_letters) rfl
  exact ok0 F sc__law_letters (F.bindsA fun _ _ _ _ _ _ us hl => match us, hl with | [_, _], _ => rfl) len hb
theorem kp__law_letters (S : He.SaysD fa fn K) : PySem.W.keepIn K (.ref (He.ga K "_law_letters")) = true := by
  obtain ⟨fd, F⟩ := S.def_ 37 (d := d__law_letters) rfl
  exact F.kp
theorem mk__law_word (S : He.SaysD fa fn K) (len : ∀ vs H Q E, sp vs H Q E → vs.length = 3)
    (hb : ∀ (cdv : Value) (A : Around) (outer : List Env) (s : Shared) (H : Hp) (vs : List V) (Q : VK) (E : XK), A.guards = some [] → Room k (A.deeper (envOfC "_law_word" (defScope s__law_word) s.heap.objs.size (He.ga K "_law_word") cdv)) → sp vs H Q E →
      ∃ t, PSs (cxOf CX0 P w K mg base n__law_word "_law_word" (defScope s__law_word) (He.ga K "_law_word") cdv A outer s H E).nox (defBody s__law_word) t ∧ t { nx := fun _ H' => Q .non H', rt := Q } (start n__law_word vs) H) : FnG P w K mg base CX0 (k + 1) (He.ga K "_law_word") sp := by
  obtain ⟨fd, F⟩ := S.def_ 38 (d := d__law_word) rfl
  exact ok0 F sc__law_word (F.bindsA fun _ _ _ _ _ _ us hl => match us, hl with | [_, _, _], _ => rfl) len hb
theorem kp__law_word (S : He.SaysD fa fn K) : PySem.W.keepIn K (.ref (He.ga K "_law_word")) = true := by
  obtain ⟨fd, F⟩ := S.def_ 38 (d := d__law_word) rfl
  exact F.kp
theorem mk__law_made (S : He.SaysD fa fn K) (len : ∀ vs H Q E, sp vs H Q E → vs.length = 3)
    (hb : ∀ (cdv : Value) (A : Around) (outer : List Env) (s : Shared) (H : Hp) (vs : List V) (Q : VK) (E : XK), A.guards = some [] → Room k (A.deeper (envOfC "_law_made" (defScope s__law_made) s.heap.objs.size (He.ga K "_law_made") cdv)) → sp vs H Q E →
      ∃ t, PSs (cxOf CX0 P w K mg base n__law_made "_law_made" (defScope s__law_made) (He.ga K "_law_made") cdv A outer s H E).nox (defBody s__law_made) t ∧ t { nx := fun _ H' => Q .non H', rt := Q } (start n__law_made vs) H) : FnG P w K mg base CX0 (k + 1) (He.ga K "_law_made") sp := by
  obtain ⟨fd, F⟩ := S.def_ 39 (d := d__law_made) rfl
  exact ok0 F sc__law_made (F.bindsA fun _ _ _ _ _ _ us hl => match us, hl with | [_, _, _], _ => rfl) len hb
theorem kp__law_made (S : He.SaysD fa fn K) : PySem.W.keepIn K (.ref (He.ga K "_law_made")) = true := by
  obtain ⟨fd, F⟩ := S.def_ 39 (d := d__law_made) rfl
  exact F.kp
theorem mk__law_divisor (S : He.SaysD fa fn K) (len : ∀ vs H Q E, sp vs H Q E → vs.length = 2)
    (hb : ∀ (cdv : Value) (A : Around) (outer : List Env) (s : Shared) (H : Hp) (vs : List V) (Q : VK) (E : XK), A.guards = some [] → Room k (A.deeper (envOfC "_law_divisor" (defScope s__law_divisor) s.heap.objs.size (He.ga K "_law_divisor") cdv)) → sp vs H Q E →
      ∃ t, PSs (cxOf CX0 P w K mg base n__law_divisor "_law_divisor" (defScope s__law_divisor) (He.ga K "_law_divisor") cdv A outer s H E).nox (defBody s__law_divisor) t ∧ t { nx := fun _ H' => Q .non H', rt := Q } (start n__law_divisor vs) H) : FnG P w K mg base CX0 (k + 1) (He.ga K "_law_divisor") sp := by
  obtain ⟨fd, F⟩ := S.def_ 40 (d := d__law_divisor) rfl
  exact ok0 F sc__law_divisor (F.bindsA fun _ _ _ _ _ _ us hl => match us, hl with | [_, _], _ => rfl) len hb
theorem kp__law_divisor (S : He.SaysD fa fn K) : PySem.W.keepIn K (.ref (He.ga K "_law_divisor")) = true := by
  obtain ⟨fd, F⟩ := S.def_ 40 (d := d__law_divisor) rfl
  exact F.kp
theorem mk__law_fraction (S : He.SaysD fa fn K) (len : ∀ vs H Q E, sp vs H Q E → vs.length = 2)
    (hb : ∀ (cdv : Value) (A : Around) (outer : List Env) (s : Shared) (H : Hp) (vs : List V) (Q : VK) (E : XK), A.guards = some [] → Room k (A.deeper (envOfC "_law_fraction" (defScope s__law_fraction) s.heap.objs.size (He.ga K "_law_fraction") cdv)) → sp vs H Q E →
      ∃ t, PSs (cxOf CX0 P w K mg base n__law_fraction "_law_fraction" (defScope s__law_fraction) (He.ga K "_law_fraction") cdv A outer s H E).nox (defBody s__law_fraction) t ∧ t { nx := fun _ H' => Q .non H', rt := Q } (start n__law_fraction vs) H) : FnG P w K mg base CX0 (k + 1) (He.ga K "_law_fraction") sp := by
  obtain ⟨fd, F⟩ := S.def_ 41 (d := d__law_fraction) rfl
  exact ok0 F sc__law_fraction (F.bindsA fun _ _ _ _ _ _ us hl => match us, hl with | [_, _], _ => rfl) len hb
theorem kp__law_fraction (S : He.SaysD fa fn K) : PySem.W.keepIn K (.ref (He.ga K "_law_fraction")) = true := by
  obtain ⟨fd, F⟩ := S.def_ 41 (d := d__law_fraction) rfl
  exact F.kp
theorem mk__law_pair (S : He.SaysD fa fn K) (len : ∀ vs H Q E, sp vs H Q E → vs.length = 1)
    (hb : ∀ (cdv : Value) (A : Around) (outer : List Env) (s : Shared) (H : Hp) (vs : List V) (Q : VK) (E : XK), A.guards = some [] → Room k (A.deeper (envOfC "_law_pair" (defScope s__law_pair) s.heap.objs.size (He.ga K "_law_pair") cdv)) → sp vs H Q E →
      ∃ t, PSs (cxOf CX0 P w K mg base n__law_pair "_law_pair" (defScope s__law_pair) (He.ga K "_law_pair") cdv A outer s H E).nox (defBody s__law_pair) t ∧ t { nx := fun _ H' => Q .non H', rt := Q } (start n__law_pair vs) H) : FnG P w K mg base CX0 (k + 1) (He.ga K "_law_pair") sp := by
  obtain ⟨fd, F⟩ := S.def_ 42 (d := d__law_pair) rfl
  exact ok0 F sc__law_pair (F.bindsA fun _ _ _ _ _ _ us hl => match us, hl with | [_], _ => rfl) len hb
theorem kp__law_pair (S : He.SaysD fa fn K) : PySem.W.keepIn K (.ref (He.ga K "_law_pair")) = true := by
  obtain ⟨fd, F⟩ := S.def_ 42 (d := d__law_pair) rfl
  exact F.kp
theorem mk__law_dotted (S : He.SaysD fa fn K) (len : ∀ vs H Q E, sp vs H Q E → vs.length = 2)
    (hb : ∀ (cdv : Value) (A : Around) (outer : List Env) (s : Shared) (H : Hp) (vs : List V) (Q : VK) (E : XK), A.guards = some [] → Room k (A.deeper (envOfC "_law_dotted" (defScope s__law_dotted) s.heap.objs.size (He.ga K "_law_dotted") cdv)) → sp vs H Q E →
      ∃ t, PSs (cxOf CX0 P w K mg base n__law_dotted "_law_dotted" (defScope s__law_dotted) (He.ga K "_law_dotted") cdv A outer s H E).nox (defBody s__law_dotted) t ∧ t { nx := fun _ H' => Q .non H', rt := Q } (start n__law_dotted vs) H) : FnG P w K mg base CX0 (k + 1) (He.ga K "_law_dotted") sp := by
  obtain ⟨fd, F⟩ := S.def_ 43 (d := d__law_dotted) rfl
  exact ok0 F sc__law_dotted (F.bindsA fun _ _ _ _ _ _ us hl => match us, hl with | [_, _], _ => rfl) len hb
theorem kp__law_dotted (S : He.SaysD fa fn K) : PySem.W.keepIn K (.ref (He.ga K "_law_dotted")) = true := by
  obtain ⟨fd, F⟩ := S.def_ 43 (d := d__law_dotted) rfl
  exact F.kp
theorem mk__law_small_fraction (S : He.SaysD fa fn K) (len : ∀ vs H Q E, sp vs H Q E → vs.length = 1)
    (hb : ∀ (cdv : Value) (A : Around) (outer : List Env) (s : Shared) (H : Hp) (vs : List V) (Q : VK) (E : XK), A.guards = some [] → Room k (A.deeper (envOfC "_law_small_fraction" (defScope s__law_small_fraction) s.heap.objs.size (He.ga K "_law_small_fraction") cdv)) → sp vs H Q E →
      ∃ t, PSs (cxOf CX0 P w K mg base n__law_small_fraction "_law_small_fraction" (defScope s__law_small_fraction) (He.ga K "_law_small_fraction") cdv A outer s H E).nox (defBody s__law_small_fraction) t ∧ t { nx := fun _ H' => Q .non H', rt := Q } (start n__law_small_fraction vs) H) : FnG P w K mg base CX0 (k + 1) (He.ga K "_law_small_fraction") sp := by
  obtain ⟨fd, F⟩ := S.def_ 44 (d := d__law_small_fraction) rfl
  exact ok0 F sc__law_small_fraction (F.bindsA fun _ _ _ _ _ _ us hl => match us, hl with | [_], _ => rfl) len hb
theorem kp__law_small_fraction (S : He.SaysD fa fn K) : PySem.W.keepIn K (.ref (He.ga K "_law_small_fraction")) = true := by
  obtain ⟨fd, F⟩ := S.def_ 44 (d := d__law_small_fraction) rfl
  exact F.kp
theorem mk__law_plain_fractions (S : He.SaysD fa fn K) (len : ∀ vs H Q E, sp vs H Q E → vs.length = 3)
    (hb : ∀ (cdv : Value) (A : Around) (outer : List Env) (s : Shared) (H : Hp) (vs : List V) (Q : VK) (E : XK), A.guards = some [] → Room k (A.deeper (envOfC "_law_plain_fractions" (defScope s__law_plain_fractions) s.heap.objs.size (He.ga K "_law_plain_fractions") cdv)) → sp vs H Q E →
      ∃ t, PSs (cxOf CX0 P w K mg base n__law_plain_fractions "_law_plain_fractions" (defScope s__law_plain_fractions) (He.ga K "_law_plain_fractions") cdv A outer s H E).nox (defBody s__law_plain_fractions) t ∧ t { nx := fun _ H' => Q .non H', rt := Q } (start n__law_plain_fractions vs) H) : FnG P w K mg base CX0 (k + 1) (He.ga K "_law_plain_fractions") sp := by
  obtain ⟨fd, F⟩ := S.def_ 45 (d := d__law_plain_fractions) rfl
  exact ok0 F sc__law_plain_fractions (F.bindsA fun _ _ _ _ _ _ us hl => match us, hl with | [_, _, _], _ => rfl) len hb
theorem kp__law_plain_fractions (S : He.SaysD fa fn K) : PySem.W.keepIn K (.ref (He.ga K "_law_plain_fractions")) = true := by
  obtain ⟨fd, F⟩ := S.def_ 45 (d := d__law_plain_fractions) rfl
  exact F.kp
theorem mk__law_fraction_state (S : He.SaysD fa fn K) (len : ∀ vs H Q E, sp vs H Q E → vs.length = 2)
    (hb : ∀ (cdv : Value) (A : Around) (outer : List Env) (s : Shared) (H : Hp) (vs : List V) (Q : VK) (E : XK), A.guards = some [] → Room k (A.deeper (envOfC "_law_fraction_state" (defScope s__law_fraction_state) s.heap.objs.size (He.ga K "_law_fraction_state") cdv)) → sp vs H Q E →
      ∃ t, PSs (cxOf CX0 P w K mg base n__law_fraction_state "_law_fraction_state" (defScope s__law_fraction_state) (He.ga K "_law_fraction_state") cdv A outer s H E).nox (defBody s__law_fraction_state) t ∧ t { nx := fun _ H' => Q .non H', rt := Q } (start n__law_fraction_state vs) H) : FnG P w K mg base CX0 (k + 1) (He.ga K "_law_fraction_state") sp := by
  obtain ⟨fd, F⟩ := S.def_ 46 (d := d__law_fraction_state) rfl
  exact ok0 F sc__law_fraction_state (F.bindsA fun _ _ _ _ _ _ us hl => match us, hl with | [_, _], _ => rfl) len hb
theorem kp__law_fraction_state (S : He.SaysD fa fn K) : PySem.W.keepIn K (.ref (He.ga K "_law_fraction_state")) = true := by
  obtain ⟨fd, F⟩ := S.def_ 46 (d := d__law_fraction_state) rfl
  exact F.kp
theorem mk__law_made_of_fractions (S : He.SaysD fa fn K) (len : ∀ vs H Q E, sp vs H Q E → vs.length = 2)
    (hb : ∀ (cdv : Value) (A : Around) (outer : List Env) (s : Shared) (H : Hp) (vs : List V) (Q : VK) (E : XK), A.guards = some [] → Room k (A.deeper (envOfC "_law_made_of_fractions" (defScope s__law_made_of_fractions) s.heap.objs.size (He.ga K "_law_made_of_fractions") cdv)) → sp vs H Q E →
      ∃ t, PSs (cxOf CX0 P w K mg base n__law_made_of_fractions "_law_made_of_fractions" (defScope s__law_made_of_fractions) (He.ga K "_law_made_of_fractions") cdv A outer s H E).nox (defBody s__law_made_of_fractions) t ∧ t { nx := fun _ H' => Q .non H', rt := Q } (start n__law_made_of_fractions vs) H) : FnG P w K mg base CX0 (k + 1) (He.ga K "_law_made_of_fractions") sp := by
  obtain ⟨fd, F⟩ := S.def_ 47 (d := d__law_made_of_fractions) rfl
  exact ok0 F sc__law_made_of_fractions (F.bindsA fun _ _ _ _ _ _ us hl => match us, hl with | [_, _], _ => rfl) len hb
theorem kp__law_made_of_fractions (S : He.SaysD fa fn K) : PySem.W.keepIn K (.ref (He.ga K "_law_made_of_fractions")) = true := by
  obtain ⟨fd, F⟩ := S.def_ 47 (d := d__law_made_of_fractions) rfl
  exact F.kp
theorem mk__law_whole (S : He.SaysD fa fn K) (len : ∀ vs H Q E, sp vs H Q E → vs.length = 3)
    (hb : ∀ (cdv : Value) (A : Around) (outer : List Env) (s : Shared) (H : Hp) (vs : List V) (Q : VK) (E : XK), A.guards = some [] → Room k (A.deeper (envOfC "_law_whole" (defScope s__law_whole) s.heap.objs.size (He.ga K "_law_whole") cdv)) → sp vs H Q E →
      ∃ t, PSs (cxOf CX0 P w K mg base n__law_whole "_law_whole" (defScope s__law_whole) (He.ga K "_law_whole") cdv A outer s H E).nox (defBody s__law_whole) t ∧ t { nx := fun _ H' => Q .non H', rt := Q } (start n__law_whole vs) H) : FnG P w K mg base CX0 (k + 1) (He.ga K "_law_whole") sp := by
  obtain ⟨fd, F⟩ := S.def_ 48 (d := d__law_whole) rfl
  exact ok0 F sc__law_whole (F.bindsA fun _ _ _ _ _ _ us hl => match us, hl with | [_, _, _], _ => rfl) len hb
theorem kp__law_whole (S : He.SaysD fa fn K) : PySem.W.keepIn K (.ref (He.ga K "_law_whole")) = true := by
  obtain ⟨fd, F⟩ := S.def_ 48 (d := d__law_whole) rfl
  exact F.kp
theorem mk__law_remainders (S : He.SaysD fa fn K) (len : ∀ vs H Q E, sp vs H Q E → vs.length = 2)
    (hb : ∀ (cdv : Value) (A : Around) (outer : List Env) (s : Shared) (H : Hp) (vs : List V) (Q : VK) (E : XK), A.guards = some [] → Room k (A.deeper (envOfC "_law_remainders" (defScope s__law_remainders) s.heap.objs.size (He.ga K "_law_remainders") cdv)) → sp vs H Q E →
      ∃ t, PSs (cxOf CX0 P w K mg base n__law_remainders "_law_remainders" (defScope s__law_remainders) (He.ga K "_law_remainders") cdv A outer s H E).nox (defBody s__law_remainders) t ∧ t { nx := fun _ H' => Q .non H', rt := Q } (start n__law_remainders vs) H) : FnG P w K mg base CX0 (k + 1) (He.ga K "_law_remainders") sp := by
  obtain ⟨fd, F⟩ := S.def_ 49 (d := d__law_remainders) rfl
  exact ok0 F sc__law_remainders (F.bindsA fun _ _ _ _ _ _ us hl => match us, hl with | [_, _], _ => rfl) len hb
theorem kp__law_remainders (S : He.SaysD fa fn K) : PySem.W.keepIn K (.ref (He.ga K "_law_remainders")) = true := by
  obtain ⟨fd, F⟩ := S.def_ 49 (d := d__law_remainders) rfl
  exact F.kp
theorem mk_law (S : He.SaysD fa fn K) (len : ∀ vs H Q E, sp vs H Q E → vs.length = 1)
    (hb : ∀ (cdv : Value) (A : Around) (outer : List Env) (s : Shared) (H : Hp) (vs : List V) (Q : VK) (E : XK), A.guards = some [] → Room k (A.deeper (envOfC "law" (defScope s_law) s.heap.objs.size (He.ga K "law") cdv)) → sp vs H Q E →
      ∃ t, PSs (cxOf CX0 P w K mg base n_law "law" (defScope s_law) (He.ga K "law") cdv A outer s H E).nox (defBody s_law) t ∧ t { nx := fun _ H' => Q .non H', rt := Q } (start n_law vs) H) : FnG P w K mg base CX0 (k + 1) (He.ga K "law") sp := by
  obtain ⟨fd, F⟩ := S.def_ 50 (d := d_law) rfl
  exact ok0 F sc_law (F.bindsA fun _ _ _ _ _ _ us hl => match us, hl with | [_], _ => rfl) len hb
theorem kp_law (S : He.SaysD fa fn K) : PySem.W.keepIn K (.ref (He.ga K "law")) = true := by
  obtain ⟨fd, F⟩ := S.def_ 50 (d := d_law) rfl
  exact F.kp
end
end K19

/-! The mathematics of the fractions: the reduced pair, common bottoms. -/
namespace Num
open Rat
theorem den_pos' (q : Rat) : (0 : Int) < (q.den : Int) := Int.natCast_pos.mpr q.den_pos
/-- the divisor with the sign of the bottom -/
def dvs (t b : Int) : Int := if b < 0 then -((Nat.gcd t.natAbs b.natAbs : Nat) : Int) else ((Nat.gcd t.natAbs b.natAbs : Nat) : Int)
theorem dvs_ex {t b : Int} (hb : b ≠ 0) : ∃ (t' b' : Int), t = dvs t b * t' ∧ b = dvs t b * b' ∧ dvs t b ≠ 0 ∧ 0 < b' ∧ (t /. b).num = t' ∧ ((t /. b).den : Int) = b' := by
  have gpos : 0 < Nat.gcd t.natAbs b.natAbs := Nat.gcd_pos_of_pos_right _ (Int.natAbs_pos.mpr hb)
  have gt : ((Nat.gcd t.natAbs b.natAbs : Nat) : Int) ∣ t := Int.natAbs_dvd_natAbs.mp (Nat.gcd_dvd_left _ _)
  have gb : ((Nat.gcd t.natAbs b.natAbs : Nat) : Int) ∣ b := Int.natAbs_dvd_natAbs.mp (Nat.gcd_dvd_right _ _)
  have hn := Rat.num_divInt t b
  have hd := Rat.den_divInt t b
  have eg : Int.gcd b t = Nat.gcd t.natAbs b.natAbs := Nat.gcd_comm _ _
  rw [eg] at hn hd
  rw [if_neg hb] at hd
  unfold dvs
  generalize Nat.gcd t.natAbs b.natAbs = g at *
  obtain ⟨x, ex⟩ := gt
  obtain ⟨y, ey⟩ := gb
  have g0 : (0 : Int) < (g : Int) := Int.natCast_pos.mpr gpos
  by_cases h : b < 0
  · rw [if_pos h]
    have sg : b.sign = -1 := Int.sign_eq_neg_one_of_neg h
    have y0 : y < 0 := by
      by_cases c : y < 0
      · exact c
      · have := Int.mul_nonneg (Int.le_of_lt g0) (Int.not_lt.mp c)
        omega
    refine ⟨-x, -y, by rw [Int.neg_mul_neg]; exact ex, by rw [Int.neg_mul_neg]; exact ey, by omega, by omega, ?_, ?_⟩
    · rw [hn, sg, ex, ← Int.mul_assoc, Int.mul_comm (-1), Int.mul_assoc, Int.mul_ediv_cancel_left _ (by omega)]
      omega
    · rw [hd, Int.natCast_ediv, ey]
      have : (((g : Int) * y).natAbs : Int) = (g : Int) * (-y) := by
        rw [Int.mul_neg]
        have : (g : Int) * y < 0 := by rw [← ey]; exact h
        omega
      rw [this, Int.mul_ediv_cancel_left _ (by omega)]
  · rw [if_neg h]
    have bp : 0 < b := by omega
    have sg : b.sign = 1 := Int.sign_eq_one_of_pos bp
    have y0 : 0 < y := by
      by_cases c : 0 < y
      · exact c
      · have := Int.mul_nonpos_of_nonneg_of_nonpos (Int.le_of_lt g0) (Int.not_lt.mp c)
        omega
    refine ⟨x, y, ex, ey, by omega, y0, ?_, ?_⟩
    · rw [hn, sg, Int.one_mul, ex, Int.mul_ediv_cancel_left _ (by omega)]
    · rw [hd, Int.natCast_ediv, ey]
      have : (((g : Int) * y).natAbs : Int) = (g : Int) * y := by
        have : 0 < (g : Int) * y := by rw [← ey]; exact bp
        omega
      rw [this, Int.mul_ediv_cancel_left _ (by omega)]
theorem dvs_out {t b : Int} (hb : b ≠ 0) : dvs t b ≠ 0 ∧ t.fdiv (dvs t b) = (t /. b).num ∧ b.fdiv (dvs t b) = ((t /. b).den : Int) ∧ (b = dvs t b ↔ (t /. b).den = 1) ∧ (t /. b).num.natAbs ≤ t.natAbs ∧ (t /. b).den ≤ b.natAbs := by
  obtain ⟨t', b', h1, h2, h3, h4, h5, h6⟩ := dvs_ex (t := t) hb
  generalize dvs t b = d at *
  have hd1 : 1 ≤ d.natAbs := by omega
  refine ⟨h3, ?_, ?_, ⟨fun h => ?_, fun h => ?_⟩, ?_, ?_⟩
  · rw [h5]
    conv => lhs; rw [h1]
    exact Int.mul_fdiv_cancel_left _ h3
  · rw [h6]
    conv => lhs; rw [h2]
    exact Int.mul_fdiv_cancel_left _ h3
  · have e : d * b' = d * 1 := by rw [← h2, Int.mul_one]; exact h
    have := Int.eq_of_mul_eq_mul_left h3 e
    omega
  · have e : b' = 1 := by omega
    rw [e, Int.mul_one] at h2
    exact h2
  · rw [h5]
    conv => rhs; rw [h1, Int.natAbs_mul]
    exact Nat.le_mul_of_pos_left _ hd1
  · have e : (t /. b).den = b'.natAbs := by omega
    rw [e]
    conv => rhs; rw [h2, Int.natAbs_mul]
    exact Nat.le_mul_of_pos_left _ hd1
theorem gcd_low (q : Rat) : Nat.gcd q.num.natAbs (q.den : Int).natAbs = 1 := q.reduced
theorem dvs_one (t : Int) : (t /. 1).num = t ∧ (t /. 1).den = 1 := by
  obtain ⟨h1, h2, h3, h4, h5, h6⟩ := dvs_out (t := t) (b := 1) (by decide)
  have e : dvs t 1 = 1 := by
    unfold dvs
    rw [if_neg (by decide)]
    show ((Nat.gcd t.natAbs 1 : Nat) : Int) = 1
    rw [Nat.gcd_one_right]
    rfl
  rw [e, Int.fdiv_one] at h2
  exact ⟨h2.symm, h4.mp e.symm⟩
/-! ### the operations -/
theorem add_is (a b : Rat) : (a.num * b.den + b.num * a.den) /. ((a.den : Int) * b.den) = a + b := by
  rw [Rat.add_def', ← Rat.divInt_ofNat, Int.natCast_mul]
theorem sub_is (a b : Rat) : (a.num * b.den - b.num * a.den) /. ((a.den : Int) * b.den) = a - b := by
  rw [Rat.sub_def', ← Rat.divInt_ofNat, Int.natCast_mul]
theorem mul_is (a b : Rat) : (a.num * b.num) /. ((a.den : Int) * b.den) = a * b := by
  rw [Rat.mul_def', ← Rat.divInt_ofNat, Int.natCast_mul]
/-! ### a common bottom -/
theorem divInt_add_same (a b c : Int) (h : c ≠ 0) : (a + b) /. c = a /. c + b /. c := by
  rw [Rat.divInt_add_divInt _ _ h h, ← Int.add_mul, Rat.divInt_mul_right h]
theorem over_L {q : Rat} {L : Int} (hL : L ≠ 0) (h : (q.den : Int) ∣ L) : (q.num * (L / q.den)) /. L = q := by
  obtain ⟨x, ex⟩ := h
  have d0 := den_pos' q
  have x0 : x ≠ 0 := by
    intro z
    rw [z, Int.mul_zero] at ex
    exact hL ex
  have e : L / (q.den : Int) = x := by
    rw [ex]
    exact Int.mul_ediv_cancel_left _ (by omega)
  rw [e, ex, Rat.divInt_mul_right x0, Rat.num_divInt_den]
theorem sum_L {L : Int} (hL : L ≠ 0) : ∀ qs : List Rat, (∀ q ∈ qs, (q.den : Int) ∣ L) → (qs.map fun q => q.num * (L / q.den)).sum /. L = qs.sum
  | [], _ => by
    show (0 : Int) /. L = (0 : Rat)
    exact Rat.zero_divInt L
  | q :: qs, h => by
    rw [List.map_cons, List.sum_cons, List.sum_cons, divInt_add_same _ _ _ hL, over_L hL (h q List.mem_cons_self), sum_L hL qs fun x hx => h x (List.mem_cons_of_mem _ hx)]
/-! ### sizes -/
def Bq (n : Nat) (q : Rat) : Prop := q.num.natAbs < 2 ^ n ∧ q.den < 2 ^ n
theorem Bq.mono {m n : Nat} {q : Rat} (h : Bq m q) (hl : m ≤ n) : Bq n q := ⟨Nat.lt_of_lt_of_le h.1 (Nat.pow_le_pow_right (by decide) hl), Nat.lt_of_lt_of_le h.2 (Nat.pow_le_pow_right (by decide) hl)⟩
theorem bq_div {t b : Int} {n : Nat} (hb : b ≠ 0) (h1 : t.natAbs < 2 ^ n) (h2 : b.natAbs < 2 ^ n) : Bq n (t /. b) := by
  obtain ⟨_, _, _, _, h5, h6⟩ := dvs_out (t := t) hb
  exact ⟨Nat.lt_of_le_of_lt h5 h1, Nat.lt_of_le_of_lt h6 h2⟩
theorem add_lt {i j : Int} {n : Nat} (h1 : i.natAbs < 2 ^ n) (h2 : j.natAbs < 2 ^ n) : (i + j).natAbs < 2 ^ (n + 1) := by
  rw [Nat.pow_succ]
  omega
theorem sub_lt {i j : Int} {n : Nat} (h1 : i.natAbs < 2 ^ n) (h2 : j.natAbs < 2 ^ n) : (i - j).natAbs < 2 ^ (n + 1) := by
  rw [Nat.pow_succ]
  omega
end Num

/-! Data with dicts in it, and its show. -/
namespace Ver
open PySem PySem.Spec PyProof.Rows L2
def kdat : Key → PyData
  | .inl i => .int i
  | .inr x => .str x
mutual
inductive Do (K : PySem.W.Frag) (H : Hp) : V → PyData → Prop
  | non : Do K H .non .none
  | bl (b : Bool) : Do K H (.bl b) (.bool b)
  | int (i : Int) : Do K H (.int i) (.int i)
  | str (x : Str) : Do K H (.str x) (.str x)
  | lst {a : Addr} {xs : List V} {ds : List PyData} : SqL K H a xs → DoAll K H xs ds → Do K H (.ref a) (.list ds)
  | tup {a : Addr} {xs : List V} {ds : List PyData} : SqT K H a xs → DoAll K H xs ds → Do K H (.ref a) (.tuple ds)
  | dic {a : Addr} {kvs : List (Key × V)} {kds : List (PyData × PyData)} : H a = some (.dK kvs) → DoKv K H kvs kds → Do K H (.ref a) (.dict kds)
inductive DoAll (K : PySem.W.Frag) (H : Hp) : List V → List PyData → Prop
  | nil : DoAll K H [] []
  | cons {v : V} {vs : List V} {d : PyData} {ds : List PyData} : Do K H v d → DoAll K H vs ds → DoAll K H (v :: vs) (d :: ds)
inductive DoKv (K : PySem.W.Frag) (H : Hp) : List (Key × V) → List (PyData × PyData) → Prop
  | nil : DoKv K H [] []
  | cons {k : Key} {v : V} {kvs : List (Key × V)} {d : PyData} {kds : List (PyData × PyData)} : Do K H v d → DoKv K H kvs kds → DoKv K H ((k, v) :: kvs) ((kdat k, d) :: kds)
end
theorem reads_key {h : Heap} {k : Key} {v : Value} (e : keyIs k v = true) : Reads h v (kdat k) [] := by
  rcases keyIs_shape e with ⟨i, t, rfl, rfl⟩ | ⟨x, t, rfl, rfl⟩
  · exact .int i t
  · exact .str x t
/-- the module table is a dict of the written part -/
def Sm (K : PySem.W.Frag) : Prop := ∃ o, K.lookup sysModules = some o ∧ o.cls = .type "dict"
section
variable {X : Cx} {pins : List (Addr × Obj)} {σ : L2.St} {H : Hp} {s : Shared}
mutual
theorem Do.reads (sm : Sm X.K) (I : Inv X pins σ H s) : ∀ (d : PyData) (v : V) (u : Value), Do X.K H v d → RelV v u → ∃ as, Reads s.heap u d as ∧ sysModules ∉ as
  | .none, _, _, h, r => by
    cases h
    cases r
    exact ⟨_, Reads.none, by simp⟩
  | .bool b, _, _, h, r => by
    cases h
    cases r
    exact ⟨_, Reads.bool b, by simp⟩
  | .int i, _, _, h, r => by
    cases h
    obtain ⟨t, rfl⟩ := r
    exact ⟨_, Reads.int i t, by simp⟩
  | .str x, _, _, h, r => by
    cases h
    obtain ⟨t, rfl⟩ := r
    exact ⟨_, Reads.str x t, by simp⟩
  | .list ds, _, _, h, r => by
    cases h with
    | lst hs ha =>
      cases r
      obtain ⟨its, rv, ⟨o, n, ho, hc, _, hd⟩, _⟩ := I.list hs
      obtain ⟨as, hr, hn⟩ := Do.readsAll sm I ds _ its ha rv
      refine ⟨_, Reads.list ho hc hd hr, fun z => ?_⟩
      rcases List.mem_cons.mp z with e | z
      · obtain ⟨o2, lk, c2⟩ := sm
        have g := I.kIn _ _ lk
        rw [e] at g
        rw [ho] at g
        cases g
        rw [hc] at c2
        exact absurd c2 (by decide)
      · exact hn z
  | .tuple ds, _, _, h, r => by
    cases h with
    | tup hs ha =>
      cases r
      obtain ⟨its, rv, ⟨o, ho, hc, n, hd⟩, _⟩ := I.tuple hs
      obtain ⟨as, hr, hn⟩ := Do.readsAll sm I ds _ its ha rv
      exact ⟨_, Reads.tuple ho hc hd hr, hn⟩
  | .dict kds, _, _, h, r => by
    cases h with
    | dic ha hk =>
      cases r
      obtain ⟨_, ne, vs, kv, o, es, ep, ho, he, hd, _, hp, _⟩ := dk_of I.hok ha
      obtain ⟨as, bs, h1, h2, n1, n2⟩ := Do.readsKv sm I kds _ vs es.toList hk kv hp
      refine ⟨_, Reads.dict ho he.1 hd h1 h2, fun z => ?_⟩
      rcases List.mem_append.mp z with z | z
      · rcases List.mem_cons.mp z with e | z
        · rw [e] at ne
          rw [beq_self_eq_true] at ne
          cases ne
        · exact n1 z
      · exact n2 z
theorem Do.readsAll (sm : Sm X.K) (I : Inv X pins σ H s) : ∀ (ds : List PyData) (vs : List V) (us : List Value), DoAll X.K H vs ds → Vals vs us → ∃ as, ReadsAll s.heap us ds as ∧ sysModules ∉ as
  | [], _, _, h, r => by
    cases h
    cases r
    exact ⟨_, ReadsAll.nil, by simp⟩
  | d :: ds, _, _, h, r => by
    cases h with
    | cons h1 h2 =>
      cases r with
      | cons r1 r2 =>
        obtain ⟨as, q1, n1⟩ := Do.reads sm I d _ _ h1 r1
        obtain ⟨bs, q2, n2⟩ := Do.readsAll sm I ds _ _ h2 r2
        exact ⟨_, ReadsAll.cons q1 q2, fun z => (List.mem_append.mp z).elim n1 n2⟩
theorem Do.readsKv (sm : Sm X.K) (I : Inv X pins σ H s) : ∀ (kds : List (PyData × PyData)) (kvs : List (Key × V)) (vs : List (Key × Value)) (es : List DictEntry), DoKv X.K H kvs kds → KV kvs vs → Pairs (mixKind X.prog X.w) es vs →
    ∃ as bs, ReadsAll s.heap (es.map (·.key)) (kds.map (·.1)) as ∧ ReadsAll s.heap (es.map (·.val)) (kds.map (·.2)) bs ∧ sysModules ∉ as ∧ sysModules ∉ bs
  | [], _, _, _, h, k, p => by
    cases h
    cases k
    cases p
    exact ⟨_, _, ReadsAll.nil, ReadsAll.nil, by simp, by simp⟩
  | (dk, d) :: kds, _, _, _, h, k, p => by
    cases h with
    | cons h1 h2 =>
      cases k with
      | cons k1 k2 =>
        cases p with
        | cons p1 p2 p3 =>
          rename_i k v kvs b l2 en es
          obtain ⟨e1, e2⟩ := k1
          have e1 : k = b.1 := e1
          have e2 : RelV v en.val := by
            rw [p2]
            exact e2
          have p1 : keyIs k en.key = true := by
            rw [e1]
            exact p1
          obtain ⟨bs0, q1, n1⟩ := Do.reads sm I d _ _ h1 e2
          obtain ⟨as, bs, r1, r2, m1, m2⟩ := Do.readsKv sm I kds _ _ _ h2 k2 p3
          refine ⟨_, _, ReadsAll.cons (reads_key p1) r1, ReadsAll.cons q1 r2, ?_, fun z => (List.mem_append.mp z).elim n1 m2⟩
          simpa using m1
end
/-- repr(x), x any data -/
def rReprO (K : PySem.W.Frag) : List V → Hp → VK → Prop := fun xs H Q => ∃ (x : V) (d : PyData), xs = [x] ∧ Do K H x d ∧ d.showable = true ∧ d.shown.length ≤ sizeLine ∧ d.depth ≤ 60 ∧ Q (.str d.shown) H
theorem call_reprO (sm : Sm X.K) (hg : X.A.guards = some []) (hu : X.A.units + 64 < cLine) : CallR X (.builtin "repr") (rReprO X.K) := by
  intro pins s σ H xs us Q I r h
  obtain ⟨x, d, rfl, hd, hs, hz, hdp, q⟩ := h
  obtain ⟨u, rfl, rx⟩ := vals1 r
  obtain ⟨as, rd, na⟩ := Do.reads sm I d x u hd rx
  cases rd with
  | none => exact PySem.P.repr_of_none ⟨.str _, H, I.tok _, ⟨_, rfl⟩, by simpa only [PyData.shown] using q⟩
  | bool b => exact PySem.P.repr_of_bool ⟨.str _, H, I.tok _, ⟨_, rfl⟩, by simpa only [PyData.shown] using q⟩
  | int i t => exact PySem.P.repr_of_int (by simpa [PyData.showable] using hs) ⟨.str _, H, I.tok _, ⟨_, rfl⟩, by simpa only [PyData.shown] using q⟩
  | str y t => exact PySem.P.repr_of_str ⟨.str _, H, I.tok _, ⟨_, rfl⟩, by simpa only [PyData.shown] using q⟩ (by simpa only [PyData.shown] using hz)
  | list h1 h2 h3 h4 =>
    exact repr_of_reads' (.list h1 h2 h3 h4) hs (fun _ => na) hg (by omega) (fun _ _ z => z) (fun h' u tk hk => ⟨.str _, H, I.kept (t' := tk) hk, ⟨u, rfl⟩, q⟩) hz
  | tuple h1 h2 h3 h4 =>
    exact repr_of_reads' (.tuple h1 h2 h3 h4) hs (fun _ => na) hg (by omega) (fun _ _ z => z) (fun h' u tk hk => ⟨.str _, H, I.kept (t' := tk) hk, ⟨u, rfl⟩, q⟩) hz
  | dict h1 h2 h3 h4 h5 =>
    exact repr_of_reads' (.dict h1 h2 h3 h4 h5) hs (fun _ => na) hg (by omega) (fun _ _ z => z) (fun h' u tk hk => ⟨.str _, H, I.kept (t' := tk) hk, ⟨u, rfl⟩, q⟩) hz
end
end Ver

namespace Ver
open PySem PySem.Spec PyProof.Rows L2
def tyD : PyData → String
  | .none => "NoneType"
  | .bool _ => "bool"
  | .int _ => "int"
  | .str _ => "str"
  | .list _ => "list"
  | .tuple _ => "tuple"
  | .dict _ => "dict"
section
variable {K : PySem.W.Frag} {H H' : Hp}
theorem Do.ty {x : V} {d : PyData} (h : Do K H x d) : TyX K H x (.type (tyD d)) := by
  cases h with
  | non => exact .base .non
  | bl b => exact .base (.bl b)
  | int i => exact .base (.int i)
  | str s => exact .base (.str s)
  | lst hs ha =>
    rcases hs with (e | ⟨o, e⟩) | ⟨o, its, n, lk, c, _⟩
    · exact .base (.lst e)
    · exact .base (.frz e)
    · exact .kList lk c
  | tup hs ha =>
    rcases hs with (e | ⟨o, e⟩) | ⟨o, its, n, lk, c, _⟩
    · exact .base (.tup e)
    · exact .fTuple e
    · exact .kTuple lk c
  | dic e hk => exact .base (.dK e)
theorem sqt_keep {a : Addr} {xs : List V} (s : Same H H') (h : SqT K H a xs) : SqT K H' a xs := by
  rcases h with (h | ⟨o, h⟩) | h
  · exact .inl (.inl (s _ _ h))
  · exact .inl (.inr ⟨o, s _ _ h⟩)
  · exact .inr h
mutual
theorem Do.same (s : Same H H') : ∀ (d : PyData) (x : V), Do K H x d → Do K H' x d
  | .none, _, h => by cases h; exact .non
  | .bool b, _, h => by cases h; exact .bl b
  | .int i, _, h => by cases h; exact .int i
  | .str y, _, h => by cases h; exact .str y
  | .list ds, _, h => by
    cases h with
    | lst hs ha => exact .lst (s.seq hs) (DoAll.same s ds _ ha)
  | .tuple ds, _, h => by
    cases h with
    | tup hs ha => exact .tup (sqt_keep s hs) (DoAll.same s ds _ ha)
  | .dict kds, _, h => by
    cases h with
    | dic e hk => exact .dic (s _ _ e) (DoKv.same s kds _ hk)
theorem DoAll.same (s : Same H H') : ∀ (ds : List PyData) (xs : List V), DoAll K H xs ds → DoAll K H' xs ds
  | [], _, h => by cases h; exact .nil
  | d :: ds, _, h => by
    cases h with
    | cons h1 h2 => exact .cons (Do.same s d _ h1) (DoAll.same s ds _ h2)
theorem DoKv.same (s : Same H H') : ∀ (kds : List (PyData × PyData)) (kvs : List (Key × V)), DoKv K H kvs kds → DoKv K H' kvs kds
  | [], _, h => by cases h; exact .nil
  | (dk, d) :: kds, _, h => by
    cases h with
    | cons h1 h2 => exact .cons (Do.same s d _ h1) (DoKv.same s kds _ h2)
end
/-- isinstance(x, a built-in type), x any data -/
def is_int (d : PyData) : Bool := match d with | .int _ => true | .bool _ => true | _ => false
theorem kit_int : ∀ d : PyData, PySem.W.kitOne K (.type (tyD d)) (.type "int") = some (is_int d)
  | .none => show PySem.W.kitOne K (.type "NoneType") (.type "int") = some false from kit_ty (by decide +kernel)
  | .bool _ => show PySem.W.kitOne K (.type "bool") (.type "int") = some true from kit_ty (by decide +kernel)
  | .int _ => show PySem.W.kitOne K (.type "int") (.type "int") = some true from kit_ty (by decide +kernel)
  | .str _ => show PySem.W.kitOne K (.type "str") (.type "int") = some false from kit_ty (by decide +kernel)
  | .list _ => show PySem.W.kitOne K (.type "list") (.type "int") = some false from kit_ty (by decide +kernel)
  | .tuple _ => show PySem.W.kitOne K (.type "tuple") (.type "int") = some false from kit_ty (by decide +kernel)
  | .dict _ => show PySem.W.kitOne K (.type "dict") (.type "int") = some false from kit_ty (by decide +kernel)
def is_bool (d : PyData) : Bool := match d with | .bool _ => true | _ => false
theorem kit_bool : ∀ d : PyData, PySem.W.kitOne K (.type (tyD d)) (.type "bool") = some (is_bool d)
  | .none => show PySem.W.kitOne K (.type "NoneType") (.type "bool") = some false from kit_ty (by decide +kernel)
  | .bool _ => show PySem.W.kitOne K (.type "bool") (.type "bool") = some true from kit_ty (by decide +kernel)
  | .int _ => show PySem.W.kitOne K (.type "int") (.type "bool") = some false from kit_ty (by decide +kernel)
  | .str _ => show PySem.W.kitOne K (.type "str") (.type "bool") = some false from kit_ty (by decide +kernel)
  | .list _ => show PySem.W.kitOne K (.type "list") (.type "bool") = some false from kit_ty (by decide +kernel)
  | .tuple _ => show PySem.W.kitOne K (.type "tuple") (.type "bool") = some false from kit_ty (by decide +kernel)
  | .dict _ => show PySem.W.kitOne K (.type "dict") (.type "bool") = some false from kit_ty (by decide +kernel)
def is_tuple (d : PyData) : Bool := match d with | .tuple _ => true | _ => false
theorem kit_tuple : ∀ d : PyData, PySem.W.kitOne K (.type (tyD d)) (.type "tuple") = some (is_tuple d)
  | .none => show PySem.W.kitOne K (.type "NoneType") (.type "tuple") = some false from kit_ty (by decide +kernel)
  | .bool _ => show PySem.W.kitOne K (.type "bool") (.type "tuple") = some false from kit_ty (by decide +kernel)
  | .int _ => show PySem.W.kitOne K (.type "int") (.type "tuple") = some false from kit_ty (by decide +kernel)
  | .str _ => show PySem.W.kitOne K (.type "str") (.type "tuple") = some false from kit_ty (by decide +kernel)
  | .list _ => show PySem.W.kitOne K (.type "list") (.type "tuple") = some false from kit_ty (by decide +kernel)
  | .tuple _ => show PySem.W.kitOne K (.type "tuple") (.type "tuple") = some true from kit_ty (by decide +kernel)
  | .dict _ => show PySem.W.kitOne K (.type "dict") (.type "tuple") = some false from kit_ty (by decide +kernel)
def is_str (d : PyData) : Bool := match d with | .str _ => true | _ => false
theorem kit_str : ∀ d : PyData, PySem.W.kitOne K (.type (tyD d)) (.type "str") = some (is_str d)
  | .none => show PySem.W.kitOne K (.type "NoneType") (.type "str") = some false from kit_ty (by decide +kernel)
  | .bool _ => show PySem.W.kitOne K (.type "bool") (.type "str") = some false from kit_ty (by decide +kernel)
  | .int _ => show PySem.W.kitOne K (.type "int") (.type "str") = some false from kit_ty (by decide +kernel)
  | .str _ => show PySem.W.kitOne K (.type "str") (.type "str") = some true from kit_ty (by decide +kernel)
  | .list _ => show PySem.W.kitOne K (.type "list") (.type "str") = some false from kit_ty (by decide +kernel)
  | .tuple _ => show PySem.W.kitOne K (.type "tuple") (.type "str") = some false from kit_ty (by decide +kernel)
  | .dict _ => show PySem.W.kitOne K (.type "dict") (.type "str") = some false from kit_ty (by decide +kernel)
def is_list (d : PyData) : Bool := match d with | .list _ => true | _ => false
theorem kit_list : ∀ d : PyData, PySem.W.kitOne K (.type (tyD d)) (.type "list") = some (is_list d)
  | .none => show PySem.W.kitOne K (.type "NoneType") (.type "list") = some false from kit_ty (by decide +kernel)
  | .bool _ => show PySem.W.kitOne K (.type "bool") (.type "list") = some false from kit_ty (by decide +kernel)
  | .int _ => show PySem.W.kitOne K (.type "int") (.type "list") = some false from kit_ty (by decide +kernel)
  | .str _ => show PySem.W.kitOne K (.type "str") (.type "list") = some false from kit_ty (by decide +kernel)
  | .list _ => show PySem.W.kitOne K (.type "list") (.type "list") = some true from kit_ty (by decide +kernel)
  | .tuple _ => show PySem.W.kitOne K (.type "tuple") (.type "list") = some false from kit_ty (by decide +kernel)
  | .dict _ => show PySem.W.kitOne K (.type "dict") (.type "list") = some false from kit_ty (by decide +kernel)
def is_dict (d : PyData) : Bool := match d with | .dict _ => true | _ => false
theorem kit_dict : ∀ d : PyData, PySem.W.kitOne K (.type (tyD d)) (.type "dict") = some (is_dict d)
  | .none => show PySem.W.kitOne K (.type "NoneType") (.type "dict") = some false from kit_ty (by decide +kernel)
  | .bool _ => show PySem.W.kitOne K (.type "bool") (.type "dict") = some false from kit_ty (by decide +kernel)
  | .int _ => show PySem.W.kitOne K (.type "int") (.type "dict") = some false from kit_ty (by decide +kernel)
  | .str _ => show PySem.W.kitOne K (.type "str") (.type "dict") = some false from kit_ty (by decide +kernel)
  | .list _ => show PySem.W.kitOne K (.type "list") (.type "dict") = some false from kit_ty (by decide +kernel)
  | .tuple _ => show PySem.W.kitOne K (.type "tuple") (.type "dict") = some false from kit_ty (by decide +kernel)
  | .dict _ => show PySem.W.kitOne K (.type "dict") (.type "dict") = some true from kit_ty (by decide +kernel)
end
end Ver

/-! An own exception class directly over a built-in one, whose __init__ hands on to it and stores nothing. -/
namespace Ver
open PySem PySem.Spec PyProof.Rows L2
/-- what the written part tells of such a class -/
structure ExN (K : PySem.W.Frag) (C fI : Addr) (bmB : List Value) (newId : String) : Prop where
  q : PySem.W.excInitIn K C bmB newId = true
  iC : PySem.W.findIn K (.ref C) "__init__" = some (some (.ref fI))
  tI : PySem.W.typeIn K (.ref fI) = some (.type "function")
  exC : PySem.W.subIn K (.ref C) (.type "BaseException") = some true
  tyC : PySem.W.typeIn K (.ref C) = some (.type "type")
  kC : PySem.W.keepIn K (.ref C) = true
section
variable {X : Cx} {pins : List (Addr × Obj)} {σ : L2.St} {H : Hp} {s : Shared} {a C fI : Addr} {bmB : List Value} {B newId initId : String}
theorem binit_ok {A : Around} {E : Value → Shared → Prop} {us : List Value} {Q : Value → Shared → Prop} (F : ExcBaseFacts B newId initId bmB) (q : PySem.W.excInitIn X.K C bmB newId = true) (I : Inv X pins σ H s) (e : H a = some (exo a C none))
    (hl : us.length ≤ sizeLine) (h : ∀ s', Inv X pins σ H s' → Q .none s') : wpAny (model X.prog X.w) A (call (.builtin initId) (.ref a :: us)) Q E s := by
  obtain ⟨nm, N, qn, bs, bm, hd, sn, sub, ab, col, dd, k0, k1, k2, k3, k5, hC, hT⟩ := PySem.W.excInit_of I.kIn q
  obtain ⟨t1, ho⟩ := exo_at I.hok e
  obtain ⟨hp, g, d, t, os⟩ := s
  refine wpAny_call (PySem.HandSPX.init_base F hT hC ho hl fun h' t2 k hx => h _ ?_)
  have J := I.write (t' := t) (x := a) (e := a) (o := exo a C none) (by rw [e]; exact True.intro) (.inl rfl) k ⟨_, hx⟩ (exo_ok hx)
  have same : upd H a (exo a C none) = H := funext fun b => by
    by_cases z : b = a
    · rw [z, upd_same, e]
    · exact upd_ne z
  rwa [same] at J
variable {x : Str} {e : Expr} {es : List Expr} {ta : TA} {p p1 p2 pos : Pos}
/-- its reading: self is an exception that is being made, without a dict as yet -/
def tBi (K : PySem.W.Frag) (bmB : List Value) (newId : String) (ta : TA) : TE := fun σ H Q => ta σ H fun vs H1 => ∃ (a C : Addr) (ws : List V), vs = .ref a :: ws ∧ ws.length ≤ 1000 ∧ PySem.W.excInitIn K C bmB newId = true ∧ H1 a = some (exo a C none) ∧ Q .non H1
/-- B.__init__(self, ..), B a built-in class of errors -/
theorem pe_binit {pl : Sem Bool} (F : ExcBaseFacts B newId initId bmB) (hg : Gl X x) (hm : X.mg x = none) (hv : bootBuiltins x = some (.type B)) (hty : typeOf (.type B) = pure (.type "type")) (hst : Manifest.isStub B = false) (hh : PySem.W.handedIn (.builtin initId) = true)
    (hsp : PySem.W.findCls X.K (.type B) (.type "type") "__init__" = some (.val (.builtin initId))) (ha : PA X (e :: es) ta)
    (hc : eval (.Call (.Attribute (.Name x p1) "__init__" p2) (e :: es) [] pos) X.env = (do
      let ov ← eval (.Name x p1) X.env
      standAt p2.atName
      let (f, first) ← holding [ov] (getMethod ov "__init__" pl)
      callWith pos f first (backTo pos (starEach (e :: es) X.env)) (backToKw pos (keywordEach [] X.env))) := by rfl)
    (he : starEach (e :: es) X.env = (false, eval e X.env) :: starEach es X.env := by rfl) (hpl : (backTo pos (starEach es X.env)).any (·.1) = false := by rfl) (hn : x ≠ "__name__" := by decide) (hd : (x == ("__debug__" : Str)) = false := by decide) :
    PE X (.Call (.Attribute (.Name x p1) "__init__" p2) (e :: es) [] pos) (tBi X.K bmB newId ta) := by
  refine ⟨fun pins s σ H Q I h => PySem.W.methodCall_KW (ld_blt I hg hm hv ?_ hn hd) hc⟩
  obtain ⟨m, fr⟩ := I.fr
  refine PySem.W.method_type fr I.ok.mod.kin hty hst hsp hh ?_
  show wpAny _ _ (callWith pos (Value.builtin initId) [] (backTo pos (starEach (e :: es) X.env)) []) _ _ _
  refine PyProof.Rows.callWith_method1 (thn (ha.run pos pins _ σ H _ (I.tok _) h) fun us s1 z => ?_) he hpl
  obtain ⟨vs, H1, I1, r1, a, C, ws, rfl, hl, q, ea, qq⟩ := z
  match us, r1 with
  | u0 :: ur, .cons ra rw' =>
    cases (show u0 = Value.ref a from ra)
    exact binit_ok F q I1 ea (by rw [← Paired.length rw', sizeLine_eq]; omega) fun s' J => ⟨.non, H1, J, rfl, qq⟩
/-- the exception is let go: what stood ahead stands, and it is known no more -/
theorem let_go {H1 H2 : Hp} {hp hp2 h2 : Heap} {g1 g2 : Array GenState} {d1 d2 : Drawn} {t1 t2 : Nat} {os1 os2 : OsState} (I1 : Inv X pins σ H1 ⟨hp, g1, d1, t1, os1⟩) (ha : hp.objs.size ≤ a) (k : ∀ b o, hp.get? b = some o → hp2.get? b = some o)
    (un : Un (frs X.stack) [] (upd H1 a (exo a C none)) H2 hp2 h2) (hok : HOk X.prog X.w H2 h2) (ho : os2 = os1) (hb : AllBare g2) (ea : H2 a = some (exo a C none)) :
    ∃ (t0 : Addr) (G : Heap), Inv X pins σ (del H2 a) ⟨G, g2, d2, t2, os2⟩ ∧ (∀ b o, G.get? b = some o → h2.get? b = some o) ∧ G.get? a = none ∧
      h2.get? a = some ({ cls := .ref C, dict := none, data := .fields #[.ref t0, .none, .none, .none, .bool false, .none] } : Obj) := by
  obtain ⟨t0, hoe⟩ := exo_at hok ea
  have na : H1 a = none := I1.hok.fresh ha
  obtain ⟨G, in_, out⟩ := restrict h2 fun b => decide (b ≠ a)
  have gk : ∀ b, b ≠ a → G.get? b = h2.get? b := fun b hb => in_ b (decide_eq_true hb)
  have ge : G.get? a = none := out a (by simp)
  have old : ∀ {b : Addr} {o : Obj}, hp.get? b = some o → b ≠ a := fun z => Nat.ne_of_lt (Nat.lt_of_lt_of_le (Heap.lt_size z) ha)
  have up : ∀ {b : Addr}, b ≠ a → H1 b = none → upd H1 a (exo a C none) b = none := fun hb n => by rw [upd_ne hb]; exact n
  have U : Un (frs X.stack) [] H1 (del H2 a) hp G := {
    keep := fun b o z n hf hx => (gk b (old z)).trans (un.keep b o (k b o z) (up (old z) n) hf hx)
    slot := fun b o z n hf hx => by
      obtain ⟨sl, y⟩ := un.slot b o (k b o z) (up (old z) n) hf hx
      exact ⟨sl, (gk b (old z)).trans y⟩
    free := fun b o z n hx => (del_ne (old z)).trans (un.free b o (k b o z) (up (old z) n) hx)
    there := fun b o z hx => by
      obtain ⟨o', y⟩ := un.there b o (k b o z) hx
      exact ⟨o', (gk b (old z)).trans y⟩
    tups := fun b xs z => (del_ne (ne_of_none z na)).trans (un.tups b xs ((upd_ne (ne_of_none z na)).trans z))
    frzs := fun b o v z => (del_ne (ne_of_none z na)).trans (un.frzs b o v ((upd_ne (ne_of_none z na)).trans z))
    tbls := fun b ps z => by
      obtain ⟨more, y⟩ := un.tbls b ps ((upd_ne (ne_of_none z na)).trans z)
      exact ⟨more, (del_ne (ne_of_none z na)).trans y⟩ }
  have ok3 : HOk X.prog X.w (del H2 a) G := fun b o z => by
    have hba : b ≠ a := fun e => by
      rw [e, del_same] at z
      cases z
    rw [del_ne hba] at z
    have noa : ∀ {c : Addr}, H2 c = some (.own b) → c ≠ a := fun hc => at_ne ea hc exo_own
    refine (hok b o z).stay (fun c v hc y => (gk c ?_).trans y) (fun c hc => (del_ne (noa hc)).trans hc) fun c xs hc => (del_ne (at_ne ea hc exo_tup)).trans hc
    rcases hc with hc | hc
    · rw [hc]
      exact hba
    · exact noa hc
  refine ⟨t0, G, I1.call' (ch := []) ho U ok3 hb (fun b z => absurd z (by simp)), fun b o z => ?_, ge, hoe⟩
  by_cases e : b = a
  · rw [e, ge] at z
    cases z
  · exact (gk b e).symm.trans z
/-- the promise of an __init__ that stores nothing -/
def spInitN (C : Addr) : Sp := fun vs H Q _ => ∃ a : Addr, vs = [.ref a] ∧ H a = some (exo a C none) ∧ Q .non H
theorem pmk_n {CX : CXT} {k : Nat} (F : ExcBaseFacts B newId initId bmB) (T : ExN X.K C fI bmB newId) (F1 : FnG X.prog X.w X.K X.mg X.base CX k fI (spInitN C)) (hr : Room (k + 1) X.A) (hgd : X.A.guards = some []) (hx : Passes CX X (fun _ _ _ => False)) (hg : Gl X x) (hm : X.mg x = some (.ref C))
    (hdb : (x == ("__debug__" : Str)) = false := by decide) : PMk X (.Call (.Name x p) [] [] pos) (fun _ H Q => Q (.ref C) none H) := by
  intro pins s σ H Q I h
  refine wpAny_Call_Name_kw (ld_glob I hg hm (PySem.W.callWith_K0 I.kIn T.kC ?_) hdb)
  show wpAny _ _ (call (.ref C) []) _ _ _
  obtain ⟨nm, N, qn, bs, bm, hd, sn, sub, ab, col, dd, k0, k1, k2, k3, k5, hC, hT⟩ := PySem.W.excInit_of I.kIn T.q
  obtain ⟨hp, g, dr, tk, os⟩ := s
  have big : hp.objs.size ≤ hp.objs.size + 1 := Nat.le_succ _
  have hn : H (hp.objs.size + 1) = none := I.hok.fresh big
  have kk : ∀ b o, hp.get? b = some o → ((hp.push (PySem.W.kdv_tup [])).push (PySem.HandSPX.excO C hp.objs.size)).get? b = some o := fun b o z => Heap.get?_push_of_some _ (Heap.get?_push_of_some _ z)
  have made : ((hp.push (PySem.W.kdv_tup [])).push (PySem.HandSPX.excO C hp.objs.size)).get? (hp.objs.size + 1) = some (PySem.HandSPX.excO C hp.objs.size) := by heap_get
  have I2 : Inv X pins σ (upd H (hp.objs.size + 1) (exo (hp.objs.size + 1) C none)) ⟨(hp.push (PySem.W.kdv_tup [])).push (PySem.HandSPX.excO C hp.objs.size), g, dr, tk, os⟩ :=
    I.laid (t' := tk) (a := hp.objs.size + 1) (o := exo (hp.objs.size + 1) C none) (h' := (hp.push (PySem.W.kdv_tup [])).push (PySem.HandSPX.excO C hp.objs.size)) kk big (exo_ok made)
  have q2 : spInitN C [V.ref (hp.objs.size + 1)] (upd H (hp.objs.size + 1) (exo (hp.objs.size + 1) C none)) (fun v H2 => v = .non ∧ H2 = upd H (hp.objs.size + 1) (exo (hp.objs.size + 1) C none)) (fun _ _ _ => False) := ⟨_, rfl, upd_same, rfl, rfl⟩
  refine wpAny_call (PySem.HandSPX.call_own F hT hC (PySem.W.looks_findIn I.kIn T.iC) (fun self => PySem.W.bind_fn I.kIn self T.tI) (Nat.zero_le _)
    (codeAny_mono (F1 _ X.stack _ _ [Value.ref (hp.objs.size + 1)] [V.ref (hp.objs.size + 1)] _ (fun _ _ _ => False) (made_guards hgd C []) (hr.make C [] []) (I2.env0.make C [] []) (.cons rfl .nil) q2) fun rs s' hq => ?_))
  match rs, hq with
  | .error er, hq => exact hx pins σ _ _ er s' I2 hq
  | .ok .next, hq => exact hq.elim
  | .ok .brk, hq => exact hq.elim
  | .ok .cont, hq => exact hq.elim
  | .ok (.ret u), hq =>
    obtain ⟨v, H2, os2, bare2, un2, ok2, rv, rfl, rfl⟩ := hq
    obtain ⟨h2, g2, d2, t2, os'⟩ := s'
    obtain ⟨t0, G, J, kG, ge, hoe⟩ := let_go (a := hp.objs.size + 1) (C := C) (d2 := d2) (t2 := t2) I big kk un2 ok2 os2 bare2 upd_same
    have eH : del (upd H (hp.objs.size + 1) (exo (hp.objs.size + 1) C none)) (hp.objs.size + 1) = H := funext fun b => by
      by_cases z : b = hp.objs.size + 1
      · rw [z, del_same, hn]
      · rw [del_ne z, upd_ne z]
    rw [eH] at J
    exact ⟨rv, hp.objs.size + 1, _, _, ⟨G, g2, d2, t2, os'⟩, H, .ref C, none, rfl, J, kG, ge, hoe, ⟨rfl, rfl⟩, rfl, rfl, hn, rfl, bare2, raises_own T.exC T.tyC, h⟩
end
end Ver

namespace Ver
open PySem PySem.Spec PyProof.Rows L2
section
variable {X : Cx} {CX : CXT} {k : Nat} {f : Addr} {sp : Sp} {E : L2.St → XK} {m : Str} {pos apos : Pos} {e o : Expr} {es : List Expr} {t : TA} {ta : TE}
/-- o.m(e, ..), what it lets out is caught here -/
def tMethGS (K : PySem.W.Frag) (m : Str) (f : Addr) (sp : Sp) (E : L2.St → XK) (ta : TE) (t : TA) : TE := fun σ H Q => ta σ H fun x H1 => ∃ a C dx fs, x = .ref a ∧ H1 a = some (.ins C dx fs) ∧ Cls K C ∧ Meth K C m f ∧ fs.lookup m = none ∧
  t σ H1 fun vs H2 => sp (.ref a :: vs) H2 Q (E σ)
theorem pe_methGS {pl : Sem Bool} (K' : PySem.W.Frag) (hK : X.K = K') (he : PE X o ta) (hk : PySem.W.keepIn X.K (.ref f) = true) (F : FnG X.prog X.w X.K X.mg X.base CX k f sp) (hr : Room k X.A) (hgd : X.A.guards = some []) (hx : ∀ σ, PassesAt CX X σ (E σ)) (ha : PA X (e :: es) t)
    (hst : starEach (e :: es) X.env = (false, eval e X.env) :: starEach es X.env := by rfl) (hpl : (backTo pos (starEach es X.env)).any (·.1) = false := by rfl)
    (ht : eval (.Call (.Attribute o m apos) (e :: es) [] pos) X.env = (do
      let ov ← eval o X.env
      standAt apos.atName
      let (g, first) ← holding [ov] (getMethod ov m pl)
      callWith pos g first (backTo pos (starEach (e :: es) X.env)) (backToKw pos (keywordEach [] X.env))) := by rfl) :
    PE X (.Call (.Attribute o m apos) (e :: es) [] pos) (tMethGS K' m f sp E ta t) := by
  subst hK
  refine ⟨fun pins s σ H Q I h => PySem.W.methodCall_KW (pl := pl) (thn (he.run pins s σ H _ I h) fun u s1 z => ?_) ht⟩
  obtain ⟨x, H1, I1, rx, a, C, dx, fs, rfl, ea, c, hm, l, q⟩ := z
  cases (show u = Value.ref a from rx)
  refine getmeth_ok I1 ea c hm l (PySem.W.callWith_K (first := [.ref a]) (h₀ := X.base) I.ok.mod.kin hk (thn (ha.run pos pins s1 σ H1 _ I1 q) fun us s2 y => ?_) hst hpl)
  obtain ⟨vs, H2, I2, r, q2⟩ := y
  refine ⟨I2.kIn, ?_⟩
  exact wpAny_call (codeAny_mono (F X.A X.stack s2 H2 (.ref a :: us) (.ref a :: vs) Q (E σ) hgd hr I2.env0 (.cons rfl r) q2) fun rs s' hq => by
    match rs, hq with
    | .error e', hq => exact hx σ pins H2 s2 e' s' I2 hq
    | .ok (.ret u), hq => exact I2.after hq
    | .ok .next, hq => exact hq.elim
    | .ok .brk, hq => exact hq.elim
    | .ok .cont, hq => exact hq.elim)
end
/-! ### lists, shown -/
theorem textFrom_up : ∀ (ts : List Str) (k : Nat) (acc : Str), (textFrom k acc ts).length ≤ acc.length + piled ts
  | [], _, acc => by show acc.length ≤ acc.length + 0; omega
  | t :: r, k, acc => by
    have ih := textFrom_up r (k + 1) (acc ++ (if k > 0 then ", " else "" : String) ++ t)
    have e : (acc ++ (if k > 0 then ", " else "" : String) ++ t).length ≤ acc.length + 2 + t.length := by
      rw [strLen_append, strLen_append]
      by_cases h : k > 0
      · rw [if_pos h]
        exact Nat.le_refl _
      · rw [if_neg h]
        show acc.length + 0 + t.length ≤ _
        omega
    show (textFrom (k + 1) _ r).length ≤ _
    rw [piled_cons]
    omega
end Ver

namespace Ver
open PySem PySem.Spec PyProof.Rows L2
/-! ### == and != of any data -/
section
variable {X : Cx}
def rEqO (K : PySem.W.Frag) : R2 := fun x y H Q => ∃ d e, Do K H x d ∧ Do K H y e ∧ SeqAt.shaped d = true ∧ SeqAt.shaped e = true ∧ Q (.bl (PyData.eqv d e)) H
def rNeO (K : PySem.W.Frag) : R2 := fun x y H Q => ∃ d e, Do K H x d ∧ Do K H y e ∧ SeqAt.shaped d = true ∧ SeqAt.shaped e = true ∧ Q (.bl (!PyData.eqv d e)) H
def rNotInO (K : PySem.W.Frag) : R2 := fun x y H Q => ∃ d ds, Do K H x d ∧ Do K H y (.list ds) ∧ SeqAt.shaped d = true ∧ SeqAt.shaped (.list ds) = true ∧ Q (.bl (!(ds.any fun z => PyData.eqv z d))) H
theorem op_eqO (sm : Sm X.K) (hu : X.A.units + 64 < cLine) : OpR X (compareOp .Eq) (rEqO X.K) := by
  intro pins s σ H x y v u Q I rx ry h
  obtain ⟨d, e, hd, he, sd, se, q⟩ := h
  obtain ⟨as, r1, _⟩ := Do.reads sm I d x v hd rx
  obtain ⟨bs, r2, _⟩ := Do.reads sm I e y u he ry
  exact SeqAt.compareEq_shaped r1 r2 sd se hu ⟨.bl _, H, I, rfl, q⟩
theorem op_neO (sm : Sm X.K) (hu : X.A.units + 64 < cLine) : OpR X (compareOp .NotEq) (rNeO X.K) := by
  intro pins s σ H x y v u Q I rx ry h
  obtain ⟨d, e, hd, he, sd, se, q⟩ := h
  obtain ⟨as, r1, _⟩ := Do.reads sm I d x v hd rx
  obtain ⟨bs, r2, _⟩ := Do.reads sm I e y u he ry
  exact SeqAt.compareNe_shaped r1 r2 sd se hu ⟨.bl _, H, I, rfl, q⟩
theorem op_notInO (sm : Sm X.K) (hu : X.A.units + 65 < cLine) : OpR X (compareOp .NotIn) (rNotInO X.K) := by
  intro pins s σ H x y v u Q I rx ry h
  obtain ⟨d, ds, hd, he, sd, se, q⟩ := h
  obtain ⟨as, r1, _⟩ := Do.reads sm I d x v hd rx
  obtain ⟨bs, r2, _⟩ := Do.reads sm I (.list ds) y u he ry
  exact SeqAt.notIn_list_reads r2 r1 (SeqAt.canLay_of_shaped se) (SeqAt.canLay_of_shaped sd) (room_in_shaped sd hu) ⟨.bl _, H, I, rfl, q⟩
/-- a text, many times -/
theorem op_strMul : OpR X (binaryOp .Mult) (fun x y H Q => ∃ (a : Str) (n : Int), x = .str a ∧ y = .int n ∧ a.length ≤ 1000 ∧ 0 < a.length ∧ 2 ≤ n ∧ n ≤ 10000 ∧ (⟨(List.replicate n.toNat a.cps).foldl (· ++ ·) #[]⟩ : Str).length ≤ sizeLine ∧ Q (.str ⟨(List.replicate n.toNat a.cps).foldl (· ++ ·) #[]⟩) H) := by
  intro pins s σ H x y v u Q I rx ry h
  obtain ⟨a, n, rfl, rfl, h1, h0, h2, h3, hz, q⟩ := h
  obtain ⟨t, rfl⟩ := rx
  obtain ⟨t2, rfl⟩ := ry
  have e1 : ¬ n < 1 := by omega
  have e2 : ¬ (n == 1 || a.length == 0) = true := by
    rw [Bool.or_eq_true, not_or]
    refine ⟨fun z => ?_, fun z => ?_⟩
    · have := beq_iff_eq.mp z
      omega
    · have := beq_iff_eq.mp z
      omega
  refine PySem.P.mul_str ?_ (fun _ _ => ?_) (fun _ _ => ?_) ?_
  · rw [decide_eq_false (by omega), decide_eq_false (by omega)]
    rfl
  · have : (2 ^ 63 - 1) / n ≥ 1000 := Int.le_ediv_of_mul_le (by omega) (by omega)
    omega
  · have hm : a.length * n.toNat ≤ 1000 * 10000 := Nat.mul_le_mul h1 (by omega)
    exact decide_eq_false (by rw [sizeLine_eq]; omega)
  · rw [if_neg e1, if_neg e2]
    exact ⟨hz, .str _, H, I.tok _, ⟨_, rfl⟩, q⟩
end
/-! ### an own __eq__ -/
section
variable {M : Model} {prog : Program} {w : World} {A : Around} {E : Value → Shared → Prop} {s : Shared} {K : PySem.W.Frag} {x C L f : Addr} {h₀ : Heap} {m : Str → Option Value} {ox : Obj} {od : Option Obj} {name : Str} {b tb : Value}
theorem ifBound_B {id B : String} {args : List Value} {Q : Option Value → Shared → Prop} (S : PySem.Slot B name id) (X : K.In s.heap) (I : PySem.W.InstAt s.heap x ox C od) (hs : PySem.W.findIn K (.ref C) name = some (some (.builtin id)))
    (h : wpAny M A (call (.builtin id) (.ref x :: args)) (fun v => Q (some v)) E s) : wpAny M A (callSpecialIfBound? (.ref x) name args) Q E s := by
  simp only [callSpecialIfBound?, bindSpecialIfBound?]
  refine wpAny_holding (wpAny_bind (wpAny_bind (wpAny_bind (I.type.here ((PySem.W.looks_findIn X hs).here ?_)))))
  simp only [S.bind]
  refine wpAny_bind (wpAny_askSetting (wpAny_ite ?_))
  have fin : wpAny M A (call (.builtin id) ([.ref x] ++ args) >>= fun v => pure (some v)) Q E s := wpAny_bind (wpAny_mono h (fun v s' h' => wpAny_pure h') fun _ _ h' => h')
  split
  · exact wpAny_bind (wpAny_pure (wpAny_pure fin))
  · exact wpAny_tryCatch (wpAny_bind (wpAny_pure (wpAny_pure fin)))
theorem objNe_K (X : K.In s.heap) (I : PySem.W.InstAt s.heap x ox C od) (hs : PySem.W.findIn K (.ref C) "__eq__" = some (some (.ref f))) (hf : PySem.W.isFn K (.ref f) = true) (hu : A.units < cLine) {Q : Fin → Shared → Prop}
    (hcall : wpAny (model prog w) A (call (.ref f) [.ref x, b]) (fun v s' => ∃ k, v = .bool k ∧ Q (.done (.ret (.bool (!k)))) s') E s) :
    wpAny (model prog w) A (Builtin.«object.__ne__» ⟨[.ref x, b], []⟩) Q E s := by
  obtain ⟨hp, g, d, t, os⟩ := s
  unfold Builtin.«object.__ne__»
  repeat (first
    | with_reducible refine wpAny_cRoomFor hu ?_
    | (refine wpAny_bind (m := callSpecialIfBound? (.ref x) (Str.ofString "__eq__") [b])
        (PySem.W.ifBound_K X I hs hf (wpAny_mono hcall (fun r s' hr => by
          obtain ⟨b, rfl, hq⟩ := hr
          repeat (first | exact hq | exact wpAny_pure hq | exact wpAny_truthy_bool hq | (refine wpAny_bind (m := truthy (.bool _)) (wpAny_truthy_bool ?_)) | wp_step)) fun _ _ e => e)))
    | wp_step)
theorem ne_K {Q : Value → Shared → Prop} (hu : A.units + 1 < cLine) (X : K.In s.heap) (I : PySem.W.InstAt s.heap x ox C od) (hb : PySem.W.Looks (model prog w) s.heap (typeOf b) tb) (hn : PySem.W.notFirst K C tb = true)
    (hs : PySem.W.findIn K (.ref C) "__eq__" = some (some (.ref f))) (hf : PySem.W.isFn K (.ref f) = true) (hne : PySem.W.findIn K (.ref C) "__ne__" = some (some (.builtin "object.__ne__"))) (hob : PySem.W.subIn K (.ref C) (.type "object") = some true)
    (h : wpAny (model prog w) A.in1 (call (.ref f) [.ref x, b]) (fun v s' => ∃ k, v = .bool k ∧ Q (.bool (!k)) s') E s) : wpAny (model prog w) A (richCompare .NotEq (.ref x) b) Q E s := by
  have isO : PySem.W.Looks (model prog w) s.heap (isInstance (.ref x) (.type "object")) true := I.type.andThen (PySem.W.looks_subIn X hob)
  have one : wpAny (model prog w) A (tryCompare (.ref x) (cmpInfo .NotEq).2.1 b) (fun r s' => ∃ v, r = some v ∧ Q v s') E s := by
    unfold tryCompare
    refine wpAny_bind (ifBound_B PySem.F.cmp_object.ne X I hne (wpAny_call (codeAny_call_builtin PySem.F.cmp_object.ne.plain PySem.F.cmpEntry_ne
      (PySem.W.check_slot PySem.F.cmpKind_ne PySem.F.cmpSplit_ne isO (PySem.F.cmpArgs_ne _ _) (objNe_K (A := A.in1) X I hs hf hu (wpAny_mono h (fun v s' hv => ?_) fun _ _ e => e))))))
    obtain ⟨k, rfl, hq⟩ := hv
    first | exact ⟨k, rfl, wpAny_pure ⟨_, rfl, hq⟩⟩ | exact ⟨k, rfl, wpAny_pure (wpAny_pure ⟨_, rfl, hq⟩)⟩
  unfold richCompare
  simp only [oneThing_ref]
  refine wpAny_holding (wpAny_bind (wpAny_cRoomFor (Nat.lt_of_succ_lt hu) ?_))
  refine wpAny_bind (I.type.here (wpAny_bind (hb.here ?_)))
  split
  · rename_i q
    have e : PySem.W.subIn K tb (.ref C) = some false := by
      rcases Bool.or_eq_true_iff.mp hn with e | e
      · rw [beq_iff_eq.mp e] at q; simp at q
      · exact beq_iff_eq.mp e
    refine wpAny_bind ((PySem.W.looks_subIn X e).here ?_)
    simp only [Bool.false_eq_true, if_false]
    refine wpAny_bind (wpAny_mono one (fun r s' z => ?_) fun _ _ e => e)
    obtain ⟨v, rfl, hq⟩ := z
    exact wpAny_pure hq
  · refine wpAny_bind (wpAny_pure ?_)
    simp only [Bool.false_eq_true, if_false]
    refine wpAny_bind (wpAny_mono one (fun r s' z => ?_) fun _ _ e => e)
    obtain ⟨v, rfl, hq⟩ := z
    exact wpAny_pure hq
end
end Ver

namespace Ver
open PySem PySem.Spec PyProof.Rows L2
/-- what the written part tells of the class at C whose == is the def at f, against a value of the type t -/
structure OwnQ (K : PySem.W.Frag) (C f : Addr) (t : Value) : Prop where
  nf : PySem.W.notFirst K C t = true
  eq : PySem.W.findIn K (.ref C) "__eq__" = some (some (.ref f))
  fn : PySem.W.isFn K (.ref f) = true
  ne : PySem.W.findIn K (.ref C) "__ne__" = some (some (.builtin "object.__ne__"))
  ob : PySem.W.subIn K (.ref C) (.type "object") = some true
section
variable {X : Cx} {CX : CXT} {k : Nat} {f C : Addr} {sp : Sp} {E : XK} {pins : List (Addr × Obj)} {σ : L2.St} {H : Hp} {s : Shared} {Q : VK} {us : List Value} {vs : List V}
/-- the callee's run, one call further in -/
theorem runG1 (F : FnG X.prog X.w X.K X.mg X.base CX k f sp) (hr : Room (k + 1) X.A) (hgd : X.A.guards = some []) (hx : Passes CX X E) (I : Inv X pins σ H s) (r : Vals vs us) (h : sp vs H Q E) :
    wpAny (model X.prog X.w) X.A.in1 (call (.ref f) us) (EP X pins σ Q) X.xe s :=
  wpAny_call (codeAny_mono (F X.A.in1 X.stack s H us vs Q E hgd hr.in1 I.env0.in1 r h) fun rs s' hq => by
    match rs, hq with
    | .error e', hq => exact hx pins σ H s e' s' I hq
    | .ok (.ret u), hq => exact I.after hq
    | .ok .next, hq => exact hq.elim
    | .ok .brk, hq => exact hq.elim
    | .ok .cont, hq => exact hq.elim)
def rOwnQ (K : PySem.W.Frag) (f : Addr) (sp : Sp) (E : XK) (g : Bool → Bool) : R2 := fun x y H Q => ∃ (a C dx : Addr) (fs : List (Str × V)) (t : Value), x = .ref a ∧ H a = some (.ins C dx fs) ∧ TyX K H y t ∧ OwnQ K C f t ∧
  sp [x, y] H (fun z H' => ∃ b : Bool, z = .bl b ∧ Q (.bl (g b)) H') E
theorem op_eqOwn (F : FnG X.prog X.w X.K X.mg X.base CX k f sp) (hr : Room (k + 1) X.A) (hgd : X.A.guards = some []) (hx : Passes CX X E) : OpR X (compareOp .Eq) (rOwnQ X.K f sp E fun b => b) := by
  intro pins s σ H x y v u Q I rx ry h
  obtain ⟨a, C, dx, fs, t, rfl, ea, ty, O, q⟩ := h
  cases (show v = Value.ref a from rx)
  obtain ⟨mA, ob, r, wi, _, ho⟩ := ins_get I.hok ea
  obtain ⟨od, J, _⟩ := ob.look
  obtain ⟨P, kx, hp, _⟩ := kit_of I ry ty
  obtain ⟨m, hF⟩ := I.fr
  show wpAny _ _ (richCompare .Eq (.ref a) u) _ _ _
  refine PySem.W.cmp_K (op := .Eq) (tb := t) (Nat.lt_of_lt_of_le (Nat.lt_of_le_of_lt (Nat.le_add_right _ 64) hr.units) (Nat.le_refl _)) hF I.ok.mod.kin J (kx.ty _ _ I.kIn hp) O.nf O.eq O.fn ?_
  refine wpAny_mono (runG (us := [.ref a, u]) (vs := [.ref a, y]) F (hr.mono (Nat.le_succ k)) hgd hx I (.cons rfl (.cons ry .nil)) q) (fun w s' z => ?_) fun _ _ x => x
  obtain ⟨z', H', I', rz, b, rfl, qz⟩ := z
  cases (show w = Value.bool b from rz)
  exact ⟨.bl b, H', I', rfl, qz⟩
theorem op_neOwn (F : FnG X.prog X.w X.K X.mg X.base CX k f sp) (hr : Room (k + 1) X.A) (hgd : X.A.guards = some []) (hx : Passes CX X E) : OpR X (compareOp .NotEq) (rOwnQ X.K f sp E fun b => !b) := by
  intro pins s σ H x y v u Q I rx ry h
  obtain ⟨a, C, dx, fs, t, rfl, ea, ty, O, q⟩ := h
  cases (show v = Value.ref a from rx)
  obtain ⟨mA, ob, r, wi, _, ho⟩ := ins_get I.hok ea
  obtain ⟨od, J, _⟩ := ob.look
  obtain ⟨P, kx, hp, _⟩ := kit_of I ry ty
  show wpAny _ _ (richCompare .NotEq (.ref a) u) _ _ _
  refine ne_K (tb := t) (Nat.lt_of_le_of_lt (Nat.add_le_add_left (by decide) _) hr.units) I.kIn J (kx.ty _ _ I.kIn hp) O.nf O.eq O.fn O.ne O.ob ?_
  refine wpAny_mono (runG1 (us := [.ref a, u]) (vs := [.ref a, y]) F hr hgd hx I (.cons rfl (.cons ry .nil)) q) (fun w s' z => ?_) fun _ _ x => x
  obtain ⟨z', H', I', rz, b, rfl, qz⟩ := z
  cases (show w = Value.bool b from rz)
  exact ⟨b, rfl, .bl (!b), H', I', rfl, qz⟩
end
/-! ### a static method, read off its class; what is raised is caught here -/
/-- what the written part tells of a static method -/
structure StM (K : PySem.W.Frag) (C : Addr) (m : Str) (f : Addr) : Prop where
  ga : PySem.W.specialIn K (.ref C) "__getattribute__" = some (some (.builtin "type.__getattribute__"))
  ty : PySem.W.typeIn K (.ref C) = some (.type "type")
  rd : PySem.W.readsIn K C (.type "type") = true
  at_ : ∃ p, PySem.W.findCls K (.ref C) (.type "type") m = some (.get (.builtin "staticmethod.__get__") (.ref p) .none (.ref C)) ∧ ∃ rest, PySem.W.recIn K p "staticmethod" = some (.ref f :: rest)
  kp : PySem.W.keepIn K (.ref f) = true
section
variable {X : Cx} {CX : CXT} {k : Nat} {f C : Addr} {sp : Sp} {x m : Str} {p pos apos : Pos} {e : Expr} {es : List Expr} {t : TA}
/-- C.m(e, ..), what it raises is wished for at the slots -/
theorem pe_stcGS {E : L2.St → XK} {pl : Sem Bool} (S : StM X.K C m f) (hg : Gl X x) (hm : X.mg x = some (.ref C)) (F : FnG X.prog X.w X.K X.mg X.base CX k f sp) (hr : Room k X.A) (hgd : X.A.guards = some []) (hx : ∀ σ, PassesAt CX X σ (E σ)) (ha : PA X (e :: es) t)
    (hst : starEach (e :: es) X.env = (false, eval e X.env) :: starEach es X.env := by rfl) (hpl : (backTo pos (starEach es X.env)).any (·.1) = false := by rfl)
    (ht : eval (.Call (.Attribute (.Name x p) m apos) (e :: es) [] pos) X.env = (do
      let ov ← eval (.Name x p) X.env
      standAt apos.atName
      let (g, first) ← holding [ov] (getMethod ov m pl)
      callWith pos g first (backTo pos (starEach (e :: es) X.env)) (backToKw pos (keywordEach [] X.env))) := by rfl) (hdb : (x == ("__debug__" : Str)) = false := by decide) :
    PE X (.Call (.Attribute (.Name x p) m apos) (e :: es) [] pos) (fun σ H Q => t σ H fun vs H1 => sp vs H1 Q (E σ)) := by
  obtain ⟨pa, fc, rest, hp⟩ := S.at_
  refine ⟨fun pins s σ H Q I h => PySem.W.methodCall_KW (pl := pl) (ld_glob I hg hm ?_ hdb) ht⟩
  obtain ⟨mm, fr⟩ := I.fr
  refine PySem.W.method_of_cls fr I.ok.mod.kin S.ga (PySem.W.cls_sm fr I.ok.mod.kin S.ty S.rd fc hp (by rfl) ?_)
  have J := I.tok (s.toks + 1)
  refine PySem.W.callWith_K (first := []) (h₀ := X.base) I.ok.mod.kin S.kp (thn (ha.run pos pins _ σ H _ J h) fun us s1 z => ?_) hst hpl
  obtain ⟨vs, H1, I1, r, q⟩ := z
  refine ⟨I1.kIn, ?_⟩
  exact wpAny_call (codeAny_mono (F X.A X.stack s1 H1 us vs Q (E σ) hgd hr I1.env0 r q) fun rs s' hq => by
    match rs, hq with
    | .error e', hq => exact hx σ pins H1 s1 e' s' I1 hq
    | .ok (.ret u), hq => exact I1.after hq
    | .ok .next, hq => exact hq.elim
    | .ok .brk, hq => exact hq.elim
    | .ok .cont, hq => exact hq.elim)
/-- C(e, ..), what __init__ raises is wished for at the slots -/
def tMakeGS (C : Addr) (sp : Sp) (E : L2.St → XK) (t : TA) : TE := fun σ H Q => StX.tMakeR C sp (E σ) t σ H Q
theorem pe_makeGS {E : L2.St → XK} (M : Mk X.K C f) (F : FnG X.prog X.w X.K X.mg X.base CX k f sp) (hr : Room (k + 1) X.A) (hgd : X.A.guards = some []) (hg : Gl X x) (hm : X.mg x = some (.ref C)) (hx : ∀ σ, PassesAt CX X σ (E σ)) (ha : PA X (e :: es) t)
    (hdb : (x == ("__debug__" : Str)) = false := by decide) (he : starEach (e :: es) X.env = (false, eval e X.env) :: starEach es X.env := by rfl)
    (hpl : (backTo pos (starEach es X.env)).any (·.1) = false := by rfl) : PE X (.Call (.Name x p) (e :: es) [] pos) (tMakeGS C sp E t) := by
  refine ⟨fun pins s σ H Q I h => wpAny_Call_Name_kw (ld_glob I hg hm (PySem.W.callWith_K (h₀ := X.base) I.ok.mod.kin M.kp (thn (ha.run pos pins s σ H _ I h) fun us s1 z => ?_) he hpl) hdb)⟩
  obtain ⟨vs, H1, I1, r, q⟩ := z
  refine ⟨I1.kIn, wpAny_call (make_map (f := f) I1.kIn M.makes M.init (beq_iff_eq.mp M.fn) ?_)⟩
  have q2 := q (s1.heap.objs.size + 1) s1.heap.objs.size (I1.hok.fresh (Nat.le_succ _)) (I1.hok.fresh (Nat.le_refl _)) (Nat.ne_of_lt (Nat.lt_succ_self _))
  have I2 := Inv.made (C := C) I1
  refine codeAny_mono (F _ X.stack _ _ (Value.ref (s1.heap.objs.size + 1) :: us) (V.ref (s1.heap.objs.size + 1) :: vs) _ (E σ) (made_guards hgd C us) (hr.make C us []) (I2.env0.make C us []) (.cons rfl r) q2) fun rs s' hq => ?_
  match rs, hq with
  | .error e', hq => exact hx σ pins _ _ e' s' I2 hq
  | .ok (.ret u), hq =>
    obtain ⟨v, H', I3, rv, ev, q3⟩ := I2.after hq
    subst ev
    exact ⟨rv, V.ref (s1.heap.objs.size + 1), H', I3, rfl, q3⟩
  | .ok .next, hq => exact hq.elim
  | .ok .brk, hq => exact hq.elim
  | .ok .cont, hq => exact hq.elim
end
end Ver

namespace Ver
open PySem PySem.Spec PyProof.Rows L2
/-- isinstance(e, c), e the exception that the suite holds, its dict at dd -/
def rIsED (K : PySem.W.Frag) (D a dd : Addr) : List V → Hp → VK → Prop := fun xs H Q => ∃ (c : V) (cv : Value) (b : Bool) (fs : List (Str × V)), xs = [.ref a, c] ∧ (∀ u, RelV c u → u = cv) ∧ PySem.W.kitOne K (.ref D) cv = some b ∧ H dd = some (.xd fs) ∧ Q (.bl b) H
theorem call_isED {X : Cx} {a D dd : Addr} {oe : Obj} {pn : List (Addr × Obj)} (C : ExcC X.K D) (hz : Zc (.ref D) (some dd) oe) (hf : ∃ vs, oe.data = .fields vs) : CallR (X.suite a ((a, oe) :: pn)) (.builtin "isinstance") (rIsED X.K D a dd) := by
  intro pins s σ H xs us Q I r h
  obtain ⟨c, cv, b, fs, rfl, hcv, e, ea, q⟩ := h
  match us, r with
  | [_, _], .cons rx (.cons rt .nil) =>
    cases rx
    cases hcv _ rt
    obtain ⟨g, _⟩ := I.pin (a, oe) (List.mem_append_left _ List.mem_cons_self)
    obtain ⟨vs, hv⟩ := hf
    obtain ⟨mA, hns, _⟩ := show ObjOk X.prog X.w H s.heap dd (.xd fs) from I.hok dd _ ea
    obtain ⟨od, ho, _⟩ := lookIn_ns hns
    obtain ⟨cd, hc, _⟩ := PySem.W.any_some C.hd
    have J : PySem.W.InstAt s.heap a oe D (some od) := ⟨g, hz.1, by unfold PySem.W.notCls; rw [hv] <;> rfl, by rw [hz.2]; exact ho⟩
    exact PySem.W.kia_one (PySem.W.kitx_exc (by rw [hc]; rfl) C.hg C.hk C.hs C.ha C.hn C.ht C.hm) I.kIn J e (fun z => nomatch z) fun tk => ⟨.bl b, H, I.kept (t' := tk) fun _ _ z => z, rfl, q⟩
end Ver

namespace Ver
open PySem PySem.Spec PyProof.Rows L2 SeqAt
open AutoSeq1 (wpAny_loadPart')
/-! ### a dict and a text are never equal -/
theorem dict_no_str (l : Addr) (o : Obj) (b : Str) (u : Tok) :
    PySem.Meets (Builtin.«dict.__eq__» ⟨[.ref l, .str b u], []⟩) (fun _ R s => s.heap.get? l = some o ∧ R (.ok (.ret .notImplemented)) s) := .of_wp fun prog w A R s h => by
  obtain ⟨hp, g, d, tk, os⟩ := s
  have f1 := PySem.F.sub_str_dict
  wp_walk using wpAny_loadPart' h.1
  exact ⟨_, rfl, h.2⟩
theorem str_no_dict (l : Addr) (o : Obj) (b : Str) (u : Tok) (es : Array DictEntry) (ep : Nat) (hd : o.data = .dict es ep) :
    PySem.Meets (Builtin.«str.__eq__» ⟨[.str b u, .ref l], []⟩) (fun _ R s => s.heap.get? l = some o ∧ R (.ok (.ret .notImplemented)) s) := .of_wp fun prog w A R s h => by
  obtain ⟨hp, g, d, tk, os⟩ := s
  wp_walk using wpAny_loadPart' h.1, wpAny_load h.1
  rw [hd]
  wp_walk using wpAny_loadPart' h.1, wpAny_load h.1
  exact ⟨_, rfl, h.2⟩
section
variable {A : Around} {s : Shared} {l : Addr} {o : Obj} {es : Array DictEntry} {ep : Nat}
theorem rc_str_dict (b : Str) (u : Tok) (ho : s.heap.get? l = some o) (hc : o.cls = .type "dict") (hd : o.data = .dict es ep) (hu : A.units < cLine) : RcAt A s (.str b u) (.ref l) false := fun prog w E Q h =>
  rc_eq_decline_or (k := false) (typeIs_str s b u) ⟨_, ho, hc⟩ (by decide) PySem.F.sub_dict_str PySem.F.slot_str_eq PySem.F.slot_dict_eq_refl
    (fun _ q => call_meets PySem.F.slot_str_eq (typeIs_str s b u) PySem.F.entry_str_eq (PySem.F.args_str_eq_2 _ _) (str_no_dict l o b u es ep hd) ⟨ho, q⟩)
    (fun _ q => call_meets PySem.F.slot_dict_eq_refl ⟨_, ho, hc⟩ PySem.F.entry_dict_eq (PySem.F.args_dict_eq_2 _ _) (dict_no_str l o b u) ⟨ho, q⟩)
    (fun _ q => wpAny_of_eq (rfl : isSame (.str b u) (.ref l) = pure false) q) (.inr hu) h
theorem rc_dict_str (b : Str) (u : Tok) (ho : s.heap.get? l = some o) (hc : o.cls = .type "dict") (hd : o.data = .dict es ep) (hu : A.units < cLine) : RcAt A s (.ref l) (.str b u) false := fun prog w E Q h =>
  rc_eq_decline_or (k := false) ⟨_, ho, hc⟩ (typeIs_str s b u) (by decide) PySem.F.sub_str_dict PySem.F.slot_dict_eq PySem.F.slot_str_eq_refl
    (fun _ q => call_meets PySem.F.slot_dict_eq ⟨_, ho, hc⟩ PySem.F.entry_dict_eq (PySem.F.args_dict_eq_2 _ _) (dict_no_str l o b u) ⟨ho, q⟩)
    (fun _ q => call_meets PySem.F.slot_str_eq_refl (typeIs_str s b u) PySem.F.entry_str_eq (PySem.F.args_str_eq_2 _ _) (str_no_dict l o b u es ep hd) ⟨ho, q⟩)
    (fun _ q => wpAny_of_eq (rfl : isSame (.ref l) (.str b u) = pure false) q) (.inr hu) h
theorem ea_str_dict (b : Str) (u : Tok) (ho : s.heap.get? l = some o) (hc : o.cls = .type "dict") (hd : o.data = .dict es ep) (hu : A.units < cLine) : EqAt A s (.str b u) (.ref l) false := fun prog w E Q h => by
  unfold eqBool
  exact wpAny_holding (wpAny_ite_split (fun z => absurd (eq_of_beq z) nofun) fun _ => wpAny_bind (rc_str_dict b u ho hc hd hu prog w E _ (wpAny_truthy_bool h)))
end
section
variable {X : Cx}
/-- a dict == a text; a dict that is sought among texts -/
def rEqDS : R2 := fun x y H Q => ∃ (a : Addr) (kvs : List (Key × V)) (t : Str), x = .ref a ∧ y = .str t ∧ H a = some (.dK kvs) ∧ Q (.bl false) H
theorem op_eqDS (hu : X.A.units < cLine) : OpR X (compareOp .Eq) rEqDS := by
  intro pins s σ H x y v u Q I rx ry h
  obtain ⟨a, kvs, t, rfl, rfl, ea, q⟩ := h
  cases (show v = Value.ref a from rx)
  obtain ⟨tk, rfl⟩ := ry
  obtain ⟨_, _, vs, _, o, es, ep, ho, he, hd, _⟩ := dk_of I.hok ea
  show wpAny _ _ (richCompare .Eq (.ref a) (.str t tk)) _ _ _
  exact rc_dict_str t tk ho he.1 hd hu X.prog X.w _ _ ⟨.bl false, H, I, rfl, q⟩
def rNotInDS (K : PySem.W.Frag) : R2 := fun x y H Q => ∃ (a b : Addr) (kvs : List (Key × V)) (ts : List Str), x = .ref a ∧ y = .ref b ∧ H a = some (.dK kvs) ∧ SqL K H b (ts.map V.str) ∧ Q (.bl true) H
theorem op_notInDS (hu : X.A.units + 1 < cLine) : OpR X (compareOp .NotIn) (rNotInDS X.K) := by
  intro pins s σ H x y v u Q I rx ry h
  obtain ⟨a, b, kvs, ts, rfl, rfl, ea, hl, q⟩ := h
  cases (show v = Value.ref a from rx)
  cases (show u = Value.ref b from ry)
  obtain ⟨_, _, vs, _, o, es, ep, ho, he, hd, _⟩ := dk_of I.hok ea
  obtain ⟨its, rv, ⟨ob, n, hob, hoc, hdn, hdd⟩, _⟩ := I.list hl
  refine notIn_listAt (fun _ => false) ⟨ob, hob, hoc, n, hdd⟩ (fun z hz => ?_) ?_
  · obtain ⟨i, hi, e⟩ := Array.mem_iff_getElem.mp hz
    have hi2 : i < its.length := by simpa using hi
    have e2 : its[i] = z := by simpa using e
    have hlen := rv.length
    rw [List.length_map] at hlen
    obtain ⟨w2, hw, rw_⟩ := rv.get (i := i) (x := V.str ts[i]) (by rw [List.getElem?_map, List.getElem?_eq_getElem (by omega)]; rfl)
    rw [List.getElem?_eq_getElem hi2, e2] at hw
    cases hw
    obtain ⟨tk, rfl⟩ := rw_
    exact ea_str_dict ts[i] tk ho he.1 hd hu
  · have e : its.toArray.any (fun _ => false) = false := by simp
    rw [e]
    exact ⟨.bl true, H, I, rfl, q⟩
end
end Ver

namespace Num
theorem fmod_lt {a b : Int} (h : b ≠ 0) : (a.fmod b).natAbs < b.natAbs := by
  rw [Int.fmod_eq_emod]
  have h0 := Int.emod_nonneg a h
  by_cases c : 0 ≤ b
  · have h1 := Int.emod_lt_of_pos a (show 0 < b by omega)
    rw [if_pos (.inl c)]
    omega
  · have h1 := Int.emod_lt_of_neg a (show b < 0 by omega)
    by_cases d : b ∣ a
    · rw [if_pos (.inr d), Int.emod_eq_zero_of_dvd d]
      omega
    · have h2 : a % b ≠ 0 := fun z => d (Int.dvd_of_emod_eq_zero z)
      rw [if_neg (by rintro (z | z); exact c z; exact d z)]
      omega
theorem gcd_fmod (a b : Int) : Int.gcd b (a.fmod b) = Int.gcd a b := by
  rw [Int.fmod_def, Int.gcd_sub_mul_left_right, Int.gcd_comm]
end Num
namespace Ver
open PySem PySem.Spec PyProof.Rows L2
/-- a part that is not run -/
theorem pe_dead {X : Cx} {e : Expr} : PE X e (fun _ _ _ => False) := ⟨fun _ _ _ _ _ _ h => h.elim⟩
/-- C.m(e, ..), m a plain def of the class C itself or above it -/
theorem pe_clsG {X : Cx} {CX : CXT} {k : Nat} {f C : Addr} {sp : Sp} {E : XK} {x m : Str} {p pos apos : Pos} {e : Expr} {es : List Expr} {t : TA} {pl : Sem Bool} (hg : Gl X x) (hm : X.mg x = some (.ref C)) (rd : PySem.W.readsIn X.K C (.type "type") = true)
    (ga : PySem.W.specialIn X.K (.ref C) "__getattribute__" = some (some (.builtin "type.__getattribute__"))) (fi : PySem.W.findCls X.K (.ref C) (.type "type") m = some (.val (.ref f))) (hk : PySem.W.keepIn X.K (.ref f) = true)
    (F : FnG X.prog X.w X.K X.mg X.base CX k f sp) (hr : Room k X.A) (hgd : X.A.guards = some []) (hx : Passes CX X E) (ha : PA X (e :: es) t)
    (hst : starEach (e :: es) X.env = (false, eval e X.env) :: starEach es X.env := by rfl) (hpl : (backTo pos (starEach es X.env)).any (·.1) = false := by rfl)
    (ht : eval (.Call (.Attribute (.Name x p) m apos) (e :: es) [] pos) X.env = (do
      let ov ← eval (.Name x p) X.env
      standAt apos.atName
      let (g, first) ← holding [ov] (getMethod ov m pl)
      callWith pos g first (backTo pos (starEach (e :: es) X.env)) (backToKw pos (keywordEach [] X.env))) := by rfl) (hdb : (x == ("__debug__" : Str)) = false := by decide) :
    PE X (.Call (.Attribute (.Name x p) m apos) (e :: es) [] pos) (fun σ H Q => t σ H fun vs H1 => sp vs H1 Q E) := by
  refine ⟨fun pins s σ H Q I h => PySem.W.methodCall_KW (pl := pl) (ld_glob I hg hm ?_ hdb) ht⟩
  refine PySem.W.method_cls I.kIn ga (PySem.W.cls_value I.kIn rd fi rfl ?_)
  have J := I.tok (s.toks + 1)
  refine PySem.W.callWith_K (first := []) (h₀ := X.base) I.ok.mod.kin hk (thn (ha.run pos pins _ σ H _ J h) fun us s1 z => ?_) hst hpl
  obtain ⟨vs, H1, I1, r, q⟩ := z
  exact ⟨I1.kIn, runG F hr hgd hx I1 r q⟩
/-- lcm of two ints, great ones too -/
theorem cr_lcm {X : Cx} : CallR X (.builtin "math.lcm") (fun vs H Q => ∃ a b : Int, vs = [.int a, .int b] ∧ a.natAbs < 2 ^ 8000 ∧ b.natAbs < 2 ^ 8000 ∧ Q (.int ((Nat.lcm a.natAbs b.natAbs : Nat) : Int)) H) := by
  intro pins s σ H vs us Q I r h
  obtain ⟨a, b, rfl, ha, hb, q⟩ := h
  obtain ⟨t, u, rfl⟩ := Vals.int2 r
  have la := PySem.Flt.log2_lt_of (by decide) ha
  have lb := PySem.Flt.log2_lt_of (by decide) hb
  have h1 : (max 1 a.natAbs).log2 ≤ 8000 := by
    rcases Nat.le_total 1 a.natAbs with z | z
    · rw [Nat.max_eq_right z]; omega
    · rw [Nat.max_eq_left z]; decide
  have h2 : (max a.natAbs b.natAbs).log2 ≤ 8000 := by
    rcases Nat.le_total a.natAbs b.natAbs with z | z
    · rw [Nat.max_eq_right z]; omega
    · rw [Nat.max_eq_left z]; omega
  have e1 : Nat.lcm 1 a.natAbs = a.natAbs := Nat.lcm_one_left _
  have hs : ((((Nat.lcm 1 a.natAbs).lcm b.natAbs : Nat) : Int)).natAbs.log2 < bitsLine := by
    rw [e1]
    have l1 : Nat.lcm a.natAbs b.natAbs ≤ a.natAbs * b.natAbs := by
      rw [Nat.lcm]
      exact Nat.div_le_self _ _
    have l2 : a.natAbs * b.natAbs < 2 ^ (8000 + 8000) := by
      rw [Nat.pow_add]
      exact Nat.mul_lt_mul'' ha hb
    have l3 : (((Nat.lcm a.natAbs b.natAbs : Nat) : Int)).natAbs < 2 ^ (8000 + 8000) := Nat.lt_of_le_of_lt l1 l2
    have l4 := PySem.Flt.log2_lt_of (by decide) l3
    have e : bitsLine = 134217728 := by decide
    omega
  have g := PySem.W.mg_run_lcm a t b u (by omega) (by omega) hs
  rw [e1] at g
  exact PySem.call_function_meets PySem.W.MGF.kind_lcm PySem.W.MGF.plain_lcm PySem.W.MGF.entry_lcm (PySem.W.MGF.args_lcm _ _) g.meets ⟨.int _, H, I.tok _, ⟨_, rfl⟩, q⟩
section
variable {P : Program} {w : World} {K : PySem.W.Frag} {mg : Str → Option Value} {base : Heap} {CX : CXT} {k : Nat} {f : Addr} {sp sp1 sp2 : Sp}
theorem FnG.either (F1 : FnG P w K mg base CX k f sp1) (F2 : FnG P w K mg base CX k f sp2) (h : ∀ vs H Q E, sp vs H Q E → sp1 vs H Q E ∨ sp2 vs H Q E) : FnG P w K mg base CX k f sp := fun A outer s H us vs Q E g hr e0 r q =>
  (h vs H Q E q).elim (F1 A outer s H us vs Q E g hr e0 r) (F2 A outer s H us vs Q E g hr e0 r)
end
section
variable {X : Cx} {CX : CXT} {k : Nat} {f C : Addr} {sp : Sp} {E : XK} {x : Str} {p pos : Pos}
/-- C() -/
theorem pe_makeG0 (M : Mk X.K C f) (F : FnG X.prog X.w X.K X.mg X.base CX k f sp) (hr : Room (k + 1) X.A) (hgd : X.A.guards = some []) (hg : Gl X x) (hm : X.mg x = some (.ref C)) (hx : Passes CX X E)
    (hdb : (x == ("__debug__" : Str)) = false := by decide) : PE X (.Call (.Name x p) [] [] pos) (StX.tMakeR C sp E tNil) := by
  refine ⟨fun pins s σ H Q I q => wpAny_Call_Name_kw (ld_glob I hg hm (PySem.W.callWith_K0 I.kIn M.kp ?_) hdb)⟩
  show wpAny _ _ (call (.ref C) []) _ _ _
  refine wpAny_call (make_map (f := f) I.kIn M.makes M.init (beq_iff_eq.mp M.fn) ?_)
  have q2 := q (s.heap.objs.size + 1) s.heap.objs.size (I.hok.fresh (Nat.le_succ _)) (I.hok.fresh (Nat.le_refl _)) (Nat.ne_of_lt (Nat.lt_succ_self _))
  have I2 := Inv.made (C := C) I
  refine codeAny_mono (F _ X.stack _ _ (Value.ref (s.heap.objs.size + 1) :: []) (V.ref (s.heap.objs.size + 1) :: []) _ E (made_guards hgd C []) (hr.make C [] []) (I2.env0.make C [] []) (.cons rfl .nil) q2) fun rs s' hq => ?_
  match rs, hq with
  | .error e', hq => exact hx pins σ _ _ e' s' I2 hq
  | .ok (.ret u), hq =>
    obtain ⟨v, H', I3, rv, ev, q3⟩ := I2.after hq
    subst ev
    exact ⟨rv, V.ref (s.heap.objs.size + 1), H', I3, rfl, q3⟩
  | .ok .next, hq => exact hq.elim
  | .ok .brk, hq => exact hq.elim
  | .ok .cont, hq => exact hq.elim
end
end Ver

/-! Defs with a star parameter; the sum of a tuple. -/
namespace Ver
open PySem PySem.Spec PyProof.Rows L2
theorem preSum_take {ns : List Int} : ∀ n, n ≤ ns.length → preSum (fun i => ns.getD i 0) n = (ns.take n).sum
  | 0, _ => by rw [List.take_zero]; rfl
  | n + 1, h => by
    have e : ns[n]? = some (ns.getD n 0) := by
      rw [List.getD_eq_getElem?_getD, List.getElem?_eq_getElem (by omega)]
      rfl
    show preSum _ n + ns.getD n 0 = _
    rw [preSum_take n (by omega), sum_take e]
section
variable {prog : Program} {w : World} {A : Around} {E : Value → Shared → Prop} {s : Shared} {l : Addr} {its : List Value} {ns : List Int} {Q : Value → Shared → Prop}
theorem sum_tup (hh : A.handled = none) (hl : IsTup s.heap l its.toArray) (rv : Vals (ns.map V.int) its)
    (h : ∀ h' tk t', (∀ b o, s.heap.get? b = some o → h'.get? b = some o) → Q (.int ns.sum t') { s with heap := h', toks := tk }) : wpAny (model prog w) A (call (.builtin "sum") [.ref l]) Q E s := by
  have hne : l ≠ s.heap.objs.size := Nat.ne_of_lt (by obtain ⟨o, e, _⟩ := hl; exact Heap.lt_size e)
  have hlen := rv.length
  rw [List.length_map] at hlen
  have sz : (s.heap.push { cls := .type "tuple_iterator", data := .fields #[.ref l, .int 0 0] }).objs.size = s.heap.objs.size + 1 := Heap.size_push ..
  refine call_sum_walkG (wpAny_pyIter_tuple (show s.heap.IsTuple l its.toArray from hl) ?_)
  refine ⟨_, _, _, _, _, _, fun i => ns.getD i 0, rfl, Walks.tuple (A := A.in1) hh _ l hne its.toArray, ⟨⟨_, Heap.get?_push_size _ rfl, rfl, rfl⟩, ?_⟩, fun b hb => ?_, fun i v hv => ?_, fun h' tk t' hk => ?_⟩
  · obtain ⟨o, e, c⟩ := hl
    exact ⟨o, Heap.get?_push_of_some _ e, c⟩
  · show b < (s.heap.push _).objs.size
    rw [Heap.size_push]
    rcases List.mem_cons.mp hb with e | hb
    · rw [e]
      exact Nat.lt_succ_self _
    · rw [List.mem_singleton.mp hb]
      exact Nat.lt_succ_of_lt (by obtain ⟨o, e, _⟩ := hl; exact Heap.lt_size e)
  · have hi : its[i]? = some v := by simpa using hv
    have lt : i < ns.length := by
      have := (List.getElem?_eq_some_iff.mp hi).1
      omega
    obtain ⟨u, hu, t, ru⟩ := rv.get (i := i) (x := V.int ns[i]) (by rw [List.getElem?_map, List.getElem?_eq_getElem lt]; rfl)
    rw [hi] at hu
    refine ⟨t, ?_⟩
    have e2 : ns.getD i 0 = ns[i] := by
      rw [List.getD_eq_getElem?_getD, List.getElem?_eq_getElem lt]
      rfl
    rw [Option.some.inj hu, ru]
    show Value.int ns[i] t = Value.int (ns.getD i 0) t
    rw [e2]
  · have e : preSum (fun i => ns.getD i 0) its.toArray.size = ns.sum := by
      rw [List.size_toArray, ← hlen, preSum_take _ (Nat.le_refl _), List.take_length]
    rw [e]
    refine h h' tk t' fun b o ho => hk b o (fun z => ?_) (Heap.get?_push_of_some _ ho)
    rw [List.mem_singleton.mp z] at ho
    exact absurd (Heap.lt_size ho) (Nat.lt_irrefl _)
end
/-- sum(t), t a tuple of ints -/
theorem cr_sumT {X : Cx} (hc : X.calm = true) : CallR X (.builtin "sum") (fun vs H Q => ∃ (a : Addr) (ns : List Int), vs = [V.ref a] ∧ SqT X.K H a (ns.map V.int) ∧ Q (.int ns.sum) H) := by
  intro pins s σ H vs us Q I r h
  obtain ⟨a, ns, rfl, hs, q⟩ := h
  obtain ⟨its, rv, hl, _⟩ := I.tuple hs
  obtain ⟨u, rfl, ru⟩ := vals1 r
  cases (show u = Value.ref a from ru)
  exact sum_tup (I.ok.hd hc) hl rv fun h' tk t' hk => ⟨.int _, H, I.kept hk, ⟨_, rfl⟩, q⟩
/-- def f(a, .., *rest) -/
theorem okStar {P : Program} {w : World} {K : PySem.W.Frag} {mg : Str → Option Value} {base : Heap} {k : Nat} {f : Addr} {fd : FuncData} {sp : Sp} {x qual pr : Str} {params : Arguments} {body : List Stmt} {scope : Scope} {N ps : List Str} {kws : List (Str × V)}
    (F : FunD K x qual params body scope [] kws f fd) (S : FnScope N (ps ++ [pr]) scope)
    (hb : ∀ (kV doc pm : Value) (an : Option Addr) (cdv ct : Value) (us rest : List Value), us.length = ps.length → bindArgs (PySem.W.fnOf x qual params body scope .none kV doc pm an cdv ct) ⟨us ++ rest, []⟩ = (newTuple rest >>= fun t => pure (ps.zip us ++ [(pr, t)])))
    (hbody : ∀ (cdv : Value) (A : Around) (outer : List Env) (s : Shared) (H : Hp) (vs : List V) (Q : VK) (E : XK), A.guards = some [] → Room k (A.deeper (envOfC qual scope s.heap.objs.size f cdv)) → sp vs H Q E →
      ∃ t, PSs (cxOf CX0 P w K mg base N qual scope f cdv A outer s H E).nox body t ∧ t { nx := fun _ H' => Q .non H', rt := Q } (start N vs) H) :
    FnG P w K mg base CX0 (k + 1) f (fun vs H Q E => ∃ ws rest, vs = ws ++ rest ∧ ws.length = ps.length ∧ rest.length ≤ sizeLine ∧ ∀ p, H p = none → sp (ws ++ [V.ref p]) (upd H p (.tup rest)) Q E) := by
  obtain ⟨⟨oc, od, dV, kV, doc, pm, an, cdv, ct, osl, rfl, lk, hcd, hD, _⟩, _⟩ := F
  have eD : dV = .none := by
    rcases hD with ⟨_, e⟩ | ⟨e, _⟩
    · exact e
    · exact absurd rfl e
  subst eD
  intro A outer s H us vs Q E hg hr e0 r hsp
  obtain ⟨ws, rest, rfl, hl, hz, hq⟩ := hsp
  obtain ⟨u1, u2, rfl, r1, r2⟩ := StX.vals_split r
  have n0 : H s.heap.objs.size = none := e0.hok.fresh (Nat.le_refl _)
  have l1 : u1.length = ps.length := r1.length.symm.trans hl
  refine StX.run_bnd lk hcd S hr e0 (G := fun xs H2 => ∃ p, H p = none ∧ xs = ws ++ [V.ref p] ∧ H2 = upd H p (.tup rest)) (fun A' Ex Q' h => ?_) fun s2 H2 xs g hr' => ?_
  · rw [hb _ _ _ _ _ _ u1 u2 l1]
    have new : ObjOk P w (upd H s.heap.objs.size (.tup rest)) (s.heap.push ({ cls := .type "tuple", data := .seq u2.toArray } : Obj)) s.heap.objs.size (.tup rest) := ⟨hz, u2, r2, ⟨_, Heap.get?_push_size _ rfl, rfl, _, rfl⟩⟩
    have z := h _ _ (ws ++ [V.ref s.heap.objs.size]) (u1 ++ [Value.ref s.heap.objs.size]) (StX.env0_laid e0 new) (StX.un_laid (fs := frs outer) (s := s) n0) rfl (fun e s' q => q) (r1.append (.cons rfl .nil))
      (by rw [List.length_append, List.length_append, hl] <;> rfl) ⟨_, n0, rfl, rfl⟩
    rw [List.zip_append l1.symm] at z
    exact wpAny_bind (wpAny_newTuple (wpAny_pure z) (by rw [← r2.length]; exact hz))
  · obtain ⟨p, hp, rfl, rfl⟩ := g
    obtain ⟨t, ht, q⟩ := hbody cdv A outer s2 _ _ Q E hg hr' (hq p hp)
    exact ⟨t, ht.nox, q⟩
end Ver

/-! Sets of texts: made from a text's signs, sorted. -/
namespace Ver
open PySem PySem.Spec PyProof.Rows L2
open PySem.Froz (TxOk addTx sObj sing SD tailTx add_x add_ok)
/-- a set's table that can be walked -/
def TabW (w : World) (t : SetTable) : Prop := Ris t.place.toList ∧ (w.params.followText "set-order" = true ∨ t.led = true)
theorem tabW_tail {w : World} {ep : Nat} {es : Array (Int × Value)} {t : SetTable} {d : Bool} (h : TabW w t) : TabW w (tailTx ep es t d).2.2 := by
  unfold tailTx
  by_cases c : (!d && t.tooFull) = true
  · rw [if_pos c]
    exact ⟨relayAll_ris _ _ _, h.2.imp id fun z => (relayAll_led _ _ _).trans z⟩
  · rw [if_neg c]
    exact h
theorem tabW_add {w : World} {k : Int} {v : Value} {D : SD} (h : TabW w D.2.2) : TabW w (addTx k v D).2.2 := by
  have hr := layNew_ris D.2.2 D.1 k v h.1
  have hl := layNew_led D.2.2 D.1 k v
  unfold addTx
  refine tabW_tail ⟨?_, ?_⟩
  · split
    · exact hr
    · exact hr
  · refine h.2.imp id fun z => ?_
    split
    · exact hl.trans z
    · exact hl.trans z
/-- the set at a holds the texts l -/
def SetS (P : Program) (w : World) (h : Heap) (a : Addr) (l : List Str) : Prop :=
  ∃ D : SD, h.get? a = some (sObj "set" D) ∧ TxOk P w D l ∧ l.Nodup ∧ l.length < scanBound ∧ TabW w D.2.2
section
variable {P : Program} {w : World} {A : Around} {E : Value → Shared → Prop} {s : Shared} {a : Addr} {l : List Str}
theorem SetS.at {h h' : Heap} (R : SetS P w h a l) (k : ∀ o, h.get? a = some o → h'.get? a = some o) : SetS P w h' a l :=
  let ⟨D, ho, r⟩ := R
  ⟨D, k _ ho, r⟩
theorem setS_add {k : Str} {u : Tok} {Q : Bool → Shared → Prop} (R : SetS P w s.heap a l) (room : l.length + 1 < scanBound)
    (hQ : ∀ (b : Bool) (h' : Heap) (l' : List Str), Heap.SameBut a s.heap h' → (∀ j, j ∈ l' ↔ j = k ∨ j ∈ l) → l'.length ≤ l.length + 1 → SetS P w h' a l' → Q b { s with heap := h' }) :
    wpAny (model P w) A (setAddHashed a (.str k u) (hashStr w k)) Q E s := by
  obtain ⟨D, ho, F, nd, hb, tw⟩ := R
  by_cases hk : k ∈ l
  · obtain ⟨es, ep, t⟩ := D
    have data : (sObj "set" (es, ep, t)).data = .set es ep t := rfl
    have fit : t.fits es.size = true := F.fit
    have el : ElemsOf (strKind P w) es.toList := F.el
    have few : es.size < scanBound := by
      rw [show es.size = l.length from F.sz]
      exact hb
    have own : (strKind P w).is k (.str k u) = true := PySem.Froz.is_str k u
    obtain ⟨j, ej⟩ : ∃ j, List.findIdx? (fun e => (strKind P w).is k e.2) es.toList = some j := by
      obtain ⟨e, he, q⟩ := (F.mem k).mp hk
      cases h : List.findIdx? (fun e => (strKind P w).is k e.2) es.toList with
      | some j => exact ⟨j, rfl⟩
      | none => exact absurd q (by rw [List.findIdx?_eq_none_iff.mp h e he]; exact Bool.false_ne_true)
    have z := hQ false s.heap l (Heap.SameBut.refl a s.heap) (fun j => ⟨.inr, fun q => q.elim (fun e => e ▸ hk) id⟩) (Nat.le_succ _) ⟨_, ho, F, nd, hb, tw⟩
    unfold setAddHashed setAddHashedIn
    refine wpAny_holding (wpAny_bind (wpAny_setState_of ho data fit (s := s) ?_))
    dsimp only
    rw [byScan_of rfl few el]
    simp only [↓reduceIte]
    unfold setAddByScan
    refine wpAny_bind (wpAny_bind (wpAny_rule (wpAny_bind (wpAny_setScan_of (knd := strKind P w) (k := k) own ho data fit el ?_))))
    rw [ej]
    dsimp only
    exact wpAny_pure (wpAny_pure z)
  · refine add_x ho F hk room (hQ true _ (k :: l) (Heap.SameBut.update s.heap a _) (fun j => List.mem_cons) (Nat.le_of_eq List.length_cons) ⟨_, PySem.Froz.get_upd _ ho rfl, add_ok u F, List.nodup_cons.mpr ⟨hk, nd⟩, by rw [List.length_cons]; exact room, tabW_add tw⟩)
/-- the rest of a text's signs into the set -/
theorem upd_signs {I : Addr} {fp wr : List Addr} {G : Array GenState → Array GenState → Prop} {x : Str} {St : Nat → Shared → Prop} {R : Result → Shared → Prop}
    (W : WalksS P w A.in1 I fp wr G x.cps.size (SignAt x) St) (hSf : a ∉ fp) (hx : x.cps.size + 1 < scanBound) :
    ∀ (k i : Nat) (s : Shared) (l : List Str), x.cps.size - i = k → i ≤ x.cps.size → St i s → l.length ≤ i → SetS P w s.heap a l → (∀ j, j ∈ l ↔ ∃ c ∈ x.cps.toList.take i, j = sing c) →
      (∀ s' l', Moved (a :: wr) G s s' → SetS P w s'.heap a l' → l'.length ≤ x.cps.size → (∀ j, j ∈ l' ↔ ∃ c ∈ x.cps.toList, j = sing c) → R (.ok (.ret .none)) s') →
      codeAny (model P w) A (.builtin "set.update.loop" ⟨[.ref a, .ref I], []⟩) R s := by
  have aw : a ∉ wr := fun h => hSf (W.sub _ h)
  have up : ∀ b ∈ wr, b ∈ a :: wr := fun b hb => List.mem_cons_of_mem _ hb
  intro k
  induction k with
  | zero =>
    intro i s l hk hi hst hl hS hm hR
    have hin : i = x.cps.size := by omega
    subst hin
    refine codeAny_builtin PyProof.Rows.F.entry_set_update_loop (?_ : wpAny _ _ _ _ _ _)
    rw [Around.under_plainId PyProof.Rows.F.plain_set_update_loop _]
    show wpAny _ A.in1 (pyNext (.ref I) >>= fun _ => _) _ _ s
    refine wpAny_bind (W.done s _ _ hst fun s' mv => ?_)
    show wpAny _ A.in1 (ret Value.none : Sem _) _ _ s'
    refine wpAny_pure (hR s' l (mv.mono up) (hS.at fun o e => mv.heap a o aw e) hl fun j => ?_)
    rw [hm j, List.take_of_length_le (by rw [Array.length_toList]; omega)]
  | succ k ih =>
    intro i s l hk hi hst hl hS hm hR
    have hlt : i < x.cps.size := by omega
    refine codeAny_builtin PyProof.Rows.F.entry_set_update_loop (?_ : wpAny _ _ _ _ _ _)
    rw [Around.under_plainId PyProof.Rows.F.plain_set_update_loop _]
    show wpAny _ A.in1 (pyNext (.ref I) >>= fun _ => _) _ _ s
    refine wpAny_bind (W.item i s _ _ hlt hst fun v s' hP hst' mv => ?_)
    obtain ⟨c, t, hc, rfl⟩ := hP
    have hS' : SetS P w s'.heap a l := hS.at fun o e => mv.heap a o aw e
    show wpAny _ A.in1 (holding [Value.str (sing c) t] (setAdd a (.str (sing c) t)) >>= fun _ => _) _ _ s'
    refine wpAny_bind (wpAny_holding ?_)
    unfold setAdd
    refine wpAny_holding (wpAny_bind ((strKind P w).pyHash (k := sing c) (PySem.Froz.is_str _ _) ?_))
    refine setS_add (s := { s' with toks := s'.toks + 1 }) hS' (by omega) fun b h' l' sb hm' hl' hS2 => ?_
    refine wpAny_pure ⟨plainId_quiet PyProof.Rows.F.plain_set_update_loop _, ih (i + 1) _ l' (by omega) hlt (W.frame _ s' _ _ hst' (Nat.le_succ _) fun b hb o e => ?_) (by omega) hS2 (fun j => ?_) fun s'' l'' mv'' hS'' hl'' hm'' => ?_⟩
    · exact (sb.2 b fun z : b = a => hSf (z ▸ hb)).trans e
    · rw [hm' j, hm j, List.take_add_one, show x.cps.toList[i]? = some c by rw [Array.getElem?_toList]; exact hc]
      simp only [Option.toList, List.mem_append, List.mem_singleton]
      constructor
      · rintro (h | ⟨d, hd, e⟩)
        · exact ⟨c, .inr rfl, h⟩
        · exact ⟨d, .inl hd, e⟩
      · rintro ⟨d, hd | hd, e⟩
        · exact .inr ⟨d, hd, e⟩
        · exact .inl (hd ▸ e)
    · refine hR s'' l'' (Moved.trans W.gtrans ((mv.mono up).then_heap (Nat.le_succ _) fun b o hb e => ?_) mv'') hS'' hl'' hm''
      exact (sb.2 b fun z : b = a => hb (z ▸ List.mem_cons_self)).trans e
end
end Ver

namespace Ver
open PySem PySem.Spec PyProof.Rows L2
open PySem.Froz (TxOk addTx sObj sing SD tailTx add_x add_ok)
/-- a set as set() lays it -/
abbrev newS (w : World) : Obj := { cls := .type "set", dict := none, data := .set #[] 0 (.fresh 0 0 (!w.params.followText "set-order")) }
theorem setS_fresh {P : Program} {w : World} {h : Heap} {a : Addr} (ho : h.get? a = some (newS w)) : SetS P w h a [] :=
  ⟨(#[], 0, .fresh 0 0 (!w.params.followText "set-order")), ho, TxOk.nil rfl, List.nodup_nil, by decide, List.Pairwise.nil, by
    show _ ∨ (!w.params.followText "set-order") = true
    cases w.params.followText "set-order" <;> simp⟩
section
variable {P : Program} {w : World} {A : Around} {E : Value → Shared → Prop} {s : Shared}
set_option maxHeartbeats 8000000 in
theorem call_set_text {x : Str} {t : Tok} {Q : Value → Shared → Prop} (hh : A.handled = none) (ha : x.cps.all (· < 128) = true) (hb : x.cps.size + 1 < scanBound)
    (h : ∀ (h' : Heap) (tk : Nat) (l : List Str), SetS P w h' s.heap.objs.size l → l.length ≤ x.cps.size → (∀ j, j ∈ l ↔ ∃ c ∈ x.cps.toList, j = sing c) → (∀ b o, s.heap.get? b = some o → h'.get? b = some o) →
      Q (.ref s.heap.objs.size) { s with heap := h', toks := tk }) :
    wpAny (model P w) A (call (.type "set") [.str x t]) Q E s := by
  obtain ⟨c, tl, hmro⟩ := F.called_set.mro
  have m1 := F.called_set.made
  have m2 := F.called_set.sub
  refine wpAny_call (codeAny_of_tree (?_ : wpAny _ _ (callAny (.type "set") _) _ _ _))
  refine wpAny_pure ⟨Code.quiet_builtin _ (by decide +kernel), codeAny_builtin F.entry_type_call (?_ : wpAny _ _ _ _ _ _)⟩
  rw [Around.under_plain (weight_type_call_type "set" [.str x t] []) rfl]
  have m3 := F.called_set.notType
  have m4 := F.called_set.canCreate
  have m5 := F.typeCall_set_1 (.str x t)
  repeat (any_goals (first | assumption | wp_step))
  refine codeAny_mono (code_set_led1 (.str x t) (E := E) (Q₁ := fun obj s₁ => obj = .ref s.heap.objs.size ∧ s₁ = { s with heap := s.heap.push (newS w) }) ⟨rfl, rfl⟩) fun r s₁ hr => ?_
  match r, hr with
  | .error e, hr => exact hr
  | .ok .next, hr => exact hr.elim
  | .ok .brk, hr => exact hr.elim
  | .ok .cont, hr => exact hr.elim
  | .ok (.ret obj), hr =>
    obtain ⟨rfl, rfl⟩ := hr
    have at_ : (s.heap.push (newS w)).get? s.heap.objs.size = some (newS w) := Heap.get?_push_size _ rfl
    have tyS : Shared.TypeIs { s with heap := s.heap.push (newS w) } (.ref s.heap.objs.size) "set" := ⟨_, at_, rfl⟩
    have i1 := F.called_set.init.lookup
    have i2 := F.called_set.init.bind (.ref s.heap.objs.size)
    repeat (any_goals (first | assumption | wp_step))
    refine codeAny_mono (codeAny_call_builtin (R := wants (fun r s₂ => r = .none ∧ ∃ h' tk l, s₂ = { s with heap := h', toks := tk } ∧ SetS P w h' s.heap.objs.size l ∧ l.length ≤ x.cps.size ∧ (∀ j, j ∈ l ↔ ∃ c ∈ x.cps.toList, j = sing c) ∧
        (∀ b o, s.heap.get? b = some o → h'.get? b = some o)) E) F.called_set.init.plain F.entry_set_init (check_set_init_1 tyS ?_)) fun r₂ s₂ hr₂ => ?_
    · have n1 := F.sub_str_set
      have n2 := F.sub_str_frozenset
      have n3 : (Value.type "str" == Value.type "dict") = false := by decide
      have tyX : Shared.TypeIs { s with heap := s.heap.push (newS w) } (.str x t) "str" := typeIs_str _ x t
      unfold Builtin.«set.__init__» noKeywords Builtin.Frozenset.updateFrom
      generalize hPI : pyIter = PI
      wp_walk
      subst hPI
      refine wpAny_pyIter_ascii ha ?_
      refine wpAny_bind (wpAny_runValue ?_)
      have z1 : (s.heap.push (newS w)).objs.size = s.heap.objs.size + 1 := Heap.size_push ..
      have off : s.heap.objs.size ∉ [(s.heap.push (newS w)).objs.size] := by
        rw [z1]
        simp
      refine upd_signs (a := s.heap.objs.size) ((Walks.strAscii (by simp [hh]) (s.heap.push (newS w)).objs.size x t).toS) off hb (x.cps.size - 0) 0 _ [] (by omega) (Nat.zero_le _)
        ⟨_, Heap.get?_push_size _ rfl, rfl, rfl⟩ (Nat.zero_le _) (setS_fresh (Heap.get?_push_of_some _ at_)) (fun j => by simp) fun s' l' mv hS' hl' hm' => ?_
      obtain ⟨h', g2, d', tk', os'⟩ := s'
      have eg : g2 = s.gens := mv.gens
      have ed : d' = s.drawn := mv.drawn
      have eo : os' = s.os := mv.os
      subst eg; subst ed; subst eo
      refine wpAny_bind (wpAny_pure ?_)
      refine wpAny_pure (?_ : wpAny _ _ (ret Value.none) _ _ _)
      refine wpAny_pure ⟨rfl, h', tk', l', rfl, hS', hl', hm', fun b o e => ?_⟩
      have lt := Heap.lt_size e
      refine mv.heap b o ?_ (Heap.get?_push_of_some _ (Heap.get?_push_of_some _ e))
      rw [z1]
      simp only [List.mem_cons, List.not_mem_nil, or_false, not_or]
      exact ⟨Nat.ne_of_lt lt, Nat.ne_of_lt (Nat.lt_succ_of_lt lt)⟩
    · match r₂, hr₂ with
      | .error e, hr₂ => exact hr₂
      | .ok .next, hr₂ => exact hr₂.elim
      | .ok .brk, hr₂ => exact hr₂.elim
      | .ok .cont, hr₂ => exact hr₂.elim
      | .ok (.ret r), hr₂ =>
        obtain ⟨rfl, h', tk, l', rfl, q1, q2, q3, q4⟩ := hr₂
        repeat (any_goals (first | assumption | wp_step))
        exact h _ _ _ q1 q2 q3 q4
end
end Ver

namespace Ver
open PySem PySem.Spec PyProof.Rows L2
open PySem.Froz (TxOk sObj sing SD)
theorem perm_of_nodup {α : Type} [BEq α] [LawfulBEq α] : ∀ {l m : List α}, l.Nodup → (∀ x ∈ l, x ∈ m) → m.length ≤ l.length → m.Perm l
  | [], m, _, _, h => by rw [List.length_eq_zero_iff.mp (Nat.le_zero.mp h)]
  | x :: l, m, nd, hs, h => by
    obtain ⟨h1, h2⟩ := List.nodup_cons.mp nd
    have hx : x ∈ m := hs x List.mem_cons_self
    have p := List.perm_cons_erase hx
    have e := List.length_erase_of_mem hx
    have hp : 0 < m.length := List.length_pos_of_mem hx
    rw [List.length_cons] at h
    refine p.trans ((perm_of_nodup (l := l) (m := m.erase x) h2 (fun y hy => ?_) (by omega)).cons x)
    exact (List.mem_erase_of_ne (show y ≠ x from fun z => h1 (z ▸ hy))).mpr (hs y (List.mem_cons_of_mem _ hy))
theorem strs_of_all : ∀ (vs : List Value), (∀ v ∈ vs, ∃ x t, v = Value.str x t) → ∃ ss, StrsAre vs ss ∧ ∀ v ∈ vs, ∀ x t, v = Value.str x t → x ∈ ss
  | [], _ => ⟨[], .nil, fun v hv => by cases hv⟩
  | v :: vs, h => by
    obtain ⟨x, t, rfl⟩ := h v List.mem_cons_self
    obtain ⟨ss, h1, h2⟩ := strs_of_all vs fun u hu => h u (List.mem_cons_of_mem _ hu)
    refine ⟨x :: ss, .cons x t h1, fun u hu y q e => ?_⟩
    rcases List.mem_cons.mp hu with z | z
    · rw [e] at z
      cases z
      exact List.mem_cons_self
    · exact List.mem_cons_of_mem _ (h2 u z y q e)
section
variable {P : Program} {w : World} {A : Around} {E : Value → Shared → Prop} {s : Shared} {a : Addr} {l : List Str}
theorem setS_items {D : SD} (F : TxOk P w D l) (nd : l.Nodup) {vs : List Value} (pm : vs.Perm (D.1.toList.map (·.2))) : ∃ ss, StrsAre vs ss ∧ ss.Perm l := by
  have all : ∀ v ∈ vs, ∃ x t, v = Value.str x t := fun v hv => by
    obtain ⟨e, he, q⟩ := List.mem_map.mp (pm.mem_iff.mp hv)
    obtain ⟨⟨k, hk, _⟩, _⟩ := F.el e he
    rw [← q]
    have h : Value.isStrOf k e.2 = true := hk
    cases hv2 : e.2 with
    | str x t => exact ⟨x, t, rfl⟩
    | _ => rw [hv2] at h; simp [Value.isStrOf] at h
  obtain ⟨ss, h1, h2⟩ := strs_of_all vs all
  refine ⟨ss, h1, perm_of_nodup nd (fun x hx => ?_) ?_⟩
  · obtain ⟨e, he, q⟩ := (F.mem x).mp hx
    have hv : e.2 ∈ vs := pm.mem_iff.mpr (List.mem_map.mpr ⟨e, he, rfl⟩)
    obtain ⟨y, t, ey⟩ := all _ hv
    have h : Value.isStrOf x e.2 = true := q
    rw [ey] at h
    have xy : y = x := by
      simp [Value.isStrOf] at h
      exact h
    rw [← xy]
    exact h2 _ hv y t ey
  · have e1 := h1.length
    have e2 := pm.length_eq
    rw [List.length_map, Array.length_toList] at e2
    have e3 : D.1.size = l.length := F.sz
    exact Nat.le_of_eq (e1.symm.trans (e2.trans e3))
theorem sorted_setS {Q : Value → Shared → Prop} (R : SetS P w s.heap a l) (hh : A.handled = none) (h64 : l.length < 64)
    (hQ : ∀ s' p (out : Array Value) (c : Nat) (ys : List Str), (∀ b o, s.heap.get? b = some o → s'.heap.get? b = some o) → s'.gens = s.gens → s'.os = s.os → s.heap.objs.size ≤ p →
      s'.heap.get? p = some (seqObj "list" out c) → StrsAre out.toList ys → ys.Perm l → sortedS ys = true → Q (.ref p) s') :
    wpAny (model P w) A (call (.builtin "sorted") [.ref a]) Q E s := by
  obtain ⟨D, ho, F, nd, hb, tw⟩ := R
  have few : D.1.size < scanBound := by
    rw [show D.1.size = l.length from F.sz]
    exact hb
  refine Calls.call_function_entry kind_sorted plain_sorted entry_sorted (args_sorted1 _) ?_
  unfold Builtin.«sorted»
  refine wpAny_bind (m := checkCount "sorted" 1 1 _) (wpAny_pure (wpAny_bind (collect_set (A := A.in1) hh ⟨_, ho, rfl, rfl⟩ F.fit few tw.1 tw.2 fun s1 vs k1 hz g1 o1 pm => ?_)))
  obtain ⟨ss, hS, pl⟩ := setS_items F nd pm
  have vl : vs.length = l.length := by rw [hS.length, pl.length_eq]
  have v64 : vs.length < 64 := by rw [vl]; exact h64
  refine wpAny_bind (wpAny_newList (?_ : wpAny _ _ _ _ _ _) (by rw [sizeLine_eq]; omega))
  have hoL : (s1.heap.push (seqObj "list" vs.toArray 0)).get? s1.heap.objs.size = some (seqObj "list" vs.toArray 0) := Heap.get?_push_size _ rfl
  refine wpAny_bind (wpAny_holding (wpAny_call_entry slot_list_sort ⟨_, hoL, rfl⟩ entry_list_sort (list_sort_treeK strKind_oneLt hoL hS.keysOf (fun v₁ v₂ rest e => keyKind_strs (by rw [← e]; exact hS)) v64 fun st' hp hs => ⟨_, rfl, ?_⟩) (args_list_sort _)))
  obtain ⟨ys, y1, y2, y3⟩ := sorted_out_str hS hp hs
  obtain ⟨c, hc⟩ := sortedHeap_at (vs := vs) (out := (arrOf st').map (·.2)) hoL
  refine wpAny_pure ⟨_, rfl, hQ _ s1.heap.objs.size _ c ys (fun b u e => ?_) g1 o1 hz hc y1 (y2.trans pl) y3⟩
  have q := k1 b u e
  have lt := Heap.lt_size q
  refine (sortedHeap_old (Nat.ne_of_lt lt) (by rw [size_push']; exact Nat.lt_succ_of_lt lt)).trans ?_
  exact Heap.get?_push_of_some _ q
end
/-! ### over the layer -/
/-- the set of the texts l at a -/
def SetTx (P : Program) (w : World) (a : Addr) (l : List Str) : HO := .ext fun h => SetS P w h a l
section
variable {X : Cx}
theorem setTx_new {w : World} {P : Program} {H : Hp} {h : Heap} {a : Addr} {l : List Str} (R : SetS P w h a l) : ObjOk P w H h a (SetTx P w a l) :=
  ⟨R, let ⟨_, ho, _⟩ := R; ⟨_, ho⟩, fun h1 h2 p k => SetS.at p (k · )⟩
/-- set(text) -/
def rSetText (P : Program) (w : World) : List V → Hp → VK → Prop := fun vs H Q => ∃ x : Str, vs = [.str x] ∧ x.cps.all (· < 128) = true ∧ x.cps.size + 1 < scanBound ∧
  ∀ (l : List Str) (p : Addr), l.Nodup → l.length ≤ x.cps.size → (∀ j, j ∈ l ↔ ∃ c ∈ x.cps.toList, j = sing c) → H p = none → Q (.ref p) (upd H p (SetTx P w p l))
theorem cr_setText (hc : X.calm = true) : CallR X (.type "set") (rSetText X.prog X.w) := by
  intro pins s σ H vs us Q I r h
  obtain ⟨x, rfl, ha, hb, q⟩ := h
  obtain ⟨u, rfl, t, rfl⟩ := vals1 r
  refine call_set_text (I.ok.hd hc) ha hb fun h' tk l R hl hm kp => ?_
  have nd : l.Nodup := let ⟨_, _, _, nd, _⟩ := R; nd
  exact ⟨.ref s.heap.objs.size, _, I.laid (t' := tk) kp (Nat.le_refl _) (setTx_new R), rfl, q l _ nd hl hm (I.hok.fresh (Nat.le_refl _))⟩
/-- sorted(set) -/
def rSortedTx (P : Program) (w : World) : List V → Hp → VK → Prop := fun vs H Q => ∃ (a : Addr) (l : List Str), vs = [.ref a] ∧ H a = some (SetTx P w a l) ∧ l.length < 64 ∧
  ∀ (ys : List Str) (p : Addr), ys.Perm l → sortedS ys = true → H p = none → Q (.ref p) (upd H p (.lst (ys.map V.str)))
theorem cr_sortedTx (hc : X.calm = true) : CallR X (.builtin "sorted") (rSortedTx X.prog X.w) := by
  intro pins s σ H vs us Q I r h
  obtain ⟨a, l, rfl, ha, h64, q⟩ := h
  have R : SetS X.prog X.w s.heap a l := (I.hok a _ ha).1
  rw [Vals.ref1 r]
  refine sorted_setS R (I.ok.hd hc) h64 fun s' p out c ys k g o hp hg hi pm hs => ?_
  have hlen : (ys.map V.str).length ≤ sizeLine := by
    rw [List.length_map, pm.length_eq, sizeLine_eq]
    omega
  have hn : H p = none := I.hok.fresh hp
  have J : Inv X pins σ (upd H p (.lst (ys.map V.str))) { s with heap := s'.heap, gens := s'.gens, drawn := s'.drawn, toks := s'.toks } :=
    I.call (ch := []) (Un.laid k hp hn) (I.hok.laid k hp ⟨hlen, out.toList, c, vals_of_strs hi, hg⟩) (by rw [g]; exact I.bare) (fun _ z => nomatch z)
  have e : s' = { s with heap := s'.heap, gens := s'.gens, drawn := s'.drawn, toks := s'.toks } := by
    cases s'
    cases s
    cases o
    rfl
  rw [e]
  exact ⟨.ref p, _, J, rfl, q ys p pm hs hn⟩
end
end Ver

/-! f(.., **d): the keywords out of a dict, into a dict. -/
namespace Ver
open PySem PySem.Spec PyProof.Rows L2
theorem stored_fresh {κ : Type} [DecidableEq κ] {kvs : List (κ × Value)} {k : κ} {v : Value} (h : k ∉ kvs.map (·.1)) : stored kvs k v = kvs ++ [(k, v)] := by
  unfold stored
  refine if_neg fun z => ?_
  obtain ⟨x, hx, e⟩ := List.any_eq_true.mp z
  exact h (List.mem_map.mpr ⟨x, hx, of_decide_eq_true e⟩)
section
variable {P : Program} {w : World} {A : Around} {E : Value → Shared → Prop} {s : Shared} {d a : Addr} {vs : List (Key × Value)}
theorem dict_idx {es : Array DictEntry} {kvs : List (Key × Value)} (hp : Pairs (mixKind P w) es.toList kvs) {k : Key} (h : k ∉ kvs.map (·.1)) : (es.findIdx? fun e => (mixKind P w).is k e.key) = none := by
  have e := hp.findIdx k
  have e2 : (kvs.findIdx? fun kv => decide (kv.1 = k)) = none := by
    rw [List.findIdx?_eq_none_iff]
    exact fun x hx => decide_eq_false fun z => h (List.mem_map.mpr ⟨x, hx, z⟩)
  rw [e2] at e
  obtain ⟨l⟩ := es
  simpa using e
/-- a new key at the end -/
theorem put_fresh {k : Key} {key v : Value} {kvs : List (Key × Value)} {Q : Unit → Shared → Prop} (hkey : (mixKind P w).is k key = true) (hm : s.heap.DictOf (mixKind P w) d kvs) (hn : k ∉ kvs.map (·.1)) (hz : kvs.length ≤ sizeLine)
    (hQ : ∀ h', h'.DictOf (mixKind P w) d (kvs ++ [(k, v)]) → Heap.SameBut d s.heap h' → Q () { s with heap := h' }) :
    wpAny (model P w) A (dictPut d ((mixKind P w).hash k) key v) Q E s := by
  obtain ⟨o, es, ep, ho, hc, hd, hk, hp, hu⟩ := hm
  have hes : es.size ≤ sizeLine := by
    have e := hp.length
    rw [Array.length_toList] at e
    omega
  unfold dictPut
  refine wpAny_bind (wpAny_dictFind_of hkey ho hd hk ?_)
  rw [dict_idx hp hn]
  refine wpAny_updateDictKeys (hz := hes) ho hd (hQ _ ⟨_, _, ep + 1, Heap.get?_update_self _ ho (Obj.isFreed_of_dict (Obj.data_mapDictKeys hd _)), hc.mapDictKeys _, Obj.data_mapDictKeys hd _, hk.push hkey _, ?_, ?_⟩ (Heap.SameBut.update ..))
  · rw [Array.toList_push]
    exact hp.append hkey _ v
  · rw [List.map_append, List.nodup_append]
    refine ⟨hu, by simp, fun x hx y hy => ?_⟩
    rw [show y = k by simpa using hy]
    exact fun e => hn (e ▸ hx)
theorem key_no_ref {es : Array DictEntry} (hk : KeysOf (mixKind P w) es) {e : DictEntry} (he : e ∈ es) (b : Addr) : e.key ≠ .ref b := fun z => by
  obtain ⟨k, hk', _⟩ := hk e he
  rw [z] at hk'
  rcases keyIs_shape hk' with ⟨i, t, _, h⟩ | ⟨x, t, _, h⟩ <;> exact nomatch h
/-- a dict into a new one -/
theorem merge_new {Q : Unit → Shared → Prop} (hd : s.heap.DictOf (mixKind P w) d []) (ha : s.heap.DictOf (mixKind P w) a vs) (ne : d ≠ a) (hs : (a == sysModules) = false) (hz : vs.length ≤ sizeLine)
    (hQ : ∀ h', h'.DictOf (mixKind P w) d vs → Heap.SameBut d s.heap h' → Q () { s with heap := h' }) :
    wpAny (model P w) A (mergeMapping d (.ref a) true) Q E s := by
  obtain ⟨od, esd, epd, hod, hcd, hdd, hkd, hpd, hnd⟩ := id hd
  obtain ⟨oo, eso, epo, hoo, hco, hdo, hko, hpo, hno⟩ := id ha
  have hlen : vs.length = eso.size := by
    rw [← hpo.length, Array.length_toList]
  have esd0 : esd = #[] := by
    have e := hpd.length
    rw [Array.length_toList] at e
    exact Array.eq_empty_of_size_eq_zero e
  have tyA : s.TypeIs (.ref a) "dict" := ⟨oo, hoo, hco.1⟩
  unfold mergeMapping
  refine wpAny_bind (wpAny_isInstance tyA isSubtype_dict_dict ?_)
  simp only [if_true]
  refine wpAny_bind (wpAny_specialOf tyA F.slot_dict_iter.lookup (wpAny_bind (wpAny_pure ?_)))
  rw [beq_self_eq_true]
  dsimp only
  rw [if_neg (by rw [hs]; exact Bool.false_ne_true)]
  refine wpAny_bind (wpAny_dictEntries hod hdd ?_)
  rw [esd0, if_pos (by rfl)]
  refine wpAny_bind (wpAny_dictEntries hoo hdo (wpAny_bind ?_))
  refine PySem.wpAny_forIn_array' _ (fun rest _ s' => s' = s ∧ ∀ e ∈ rest, e ∈ eso) _ ?_ ?_ _ _ ⟨rfl, fun e he => Array.mem_toList_iff.mp he⟩
  · rintro e rest _ s' ⟨rfl, all⟩
    have he := all e List.mem_cons_self
    cases hkey : e.key with
    | ref b => exact absurd hkey (key_no_ref hko he b)
    | _ => exact wpAny_pure ⟨rfl, fun e' he' => all e' (List.mem_cons_of_mem _ he')⟩
  · rintro _ s' ⟨rfl, _⟩
    refine wpAny_bind (wpAny_dictEntries hoo hdo (wpAny_bind (wpAny_dictEpoch hoo hdo (wpAny_bind ?_))))
    rw [List.range_eq_range']
    refine wpAny_forIn_list _ (fun rest _ s2 => ∃ h' i, s2 = { s' with heap := h' } ∧ rest = List.range' i (eso.size - i) ∧ i ≤ eso.size ∧ h'.DictOf (mixKind P w) d (vs.take i) ∧ h'.get? a = some oo ∧ Heap.SameBut d s'.heap h') _ ?_ ?_ _ _
      ⟨s'.heap, 0, rfl, by simp, Nat.zero_le _, by rw [List.take_zero]; exact hd, hoo, Heap.SameBut.refl _ _⟩
    · rintro x rest _ s2 ⟨h', i, rfl, hr, hi, hd', hoo', sb⟩
      have hlt : i < eso.size := Classical.byContradiction fun z => by
        rw [Nat.sub_eq_zero_of_le (Nat.le_of_not_lt z)] at hr
        cases hr
      rw [show eso.size - i = (eso.size - (i + 1)) + 1 by omega, List.range'_succ] at hr
      obtain ⟨rfl, hrest⟩ := List.cons.inj hr
      refine wpAny_bind (wpAny_dictEntries hoo' hdo ?_)
      rw [Array.getElem?_eq_getElem hlt]
      obtain ⟨⟨k, v⟩, hkv⟩ : ∃ kv, vs[x]? = some kv := ⟨vs[x]'(by rw [hlen]; exact hlt), List.getElem?_eq_getElem _⟩
      obtain ⟨hkey, hval⟩ := hpo.get? (e := eso[x]) (by simp [hlt]) hkv
      obtain ⟨k', hkey', hhash⟩ := hko eso[x] (Array.getElem_mem hlt)
      obtain rfl : k' = k := (mixKind P w).inj _ _ _ hkey' hkey
      have fresh : k' ∉ (vs.take x).map (·.1) := fun z => by
        obtain ⟨y, hy, ey⟩ := List.mem_map.mp z
        obtain ⟨j, hj⟩ := List.getElem?_of_mem hy
        have jx : j < x := by
          have := (List.getElem?_eq_some_iff.mp hj).1
          rw [List.length_take] at this
          omega
        rw [List.getElem?_take_of_lt jx] at hj
        have n1 : (vs.map (·.1))[j]? = some k' := by rw [List.getElem?_map, hj]; exact congrArg some ey
        have n2 : (vs.map (·.1))[x]? = some k' := by rw [List.getElem?_map, hkv]; rfl
        exact absurd ((List.getElem?_inj (by rw [List.length_map, hlen]; omega) hno).mp (n1.trans n2.symm)) (Nat.ne_of_lt jx)
      have few : (vs.take x).length ≤ sizeLine := by
        rw [List.length_take]
        omega
      obtain ⟨o2, es2, ep2, ho2, hc2, hd2, hk2, hp2, hu2⟩ := id hd'
      show wpAny _ _ (holding [eso[x].key, eso[x].val] (dictFind d eso[x].key eso[x].hash >>= fun r => _) >>= fun _ => _) _ _ _
      rw [hhash]
      refine wpAny_bind (wpAny_holding (wpAny_bind (wpAny_dictFind_of hkey ho2 hd2 hk2 ?_)))
      rw [dict_idx hp2 fresh]
      simp only [Option.isSome_none, Bool.false_eq_true, if_false]
      rw [hval]
      refine put_fresh (s := { s' with heap := h' }) hkey hd' fresh few fun h'' hd'' sb2 => ?_
      have hoo'' : h''.get? a = some oo := (sb2.2 a (Ne.symm ne)).trans hoo'
      refine wpAny_bind (wpAny_dictEpoch hoo'' hdo ?_)
      rw [if_neg (by simp)]
      refine wpAny_pure ⟨h'', x + 1, rfl, hrest, hlt, ?_, hoo'', sb.trans sb2⟩
      rw [List.take_add_one, hkv]
      exact hd''
    · rintro _ s2 ⟨h', i, rfl, hr, hi, hd', _, sb⟩
      have hin : i = eso.size := Nat.le_antisymm hi (Nat.le_of_not_lt fun z => by
        rw [show eso.size - i = (eso.size - (i + 1)) + 1 by omega, List.range'_succ] at hr
        cases hr)
      rw [hin, ← hlen, List.take_length] at hd'
      exact wpAny_pure (hQ h' hd' sb)
end
end Ver

namespace Ver
open PySem PySem.Spec PyProof.Rows L2
/-- the entries of texts -/
abbrev tks (kws : List (Str × Value)) : List (Key × Value) := kws.map fun p => (Sum.inr p.1, p.2)
section
variable {P : Program} {w : World} {A : Around} {E : Value → Shared → Prop} {s : Shared} {d a : Addr} {vs : List (Key × Value)}
theorem ns_fresh {name : Str} {v : Value} {Q : Unit → Shared → Prop} (hm : s.heap.DictOf (mixKind P w) d vs) (hn : Sum.inr name ∉ vs.map (·.1))
    (hQ : ∀ h', h'.DictOf (mixKind P w) d (vs ++ [(Sum.inr name, v)]) → Heap.SameBut d s.heap h' → Q () { s with heap := h', toks := s.toks + 1 }) : wpAny (model P w) A (nsSet d name v) Q E s := fun Γ p hΓ => by
  obtain ⟨o, es, ep, ho, hc, hd, hk, hp, hu⟩ := hm
  have idx := dict_idx hp hn
  have shape : ∀ e ∈ es, e.key.isStr name = (mixKind P w).is (Sum.inr name) e.key := fun e he => by
    obtain ⟨k, hk', _⟩ := hk e he
    rcases keyIs_shape hk' with ⟨i, t, e1, e2⟩ | ⟨x, t, e1, e2⟩ <;> rw [e2] <;> simp [mixKind_is, keyIs, Value.isStr, Value.isStrOf] <;> exact eq_comm
  have hi : es.findIdx? (·.key.isStr name) = none := by
    rw [Array.findIdx?_eq_none_iff] at idx ⊢
    exact fun e he => (shape e he).trans (idx e he)
  have noref : es.any (·.refKey) = false := by
    rw [Array.any_eq_false']
    intro e he
    obtain ⟨k, hk', _⟩ := hk e he
    rcases keyIs_shape hk' with ⟨i, t, e1, e2⟩ | ⟨x, t, e1, e2⟩ <;> simp [DictEntry.refKey, e2]
  simp only [nsSet, strHash, Sem.wp_bind', Sem.wp_cmd_ask, Sem.wp_pure', Sem.wp_cmd_mkText]
  rw [Sem.wp_loadPart_of _ Γ _ p { s with toks := s.toks + 1 } (o := o) _ ho]
  simp only [hd, aRefKeyMayBeTheName_eq, aRefKeyMayBeTheNameByArray, noref, Bool.and_false, Bool.false_eq_true, if_false, Sem.wp_cmd_updatePart]
  have keyed : (mixKind P w).is (Sum.inr name) (.str name s.toks) = true := mixKind_str P w name _
  refine ⟨by rw [ho]; rfl, hQ _ ?_ (Heap.SameBut.update ..)⟩
  obtain ⟨c, dd, dt, sl⟩ := o
  subst hd
  refine ⟨_, _, ep + 1, Heap.get?_update_self _ ho (by simp only [Obj.putName_eq, Obj.putNameByArray, hi]; rfl), ?_, by simp only [Obj.putName_eq, Obj.putNameByArray, hi]; rfl, hk.push keyed _, ?_, ?_⟩
  · simp only [Obj.putName_eq, Obj.putNameByArray, hi]
    exact hc
  · rw [Array.toList_push]
    exact hp.append keyed _ v
  · rw [List.map_append, List.nodup_append]
    refine ⟨hu, by simp, fun x hx y hy => ?_⟩
    rw [show y = Sum.inr name by simpa using hy]
    exact fun e => hn (e ▸ hx)
/-- a run of them -/
theorem ns_run (f : (Str × Value) → PUnit → Sem (ForInStep PUnit)) (hf : ∀ x u, f x u = (do nsSet d x.1 x.2; pure (.yield ⟨⟩))) (Q : PUnit → Shared → Prop) :
    ∀ (kws done : List (Str × Value)) (s : Shared), s.heap.DictOf (mixKind P w) d (tks done) → ((done ++ kws).map (·.1)).Nodup →
      (∀ h' tk, h'.DictOf (mixKind P w) d (tks (done ++ kws)) → Heap.SameBut d s.heap h' → Q ⟨⟩ { s with heap := h', toks := tk }) → wpAny (model P w) A (forIn kws ⟨⟩ f) Q E s
  | [], done, s, hm, nd, hQ => by
    rw [List.forIn_nil]
    rw [List.append_nil] at hQ
    exact wpAny_pure (hQ s.heap s.toks hm (Heap.SameBut.refl _ _))
  | x :: kws, done, s, hm, nd, hQ => by
    rw [List.forIn_cons, hf]
    have e : done ++ x :: kws = (done ++ [x]) ++ kws := by simp
    have fresh : Sum.inr x.1 ∉ (tks done).map (·.1) := fun z => by
      obtain ⟨y, hy, ey⟩ := List.mem_map.mp z
      obtain ⟨q, hq, eq⟩ := List.mem_map.mp hy
      rw [List.map_append, List.map_cons, List.nodup_append] at nd
      refine nd.2.2 q.1 (List.mem_map.mpr ⟨q, hq, rfl⟩) x.1 List.mem_cons_self ?_
      rw [← eq] at ey
      exact Sum.inr.inj ey
    refine wpAny_bind (wpAny_bind (ns_fresh hm fresh fun h' hm' sb => wpAny_pure ?_))
    rw [e] at nd hQ
    refine ns_run f hf Q kws (done ++ [x]) _ ?_ nd fun h'' tk hm'' sb2 => hQ h'' tk hm'' (sb.trans sb2)
    rw [tks, List.map_append]
    exact hm'
/-- the keywords of one dict -/
theorem kw_merged {f : Value} {x : Sem Value} {Q : Addr → Shared → Prop}
    (h : wpAny (model P w) A x (fun v s1 => ∃ (a : Addr) (kvs : List (Str × Value)), v = .ref a ∧ s1.heap.DictOf (mixKind P w) s.heap.objs.size [] ∧ s1.heap.DictOf (mixKind P w) a (tks kvs) ∧ s.heap.objs.size ≠ a ∧ (a == sysModules) = false ∧ kvs.length ≤ sizeLine ∧
      ∀ h', h'.DictOf (mixKind P w) s.heap.objs.size (tks kvs) → Heap.SameBut s.heap.objs.size s1.heap h' → Q s.heap.objs.size { s1 with heap := h' }) (fun _ _ => False) { s with heap := s.heap.push { cls := .type "dict", data := .dict #[] } }) :
    wpAny (model P w) A (mergedKeywords f [(none, x)]) Q E s := by
  unfold mergedKeywords
  refine wpAny_bind (wpAny_alloc (wpAny_bind (wpAny_holding ?_)))
  dsimp only
  refine wpAny_bind ?_
  rw [List.forIn_cons]
  refine wpAny_bind ?_
  dsimp only
  rw [if_pos (by rfl)]
  refine wpAny_bind (wpAny_pure ?_)
  refine wpAny_bind (wpAny_mono h (fun v s1 z => ?_) fun _ _ z => z.elim)
  obtain ⟨a, kvs, rfl, hd, ha, ne, hs, hz, q⟩ := z
  refine wpAny_bind (wpAny_onRaise (wpAny_holding (wpAny_tryCatch (wpAny_onRaise (merge_new hd ha ne hs (by rw [List.length_map]; exact hz) fun h' hd' sb => ?_)))))
  refine wpAny_pure ?_
  dsimp only
  rw [List.forIn_nil]
  refine wpAny_pure ?_
  rw [if_pos (by rfl)]
  exact wpAny_pure (wpAny_pure (q h' hd' sb))
/-- the keywords in a dict -/
theorem kw_in {f : Value} {kvs : List (Str × Value)} {Q : List (Str × Value) → Shared → Prop} (hd : s.heap.DictOf (mixKind P w) d (tks kvs)) (q : Q kvs s) : wpAny (model P w) A (keywordsIn f d) Q E s := by
  obtain ⟨o, es, ep, ho, hc, hdd, hk, hp, hu⟩ := hd
  unfold keywordsIn
  refine wpAny_bind (wpAny_dictEntries ho hdd (wpAny_bind ?_))
  refine PySem.wpAny_forIn_array' _ (fun rest b s' => s' = s ∧ ∃ done left, kvs = done ++ left ∧ b = done ∧ Pairs (mixKind P w) rest (tks left)) _ ?_ ?_ _ _ ⟨rfl, [], kvs, rfl, rfl, hp⟩
  · rintro e rest b s' ⟨rfl, done, left, e1, rfl, hp'⟩
    cases left with
    | nil => cases hp'
    | cons p left =>
      cases hp' with
      | cons h1 h2 h3 =>
        rcases keyIs_shape (show keyIs (Sum.inr p.1) e.key = true from h1) with ⟨i, t, c, _⟩ | ⟨y, t, c, c2⟩
        · exact nomatch c
        · rw [c2]
          have c3 : p.1 = y := Sum.inr.inj c
          have c4 : e.val = p.2 := h2
          refine wpAny_pure ⟨rfl, b ++ [p], left, by rw [e1, List.append_assoc]; rfl, ?_, h3⟩
          rw [c4, ← c3]
  · rintro b s' ⟨rfl, done, left, e1, rfl, hp'⟩
    cases left with
    | cons p left => cases hp'
    | nil =>
      rw [List.append_nil] at e1
      subst e1
      exact wpAny_pure q
end
end Ver

namespace Ver
open PySem PySem.Spec PyProof.Rows L2
section
variable {P : Program} {w : World} {A : Around} {E : Value → Shared → Prop} {s : Shared} {d a : Addr} {vs : List (Key × Value)}
theorem dict_laid {h : Heap} : (h.push { cls := .type "dict", data := .dict #[] }).DictOf (mixKind P w) h.objs.size [] :=
  ⟨_, #[], 0, Heap.get?_push_size _ rfl, ⟨rfl, rfl, rfl⟩, rfl, fun e he => by simp at he, .nil, .nil⟩
/-- binding for def f(ps, **a) -/
theorem bind_kw {fd : FuncData} {args : List Arg} {ka : Arg} {us : List Value} {kws : List (Str × Value)} {Q : List (Str × Value) → Shared → Prop}
    (hp : fd.params = ⟨[], args, none, [], [], some ka, []⟩) (hdf : fd.defaults = .none) (hl : us.length = (args.map (·.arg)).length)
    (hz : (List.filterMap (fun n => (List.lookup n ((args.map (·.arg)).zip us)).map (n, ·)) (args.map (·.arg))) = (args.map (·.arg)).zip us)
    (hm : ((args.map (·.arg)).filter fun n => (((args.map (·.arg)).zip us).lookup n).isNone) = [])
    (hk : ∀ p ∈ kws, (args.map (·.arg)).contains p.1 = false) (few : kws.length ≤ sizeLine) (nd : (kws.map (·.1)).Nodup)
    (hQ : ∀ h' tk, h'.DictOf (mixKind P w) s.heap.objs.size (tks kws) → (∀ b o, s.heap.get? b = some o → h'.get? b = some o) → Q ((args.map (·.arg)).zip us ++ [(ka.arg, .ref s.heap.objs.size)]) { s with heap := h', toks := tk }) :
    wpAny (model P w) A (bindArgs fd ⟨us, kws⟩) Q E s := by
  unfold bindArgs
  simp only [hp, hdf, List.map_nil, List.nil_append, List.append_nil]
  generalize hps : args.map (·.arg) = ps at hl hz hm hk hQ ⊢
  refine wpAny_bind ?_
  refine wpAny_forIn_list _ (fun rest b s' => s' = s ∧ ∃ done, kws = done ++ rest ∧ b = (ps.zip us, done)) _ ?_ ?_ _ _ ⟨rfl, [], rfl, rfl⟩
  · rintro x rest b s' ⟨rfl, done, e1, rfl⟩
    have hx := hk x (by rw [e1]; exact List.mem_append_right _ List.mem_cons_self)
    rw [hx, if_neg (by simp), if_pos (by rfl)]
    exact wpAny_pure ⟨rfl, done ++ [x], by rw [e1, List.append_assoc]; rfl, rfl⟩
  · rintro b s' ⟨rfl, done, e1, rfl⟩
    rw [List.append_nil] at e1
    subst e1
    dsimp only
    refine wpAny_bind (wpAny_pure ?_)
    have n0 : ¬ us.length > ps.length := by omega
    simp only [Option.getD_none, List.length_nil, List.drop_nil, Nat.sub_zero, List.take_length, hm, List.isEmpty_nil, Bool.not_true, Bool.false_eq_true, if_false, decide_eq_false n0, Bool.false_and, List.drop_length, List.zip_nil_left, List.forIn_nil, pure_bind, hz]
    rw [if_neg (by omega)]
    refine wpAny_bind (wpAny_alloc ?_)
    have n1 : ({ s' with heap := s'.heap.push { cls := .type "dict", data := .dict #[] } } : Shared).heap.DictOf (mixKind P w) s'.heap.objs.size (tks []) := dict_laid
    refine wpAny_bind (ns_run _ (fun x u => rfl) _ kws [] _ n1 nd fun h' tk hm' sb => ?_)
    exact wpAny_pure (hQ h' tk hm' fun b o e => (sb.2 b (Nat.ne_of_lt (Heap.lt_size e))).trans (Heap.get?_push_of_some _ e))
end
/-! ### the promise of a def that takes keywords into a dict -/
/-- what it asks of: the values by place, the keywords, the heap -/
abbrev KSp := List V → List (Str × V) → Hp → VK → XK → Prop
def FnKw (P : Program) (w : World) (K : PySem.W.Frag) (mg : Str → Option Value) (base : Heap) (CX : CXT) (k : Nat) (f : Addr) (sp : KSp) : Prop :=
  ∀ (A : Around) (outer : List Env) (s : Shared) (H : Hp) (us : List Value) (vs : List V) (kws : List (Str × Value)) (kvs : List (Str × V)) (Q : VK) (E : XK), A.guards = some [] → Room k A →
    Env0 P w K mg base A outer s H → Vals vs us → KV kvs kws → sp vs kvs H Q E → codeAny (model P w) A (.call (.ref f) ⟨us, kws⟩) (CR CX outer P w H s Q E) s
theorem FnKw.mono {P : Program} {w : World} {K : PySem.W.Frag} {mg : Str → Option Value} {base : Heap} {CX : CXT} {j k : Nat} {f : Addr} {sp : KSp} (F : FnKw P w K mg base CX j f sp) (h : j ≤ k) : FnKw P w K mg base CX k f sp :=
  fun A outer s H us vs kws kvs Q E g hr e0 r rk q => F A outer s H us vs kws kvs Q E g (hr.mono h) e0 r rk q
/-- new objects ahead of a body: the place of one of them is tracked -/
theorem env0_new {P : Program} {w : World} {K : PySem.W.Frag} {mg : Str → Option Value} {base : Heap} {A : Around} {outer : List Env} {s : Shared} {H : Hp} {h' : Heap} {tk : Nat} {u : HO} (e0 : Env0 P w K mg base A outer s H)
    (kp : ∀ b x, s.heap.get? b = some x → h'.get? b = some x) (sz : s.heap.objs.size ≤ h'.objs.size) (new : ObjOk P w (upd H s.heap.objs.size u) h' s.heap.objs.size u) :
    Env0 P w K mg base A outer { s with heap := h', toks := tk } (upd H s.heap.objs.size u) := by
  refine ⟨e0.frames, e0.mod, fun b x e => ⟨kp b x (e0.bs b x e).1, ?_⟩, Nat.le_trans e0.bsz sz, Heap.FunFrames.of_keeps (fun b x e _ => ⟨x, kp b x e, rfl⟩) e0.funs, fun b hb => ?_, e0.hok.laid kp (Nat.le_refl _) new, e0.bare⟩
  · rw [upd_ne (Nat.ne_of_lt (Heap.lt_size (e0.bs b x e).1))]
    exact (e0.bs b x e).2
  · obtain ⟨_, x, hx, _⟩ := e0.funs.mem hb
    rw [upd_ne (Nat.ne_of_lt (Heap.lt_size hx))]
    exact e0.frf b hb
section
variable {CX : CXT} {P : Program} {w : World} {K : PySem.W.Frag} {mg : Str → Option Value} {base : Heap} {k : Nat} {f : Addr} {fd : FuncData} {name qual : Str} {args : List Arg} {ka : Arg} {body : List Stmt} {scope : Scope} {kws0 : List (Str × V)} {N : List Str} {sp : Sp}
theorem kv_tks {kvs : List (Str × V)} {kws : List (Str × Value)} (h : KV kvs kws) : KV (kvs.map fun p => ((Sum.inr p.1 : Key), p.2)) (tks kws) := by
  induction h with
  | nil => exact .nil
  | cons h1 _ ih => exact .cons ⟨congrArg Sum.inr h1.1, h1.2⟩ ih
theorem kv_names {kvs : List (Str × V)} {kws : List (Str × Value)} (h : KV kvs kws) : kvs.map (·.1) = kws.map (·.1) := by
  induction h with
  | nil => rfl
  | cons h1 _ ih => simp only [List.map_cons, ih, h1.1]
theorem kv_len {kvs : List (Str × V)} {kws : List (Str × Value)} (h : KV kvs kws) : kvs.length = kws.length := by
  have := congrArg List.length (kv_names h)
  simpa using this
/-- by its body: the keywords are a new dict at the last parameter -/
theorem okKw (F : FunD K name qual ⟨[], args, none, [], [], some ka, []⟩ body scope [] kws0 f fd) (S : FnScope N (args.map (·.arg) ++ [ka.arg]) scope) (hCX : StX.CXUp CX)
    (hz : ∀ us : List Value, us.length = (args.map (·.arg)).length → (List.filterMap (fun n => (List.lookup n ((args.map (·.arg)).zip us)).map (n, ·)) (args.map (·.arg))) = (args.map (·.arg)).zip us)
    (hm : ∀ us : List Value, us.length = (args.map (·.arg)).length → ((args.map (·.arg)).filter fun n => (((args.map (·.arg)).zip us).lookup n).isNone) = [])
    (hbody : ∀ (cdv : Value) (A : Around) (outer : List Env) (s : Shared) (H : Hp) (vs : List V) (Q : VK) (E : XK), A.guards = some [] → Room k (A.deeper (envOfC qual scope s.heap.objs.size f cdv)) → sp vs H Q E →
      ∃ t, PSs (cxOf CX P w K mg base N qual scope f cdv A outer s H E) body t ∧ t { nx := fun _ H' => Q .non H', rt := Q } (start N vs) H) :
    FnKw P w K mg base CX (k + 1) f (fun vs kvs H Q E => vs.length = (args.map (·.arg)).length ∧ kvs.length ≤ sizeLine ∧ (kvs.map (·.1)).Nodup ∧ (∀ p ∈ kvs, (args.map (·.arg)).contains p.1 = false) ∧
      ∀ p, H p = none → sp (vs ++ [V.ref p]) (upd H p (.dK (kvs.map fun q => (Sum.inr q.1, q.2)))) Q E) := by
  obtain ⟨⟨oc, od, dV, kV, doc, pm, an, cdv, ct, osl, rfl, lk, hcd, hD, _⟩, _⟩ := F
  intro A outer s H us vs kws kvs Q E hg hr e0 r rk ⟨hl, few, nd, off, hq⟩
  have dv : dV = .none := by
    rcases hD with ⟨_, e⟩ | ⟨e, _⟩
    · exact e
    · exact absurd rfl e
  subst dv
  have hn : H s.heap.objs.size = Option.none := e0.hok.fresh (Nat.le_refl _)
  have ul : us.length = (args.map (·.arg)).length := by rw [← r.length]; exact hl
  have nm := kv_names rk
  refine StX.run_bnd lk hcd S hr e0 (G := fun xs H2 => ∃ p, H p = none ∧ xs = vs ++ [V.ref p] ∧ H2 = upd H p (.dK (kvs.map fun q => (Sum.inr q.1, q.2)))) (fun A' Ex Q' h => ?_) fun s2 H2 xs ⟨p, hp, ex, eH⟩ hr' => ?_
  · refine bind_kw rfl rfl ul (hz us ul) (hm us ul) (fun p hp => ?_) (by rw [← kv_len rk]; exact few) (by rw [← nm]; exact nd) fun h' tk hd' kp => ?_
    · have : p.1 ∈ kvs.map (·.1) := by rw [nm]; exact List.mem_map.mpr ⟨p, hp, rfl⟩
      obtain ⟨q, hq', e⟩ := List.mem_map.mp this
      rw [← e]
      exact off q hq'
    · obtain ⟨o, es, ep, ho, _⟩ := id hd'
      have sz : s.heap.objs.size ≤ h'.objs.size := Nat.le_of_lt (Heap.lt_size ho)
      have big := StX.env0_big e0
      have new : ObjOk P w (upd H s.heap.objs.size (.dK (kvs.map fun q => (Sum.inr q.1, q.2)))) h' s.heap.objs.size (.dK (kvs.map fun q => (Sum.inr q.1, q.2))) :=
        dk_new (by rw [List.length_map]; exact few) (beq_eq_false_iff_ne.mpr (Ne.symm (Nat.ne_of_lt big))) (kv_tks rk) hd'
      have un : Un (frs outer) [] H (upd H s.heap.objs.size (.dK (kvs.map fun q => (Sum.inr q.1, q.2)))) s.heap h' := Un.laid kp (Nat.le_refl _) hn
      have z := h { s with heap := h', toks := tk } _ (vs ++ [V.ref s.heap.objs.size]) (us ++ [Value.ref s.heap.objs.size]) (env0_new e0 kp sz new) un rfl (fun e s' => hCX outer s H _ _ E e s' un kp rfl) (r.append (.cons rfl .nil))
        (by rw [List.length_append, List.length_append, hl] <;> rfl) ⟨_, hn, rfl, rfl⟩
      rw [List.zip_append ul.symm] at z
      exact z
  · subst ex eH
    exact hbody cdv A outer s2 _ _ Q E hg hr' (hq p hp)
end
end Ver

namespace Ver
open PySem PySem.Spec PyProof.Rows L2
section
variable {M : Model} {A : Around} {E : Value → Shared → Prop} {s : Shared} {K : PySem.W.Frag} {env : Env} {pos : Pos} {f : Value} {Q : Value → Shared → Prop} {x y : Sem Value} {args : List (Bool × Sem Value)}
/-- f(.., **x) -/
theorem callWith_dd (hk : PySem.W.keepIn K f = true) (hst : args.any (·.1) = false)
    (h : wpAny M A (spliced ((false, y) :: args)) (fun us s1 => wpAny M A (mergedKeywords f [(none, do let v ← x; standAt pos; pure v)]) (fun d s2 => wpAny M A (keywordsIn f d) (fun kw s3 => K.In s3.heap ∧ wpAny M A (call f us kw) Q E s3) E s2) E s1) E s) :
    wpAny M A (callWith pos f [] ((false, y) :: args) [(none, do let v ← x; standAt pos; pure v)]) Q E s := by
  unfold callWith evalArgs
  refine wpAny_bind (wpAny_holding ?_)
  dsimp only
  refine wpAny_bind (wpAny_mono h (fun us s1 z => wpAny_bind (wpAny_pure ?_)) fun _ _ z => z)
  refine wpAny_holding ?_
  dsimp only
  rw [if_neg (by simp)]
  refine wpAny_bind (wpAny_mono z (fun d s2 z2 => wpAny_bind (wpAny_pure ?_)) fun _ _ z => z)
  refine wpAny_bind (wpAny_holding (wpAny_mono z2 (fun kw s3 z3 => ?_) fun _ _ z => z))
  refine wpAny_pure (wpAny_bind (wpAny_standAt ?_))
  obtain ⟨k, hk', L⟩ := PySem.W.keeps_K (M := M) hk _ z3.1
  have st : (((false, y) :: args).any (·.1) || ([(none, do let v ← x; standAt pos; pure v)] : List (Option Str × Sem Value)).any (·.1.isNone)) = true := by simp
  dsimp only
  rw [st]
  refine wpAny_bind (L.here ?_)
  have tail : ∀ {t : Sem Value}, wpAny M A t Q E s3 → wpAny M A (t >>= fun r => holding [r] point >>= fun _ => pure r) Q E s3 :=
    fun ht => wpAny_bind (wpAny_mono ht (fun r s4 hr => wpAny_bind (wpAny_holding (wpAny_point (wpAny_pure hr)))) fun _ _ z => z)
  have z4 : wpAny M A (call f ([] ++ us) kw) Q E s3 := z3.2
  rcases hk' with rfl | rfl | rfl <;> dsimp only <;> first
    | exact tail (by unfold callMarked; exact Calls.wpAny_keep z4)
    | exact tail (wpAny_operating z4)
end
/-! ### C(e, .., **x) -/
/-- its reading: the values; a new dict for the keywords; x; then __init__ at the new instance -/
def tMakeD (C : Addr) (sp : KSp) (E : XK) (t : TA) (te : TE) : TE := fun σ H Q => t σ H fun vs H1 => ∀ d, H1 d = none → te σ (upd H1 d (.dK [])) fun y H2 => ∃ (a : Addr) (kvs : List (Str × V)), y = .ref a ∧ H2 d = some (.dK []) ∧
  H2 a = some (.dK (kvs.map fun q => (Sum.inr q.1, q.2))) ∧ d ≠ a ∧
  ∀ x dx, upd H2 d (.dK (kvs.map fun q => ((Sum.inr q.1 : Key), q.2))) x = none → upd H2 d (.dK (kvs.map fun q => ((Sum.inr q.1 : Key), q.2))) dx = none → dx ≠ x →
    sp (V.ref x :: vs) kvs (upd (upd (upd H2 d (.dK (kvs.map fun q => (Sum.inr q.1, q.2)))) dx (.own x)) x (.ins C dx [])) (fun v H3 => v = .non ∧ Q (.ref x) H3) E
theorem kv_untks : ∀ {kvs : List (Str × V)} {ws : List (Key × Value)}, KV (kvs.map fun q => ((Sum.inr q.1 : Key), q.2)) ws → ∃ kws, ws = tks kws ∧ KV kvs kws
  | [], ws, h => by
    cases h
    exact ⟨[], rfl, .nil⟩
  | p :: kvs, ws, h => by
    cases h with
    | cons h1 h2 =>
      rename_i q ws'
      obtain ⟨kws, e, r⟩ := kv_untks h2
      obtain ⟨q1, q2⟩ := q
      have e1 : Sum.inr p.1 = q1 := h1.1
      subst e1
      exact ⟨(p.1, q2) :: kws, by rw [e] <;> rfl, .cons ⟨rfl, h1.2⟩ r⟩
section
variable {X : Cx} {CX : CXT} {k : Nat} {f C : Addr} {sp : KSp} {E : XK} {x : Str} {p pos kpos : Pos} {e y : Expr} {es : List Expr} {t : TA} {te : TE}
theorem made_guards_kw {A : Around} (h : A.guards = some []) (C : Addr) (us : List Value) (kw : List (Str × Value)) : (A.under (.builtin "type.__call__" ⟨.ref C :: us, kw⟩)).guards = some [] := by
  show pushGuards (Code.builtin "type.__call__" ⟨.ref C :: us, kw⟩).guards A.guards = some []
  rw [h]
  first
    | rfl
    | decide +kernel
theorem run_makeKw {pins : List (Addr × Obj)} {σ : L2.St} {H : Hp} {s : Shared} {Q : VK} {us : List Value} {vs : List V} {kws : List (Str × Value)} {kvs : List (Str × V)} (M : Mk X.K C f) (F : FnKw X.prog X.w X.K X.mg X.base CX k f sp) (hr : Room (k + 1) X.A) (hgd : X.A.guards = some []) (hx : Passes CX X E)
    (I : Inv X pins σ H s) (r : Vals vs us) (rk : KV kvs kws)
    (h : ∀ x dx, H x = none → H dx = none → dx ≠ x → sp (V.ref x :: vs) kvs (upd (upd H dx (.own x)) x (.ins C dx [])) (fun v H2 => v = .non ∧ Q (.ref x) H2) E) :
    wpAny (model X.prog X.w) X.A (call (.ref C) us kws) (EP X pins σ Q) X.xe s := by
  have hq := h (s.heap.objs.size + 1) s.heap.objs.size (I.hok.fresh (Nat.le_succ _)) (I.hok.fresh (Nat.le_refl _)) (Nat.ne_of_lt (Nat.lt_succ_self _))
  have I2 := Inv.made (C := C) I
  refine wpAny_call (make_map (f := f) I.kIn M.makes M.init (beq_iff_eq.mp M.fn) (codeAny_mono (F _ X.stack _ _ (Value.ref (s.heap.objs.size + 1) :: us) (V.ref (s.heap.objs.size + 1) :: vs) kws kvs _ E (made_guards_kw hgd C us kws) (hr.make C us kws) (I2.env0.make C us kws) (.cons rfl r) rk hq) fun r s' hq' => ?_))
  match r, hq' with
  | .error e, hq' => exact hx pins σ _ _ e s' I2 hq'
  | .ok (.ret u), hq' =>
    obtain ⟨v, H', I3, rv, ev, q3⟩ := I2.after hq'
    subst ev
    exact ⟨rv, ⟨V.ref (s.heap.objs.size + 1), H', I3, rfl, q3⟩⟩
  | .ok .next, hq' => exact hq'.elim
  | .ok .brk, hq' => exact hq'.elim
  | .ok .cont, hq' => exact hq'.elim
theorem pe_makeD (M : Mk X.K C f) (F : FnKw X.prog X.w X.K X.mg X.base CX k f sp) (hr : Room (k + 1) X.A) (hgd : X.A.guards = some []) (hg : Gl X x) (hm : X.mg x = some (.ref C)) (hx : Passes CX X E) (ha : PA X (e :: es) t) (hy : PE X.nox y te)
    (hkw : backToKw pos (keywordEach [⟨none, y, kpos⟩] X.env) = [(none, do let v ← eval y X.env; standAt pos; pure v)] := by rfl)
    (hdb : (x == ("__debug__" : Str)) = false := by decide) (he : starEach (e :: es) X.env = (false, eval e X.env) :: starEach es X.env := by rfl) (hpl : (backTo pos (starEach es X.env)).any (·.1) = false := by rfl) :
    PE X (.Call (.Name x p) (e :: es) [⟨none, y, kpos⟩] pos) (tMakeD C sp E t te) := by
  refine ⟨fun pins s σ H Q I h => wpAny_Call_Name_kw (ld_glob I hg hm ?_ hdb)⟩
  have run := ha.run pos pins s σ H _ I h
  rw [he] at run
  rw [hkw, he]
  refine callWith_dd M.kp hpl (thn run fun us s1 ⟨vs, H1, I1, r, q⟩ => ?_)
  have n1 : H1 s1.heap.objs.size = none := I1.hok.fresh (Nat.le_refl _)
  have J1 : Inv X pins σ (upd H1 s1.heap.objs.size (.dK [])) { s1 with heap := s1.heap.push { cls := .type "dict", data := .dict #[] } } :=
    I1.laid (a := s1.heap.objs.size) (o := .dK []) (t' := s1.toks) (fun _ _ q => Heap.get?_push_of_some _ q) (Nat.le_refl _) (dk_empty s1.heap I1.big)
  refine kw_merged (wpAny_bind (wpAny_mono (hy.run pins _ σ _ _ (J1.wish _) (q _ n1)) (fun v s2 z => wpAny_bind (wpAny_standAt (wpAny_pure ?_))) fun _ _ z => z))
  obtain ⟨y', H2, I2', ry, a, kvs, rfl, hd2, ha2, ne, q2⟩ := z
  have I2 := I2'.unwish
  obtain rfl : v = Value.ref a := ry
  obtain ⟨z1, m1, ws1, r1, dd1⟩ := dk_of I2.hok hd2
  obtain ⟨z2, m2, ws2, r2, dd2⟩ := dk_of I2.hok ha2
  cases r1
  obtain ⟨kws, rfl, rk⟩ := kv_untks r2
  rw [List.length_map] at z2
  refine ⟨a, kws, rfl, dd1, dd2, ne, m2, by rw [← kv_len rk]; exact z2, fun h' hd' sb => ?_⟩
  obtain ⟨o', es', ep', ho', _⟩ := id hd'
  have I3 : Inv X pins σ (upd H2 s1.heap.objs.size (.dK (kvs.map fun q => (Sum.inr q.1, q.2)))) { s2 with heap := h' } :=
    d_write (t' := s2.toks) I2 (by rw [hd2]; exact True.intro) sb ⟨_, ho'⟩ (dk_new (by rw [List.length_map]; exact z2) m1 (kv_tks rk) hd')
  refine kw_in hd' ⟨I3.kIn, ?_⟩
  exact run_makeKw M F hr hgd hx I3 r rk q2
end
end Ver

namespace Ver
open PySem PySem.Spec PyProof.Rows L2
theorem kv_zip : ∀ (ks : List Str) {zs : List V} {ws : List Value}, Vals zs ws → KV (ks.zip zs) (ks.zip ws)
  | [], _, _, _ => .nil
  | _ :: _, _, _, .nil => .nil
  | k :: ks, _, _, .cons h1 h2 => .cons ⟨rfl, h1⟩ (kv_zip ks h2)
/-- C(e, .., k = v, ..) of an __init__ that takes its keywords into a dict -/
def tMakeW (C : Addr) (ks : List Str) (sp : KSp) (E : XK) (t tk : TA) : TE := fun σ H Q => t σ H fun vs H1 => tk σ H1 fun zs H2 =>
  ∀ x dx, H2 x = none → H2 dx = none → dx ≠ x → sp (V.ref x :: vs) (ks.zip zs) (upd (upd H2 dx (.own x)) x (.ins C dx [])) (fun v H3 => v = .non ∧ Q (.ref x) H3) E
section
variable {X : Cx} {CX : CXT} {k : Nat} {f C : Addr} {sp : KSp} {E : XK} {x : Str} {p pos : Pos} {e : Expr} {es : List Expr} {kws : List Keyword} {ks : List Str} {t tk : TA}
theorem pe_makeW (M : Mk X.K C f) (F : FnKw X.prog X.w X.K X.mg X.base CX k f sp) (hr : Room (k + 1) X.A) (hgd : X.A.guards = some []) (hg : Gl X x) (hm : X.mg x = some (.ref C)) (hx : Passes CX X E) (ha : PA X (e :: es) t) (hkw : PK X kws tk)
    (hall : (backToKw pos (keywordEach kws X.env)).all (·.1.isSome) = true := by rfl) (hks : (backToKw pos (keywordEach kws X.env)).filterMap (·.1) = ks := by rfl)
    (hdb : (x == ("__debug__" : Str)) = false := by decide) (he : starEach (e :: es) X.env = (false, eval e X.env) :: starEach es X.env := by rfl)
    (hpl : ((backTo pos (starEach (e :: es) X.env)).any (·.1) || (backToKw pos (keywordEach kws X.env)).any (·.1.isNone)) = false := by rfl) :
    PE X (.Call (.Name x p) (e :: es) kws pos) (tMakeW C ks sp E t tk) := by
  refine ⟨fun pins s σ H Q I h => wpAny_Call_Name_kw (ld_glob I hg hm ?_ hdb)⟩
  refine PySem.W.callWith_KW (h₀ := X.base) I.ok.mod.kin M.kp hall (thn (ha.run pos pins s σ H _ I h) fun us s1 ⟨vs, H1, I1, r, q⟩ => ?_) hpl he
  refine thn (hkw.run pos pins s1 σ H1 _ I1 q) fun ws s2 ⟨zs, H2, I2, rz, q2⟩ => ⟨I2.kIn, ?_⟩
  rw [hks]
  exact run_makeKw M F hr hgd hx I2 r (kv_zip ks rz) q2
end
end Ver

namespace Ver
open PySem PySem.Spec PyProof.Rows L2 ClX
/-- C.m(e, ..), m a class method -/
def tCMethG (C : Addr) (sp : Sp) (E : XK) (t : TA) : TE := fun σ H Q => t σ H fun vs H2 => sp (.ref C :: vs) H2 Q E
section
variable {X : Cx} {CX : CXT} {k : Nat} {C p g : Addr} {mc : Value} {sp : Sp} {E : XK} {e : Expr} {es : List Expr} {x m : Str} {xp pos apos : Pos} {t : TA} {pl : Sem Bool}
theorem pe_cmethG (hg : Gl X x) (hm : X.mg x = some (.ref C)) (r : CRead X.K C mc) (c : CMet X.K C mc m p g) (F : FnG X.prog X.w X.K X.mg X.base CX k g sp) (hr : Room k X.A) (hgd : X.A.guards = some []) (hx : Passes CX X E) (ha : PA X (e :: es) t)
    (hst : starEach (e :: es) X.env = (false, eval e X.env) :: starEach es X.env := by rfl) (hpl : (backTo pos (starEach es X.env)).any (·.1) = false := by rfl)
    (ht : eval (.Call (.Attribute (.Name x xp) m apos) (e :: es) [] pos) X.env = (do
      let ov ← eval (.Name x xp) X.env
      standAt apos.atName
      let (f, first) ← holding [ov] (getMethod ov m pl)
      callWith pos f first (backTo pos (starEach (e :: es) X.env)) (backToKw pos (keywordEach [] X.env))) := by rfl) (hdb : (x == ("__debug__" : Str)) = false := by decide) :
    PE X (.Call (.Attribute (.Name x xp) m apos) (e :: es) [] pos) (tCMethG C sp E t) := by
  refine ⟨fun pins s σ H Q I h => PySem.W.methodCall_KW (pl := pl) (ld_glob I hg hm ?_ hdb) ht⟩
  refine getmethcm_ok I r c fun s2 I2 => ?_
  refine callwith_cm I2 (base_none I (Nat.le_refl _)) c.fi (thn (ha.run pos _ s2 σ H _ I2 h) fun us s3 ⟨vs, H2, I3, rv, q2⟩ => ⟨⟨pin_at I3, I3.kIn⟩, ?_⟩) hst hpl
  exact thn (wpAny_call (PySem.W.method_call (pin_at I3) (codeAny_mono (F X.A X.stack s3 H2 (.ref C :: us) (.ref C :: vs) Q E hgd hr I3.env0 (.cons rfl rv) q2) fun rs s' hq => by
    match rs, hq with
    | .error e', hq => exact hx _ σ H2 s3 e' s' I3 hq
    | .ok (.ret u), hq => exact I3.after hq
    | .ok .next, hq => exact hq.elim
    | .ok .brk, hq => exact hq.elim
    | .ok .cont, hq => exact hq.elim))) fun _ _ y => unpinE y
end
end Ver

/-! o.m( *e ) of a def with a promise. -/
namespace Ver
open PySem PySem.Spec PyProof.Rows L2
theorem starcall1_of {M : Model} {A : Around} {E : Value → Shared → Prop} {s : Shared} {env : Env} {o e2 : Expr} {m : Str} {p apos pos : Pos} {Q : Value → Shared → Prop} (hbase : attributeBase o m env (eval o env) = eval o env)
    (hst : starEach [.Starred e2 p] env = [(true, eval e2 env)])
    (h : wpAny M A (eval o env) (fun ov s₁ => wpAny M A (getAttr ov m true) (fun f s₂ => wpAny M A (callWith pos f [] (backTo pos [(true, eval e2 env)]) []) Q E s₂) E s₁) E s) :
    wpAny M A (eval (.Call (.Attribute o m apos) [.Starred e2 p] [] pos) env) Q E s := by
  have a1 : backToKw pos (keywordEach [] env) = [] := rfl
  have a2 : methodCallForm ([Expr.Starred e2 p].length + ([] : List Keyword).length) (backTo pos [(true, eval e2 env)]) [] = false := rfl
  have a3 : methodCallPos false o env apos pos = pure pos := rfl
  have a4 : ∀ ov, calleeOf false o env ov m = (getAttr ov m true >>= fun v => pure (v, [])) := fun _ => rfl
  rw [arm_eval_Call, hbase, hst, a1]
  refine wpAny_bind (wpAny_mono h (fun ov s1 k => ?_) fun _ _ x => x)
  refine wpAny_bind (wpAny_standAt ?_)
  unfold methodCall
  rw [a2, a3, a4]
  exact wpAny_bind (wpAny_holding (wpAny_bind (wpAny_mono k (fun f s2 k2 => wpAny_pure (wpAny_bind (wpAny_pure k2))) fun _ _ x => x)))
def tMethGS1 (K : PySem.W.Frag) (C : Addr) (m : Str) (g : Addr) (sp : Sp) (E : XK) (ta t2 : TE) : TE := fun σ H Q => ta σ H fun x H1 => ∃ a dx fs, x = .ref a ∧ H1 a = some (.ins C dx fs) ∧ fs.lookup m = none ∧
  ∀ q, H1 q = none → t2 σ (upd H1 q (.met g a)) fun y2 H3 => ∃ b vs, y2 = .ref b ∧ (SqT K H3 b vs ∨ SqL K H3 b vs) ∧ H3 q = some (.met g a) ∧ sp (.ref a :: vs) H3 Q E
theorem pe_methGS1 {X : Cx} {CX : CXT} {k : Nat} {C g : Addr} {m : Str} {sp : Sp} {E : XK} {o e2 : Expr} {ta t2 : TE} {p apos pos : Pos} (he : PE X o ta) (c : Cls X.K C) (b : BMeth X.K C m g) (F : FnG X.prog X.w X.K X.mg X.base CX k g sp) (hr : Room k X.A) (hgd : X.A.guards = some [])
    (hx : Passes CX X E) (h2 : PE X e2 t2) (hbase : attributeBase o m X.env (eval o X.env) = eval o X.env := by rfl)
    (hst : starEach [.Starred e2 p] X.env = [(true, eval e2 X.env)] := by rfl) : PE X (.Call (.Attribute o m apos) [.Starred e2 p] [] pos) (tMethGS1 X.K C m g sp E ta t2) := by
  refine ⟨fun pins s σ H Q I h => ?_⟩
  refine starcall1_of hbase hst (thn (he.run pins s σ H _ I h) fun u s1 ⟨x, H1, I1, rx, a, dx, fs, ex, ea, l, q⟩ => ?_)
  subst ex
  obtain rfl : u = Value.ref a := rx
  refine getbound_ok I1 ea c b l fun q1 s2 hq1 I2 => ?_
  refine PySem.W.ks_call (P := PySem.W.MethP X.K q1 g (.ref a)) rfl (PySem.W.keeps_M b.fi) (PySem.W.ks_lone (thn (h2.run pins s2 σ _ _ I2 (q q1 hq1)) fun v2 s4 ⟨y2, H3, I4, ry2, t, vs, ey, ht, hm, hsp⟩ => ?_))
  subst ey
  obtain rfl : v2 = Value.ref t := ry2
  refine StX.star_any I4 ht fun us s5 I5 rv => ?_
  refine ⟨met_P I5 hm, wpAny_call (PySem.W.method_call (met_P I5 hm).1 ?_)⟩
  exact codeAny_mono (F X.A X.stack s5 H3 (Value.ref a :: us) (V.ref a :: vs) Q E hgd hr I5.env0 (.cons rfl rv) hsp) fun rs s' hq => by
    match rs, hq with
    | .error e', hq => exact hx pins σ H3 s5 e' s' I5 hq
    | .ok (.ret u), hq => exact I5.after hq
    | .ok .next, hq => exact hq.elim
    | .ok .brk, hq => exact hq.elim
    | .ok .cont, hq => exact hq.elim
end Ver

/-! Sets of tuples of ints and texts. -/
namespace Ver
open PySem PySem.Spec PyProof.Rows L2
abbrev mh (P : Program) (w : World) (k : List Key) : Int := tupleKeyHash (mixKind P w) k
abbrev MT (P : Program) (w : World) (h : Heap) (k : List Key) (a : Addr) : Prop := IsTupleKey (mixKind P w) h k a
abbrev KA := Addr × List Key
theorem plainV_class {v : Value} (h : carriedByValue v = true) (n : Nat) : ofAClassStatement n v = pure false := by
  cases v with
  | ref a => simp [carriedByValue] at h
  | _ => cases n <;> rfl
theorem plainV_hash {v : Value} (h : carriedByValue v = true) (n : Nat) : ∃ b, hashByValue n v = pure b := by
  cases v with
  | ref a => simp [carriedByValue] at h
  | _ => cases n <;> exact ⟨_, rfl⟩
section
variable {P : Program} {w : World} {A : Around} {E : Value → Shared → Prop} {s : Shared}
theorem mt_class {k : List Key} {b : Addr} {Q : Bool → Shared → Prop} (hk : MT P w s.heap k b) (h : Q false s) : wpAny (model P w) A (ofAClassStatement 8 (.ref b)) Q E s := by
  have hT := hk.typeIs
  obtain ⟨o, its, n, ho, _, hd, hi⟩ := hk
  have all := hi.byValue
  unfold ofAClassStatement
  refine wpAny_bind (wpAny_typeOf hT ?_)
  dsimp only
  have e : (("tuple" : String) == "tuple") = true := by decide
  simp only [e, if_true, Bool.not_true, Bool.false_eq_true, if_false]
  try refine wpAny_bind (wpAny_pure ?_)
  try simp only [Bool.not_true, Bool.false_eq_true, if_false]
  show wpAny _ _ (seqItems? (.ref b) >>= _) _ _ s
  refine wpAny_bind (wpAny_seqItems ho hd ?_)
  dsimp only
  refine wpAny_bind ?_
  show wpAny _ _ (forIn its _ _) _ _ s
  rw [← Array.forIn_toList]
  refine wpAny_forIn_list _ (fun rest r s' => r.1 = none ∧ s' = s ∧ ∀ v ∈ rest, carriedByValue v = true) _ ?_ ?_ _ _ ⟨rfl, rfl, all⟩
  · rintro v rest r s' ⟨hr, rfl, all'⟩
    rw [plainV_class (all' v List.mem_cons_self)]
    refine wpAny_bind (wpAny_pure ?_)
    simp only [Bool.false_eq_true, if_false]
    exact wpAny_pure ⟨rfl, rfl, fun u hu' => all' u (List.mem_cons_of_mem _ hu')⟩
  · rintro ⟨r1, r2⟩ s' ⟨hr, rfl, _⟩
    simp only at hr
    subst hr
    exact wpAny_pure h
theorem mt_hashBy {k : List Key} {b : Addr} {Q : Bool → Shared → Prop} (hk : MT P w s.heap k b) (h : ∀ c, Q c s) : wpAny (model P w) A (hashByValue 8 (.ref b)) Q E s := by
  have hT := hk.typeIs
  obtain ⟨o, its, n, ho, _, hd, hi⟩ := hk
  have all := hi.byValue
  unfold hashByValue
  refine wpAny_bind (wpAny_specialOf hT F.slot_tuple_hash.lookup ?_)
  show wpAny _ _ (seqItems? (.ref b) >>= _) _ _ s
  refine wpAny_bind (wpAny_seqItems ho hd ?_)
  refine wpAny_bind ?_
  show wpAny _ _ (forIn its _ _) _ _ s
  rw [← Array.forIn_toList]
  refine wpAny_forIn_list _ (fun rest r s' => r.1 = none ∧ s' = s ∧ ∀ v ∈ rest, carriedByValue v = true) _ ?_ ?_ _ _ ⟨rfl, rfl, all⟩
  · rintro v rest r s' ⟨hr, rfl, all'⟩
    obtain ⟨c, e⟩ := plainV_hash (all' v List.mem_cons_self) 7
    rw [e]
    refine wpAny_bind (wpAny_pure ?_)
    cases c with
    | true =>
      simp only [Bool.not_true, Bool.false_eq_true, if_false]
      exact wpAny_pure ⟨rfl, rfl, fun u hu' => all' u (List.mem_cons_of_mem _ hu')⟩
    | false =>
      simp only [Bool.not_false, if_true]
      exact wpAny_pure (wpAny_pure (h false))
  · rintro ⟨r1, r2⟩ s' ⟨hr, rfl, _⟩
    simp only at hr
    subst hr
    exact wpAny_pure (h true)
/-- what a search among such tuples shows: nothing -/
theorem mt_seen {k : List Key} {b : Addr} {Q : Bool → Shared → Prop} (hk : MT P w s.heap k b) {ys : List Value} (hy : ∀ y ∈ ys, ∃ k' c, y = Value.ref c ∧ MT P w s.heap k' c) (h : Q false s) :
    wpAny (model P w) A (searchCouldBeSeen (.ref b) ys) Q E s := by
  unfold searchCouldBeSeen
  refine wpAny_bind (wpAny_forIn_list _ (fun rest r s' => r.1 = none ∧ s' = s ∧ ∀ y ∈ rest, ∃ k' c, y = Value.ref c ∧ MT P w s.heap k' c) _ ?_ ?_ _ _ ⟨rfl, rfl, hy⟩)
  · rintro v rest r s' ⟨hr, rfl, all⟩
    obtain ⟨k', c, rfl, hc⟩ := all v List.mem_cons_self
    have more : ∀ y ∈ rest, ∃ k' c, y = Value.ref c ∧ MT P w s'.heap k' c := fun u hu' => all u (List.mem_cons_of_mem _ hu')
    dsimp only
    by_cases hv : (b == c || (carriedByValue (.ref b) && carriedByValue (.ref c))) = true
    · exact wp_if_pos hv (wpAny_pure ⟨rfl, rfl, more⟩)
    · refine wp_if_neg hv (wpAny_bind (wpAny_eqIsQuiet_tuple hk ?_))
      simp only [Bool.not_true, Bool.false_eq_true, if_false]
      refine wpAny_bind (wpAny_eqIsQuiet_tuple hc ?_)
      simp only [Bool.not_true, Bool.false_eq_true, if_false]
      refine wpAny_bind (mt_class hk ?_)
      simp only [Bool.false_eq_true, if_false]
      refine wpAny_bind (mt_class hc ?_)
      simp only [Bool.false_eq_true, if_false]
      exact wpAny_pure ⟨rfl, rfl, more⟩
  · rintro ⟨r1, r2⟩ s' ⟨hr, rfl, _⟩
    simp only at hr
    subst hr
    exact wpAny_pure h
/-! ### the set -/
def rowsM (P : Program) (w : World) (L : List KA) : List (Int × Value) := L.map fun p => (mh P w p.2, Value.ref p.1)
structure MSet (P : Program) (w : World) (h : Heap) (a : Addr) (L : List KA) (es : Array (Int × Value)) (ep : Nat) (t : SetTable) : Prop where
  ob : ∃ o, h.get? a = some o ∧ o.ExactSet ∧ o.data = .set es ep t
  rows : es.toList = rowsM P w L
  tab : TabOk t (L.map fun p => mh P w p.2)
  nd : (L.map (·.2)).Nodup
  tup : ∀ p ∈ L, MT P w h p.2 p.1
  led : w.params.followText "set-order" = true ∨ t.led = true
  room : L.length * 5 < t.mask * 3
  few : L.length < 64
variable {a : Addr} {L : List KA} {es : Array (Int × Value)} {ep : Nat} {t : SetTable}
theorem rowsM_size (h : es.toList = rowsM P w L) : es.size = L.length := by
  have := congrArg List.length h
  simpa [rowsM] using this
theorem MSet.size (R : MSet P w s.heap a L es ep t) : es.size = L.length := rowsM_size R.rows
theorem MSet.psize (R : MSet P w s.heap a L es ep t) : t.place.size = L.length := by
  have := R.tab.sz
  rwa [List.length_map] at this
theorem fits_of {t : SetTable} {n : Nat} (h1 : t.place.size = n) (h2 : t.dummies = #[]) (h3 : n ≤ t.mask) : t.fits n = true := by
  unfold SetTable.fits SetTable.fill
  rw [h2, Bool.and_eq_true, beq_iff_eq, decide_eq_true_eq]
  exact ⟨h1, by show t.place.size + 0 ≤ t.mask; omega⟩
theorem MSet.fits (R : MSet P w s.heap a L es ep t) : t.fits es.size = true :=
  fits_of (R.psize.trans R.size.symm) R.tab.dm (by have := R.room; rw [R.size]; omega)
theorem MSet.entry (R : MSet P w s.heap a L es ep t) {i : Nat} {p : KA} (h : L[i]? = some p) : es[i]? = some (mh P w p.2, Value.ref p.1) := by
  rw [← Array.getElem?_toList, R.rows]
  simp [rowsM, h]
theorem MSet.gw (R : MSet P w s.heap a L es ep t) : ¬ t.gaveWay = true := by
  unfold SetTable.gaveWay
  rw [mask_odd R.tab.mok]
  decide
/-- the c-th step of a way -/
abbrev stp (m : Nat) (h : Int) (c : Nat) : SetTable.Probe := nth m (runAt m (SetTable.bits h % (m + 1)) (SetTable.bits h)) c
theorem stp_add (m : Nat) (h : Int) (c q : Nat) : nth m (stp m h c) q = stp m h (c + q) := (nth_add m c _ q).symm
theorem nth_clean (m : Nat) : ∀ (n : Nat) (p : SetTable.Probe), p.dummy = none → (nth m p n).dummy = none
  | 0, _, h => h
  | n + 1, p, h => nth_clean m n (adv m p) (by unfold adv; split <;> exact h)
/-- the search from the c-th step on -/
theorem mset_seek (R : MSet P w s.heap a L es ep t) {x : Addr} {k : List Key} (hx : MT P w s.heap k x) (hu : A.units < cLine) {hk : Int} (ek : hk = mh P w k) {K : Nat} (hKf : K < 10 * SetTable.turns t.mask)
    (hK : way t.mask hk K ∉ t.place.toList) (hKb : ∀ c, c < K → way t.mask hk c ∈ t.place.toList) {Q : SetFound → Shared → Prop}
    (hin : k ∈ L.map (·.2) → Q (.there none) s) (hout : k ∉ L.map (·.2) → Q (.free (way t.mask hk K) false) s) :
    ∀ (f c : Nat) (stand : Option SetTable.Probe), stand.getD (t.probeStart hk) = stp t.mask hk c → c ≤ K → K - c < f →
      (∀ (i : Nat) p, L[i]? = some p → p.2 = k → ∃ c', c ≤ c' ∧ c' < K ∧ t.place.toList[i]? = some (way t.mask hk c')) →
      wpAny (model P w) A (setSearchFrom a (.ref x) hk true f stand) Q E s
  | 0, c, stand, _, _, hf, _ => absurd hf (Nat.not_lt_zero _)
  | f + 1, c, stand, hst, hc, hf, ahead => by
    obtain ⟨o, ho, hex, hd⟩ := R.ob
    have jj : ∀ q, (nth t.mask (stp t.mask hk c) q).j = way t.mask hk (c + q) := fun q => congrArg SetTable.Probe.j (stp_add t.mask hk c q)
    have stored : ∀ (i : Nat) p, L[i]? = some p → (fun i => (es[i]?.map (·.1)).getD 0) i = mh P w p.2 := fun i p hp => by
      show (es[i]?.map (·.1)).getD 0 = _
      rw [R.entry hp] <;> rfl
    have spec := go_spec t R.tab.ris R.tab.dm (fun i => (es[i]?.map (·.1)).getD 0) hk (10 * SetTable.turns t.mask) (K - c) (stp t.mask hk c) (nth_clean _ c _ rfl) (by omega)
      (fun q hq => by rw [jj]; exact hKb (c + q) (by omega)) (by rw [jj, show c + (K - c) = K by omega]; exact hK)
    -- one that has the key is not passed over
    have notpast : ∀ (n : Nat), (∀ (q i' : Nat), q < n → t.place.toList[i']? = some (nth t.mask (stp t.mask hk c) q).j → (fun i : Nat => ((es[i]?.map (·.1)).getD 0 : Int)) i' ≠ hk) → ∀ (i0 : Nat) (p0 : KA), L[i0]? = some p0 → p0.2 = k → ∀ c', c ≤ c' → t.place.toList[i0]? = some (way t.mask hk c') → c + n ≤ c' := by
      intro n hno i0 p0 h0 hk0 c' h1 h3
      rcases Nat.lt_or_ge c' (c + n) with z | z
      · refine absurd ((stored i0 p0 h0).trans (by rw [hk0, ek])) (hno (c' - c) i0 (by omega) ?_)
        rw [jj, show c + (c' - c) = c' by omega]
        exact h3
      · exact z
    rw [setSearchFrom_succ]
    refine wpAny_bind (wpAny_setState_of ho hd R.fits ?_)
    dsimp only
    refine wp_if_neg R.gw ?_
    try refine wpAny_bind (wpAny_pure ?_)
    rcases spec with ⟨q, i, hq, hi, hh, hno, hpr⟩ | ⟨hno, hpr⟩
    · have met : t.probe (fun i => (es[i]?.map (·.1)).getD 0) hk (stand.getD (t.probeStart hk)) = some (.candidate (way t.mask hk (c + q)) i (stp t.mask hk (c + (q + 1)))) := by
        rw [hst, ← jj, ← stp_add]
        exact hpr
      rw [met]
      dsimp only
      rw [jj] at hi
      have hil : i < L.length := by
        have h1 : i < t.place.toList.length := (List.getElem?_eq_some_iff.mp hi).1
        rw [Array.length_toList, R.psize] at h1
        exact h1
      have hp : L[i]? = some L[i] := List.getElem?_eq_getElem hil
      generalize hpe : L[i] = p at hp
      have hmem : p ∈ L := List.mem_of_getElem? hp
      have hsl : t.slot (way t.mask hk (c + q)) = .live i := slot_live R.tab.ris hi
      have go : wpAny (model P w) A (searchRest a (.ref x) hk true f es t (way t.mask hk (c + q)) i (stp t.mask hk (c + (q + 1)))) Q E s := by
        unfold searchRest
        rw [R.entry hp]
        dsimp only
        refine wpAny_bind (wpAny_holding (wpAny_eqBool_tuple hu (R.tup p hmem) hx (wpAny_bind (wpAny_setState_of ho hd R.fits ?_))))
        dsimp only
        by_cases same : p.2 = k
        · exact wp_if_pos (by simp [same]) (wpAny_pure (hin (List.mem_map.mpr ⟨p, hmem, same⟩)))
        · refine wp_if_neg (by simp [same]) ?_
          try refine wpAny_bind (wpAny_pure ?_)
          rw [sameMem]
          dsimp only
          simp only [if_true, hsl, R.entry hp]
          refine wpAny_bind (wpAny_isSame_ref_self (wpAny_bind (wpAny_pure ?_)))
          simp only [if_true]
          refine wp_if_neg (by simp [same]) ?_
          refine mset_seek R hx hu ek hKf hK hKb hin hout f (c + (q + 1)) _ rfl (by omega) (by omega) fun i0 p0 h0 hk0 => ?_
          obtain ⟨c', h1, h2, h3⟩ := ahead i0 p0 h0 hk0
          have h4 := notpast q hno i0 p0 h0 hk0 c' h1 h3
          refine ⟨c', ?_, h2, h3⟩
          rcases Nat.lt_or_ge (c + q) c' with z | z
          · omega
          · exfalso
            have ec : c' = c + q := Nat.le_antisymm z h4
            rw [ec] at h3
            have s0 := slot_live R.tab.ris h3
            rw [hsl] at s0
            injection s0 with s0
            rw [← s0, hp] at h0
            exact same ((congrArg Prod.snd (Option.some.inj h0)).trans hk0)
      by_cases hl : t.led = true
      · refine wp_if_neg (by simp [hl]) ?_
        try refine wpAny_bind (wpAny_pure ?_)
        exact go
      · refine wp_if_pos (by simp [hl]) ?_
        refine wpAny_bind (mt_seen hx (fun y hy => ?_) (wp_if_neg (by decide) ?_))
        · obtain ⟨e, he, ee⟩ := List.mem_map.mp hy
          have he1 : e ∈ es ∧ e.1 = hk := by simpa using he
          have he2 : e ∈ es.toList := by simpa using he1.1
          rw [R.rows] at he2
          obtain ⟨p2, hp2, e2⟩ := List.mem_map.mp he2
          exact ⟨p2.2, p2.1, by rw [← ee, ← e2], R.tup p2 hp2⟩
        · try refine wpAny_bind (wpAny_pure ?_)
          exact go
    · have met : t.probe (fun i => (es[i]?.map (·.1)).getD 0) hk (stand.getD (t.probeStart hk)) = some (.empty (way t.mask hk K) none) := by
        have e2 : way t.mask hk K = (nth t.mask (stp t.mask hk c) (K - c)).j := by
          rw [jj, show c + (K - c) = K by omega]
        rw [hst, e2]
        exact hpr
      rw [met]
      dsimp only
      refine wpAny_pure (hout fun hm => ?_)
      obtain ⟨p0, h0, hk0⟩ := List.mem_map.mp hm
      obtain ⟨i0, hi0, e0⟩ := List.getElem_of_mem h0
      have h00 : L[i0]? = some p0 := by rw [List.getElem?_eq_getElem hi0, e0]
      obtain ⟨c', h1, h2, h3⟩ := ahead i0 p0 h00 hk0
      have := notpast (K - c) hno i0 p0 h00 hk0 c' h1 h3
      omega
/-- the search when adding -/
theorem mset_search (R : MSet P w s.heap a L es ep t) {x : Addr} {k : List Key} (hx : MT P w s.heap k x) (hu : A.units < cLine) {Q : SetFound → Shared → Prop}
    (hin : k ∈ L.map (·.2) → Q (.there none) s)
    (hout : ∀ K, k ∉ L.map (·.2) → way t.mask (mh P w k) K ∉ t.place.toList → (∀ c, c < K → way t.mask (mh P w k) c ∈ t.place.toList) → Q (.free (way t.mask (mh P w k) K) false) s) :
    wpAny (model P w) A (setSearch a (.ref x) (mh P w k) true) Q E s := by
  have hroom := R.room
  obtain ⟨K, hKf, hK, hKb⟩ := R.tab.first (by rw [List.length_map]; omega) (mh P w k)
  have hbig : K < 100000 := by
    have : 10 * SetTable.turns t.mask ≤ 1420 := by
      unfold SetTable.turns
      rcases R.tab.mok with e | e | e <;> omega
    omega
  unfold setSearch
  refine mset_seek R hx hu rfl hKf hK hKb hin (fun hn => hout K hn hK hKb) 100000 0 none rfl (Nat.zero_le _) (by omega) fun i p hp hk => ?_
  have hi : (L.map fun p => mh P w p.2)[i]? = some (mh P w k) := by rw [List.getElem?_map, hp, ← hk] <;> rfl
  have hil : i < t.place.toList.length := by
    have h1 : i < L.length := (List.getElem?_eq_some_iff.mp hp).1
    rw [Array.length_toList, R.psize]
    exact h1
  have hj := List.getElem?_eq_getElem hil
  obtain ⟨c, hc, e⟩ := R.tab.before hK hi hj
  exact ⟨c, Nat.zero_le _, hc, by rw [hj, e]⟩
end
end Ver

namespace Ver
open PySem PySem.Spec PyProof.Rows L2
section
variable {P : Program} {w : World} {A : Around} {E : Value → Shared → Prop} {s : Shared}
theorem mt_same {h h' : Heap} {k : List Key} {a b : Addr} {o : Obj} {es : Array (Int × Value)} {ep : Nat} {t : SetTable} (hb : MT P w h k b) (ho : h.get? a = some o) (hd : o.data = .set es ep t) (hs : Heap.SameBut a h h') : MT P w h' k b := by
  obtain ⟨o', its, n, ho', hc, hd', hi⟩ := hb
  refine ⟨o', its, n, (hs.2 b fun e => ?_).trans ho', hc, hd', hi⟩
  rw [e, ho] at ho'
  cases ho'
  rw [hd] at hd'
  exact nomatch hd'
theorem mt_keep {h h' : Heap} {k : List Key} {b : Addr} (x : MT P w h k b) (hk : ∀ c o, h.get? c = some o → h'.get? c = some o) : MT P w h' k b :=
  let ⟨o, its, n, ho, r⟩ := x
  ⟨o, its, n, hk b o ho, r⟩
/-- the rows that an order of places picks -/
theorem rowsM_order (L : List KA) (es : Array (Int × Value)) (hr : es.toList = rowsM P w L) (ord : List Nat) (hp : ord.Perm (List.range L.length)) :
    ∃ L2 : List KA, ord.filterMap (fun i => es[i]?) = rowsM P w L2 ∧ L2.Perm L ∧ (L2.map fun p => mh P w p.2) = ord.map fun i => (es.map (·.1)).getD i 0 := by
  have ent : ∀ i, es[i]? = (L[i]?).map fun (p : KA) => (mh P w p.2, Value.ref p.1) := fun i => by
    rw [← Array.getElem?_toList, hr]
    unfold rowsM
    exact List.getElem?_map ..
  refine ⟨ord.filterMap (fun i => L[i]?), ?_, ?_, ?_⟩
  · unfold rowsM
    rw [List.map_filterMap]
    exact congrArg (fun f => ord.filterMap f) (funext fun i => ent i)
  · refine (hp.filterMap _).trans (List.Perm.of_eq ?_)
    have key : ∀ n, n ≤ L.length → (List.range n).filterMap (fun i => L[i]?) = L.take n := by
      intro n
      induction n with
      | zero => exact fun _ => rfl
      | succ n ih =>
        intro hn
        rw [List.range_succ, List.filterMap_append, ih (Nat.le_of_lt hn), take_next (List.getElem?_eq_getElem hn), List.filterMap_cons_some (List.getElem?_eq_getElem hn)] <;> rfl
    rw [key _ (Nat.le_refl _), List.take_length]
  · have all : ∀ i ∈ ord, i < L.length := fun i hi => List.mem_range.mp (hp.mem_iff.mp hi)
    clear hp
    induction ord with
    | nil => rfl
    | cons i ord ih =>
      have hi := all i List.mem_cons_self
      rw [List.filterMap_cons_some (List.getElem?_eq_getElem hi), List.map_cons, List.map_cons, ih fun j hj => all j (List.mem_cons_of_mem _ hj)]
      congr 1
      have e5 : (es.map (·.1))[i]? = some (mh P w (L[i]).2) := by rw [Array.getElem?_map, ent i, List.getElem?_eq_getElem hi] <;> rfl
      simp [Array.getD_eq_getD_getElem?, e5]
variable {a : Addr} {L : List KA} {es : Array (Int × Value)} {ep : Nat} {t : SetTable}
/-- the table laid anew -/
theorem mset_relay {o : Obj} (ho : s.heap.get? a = some o) (hex : o.ExactSet) (hd : o.data = .set es ep t) (hrows : es.toList = rowsM P w L) (hsz : t.place.size = es.size) (hdm : t.dummies = #[]) (hfl : es.size ≤ t.mask)
    (nd : (L.map (·.2)).Nodup) (tup : ∀ p ∈ L, MT P w s.heap p.2 p.1) (ld : w.params.followText "set-order" = true ∨ t.led = true) (few : L.length < 64) {wanted M : Nat}
    (hw : SetTable.sizeAbove wanted - 1 = M) (hM : MaskOk M) (hw2 : SetTable.sizeAbove wanted ≤ 128) (hn : L.length * 5 < M * 3) {Q : Unit → Shared → Prop}
    (hQ : ∀ h' L' es' ep' t', Heap.SameBut a s.heap h' → MSet P w h' a L' es' ep' t' → L'.Perm L → Q () { s with heap := h' }) : wpAny (model P w) A (setRelay a wanted) Q E s := by
  have hsl := rowsM_size hrows
  have hfits : t.fits es.size = true := fits_of hsz hdm hfl
  obtain ⟨t', order, e, hp, T, em, el, _, ed⟩ := relaid_ok t (hs := es.map (·.1)) (wanted := wanted) hw hM (by rw [Array.size_map, hsl]; omega)
  rw [Array.size_map, hsl] at hp
  obtain ⟨L2, r1, r2, r3⟩ := rowsM_order L es hrows order.toList hp
  rw [← r3] at T
  have r1' : (order.filterMap (es[·]?)).toList = rowsM P w L2 := by first | (rw [Array.toList_filterMap]; exact r1) | simpa using r1
  have hs2 : (order.filterMap (es[·]?)).size = es.size := by rw [rowsM_size r1', r2.length_eq, hsl]
  rw [setRelay_eq]
  refine wpAny_bind (wpAny_setState_of ho hd hfits ?_)
  dsimp only
  refine wp_if_neg (by rw [sizeLine_eq]; omega) ?_
  try refine wpAny_bind (wpAny_pure ?_)
  rw [e]
  dsimp only
  refine wpAny_bind (wp_if_neg (by rw [hs2]; simp) ?_)
  try refine wpAny_bind (wpAny_pure ?_)
  refine wpAny_pure ?_
  dsimp only
  refine wpAny_storeSet_of ho hd ?_ (by rw [hs2, hsl, sizeLine_eq]; omega)
  have sb : Heap.SameBut a s.heap (s.heap.update a (Obj.putSet (order.filterMap (es[·]?)) t')) := Heap.SameBut.update ..
  refine hQ _ L2 (order.filterMap (es[·]?)) (ep + 1) t' sb ⟨⟨_, store_at ho hd, ⟨hex.1, hex.2.1, hex.2.2⟩, rfl⟩, r1', T, ?_, fun p hpm => mt_same (tup p (r2.mem_iff.mp hpm)) ho hd sb, by rw [el]; exact ld, ?_, by rw [r2.length_eq]; exact few⟩ r2
  · exact (r2.map (·.2)).nodup_iff.mpr nd
  · rw [r2.length_eq, em]
    exact hn
theorem tabOk_plain {t : SetTable} {hs : List Int} (T : TabOk t hs) (b : Bool) : TabOk { t with plain := b } hs := ⟨T.ris, T.dm, T.sz, T.mok, T.bd, T.reach⟩
set_option maxHeartbeats 8000000 in
/-- one more into the set -/
theorem mset_add (R : MSet P w s.heap a L es ep t) {x : Addr} {k : List Key} (hx : MT P w s.heap k x) (hu : A.units < cLine) (hfew : L.length + 1 < 64) {Q : Bool → Shared → Prop}
    (hQ : ∀ b h' L' es' ep' t', Heap.SameBut a s.heap h' → MSet P w h' a L' es' ep' t' → (k ∈ L.map (·.2) → L' = L) → (k ∉ L.map (·.2) → L'.Perm ((x, k) :: L)) → Q b { s with heap := h' }) :
    wpAny (model P w) A (setAddHashed a (.ref x) (mh P w k)) Q E s := by
  obtain ⟨o, ho, hex, hd⟩ := R.ob
  have hsl := R.size
  have hroom := R.room
  unfold setAddHashed
  refine wpAny_holding ?_
  rw [show (100000 : Nat) = 99999 + 1 from rfl, setAddHashedIn_succ]
  refine wpAny_bind (wpAny_setState_of ho hd R.fits ?_)
  dsimp only
  refine wp_if_neg (by simp [byScan, Value.scannable]) ?_
  try refine wpAny_bind (wpAny_pure ?_)
  refine wpAny_bind (mset_search R hx hu (fun hm => ?_) fun K hm hK hb => ?_)
  · dsimp only
    exact wpAny_pure (hQ false s.heap L es ep t (Heap.SameBut.refl a s.heap) R (fun _ => rfl) fun z => absurd hm z)
  · dsimp only
    refine wpAny_bind (wpAny_setState_of ho hd R.fits ?_)
    dsimp only
    obtain ⟨q1, q2, q3, q4, q5, _, _, _, q9⟩ := R.tab.put hK hb
    generalize hpt : t.put (way t.mask (mh P w k) K) = pt at q1 q3 q4 q5 q9 ⊢
    obtain ⟨t1, p⟩ := pt
    dsimp only at q1 q3 q4 q5 q9 ⊢
    subst q1
    have hin : (SetTable.insertAt es (SetTable.below t.place (way t.mask (mh P w k) K)) (mh P w k, Value.ref x)).toList = rowsM P w (L.take (SetTable.below t.place (way t.mask (mh P w k) K)) ++ (x, k) :: L.drop (SetTable.below t.place (way t.mask (mh P w k) K))) := by
      rw [SetTable.toList_insertAt, R.rows]
      simp [rowsM, List.map_take, List.map_drop]
    generalize hpp : SetTable.below t.place (way t.mask (mh P w k) K) = p at q2 q3 hin ⊢
    have pm := put_perm L p (x, k)
    have hlen : (L.take p ++ (x, k) :: L.drop p).length = L.length + 1 := pm.length_eq
    have hhs : (L.take p ++ (x, k) :: L.drop p).map (fun p => mh P w p.2) = (L.map fun p => mh P w p.2).take p ++ mh P w k :: (L.map fun p => mh P w p.2).drop p := by
      rw [List.map_append, List.map_cons, List.map_take, List.map_drop]
    rw [← hhs] at q3
    have nd1 : ((L.take p ++ (x, k) :: L.drop p).map (·.2)).Nodup := by
      refine (pm.map (·.2)).nodup_iff.mpr ?_
      rw [List.map_cons]
      exact List.nodup_cons.mpr ⟨hm, R.nd⟩
    have hes := rowsM_size hin
    rw [hlen] at hes
    generalize SetTable.insertAt es p (mh P w k, Value.ref x) = es1 at hin hes ⊢
    generalize L.take p ++ (x, k) :: L.drop p = L1 at pm hlen q3 nd1 hin
    rw [List.length_map] at q9
    -- whatever is known of the table's hashes, what follows is the same
    have fin : ∀ b : Bool, wpAny (model P w) A (do
          let t := if b = true then t1 else { t1 with plain := false }
          storeSet a es1 t
          if !false && t.tooFull then setRelay a (SetTable.grown (es.size + 1))
          return true) Q E s := by
      intro b
      dsimp only
      have f3 : TabOk (if b = true then t1 else { t1 with plain := false }) (L1.map fun p => mh P w p.2) := by
        cases b
        · exact tabOk_plain q3 false
        · exact q3
      have f4 : (if b = true then t1 else { t1 with plain := false }).mask = t.mask := by cases b <;> exact q4
      have f5 : (if b = true then t1 else { t1 with plain := false }).led = t.led := by cases b <;> exact q5
      have f9 : (if b = true then t1 else { t1 with plain := false }).fill = L.length + 1 := by cases b <;> exact q9
      generalize (if b = true then t1 else { t1 with plain := false }) = t2 at f3 f4 f5 f9 ⊢
      refine wpAny_bind (wpAny_storeSet_of ho hd ?_ (by rw [hes, sizeLine_eq]; omega))
      have sb : Heap.SameBut a s.heap (s.heap.update a (Obj.putSet es1 t2)) := Heap.SameBut.update ..
      have ho1 := store_at (es' := es1) (t' := t2) ho hd
      generalize s.heap.update a (Obj.putSet es1 t2) = h1 at sb ho1 ⊢
      have tup1 : ∀ p ∈ L1, MT P w h1 p.2 p.1 := fun p hp => by
        rcases List.mem_cons.mp (pm.mem_iff.mp hp) with e | hp
        · rw [e]; exact mt_same hx ho hd sb
        · exact mt_same (R.tup p hp) ho hd sb
      have ld1 : w.params.followText "set-order" = true ∨ t2.led = true := by rw [f5]; exact R.led
      by_cases hf : t2.tooFull = true
      · first
          | (refine wpAny_bind ?_; refine wp_if_pos (by simp [hf]) ?_)
          | (refine wp_if_pos (by simp [hf]) ?_; refine wpAny_bind ?_)
        have hfull : (L.length + 1) * 5 ≥ t2.mask * 3 := by
          have h := hf
          unfold SetTable.tooFull at h
          rw [decide_eq_true_eq, f9] at h
          exact h
        rw [hsl]
        have hsz1 : t2.place.size = es1.size := by
          have h := f3.sz
          rw [List.length_map, hlen] at h
          rw [h, hes]
        have cases2 : L.length = 4 ∨ L.length = 18 := by
          rcases R.tab.mok with e | e | e
          · left; rw [f4, e] at hfull; rw [e] at hroom; omega
          · right; rw [f4, e] at hfull; rw [e] at hroom; omega
          · exfalso; rw [f4, e] at hfull; omega
        have go : ∀ M, SetTable.sizeAbove (SetTable.grown (L.length + 1)) - 1 = M → MaskOk M → SetTable.sizeAbove (SetTable.grown (L.length + 1)) ≤ 128 → (L.length + 1) * 5 < M * 3 →
            wpAny (model P w) A (setRelay a (SetTable.grown (L.length + 1))) (fun _ s' => wpAny (model P w) A (pure true) Q E s') E { s with heap := h1 } := fun M g1 g2 g3 g4 =>
          mset_relay (s := { s with heap := h1 }) ho1 ⟨hex.1, hex.2.1, hex.2.2⟩ rfl hin hsz1 f3.dm (by rw [hes, f4]; omega) nd1 tup1 ld1 (by rw [hlen]; exact hfew) g1 g2 g3 (by rw [hlen]; exact g4)
            fun h2 L2 es2 ep2 t3 sb2 R2 pm2 => wpAny_pure (hQ true h2 L2 es2 ep2 t3 (sb.trans sb2) R2 (fun z => absurd z hm) fun _ => pm2.trans pm)
        rcases cases2 with e2 | e2
        · exact go 31 (by rw [e2, size_20]) (.inr (.inl rfl)) (by rw [e2, size_20]; decide) (by omega)
        · exact go 127 (by rw [e2, size_76]) (.inr (.inr rfl)) (by rw [e2, size_76]; decide) (by omega)
      · first
          | refine wp_if_neg (by simp [hf]) ?_
          | (refine wpAny_bind ?_; refine wp_if_neg (by simp [hf]) ?_; refine wpAny_pure ?_)
        refine wpAny_pure (hQ true h1 L1 es1 (ep + 1) t2 sb ⟨⟨_, ho1, ⟨hex.1, hex.2.1, hex.2.2⟩, rfl⟩, hin, f3, nd1, tup1, ld1, ?_, by rw [hlen]; exact hfew⟩ (fun z => absurd z hm) fun _ => pm)
        have h := hf
        unfold SetTable.tooFull at h
        rw [decide_eq_true_eq, f9] at h
        rw [hlen]
        omega
    by_cases hpl : t1.plain = true
    · first
        | exact wp_if_pos hpl (wpAny_bind (mt_hashBy hx fun b => fin b))
        | exact wpAny_bind (wp_if_pos hpl (mt_hashBy hx fun b => fin b))
    · first
        | exact wp_if_neg hpl (wpAny_bind (wpAny_pure (fin true)))
        | exact wpAny_bind (wp_if_neg hpl (wpAny_pure (fin true)))
end
end Ver

namespace Ver
open PySem PySem.Spec PyProof.Rows L2
theorem mset_fresh {P : Program} {w : World} {h : Heap} {a : Addr} (ho : h.get? a = some (newS w)) : MSet P w h a [] #[] 0 (.fresh 0 0 (!w.params.followText "set-order")) where
  ob := ⟨_, ho, ⟨rfl, rfl, rfl⟩, rfl⟩
  rows := rfl
  tab := ⟨List.Pairwise.nil, rfl, rfl, .inl rfl, fun x hx => (by cases hx), fun i h j hi => (by simp at hi)⟩
  nd := List.nodup_nil
  tup := fun p hp => (by cases hp)
  led := by
    show _ ∨ (!w.params.followText "set-order") = true
    cases w.params.followText "set-order" <;> simp
  room := by
    show 0 * 5 < 7 * 3
    decide
  few := by
    show 0 < 64
    decide
/-- the set at a, its tuples not asked for -/
def MSet0 (P : Program) (w : World) (h : Heap) (a : Addr) (L : List KA) : Prop :=
  ∃ es ep t, (∃ o, h.get? a = some o ∧ o.ExactSet ∧ o.data = .set es ep t) ∧ es.toList = rowsM P w L ∧ TabOk t (L.map fun p => mh P w p.2) ∧ (L.map (·.2)).Nodup ∧
    (w.params.followText "set-order" = true ∨ t.led = true) ∧ L.length * 5 < t.mask * 3 ∧ L.length < 64
def MSetO (P : Program) (w : World) (a : Addr) (L : List KA) : HO := .ext fun h => MSet0 P w h a L
section
variable {P : Program} {w : World} {A : Around} {E : Value → Shared → Prop} {s : Shared} {a : Addr} {L : List KA} {es : Array (Int × Value)} {ep : Nat} {t : SetTable}
theorem MSet.zero {h : Heap} (R : MSet P w h a L es ep t) : MSet0 P w h a L := ⟨es, ep, t, R.ob, R.rows, R.tab, R.nd, R.led, R.room, R.few⟩
theorem MSet0.full {h : Heap} (R : MSet0 P w h a L) (ht : ∀ p ∈ L, MT P w h p.2 p.1) : ∃ es ep t, MSet P w h a L es ep t :=
  let ⟨es, ep, t, h1, h2, h3, h4, h5, h6, h7⟩ := R
  ⟨es, ep, t, h1, h2, h3, h4, ht, h5, h6, h7⟩
theorem msetO_new {H : Hp} {h : Heap} (R : MSet0 P w h a L) : ObjOk P w H h a (MSetO P w a L) := by
  have ⟨_, _, _, ⟨o, ho, _⟩, _⟩ := R
  exact ⟨R, ⟨o, ho⟩, fun h1 h2 ⟨es', ep', t', ⟨o', ho', r'⟩, q'⟩ k => ⟨es', ep', t', ⟨o', k o' ho', r'⟩, q'⟩⟩
/-! ### sorted -/
/-- a key as it is compared -/
def ordK : Key → Int ⊕ List Nat
  | .inl i => .inl i
  | .inr x => .inr x.cps.toList
def ltK (x y : List Key) : Bool := lexLt itemOrd (x.map ordK) (y.map ordK)
/-- which places are texts -/
def ShapeK (shape : Nat → Bool) : Nat → List Key → Prop
  | _, [] => True
  | i, .inl _ :: ks => shape i = false ∧ ShapeK shape (i + 1) ks
  | i, .inr _ :: ks => shape i = true ∧ ShapeK shape (i + 1) ks
theorem items_shape {shape : Nat → Bool} : ∀ {ks : List Key} {vs : List Value} (i : Nat), ItemsAre (mixKind P w) ks vs → ShapeK shape i ks → tupItems shape i vs = some (ks.map ordK)
  | [], [], i, _, _ => by simp [tupItems]
  | .inl n :: ks, v :: vs, i, .cons h t, ⟨e, r⟩ => by
    obtain ⟨tk, rfl⟩ := Value.isInt_shape (show Value.isInt n v = true from h)
    simp [tupItems, e, items_shape (i + 1) t r, ordK]
  | .inr x :: ks, v :: vs, i, .cons h t, ⟨e, r⟩ => by
    have h' : Value.isStrOf x v = true := h
    cases v with
    | str y tk =>
      have : y = x := by simpa [Value.isStrOf] using h'
      subst this
      simp [tupItems, e, items_shape (i + 1) t r, ordK]
    | _ => simp [Value.isStrOf] at h'
theorem mt_key {h : Heap} {shape : Nat → Bool} {k : List Key} {b : Addr} (x : MT P w h k b) (sh : ShapeK shape 0 k) : G.tupKeyC h shape (.ref b) = some (k.map ordK) := by
  obtain ⟨o, its, n, ho, hc, hd, hi⟩ := x
  have : tupKey h shape (.ref b) = some (k.map ordK) := by
    simp only [tupKey, ho, hd]
    exact items_shape 0 hi sh
  unfold G.tupKeyC
  rw [if_pos (by simp [G.isTupObj, ho, hc])]
  exact this
theorem mt_tupOf {h : Heap} {shape : Nat → Bool} {k : List Key} {b : Addr} (x : MT P w h k b) (sh : ShapeK shape 0 k) (ne : k ≠ []) : ∃ f, TupOf h shape (.ref b) f := by
  obtain ⟨o, its, n, ho, hc, hd, hi⟩ := x
  cases k with
  | nil => exact absurd rfl ne
  | cons y ks =>
    generalize hv : its.toList = vs at hi
    cases hi with
    | @cons _ v _ vs' h1 h2 =>
      have f0 : its[0]? = some v := by rw [← Array.getElem?_toList, hv] <;> rfl
      refine ⟨v, b, o, its, n, rfl, ho, hc, hd, f0, fun e => ?_, fun e => ?_⟩
      · cases y with
        | inl i =>
          obtain ⟨tk, rfl⟩ := Value.isInt_shape (show Value.isInt i v = true from h1)
          exact ⟨_, _, rfl⟩
        | inr z =>
          have := sh.1
          rw [e] at this
          cases this
      · cases y with
        | inl i =>
          have := sh.1
          rw [e] at this
          cases this
        | inr z =>
          have h' : Value.isStrOf z v = true := h1
          cases v with
          | str q tk => exact ⟨_, _, rfl⟩
          | _ => simp [Value.isStrOf] at h'
theorem refs_perm (one : ∀ q ∈ L, ∀ r ∈ L, q.1 = r.1 → q = r) (nd : L.Nodup) : ∀ (out : List Value), out.Perm (L.map fun q => Value.ref q.1) → ∃ L' : List KA, out = L'.map (fun q => Value.ref q.1) ∧ L'.Perm L := by
  intro out pm
  have ord : ∀ vs : List Value, (∀ v ∈ vs, ∃ q ∈ L, v = Value.ref q.1) → ∃ L1 : List KA, vs = L1.map (fun q => Value.ref q.1) ∧ ∀ q ∈ L1, q ∈ L := by
    intro vs
    induction vs with
    | nil => exact fun _ => ⟨[], rfl, fun q hq => by cases hq⟩
    | cons v vs ih =>
      intro hv
      obtain ⟨q, hq, e⟩ := hv v List.mem_cons_self
      obtain ⟨L1, e1, hs⟩ := ih fun u hu => hv u (List.mem_cons_of_mem _ hu)
      refine ⟨q :: L1, by rw [List.map_cons, e, e1], fun r hr => ?_⟩
      rcases List.mem_cons.mp hr with z | z
      · rw [z]; exact hq
      · exact hs r z
  obtain ⟨L', e, hs⟩ := ord out fun v hv => by
    obtain ⟨q, hq, e⟩ := List.mem_map.mp (pm.mem_iff.mp hv)
    exact ⟨q, hq, e.symm⟩
  subst e
  refine ⟨L', rfl, ?_⟩
  have nref : (L.map fun q => Value.ref q.1).Nodup := List.pairwise_map.mpr (List.Pairwise.imp_of_mem (fun {q r} hq hr hne z => by
    injection z with z
    exact hne (one q hq r hr z)) nd)
  refine (List.perm_ext_iff_of_nodup (nodup_of_map (pm.nodup_iff.mpr nref)) nd).mpr fun q => ⟨hs q, fun hq => ?_⟩
  obtain ⟨r, hr, e⟩ := List.mem_map.mp (pm.mem_iff.mpr (List.mem_map.mpr ⟨q, hq, rfl⟩))
  injection e with e
  rw [← one r (hs r hr) q hq e]
  exact hr
theorem sorted_mset {shape : Nat → Bool} {Q : Value → Shared → Prop} (R : MSet P w s.heap a L es ep t) (hh : A.handled = none) (hsh : ∀ p ∈ L, ShapeK shape 0 p.2 ∧ p.2 ≠ [])
    (hQ : ∀ s' p (out : Array Value) (c : Nat) (L' : List KA), (∀ b o, s.heap.get? b = some o → s'.heap.get? b = some o) → s'.gens = s.gens → s'.os = s.os → s.heap.objs.size ≤ p →
      s'.heap.get? p = some (seqObj "list" out c) → out.toList = L'.map (fun q => Value.ref q.1) → L'.Perm L → L'.Pairwise (fun q r => ltK r.2 q.2 = false) → Q (.ref p) s') :
    wpAny (model P w) A (call (.builtin "sorted") [.ref a]) Q E s := by
  obtain ⟨o, ho, hex, hd⟩ := R.ob
  have hsz := R.size
  have hfew := R.few
  refine Calls.call_function_entry kind_sorted plain_sorted entry_sorted (args_sorted1 _) ?_
  unfold Builtin.«sorted»
  refine wpAny_bind (m := checkCount "sorted" 1 1 _) (wpAny_pure (wpAny_bind (collect_set (A := A.in1) hh ⟨o, ho, hex.1, hd⟩ R.fits (by unfold scanBound; omega) R.tab.ris R.led fun s1 vs k1 hz g1 o1 pm => ?_)))
  have hes : es.toList.map (·.2) = L.map fun q => Value.ref q.1 := by
    rw [R.rows]
    unfold rowsM
    rw [List.map_map] <;> rfl
  rw [hes] at pm
  have one : ∀ q ∈ L, ∀ r ∈ L, q.1 = r.1 → q = r := fun q hq r hr e => by
    have a1 := R.tup q hq
    rw [e] at a1
    exact Prod.ext e (a1.inj (R.tup r hr))
  have nL : L.Nodup := nodup_of_map R.nd
  have hvl : vs.length ≤ sizeLine := by rw [pm.length_eq, List.length_map, sizeLine_eq]; omega
  refine wpAny_bind (wpAny_newList ?_ hvl)
  have hoL : (s1.heap.push (seqObj "list" vs.toArray 0)).get? s1.heap.objs.size = some (seqObj "list" vs.toArray 0) := Heap.get?_push_size _ rfl
  have tk : ∀ q ∈ L, MT P w (s1.heap.push (seqObj "list" vs.toArray 0)) q.2 q.1 := fun q hq => mt_keep (R.tup q hq) fun b u e => Heap.get?_push_of_some _ (k1 b u e)
  have ofv : ∀ v ∈ vs, ∃ q ∈ L, v = Value.ref q.1 := fun v hv => by
    obtain ⟨q, hq, e⟩ := List.mem_map.mp (pm.mem_iff.mp hv)
    exact ⟨q, hq, e.symm⟩
  obtain ⟨fs, ht⟩ : ∃ fs, TupsOf (s1.heap.push (seqObj "list" vs.toArray 0)) shape vs fs := by
    clear pm hvl hoL
    have all : ∀ v ∈ vs, ∃ f, TupOf (s1.heap.push (seqObj "list" vs.toArray 0)) shape v f := fun v hv => by
      obtain ⟨q, hq, rfl⟩ := ofv v hv
      exact mt_tupOf (tk q hq) (hsh q hq).1 (hsh q hq).2
    generalize s1.heap.push (seqObj "list" vs.toArray 0) = h1 at all
    clear ofv tk
    induction vs with
    | nil => exact ⟨[], .nil⟩
    | cons v vs ih =>
      obtain ⟨f, hf⟩ := all v List.mem_cons_self
      obtain ⟨fs, hfs⟩ := ih fun u hu => all u (List.mem_cons_of_mem _ hu)
      exact ⟨f :: fs, .cons hf hfs⟩
  refine wpAny_bind (wpAny_holding (wpAny_call_entry (s := { s1 with heap := s1.heap.push (seqObj "list" vs.toArray 0) }) slot_list_sort ⟨_, hoL, rfl⟩ entry_list_sort (G.list_sort_tups (shape := shape) hoL ht (fun v hv => ?_) hvl fun st' hp hs _ => ⟨_, rfl, ?_⟩) (args_list_sort _)))
  · obtain ⟨q, hq, rfl⟩ := ofv v hv
    exact ⟨_, mt_key (tk q hq) (hsh q hq).1⟩
  have hl : (arrOf st').toList.Perm (vs.zip vs) := by rw [← pairsOf_toList]; exact Array.perm_iff_toList_perm.mp hp
  have eqs : ∀ p, p ∈ (arrOf st').toList → p.1 = p.2 ∧ p.1 ∈ vs := fun p hp' => mem_zip_self (hl.mem_iff.mp hp')
  have eo : ((arrOf st').map (·.2)).toList = (arrOf st').toList.map (·.2) := Array.toList_map ..
  have po : ((arrOf st').map (·.2)).toList.Perm vs := by
    rw [eo]
    refine (hl.map (·.2)).trans ?_
    rw [List.map_snd_zip (Nat.le_refl _)]
  obtain ⟨L', e', pL⟩ := refs_perm one nL _ (po.trans pm)
  obtain ⟨c, hc⟩ := sortedHeap_at (vs := vs) (out := (arrOf st').map (·.2)) hoL
  refine wpAny_pure ⟨_, rfl, hQ _ s1.heap.objs.size _ c L' (fun b u e => ?_) g1 o1 hz hc e' pL ?_⟩
  · have q := k1 b u e
    have lt := Heap.lt_size q
    refine (sortedHeap_old (Nat.ne_of_lt lt) (by rw [size_push']; exact Nat.lt_succ_of_lt lt)).trans ?_
    exact Heap.get?_push_of_some _ q
  · rw [List.pairwise_iff_getElem]
    intro i j hi hj hij
    have zL : L'.length = (arrOf st').size := by
      have := congrArg List.length e'
      simpa using this.symm
    have at_ : ∀ (i : Nat) (h : i < L'.length), KK (G.tupKindC (s1.heap.push (seqObj "list" vs.toArray 0)) shape) (arrOf st') i = (L'[i]).2.map ordK := fun i h => by
      have h' : i < (arrOf st').size := by rw [← zL]; exact h
      have m := eqs (arrOf st')[i] (by simp)
      have e2 : ((arrOf st').map (·.2)).toList[i]? = some (Value.ref (L'[i]).1) := by rw [e']; simp [h]
      have e3 : ((arrOf st')[i]).2 = Value.ref (L'[i]).1 := by
        rw [Array.getElem?_toList, Array.getElem?_map, Array.getElem?_eq_getElem h'] at e2
        exact Option.some.inj e2
      have mem : L'[i] ∈ L := pL.mem_iff.mp (List.getElem_mem h)
      unfold KK
      rw [Array.getElem?_eq_getElem h']
      dsimp only
      rw [m.1, e3]
      show (G.tupKeyC _ shape (Value.ref (L'[i]).1)).getD _ = _
      rw [mt_key (tk _ mem) (hsh _ mem).1]
      rfl
    have h1 := hs i j (Nat.le_of_lt hij) (by rw [← hp.size_eq, ← zL]; exact hj)
    rw [at_ i hi, at_ j hj] at h1
    exact h1
end
end Ver

/-! Set comprehensions over any kind of set; sets of tuples in the layer. -/
namespace Ver
open PySem PySem.Spec PyProof.Rows L2
/-- what adding asks, in any context like X -/
def AddOk (X : Cx) (Add : Addr → V → Hp → (Hp → Prop) → Prop) : Prop :=
  ∀ (Y : Cx), Y.prog = X.prog → Y.w = X.w → Y.K = X.K → Y.A = X.A → ∀ pins σ H s D y z Nx, Inv Y pins σ H s → RelV y z → Add D y H Nx →
    wpAny (model Y.prog Y.w) Y.A (call (.builtin "set.add") [.ref D, z]) (fun _ s' => ∃ H', Inv Y pins σ H' s' ∧ Nx H') Y.xe s
/-- {elt for target in iter if ..} into a set that begins as ob -/
def tScG (ob : Addr → HO) (Add : Addr → V → Hp → (Hp → Prop) → Prop) (wi : TI) (g : TG) (tt : TT) (te : TE) (vs : List Nat) : TE := fun σ H Q => wi σ H fun J H1 => ∀ D, H1 D = none → ∃ W : Nat → Nat → Hp → Prop, (∃ m, W 0 m (upd H1 D (ob D))) ∧ ∀ i m H, W i m H →
  (J.stop i H ∧ Q (.ref D) H) ∨ (J.go i H ∧ ∃ Nx : Hp → Prop, (∀ H', Nx H' → ∃ m', m' < m ∧ W (i + 1) m' H') ∧ ∀ x H', J.yld i H x H' → g x (wipe σ vs) H' fun σ2 H2 => wipe σ2 vs = wipe σ vs ∧ tt σ2 H2 fun b H3 =>
    if b = true then te σ2 H3 fun y H4 => Add D y H4 Nx else Nx H3)
section
variable {X : Cx}
set_option maxHeartbeats 8000000 in
theorem scG_core {ob : Addr → HO} {Add : Addr → V → Hp → (Hp → Prop) → Prop} {pins : List (Addr × Obj)} {s : Shared} {σ : L2.St} {H : Hp} {Q : VK} {elt tg iter : Expr} {ifs : List Expr} {scope : Scope} {own : List (PySem.Str × Nat)} {pos pos' : Pos} {wi : TI} {g : TG} {tt : TT} {te : TE} {use : Option (Value → Sem Unit)} {Qf : Value → Shared → Prop}
    (hob : ∀ (H : Hp) (h : Heap) (a : Addr), h.get? a = some (newS X.w) → ObjOk X.prog X.w H h a (ob a)) (hadd : AddOk X Add)
    (hc : X.calm = true) (hN : X.N.Nodup) (I : Inv X pins σ H s) (hi : PI X tg iter wi) (ok : BlkOk X.N X.env.scope scope own)
    (hg : ∀ (s : Shared) (H : Hp) (C : Addr) (cl : List (PySem.Str × Addr)) (fp : List Addr), PG (X.blk s H scope (compEnvC scope cl C X.env) fp) tg g) (ht : ∀ (s : Shared) (H : Hp) (C : Addr) (cl : List (PySem.Str × Addr)) (fp : List Addr), PTs (X.blk s H scope (compEnvC scope cl C X.env) fp) ifs tt)
    (he : ∀ (s : Shared) (H : Hp) (C : Addr) (cl : List (PySem.Str × Addr)) (fp : List Addr), PE (X.blk s H scope (compEnvC scope cl C X.env) fp) elt te) (hs : ∀ x, foldedSetIterable iter X.env x = pure x)
    (h : tScG ob Add wi g tt te (own.map (·.2)) σ H Q)
    (hRR : ∀ D C s' m H', Inv X pins σ H' s' → Q (.ref D) H' → s'.heap.Ns C m → FpOk X pins H' C → compPost (model X.prog X.w) X.A X.xe use Qf (.ref D) C (.ok .next) s') :
    wpAny (model X.prog X.w) X.A (comprehension (.SetComp elt [⟨tg, iter, ifs, 0⟩] scope pos) scope X.env pos' (newSet (.type "set")) false (eval iter X.env) use) Qf X.xe s := by
  have hfree : ∀ y ∈ scope.names, y.2 = .free → ∃ c, X.env.cells.lookup y.1 = some c := fun y hy e =>
    (ok.free y hy e).elim (fun k => I.ok.has _ (.inl k)) fun k => I.ok.has _ (.inr k)
  refine wpAny_comprehension_free (use := use) rfl hs (closure_ok hfree) ok.kind (fun y hy e => by rw [ok.uniq y hy, e])
    (thn (hi.run pins s σ H _ I h) fun xv s1 hx => thn hx fun itv s2 h2 => ?_)
  obtain ⟨it, fp, tn, J, H2, e, I2, T, st2, f2, q⟩ := h2
  subst e
  refine PpSet.newSet_ok (newEnv_comp ?_)
  generalize hD : s2.heap.objs.size = D
  have hDn : H2 D = none := I2.hok.fresh (Nat.le_of_eq hD)
  obtain ⟨W, ⟨m0, w0⟩, turn⟩ := q D hDn
  generalize hs3 : ({ s2 with heap := s2.heap.push (newS X.w) } : Shared) = s3
  have h3 : s3.heap = s2.heap.push (newS X.w) := by rw [← hs3]
  have I3 : Inv X pins σ (upd H2 D (ob D)) s3 := by
    rw [← hs3]
    refine I2.laid (t' := s2.toks) (fun b o e => Heap.get?_push_of_some _ e) (Nat.le_of_eq hD) (hob _ _ D ?_)
    rw [← hD]
    exact Heap.get?_push_size _ rfl
  have sz : ∀ b ∈ fp, b < s2.heap.objs.size := fun b hb => by
    obtain ⟨o, e, _⟩ := T.obj _ _ st2 b hb
    exact Heap.lt_size e
  have f3 : ∀ b ∈ fp, FpOk X pins (upd H2 D (ob D)) b ∧ b < s3.heap.objs.size := fun b hb => by
    have hlt := sz b hb
    refine ⟨⟨?_, (f2 b hb).2⟩, by rw [h3, Heap.size_push]; exact Nat.lt_succ_of_lt hlt⟩
    rw [upd_ne (by rw [← hD]; exact Nat.ne_of_lt hlt)]
    exact (f2 b hb).1
  have st3 : tn 0 s3.heap := T.keep _ _ _ st2 fun b _ o e => by rw [h3]; exact Heap.get?_push_of_some _ e
  have I4 := block_start I3 ok hN f3
  have pg := hg s3 (upd H2 D (ob D)) s3.heap.objs.size (cellsFrom (s3.heap.objs.size + 1) scope.names (cloFrom X.env.cells scope.names [])) fp
  have pt := ht s3 (upd H2 D (ob D)) s3.heap.objs.size (cellsFrom (s3.heap.objs.size + 1) scope.names (cloFrom X.env.cells scope.names [])) fp
  have pe := he s3 (upd H2 D (ob D)) s3.heap.objs.size (cellsFrom (s3.heap.objs.size + 1) scope.names (cloFrom X.env.cells scope.names [])) fp
  show codeAny _ _ (.compStart (.SetComp elt [⟨tg, iter, ifs, 0⟩] scope pos) 0 (.ref it) (.ref D) (compEnvC scope (cellsFrom (s3.heap.objs.size + 1) scope.names (cloFrom X.env.cells scope.names [])) s3.heap.objs.size X.env)) (compPost (model X.prog X.w) X.A X.xe use Qf (.ref D) s3.heap.objs.size) { s3 with heap := pushCells (s3.heap.push { cls := .type "dict", data := .dict #[] }) scope.names }
  have nfp : ∀ b ∈ fp, (upd H2 D (ob D)) b = none := fun b hb => (f3 b hb).1.1
  generalize hce : compEnvC scope (cellsFrom (s3.heap.objs.size + 1) scope.names (cloFrom X.env.cells scope.names [])) s3.heap.objs.size X.env = ce at I4 pg pt pe ⊢
  have cL : ce.locals = s3.heap.objs.size := by subst hce; rfl
  generalize hH3 : upd H2 D (ob D) = H3 at I3 I4 pg pt pe w0 nfp f3
  generalize hs4 : ({ s3 with heap := pushCells (s3.heap.push { cls := .type "dict", data := .dict #[] }) scope.names } : Shared) = s4 at I4 ⊢
  have st4 : tn 0 s4.heap := T.keep _ _ _ st3 fun b _ o e => by rw [← hs4]; exact pushCells_keeps _ _ _ _ (Heap.get?_push_of_some _ e)
  have stat : ∀ {σ' : L2.St} {H' : Hp} {s' : Shared}, Inv (X.blk s3 H3 scope ce fp) [] σ' H' s' → (∀ b ∈ fp, H' b = none) → ∀ b ∈ fp, FpOk (X.blk s3 H3 scope ce fp) [] H' b := fun {σ' H' s'} I' hn b hb =>
    ⟨hn b hb, (I'.ok.exf b hb).1, I'.ok.exfs b hb, .inl hb, fun x c e => (I'.ok.exf b hb).2 x c e, fun p hp => absurd (show p ∈ ([] : List (Addr × Obj)) ++ [] from hp) (by simp)⟩
  have loop : codeAny (model X.prog X.w) X.A (.compLoop (.SetComp elt [⟨tg, iter, ifs, 0⟩] scope pos) 0 (.ref it) (.ref D) ce) (compPost (model X.prog X.w) X.A X.xe use Qf (.ref D) s3.heap.objs.size) s4 := by
    refine PpSet.compLoopS_any (fun n s' => ∃ i H', Inv (X.blk s3 H3 scope ce fp) [] (wipe σ (own.map (·.2))) H' s' ∧ tn i s'.heap ∧ (∀ b ∈ fp, H' b = none) ∧ W i n H') ?_ m0 ⟨0, H3, I4, st4, nfp, w0⟩
    rintro n s5 ⟨i, H5, I5, st5, n5, w5⟩
    rcases turn i n H5 w5 with ⟨stop, qq⟩ | ⟨go, Nx, hNx, step⟩
    · refine thnF (T.done (X.blk s3 H3 scope ce fp) rfl rfl rfl hc i [] s5 _ H5 (fun _ _ => False) I5 (stat I5 n5) st5 stop) fun r s6 ⟨hr, I6⟩ => ?_
      subst hr
      have I7 : Inv X pins σ H5 s6 := I3.call' (ch := fp) I6.os I6.base I6.hok I6.bare fun b hb => ⟨(f3 b hb).1.2.2.2.1, (f3 b hb).1.2.1, (f3 b hb).1.2.2.2.2.1, (f3 b hb).1.2.2.2.2.2⟩
      have nC : H5 s3.heap.objs.size = none := by
        have z : H5 ce.locals = none := I6.free
        rwa [cL] at z
      obtain ⟨m, hn, _⟩ := I6.loc
      have hn : s6.heap.Ns ce.locals m := hn
      rw [cL] at hn
      exact hRR D s3.heap.objs.size s6 m H5 I7 qq hn (I3.fpOk (Nat.le_refl _) nC)
    · refine thnF (T.item (X.blk s3 H3 scope ce fp) rfl rfl rfl hc i [] s5 _ H5 (fun _ _ => False) I5 (stat I5 n5) st5 go) fun r s6 ⟨u, hr, h6⟩ => ?_
      subst hr
      refine thnF h6 fun _ s7 ⟨x, H7, I7, r7, y7, st7, n7⟩ => ?_
      refine thnF (pg.run _ s7 _ H7 x u _ (I7.pinned (stat I7 n7) (T.obj _ _ st7)) r7 (step x H7 y7)) fun _ s8 ⟨σ8, H8, I8, hw8, q8⟩ => ?_
      refine thnF (pt.run _ s8 σ8 H8 _ I8 q8) fun b s9 ⟨H9, I9, q9⟩ => ?_
      have fin : ∀ {s' : Shared} {H' : Hp}, Inv (X.blk s3 H3 scope ce fp) ([] ++ pinsAt fp s7.heap) σ8 H' s' → Nx H' → ∃ m, m < n ∧ ∃ i H', Inv (X.blk s3 H3 scope ce fp) [] (wipe σ (own.map (·.2))) H' s' ∧ tn i s'.heap ∧ (∀ b ∈ fp, H' b = none) ∧ W i m H' := fun {s' H'} I' nx => by
        obtain ⟨m', hm, w'⟩ := hNx H' nx
        have pin' : ∀ b ∈ fp, ∀ o, s7.heap.get? b = some o → s'.heap.get? b = some o ∧ H' b = none := fun b hb o e =>
          let z := I'.pin (b, o) (List.mem_append_right _ (List.mem_append_right _ (mem_pinsAt hb e)))
          ⟨z.1, z.2.1⟩
        have hl : (wipe σ (own.map (·.2))).length = σ8.length := by rw [← hw8, wipe_length]
        refine ⟨m', hm, i + 1, H', (I'.unpinned (pins := [])).weak hl (fun j v e => ?_), T.keep _ _ _ st7 fun b hb o e => (pin' b hb o e).1, fun b hb => ?_, w'⟩
        · rw [← hw8] at e
          exact (wipe_some e).1
        · obtain ⟨o, e, _⟩ := T.obj _ _ st7 b hb
          exact (pin' b hb o e).2
      cases b with
      | false =>
        simp only [Bool.false_eq_true, if_false] at q9 ⊢
        exact fin I9 q9
      | true =>
        simp only [if_true] at q9 ⊢
        refine thnF (pe.run _ s9 σ8 H9 _ I9 q9) fun z s10 ⟨yv, H10, I10, r10, ad⟩ => ?_
        exact thnF (hadd (X.blk s3 H3 scope ce fp) rfl rfl rfl rfl _ _ _ _ D yv z Nx I10 r10 ad) fun _ s11 ⟨H11, I11, nx⟩ => fin I11 nx
  exact PpSet.codeAny_compStart_set loop (T.self X.A 0 _ _ _ st4 loop)
theorem pe_scG {ob : Addr → HO} {Add : Addr → V → Hp → (Hp → Prop) → Prop} {elt tg iter : Expr} {ifs : List Expr} {scope : Scope} {own : List (PySem.Str × Nat)} {pos : Pos} {wi : TI} {g : TG} {tt : TT} {te : TE}
    (hob : ∀ (H : Hp) (h : Heap) (a : Addr), h.get? a = some (newS X.w) → ObjOk X.prog X.w H h a (ob a)) (hadd : AddOk X Add) (hc : X.calm = true) (hN : X.N.Nodup) (hi : PI X tg iter wi) (ok : BlkOk X.N X.env.scope scope own)
    (hg : ∀ (s : Shared) (H : Hp) (C : Addr) (cl : List (PySem.Str × Addr)) (fp : List Addr), PG (X.blk s H scope (compEnvC scope cl C X.env) fp) tg g) (ht : ∀ (s : Shared) (H : Hp) (C : Addr) (cl : List (PySem.Str × Addr)) (fp : List Addr), PTs (X.blk s H scope (compEnvC scope cl C X.env) fp) ifs tt)
    (he : ∀ (s : Shared) (H : Hp) (C : Addr) (cl : List (PySem.Str × Addr)) (fp : List Addr), PE (X.blk s H scope (compEnvC scope cl C X.env) fp) elt te) (hs : ∀ x, foldedSetIterable iter X.env x = pure x := by intro _; rfl) :
    PE X (.SetComp elt [⟨tg, iter, ifs, 0⟩] scope pos) (tScG ob Add wi g tt te (own.map (·.2))) := by
  refine ⟨fun pins s σ H Q I h => ?_⟩
  rw [PpSet.eval_SetComp]
  refine scG_core hob hadd hc hN I hi ok hg ht he hs h fun D C s' m H' I' q hn f => ⟨m, hn, fun h'' sb => ?_⟩
  obtain ⟨f0, f1, f2, f3, f4, f5⟩ := f
  exact ⟨.ref D, H', I'.turned (t' := s'.toks) (fun b o hb e => (sb.2 b hb).trans e) f0 f1 f3 f4 f5, rfl, q⟩
/-! ### sets of tuples -/
theorem isM {pins : List (Addr × Obj)} {σ : L2.St} {H : Hp} {s : Shared} {b : Addr} {k : List Key} (I : Inv X pins σ H s) (h : SqT X.K H b (k.map kV)) : MT X.prog X.w s.heap k b := by
  obtain ⟨its, r, ⟨o, ho, hc, n, hd⟩, _⟩ := I.tuple h
  exact ⟨o, its.toArray, n, ho, hc, hd, by simpa using items_are r⟩
/-- the tuple y goes into the set D -/
def AddM (K : PySem.W.Frag) (P : Program) (w : World) : Addr → V → Hp → (Hp → Prop) → Prop := fun D y H Nx => ∃ (q : Addr) (k : List Key) (L : List KA), y = .ref q ∧ SqT K H q (k.map kV) ∧ H D = some (MSetO P w D L) ∧ (∀ p ∈ L, SqT K H p.1 (p.2.map kV)) ∧ L.length + 1 < 64 ∧
  ∀ L', (k ∈ L.map (·.2) → L' = L) → (k ∉ L.map (·.2) → L'.Perm ((q, k) :: L)) → Nx (upd H D (MSetO P w D L'))
theorem addM_ok (hu : X.A.units + 64 < cLine) : AddOk X (AddM X.K X.prog X.w) := by
  intro Y e1 e2 e3 e4 pins σ H s D y z Nx I r h
  obtain ⟨q, k, L, rfl, hq, hD, hL, hf, nx⟩ := h
  cases r
  rw [← e1, ← e2] at hD nx
  rw [← e3] at hq hL
  rw [← e4] at hu
  have R0 : MSet0 Y.prog Y.w s.heap D L := (I.hok D _ hD).1
  obtain ⟨es, ep, t, R⟩ := R0.full fun p hp => isM I (hL p hp)
  obtain ⟨o, ho, hex, hd⟩ := R.ob
  have hx := isM I hq
  refine wpAny_call_entry F.slot_set_add ⟨o, ho, hex.1⟩ F.entry_set_add ?_ (F.args_set_add_2 _ _)
  unfold Builtin.«set.add» Builtin.Frozenset.oneOther
  simp only [List.isEmpty_nil, bind_assoc]
  unfold Builtin.Frozenset.addrOf setAdd
  refine wpAny_bind (wpAny_pure ?_)
  try dsimp only
  refine wpAny_bind (wpAny_pure ?_)
  try dsimp only
  refine wpAny_bind (wpAny_holding (wpAny_bind (wpAny_pyHash_tuple (by show Y.A.units + 1 < cLine; omega) hx ?_)))
  refine mset_add (s := { s with toks := s.toks + (k.length + 1) }) R hx (by show Y.A.units + 1 < cLine; omega) hf fun b h' L' es' ep' t' sb R' g1 g2 => ?_
  show wpAny _ _ (ret Value.none) _ _ _
  refine wpAny_pure ⟨_, rfl, _, I.write (e := D) (t' := s.toks + (k.length + 1)) (by rw [hD]; trivial) (.inl rfl) (fun b u hb hu => (sb.2 b hb).trans hu) ?_ (msetO_new R'.zero), nx L' g1 g2⟩
  obtain ⟨o', ho', _⟩ := R'.ob
  exact ⟨o', ho'⟩
theorem msetO_fresh (H : Hp) (h : Heap) (a : Addr) (ho : h.get? a = some (newS X.w)) : ObjOk X.prog X.w H h a (MSetO X.prog X.w a []) := msetO_new (mset_fresh ho).zero
/-- sorted(set of such tuples) -/
def rSortedM (K : PySem.W.Frag) (P : Program) (w : World) (shape : Nat → Bool) : List V → Hp → VK → Prop := fun vs H Q => ∃ (a : Addr) (L : List KA), vs = [V.ref a] ∧ H a = some (MSetO P w a L) ∧ (∀ p ∈ L, SqT K H p.1 (p.2.map kV)) ∧ (∀ p ∈ L, ShapeK shape 0 p.2 ∧ p.2 ≠ []) ∧
  ∀ (L' : List KA) (p : Addr), L'.Perm L → (L'.map (·.2)).Nodup → L'.Pairwise (fun q r => ltK r.2 q.2 = false) → H p = none → Q (.ref p) (upd H p (.lst (L'.map fun q => V.ref q.1)))
theorem cr_sortedM (shape : Nat → Bool) (hc : X.calm = true) : CallR X (.builtin "sorted") (rSortedM X.K X.prog X.w shape) := by
  intro pins s σ H vs us Q I r h
  obtain ⟨a, L, rfl, ha, hk, hsh, q⟩ := h
  have R0 : MSet0 X.prog X.w s.heap a L := (I.hok a _ ha).1
  obtain ⟨es, ep, t, R⟩ := R0.full fun p hp => isM I (hk p hp)
  rw [Vals.ref1 r]
  refine sorted_mset R (I.ok.hd hc) hsh fun s' p out c L' k g o hp hg hout pm pw => ?_
  have hfew := R.few
  have hlen : (L'.map fun q => V.ref q.1).length ≤ sizeLine := by rw [List.length_map, pm.length_eq, sizeLine_eq]; omega
  have hn : H p = none := I.hok.fresh hp
  have hv : ∀ l : List KA, Vals (l.map fun q => V.ref q.1) (l.map fun q => Value.ref q.1) := fun l => by
    induction l with
    | nil => exact .nil
    | cons x l ih => exact .cons rfl ih
  have J : Inv X pins σ (upd H p (.lst (L'.map fun q => V.ref q.1))) { s with heap := s'.heap, gens := s'.gens, drawn := s'.drawn, toks := s'.toks } :=
    I.call (ch := []) (Un.laid k hp hn) (I.hok.laid k hp ⟨hlen, out.toList, c, by rw [hout]; exact hv L', hg⟩) (by rw [g]; exact I.bare) (fun _ z => nomatch z)
  have e : s' = { s with heap := s'.heap, gens := s'.gens, drawn := s'.drawn, toks := s'.toks } := by
    cases s'
    cases s
    cases o
    rfl
  rw [e]
  exact ⟨.ref p, _, J, rfl, q L' p pm ((pm.map (·.2)).nodup_iff.mpr R.nd) pw hn⟩
end
end Ver

namespace K19
open PySem PySem.Spec PyProof.Rows L2 Ver Num
/-- the names of the text's own defs and classes; the built-in names that it reads -/
def gl : List Str := (["is_integer", "is_between", "is_letters", "is_word", "is_prime", "is_fraction", "is_longer", "parts", "shortened", "step_of", "row_after", "whole_dot", "row_dot", "numbers_of", "check_parts", "is_row", "is_table", "InvalidWord", "Field", "Fractions", "Modulo", "Worked", "Machine"] : List Str) ++
  (["_law_pen", "_law_draw", "_law_pick", "_law_shuffled", "_law_prime", "_law_letters", "_law_word", "_law_made", "_law_divisor", "_law_fraction", "_law_pair", "_law_dotted", "_law_small_fraction", "_law_plain_fractions", "_law_fraction_state", "_law_made_of_fractions", "_law_whole", "_law_remainders", "law"] : List Str)
def fr : List Str := ["isinstance", "int", "bool", "str", "dict", "set", "sorted", "all", "sum", "len", "abs", "list", "tuple", "range", "zip", "min", "repr", "ValueError"]
def fa : List He.Fa := gl.map He.Fa.glo ++ fr.map He.Fa.free
/-- an error with one field, made by its own __init__ -/
structure EC (K : PySem.W.Frag) (C : Addr) (f : Str) : Prop where
  ox : OexC K C
  nf : PySem.W.findIn K (.ref C) f = some none
  iC : PySem.W.findIn K (.ref C) "__init__" = some (some (.ref (He.ma K C "__init__")))
  tI : PySem.W.typeIn K (.ref (He.ma K C "__init__")) = some (.type "function")
  xf : XfC K C
  ec : ExcC K C
  te : PySem.W.exmOne K (.ref C) (.ref C) = some true
  isV : PySem.W.kitOne K (.ref C) (.type "ValueError") = some true
/-- the methods of fields and of machines that the text asks -/
def fms : List Str := ["is_number", "holds", "ratio", "common"]
def mms : List Str := ["value_of", "state_after", "_check_words", "_row_after", "_row_behind", "_value_at"]
def mfs : List Str := ["_field", "_letters", "_start", "_ends", "_tables", "_steps"]
def FL : Int := 10000000000000000000000000000000000000000000000000000000000000000000000000000000000000000000000000000
abbrev MA (K : PySem.W.Frag) : Addr := He.ga K "Machine"
/-- a class of fields: its methods are Field's own -/
structure FC (K : PySem.W.Frag) (C : Addr) : Prop where
  cl : Cls K C
  np : NoAttr K C "_prime"
  m : ∀ m ∈ fms, Meth K C m (He.ma K (He.ga K "Field") m)
/-- what making and asking the objects of a class of fields wants -/
structure MC (K : PySem.W.Frag) (C : Addr) : Prop where
  mkr : Mk K C (He.ma K C "__init__")
  isF : PySem.W.kitOne K (.ref C) (.ref (He.ga K "Field")) = some true
  cl : PySem.W.findIn K (.ref C) "__class__" = some (some (.builtin "object.__class__"))
  ob : PySem.W.mroIn K C (.type "object") = some true
/-- the class of machines -/
structure MacC (K : PySem.W.Frag) : Prop where
  cl : Cls K (MA K)
  na : ∀ f ∈ mfs, NoAttr K (MA K) f
  me : ∀ m ∈ mms, Meth K (MA K) m (He.ma K (MA K) m)
  mkr : Mk K (MA K) (He.ma K (MA K) "__init__")
  bm : BMeth K (MA K) "_check_words" (He.ma K (MA K) "_check_words")
/-- the law's code object and its table -/
def lawC (K : PySem.W.Frag) : Addr × Addr := He.cT K ("law", none)
/-- what the top has left -/
structure Tx (K : PySem.W.Frag) (mg : Str → Option Value) : Prop where
  d : He.SaysD fa fn K
  g : ∀ x ∈ gl, mg x = some (.ref (He.ga K x))
  z : ∀ x ∈ fr, mg x = none
  ml : ∃ t, mg "MOST_LETTERS" = some (.int 4 t)
  lw : ∃ t, mg "LONGEST_WORD" = some (.int 160 t)
  ms : ∃ t, mg "MOST_STATES" = some (.int 24 t)
  fl : ∃ t, mg "FIRST_LONG" = some (.int FL t)
  gp : ∃ t, mg "GREATEST_PRIME" = some (.int 1000000000 t)
  gcd : mg "gcd" = some (.builtin "math.gcd")
  lcm : mg "lcm" = some (.builtin "math.lcm")
  isq : mg "isqrt" = some (.builtin "math.isqrt")
  fcM : FC K (He.ga K "Modulo")
  mM : MC K (He.ga K "Modulo")
  fcF : FC K (He.ga K "Fractions")
  mF : MC K (He.ga K "Fractions")
  rdF : PySem.W.readsIn K (He.ga K "Field") (.type "type") = true
  gaF : PySem.W.specialIn K (.ref (He.ga K "Field")) "__getattribute__" = some (some (.builtin "type.__getattribute__"))
  fiF : PySem.W.findCls K (.ref (He.ga K "Field")) (.type "type") "__init__" = some (.val (.ref (He.ma K (He.ga K "Field") "__init__")))
  clS : PySem.W.specialIn K (.builtin "object.__class__") "__get__" = some (some (.builtin "getset_descriptor.__get__"))
  clT : PySem.W.takesIn K (.builtin "object.__class__") = some true
  sm : Sm K
  eW : EC K (He.ga K "InvalidWord") "value"
  vV : PySem.W.findCls K (.type "ValueError") (.type "type") "__init__" = some (.val (.builtin "ValueError.__init__"))
  nW : PySem.W.kitOne K (.type "list") (.ref (He.ga K "Worked")) = some false
  o : MacC K
theorem ifT {c : Bool} {A B : Prop} (h : c = true) (q : A) : if c = true then A else B := by
  rw [if_pos h]
  exact q
theorem ifF {c : Bool} {A B : Prop} (h : c = false) (q : B) : if c = true then A else B := by
  rw [if_neg (by rw [h]; exact Bool.false_ne_true)]
  exact q
theorem iEq (a b : Int) : decide (V.int a = V.int b) = decide (a = b) := by
  by_cases h : a = b
  · rw [decide_eq_true h, decide_eq_true (by rw [h])]
  · rw [decide_eq_false h, decide_eq_false fun z => h (V.int.inj z)]
theorem sEq (a b : Str) : decide (V.str a = V.str b) = decide (a = b) := by
  by_cases h : a = b
  · rw [decide_eq_true h, decide_eq_true (by rw [h])]
  · rw [decide_eq_false h, decide_eq_false fun z => h (V.str.inj z)]
theorem same_up {H : Hp} {p : Addr} {o : HO} (h : H p = none) : Same H (upd H p o) := fun b x e => by
  rw [upd_ne (ne_of_none e h)]
  exact e
end K19

namespace K19
open PySem PySem.Spec PyProof.Rows L2 Ver Num
/-! ### the head: what it tells -/
abbrev R : PySem.W.OpenRow := PySem.W.OpenLaw.row PySem.Challenge.rw_firstanswers_k19_values_of_fractions
/-- the codes of the functions among these -/
def cds (g : Addr → Option Obj) (as : List Addr) : List Addr := as.flatMap fun b => match g b with
  | some o => (match o.data with
    | .func fd => He.refV fd.code
    | _ => [])
  | none => []
def ads (g : Addr → Option Obj) : List Addr := (PySem.cStatics :: sysModules :: (He.asD g 3 ++ cds g (He.asD g 3))).eraseDups
def KF (g : Addr → Option Obj) : PySem.W.Frag := He.frG g (ads g)
def fcls (K : PySem.W.Frag) (C a : Addr) (m : Str) : Bool := match PySem.W.findCls K (.ref C) (.type "type") m with
  | some (.val (.ref b)) => decide (b = a)
  | _ => false
theorem fcls_ok {K : PySem.W.Frag} {C a : Addr} {m : Str} (h : fcls K C a m = true) : PySem.W.findCls K (.ref C) (.type "type") m = some (.val (.ref a)) := by
  unfold fcls at h
  split at h
  · rename_i b e
    rw [e, of_decide_eq_true h]
  · cases h
/-- the module table -/
def smTB (K : PySem.W.Frag) : Bool := match K.lookup sysModules with
  | some o => match o.cls with
    | .type s => decide (s = "dict")
    | _ => false
  | none => false
theorem smTB_ok {K : PySem.W.Frag} (h : smTB K = true) : Sm K := by
  unfold smTB at h
  split at h
  · rename_i o e
    split at h
    · rename_i s e2
      exact ⟨o, e, by rw [e2, of_decide_eq_true h]⟩
    · cases h
  · cases h
/-- an error over ValueError -/
def oexB (K : PySem.W.Frag) (C : Addr) : Bool := match K.lookup C with
  | some ⟨.type T, _, .cls cd, sl⟩ => (match cd.mro, sl.toList with
    | .ref C' :: bm, [_, _, _, _, some (.builtin n), _] => decide (T = "type") && (decide (C' = C) && (decide (n = "ValueError.__new__") && (!cd.hasDel && (cd.hasDict && PySem.HandSPX.refsVE bm))))
    | _, _ => false)
  | _ => false
theorem oexB_ok {K : PySem.W.Frag} {C : Addr} (h : oexB K C = true) : ∃ nm q N bs bm sn sub ab col dd k0 k1 k2 k3 k5, K.lookup C = some (excClassObj nm q C N bs bm true sn sub ab col dd k0 k1 k2 k3 k5 "ValueError.__new__") ∧ PySem.HandSPX.refsVE bm = true := by
  unfold oexB at h
  split at h
  · rename_i T dd cd sl ho
    obtain ⟨nm, bs, mro, ns, qn, hd, sn, sb, ab, col, del⟩ := cd
    obtain ⟨l⟩ := sl
    split at h
    · rename_i C' bm k0 k1 k2 k3 n k5 hm hs
      obtain ⟨h0, h⟩ := He.ba h
      obtain ⟨h1, h⟩ := He.ba h
      obtain ⟨h2, h⟩ := He.ba h
      obtain ⟨h3, h⟩ := He.ba h
      obtain ⟨h4, h5⟩ := He.ba h
      have e0 := of_decide_eq_true h0
      have e1 := of_decide_eq_true h1
      have e2 := of_decide_eq_true h2
      have e3 : del = false := by simpa using h3
      have e4 : hd = true := h4
      have em : mro = .ref C' :: bm := hm
      have es : l = [k0, k1, k2, k3, some (.builtin n), k5] := hs
      subst e0 e1 e2 e3 e4 em es
      exact ⟨nm, qn, ns, bs, bm, sn, sb, ab, col, dd, k0, k1, k2, k3, k5, ho, h5⟩
    · cases h
  · cases h
def xe (K : PySem.W.Frag) (x f : Str) : List Bool := [oexB K (He.ga K x), He.eqO (PySem.W.findIn K (.ref (He.ga K x)) "__setattr__") (some (some (.builtin "object.__setattr__"))), decide (PySem.W.subIn K (.ref (He.ga K x)) (.type "BaseException") = some true),
  decide (PySem.W.typeIn K (.ref (He.ga K x)) = some (.type "type")), PySem.W.keepIn K (.ref (He.ga K x)), He.eqO (PySem.W.findIn K (.ref (He.ga K x)) f) (some none),
  He.eqO (PySem.W.findIn K (.ref (He.ga K x)) "__init__") (some (some (.ref (He.ma K (He.ga K x) "__init__")))), decide (PySem.W.typeIn K (.ref (He.ma K (He.ga K x) "__init__")) = some (.type "function")),
  He.eqO (PySem.W.findIn K (.ref (He.ga K x)) "__getattribute__") (some (some (.builtin "BaseException.__getattribute__"))), He.eqO (PySem.W.findIn K (.ref (He.ga K x)) "__getattr__") (some none), PySem.W.hasDictIn K (He.ga K x),
  He.eqO (PySem.W.findIn K (.ref (He.ga K x)) "__class__") (some (some (.builtin "object.__class__"))), decide (PySem.W.mroIn K (He.ga K x) (.type "object") = some true), decide (PySem.W.exmOne K (.ref (He.ga K x)) (.ref (He.ga K x)) = some true),
  decide (PySem.W.kitOne K (.ref (He.ga K x)) (.type "ValueError") = some true)]
/-- a class of fields -/
def xc (K : PySem.W.Frag) (x : Str) : List Bool := [(He.Fa.cls x).ok K, (He.Fa.noat x "_prime").ok K,
  fms.all fun m => He.eqO (PySem.W.findIn K (.ref (He.ga K x)) m) (some (some (.ref (He.ma K (He.ga K "Field") m)))) && (PySem.W.isFn K (.ref (He.ma K (He.ga K "Field") m)) && PySem.W.keepIn K (.ref (He.ma K (He.ga K "Field") m))),
  (He.Fa.mkr x).ok K, decide (PySem.W.kitOne K (.ref (He.ga K x)) (.ref (He.ga K "Field")) = some true),
  He.eqO (PySem.W.findIn K (.ref (He.ga K x)) "__class__") (some (some (.builtin "object.__class__"))), decide (PySem.W.mroIn K (He.ga K x) (.type "object") = some true)]
def vvB (K : PySem.W.Frag) : Bool := match PySem.W.findCls K (.type "ValueError") (.type "type") "__init__" with
  | some (.val (.builtin n)) => decide (n = "ValueError.__init__")
  | _ => false
theorem vvB_ok {K : PySem.W.Frag} (h : vvB K = true) : PySem.W.findCls K (.type "ValueError") (.type "type") "__init__" = some (.val (.builtin "ValueError.__init__")) := by
  unfold vvB at h
  split at h
  · rename_i n e
    rw [e, of_decide_eq_true h]
  · cases h
def xm (K : PySem.W.Frag) : List Bool := [(He.Fa.cls "Machine").ok K, mfs.all fun f => (He.Fa.noat "Machine" f).ok K,
  mms.all fun m => He.eqO (PySem.W.findIn K (.ref (MA K)) m) (some (some (.ref (He.ma K (MA K) m)))) && (PySem.W.isFn K (.ref (He.ma K (MA K) m)) && PySem.W.keepIn K (.ref (He.ma K (MA K) m))),
  (He.Fa.mkr "Machine").ok K, He.eqO (PySem.W.specialIn K (.ref (He.ma K (MA K) "_check_words")) "__get__") (some (some (.builtin "function.__get__"))), decide (PySem.W.takesIn K (.ref (He.ma K (MA K) "_check_words")) = some false), PySem.W.fnIn K (He.ma K (MA K) "_check_words")]
def x1 (K : PySem.W.Frag) : List Bool := [(He.Fa.int "MOST_LETTERS" 4).ok K, (He.Fa.int "LONGEST_WORD" 160).ok K, (He.Fa.int "MOST_STATES" 24).ok K, (He.Fa.int "FIRST_LONG" FL).ok K, (He.Fa.int "GREATEST_PRIME" 1000000000).ok K,
  He.eqO (PySem.W.nsIn K mainGlobals "gcd") (some (some (.builtin "math.gcd"))), He.eqO (PySem.W.nsIn K mainGlobals "lcm") (some (some (.builtin "math.lcm"))), He.eqO (PySem.W.nsIn K mainGlobals "isqrt") (some (some (.builtin "math.isqrt"))), smTB K, decide (PySem.W.kitOne K (.type "list") (.ref (He.ga K "Worked")) = some false)]
def x3 (K : PySem.W.Frag) : List Bool := [PySem.W.readsIn K (He.ga K "Field") (.type "type"), He.eqO (PySem.W.specialIn K (.ref (He.ga K "Field")) "__getattribute__") (some (some (.builtin "type.__getattribute__"))),
  fcls K (He.ga K "Field") (He.ma K (He.ga K "Field") "__init__") "__init__",
  He.eqO (PySem.W.specialIn K (.builtin "object.__class__") "__get__") (some (some (.builtin "getset_descriptor.__get__"))), decide (PySem.W.takesIn K (.builtin "object.__class__") = some true), vvB K]
def ex (K : PySem.W.Frag) : Bool := (x1 K).all id && ((xc K "Fractions").all id && ((xc K "Modulo").all id && ((x3 K).all id && ((xe K "InvalidWord" "value").all id && (xm K).all id))))
def hook : PySem.W.Hook where
  α := He.AlD × Bool
  obs := fun s => (He.obsD fa fn (KF s.heap.get?), ex (KF s.heap.get?))
  val := fun _ => (He.valD fn, true)
  says := fun _ h => ∃ K : PySem.W.Frag, K.In h ∧ He.SaysD fa fn K ∧ ex K = true
  of := fun _ _ e => ⟨_, He.frG_in, congrArg (fun z : He.AlD × Bool => z.1) e, congrArg (fun z : He.AlD × Bool => z.2) e⟩
  keeps := fun _ _ _ ⟨K, hK, c⟩ k => ⟨K, PySem.W.Frag.In.keeps hK k, c⟩
def ob (s : PySem.W.SharedT) : He.AlD × Bool := (He.obsD fa fn (KF (HandSHeadRun.getT s)), ex (KF (HandSHeadRun.getT s)))
theorem ob_eq (s : PySem.W.SharedT) : ob s = hook.obs s.abs := by
  have e : HandSHeadRun.getT s = s.abs.heap.get? := funext (HandSHeadRun.getT_eq s)
  unfold ob
  rw [e]
  rfl
def lo : List Str := (["_wall", "LONGEST_WORD", "MOST_LETTERS", "is_integer", "is_between", "is_letters", "is_word", "InvalidPrime", "InvalidNumber", "InvalidWord", "InvalidMachine", "InvalidText", "OtherField", "OtherLetters", "NoQuotient", "TooMany"] : List Str) ++
  (["TooLong", "GREATEST_PRIME", "DECIMAL_DIGITS", "FIRST_LONG", "Field", "Fractions", "Modulo", "is_prime", "is_fraction", "is_longer", "parts", "shortened", "inverse", "integer_of", "signed_integer_of", "number_of"] : List Str) ++
  (["step_of", "row_after", "whole_dot", "row_dot", "numbers_of", "zero_table", "crossed_row", "crossed_table", "joined_table", "MOST_STATES", "Worked", "Machine", "worked", "check_parts", "is_row", "is_table"] : List Str) ++
  (["_law_pen", "_law_draw", "_law_pick", "_law_shuffled", "_law_prime", "_law_letters", "_law_word", "_law_made", "_law_divisor", "_law_fraction", "_law_pair", "_law_dotted", "_law_small_fraction", "_law_plain_fractions", "_law_fraction_state", "_law_made_of_fractions"] : List Str) ++
  (["_law_whole", "_law_remainders"] : List Str)
abbrev qv : Program := PySem.W.view R.prog [0, 73]
end K19

namespace K19
open PySem PySem.Spec PyProof.Rows L2 Ver Num
/-! ### the run, part by part -/
theorem run1 (w : World) : (HandSHeadRun.wholeF (fun p => HandSHeadRun.stepQ (HandSHeadRun.denQ HandSHeadRun.tabQ) p w) HandSHeadRun.fenceQ 8000 R.prog).map (fun x => HandSHeadRun.looksF R.prog x.1.heap x.2.abs) = some true := by
  kernel_rfl
theorem run2 (w : World) : (HandSHeadRun.wholeF (fun p => HandSHeadRun.stepQ (HandSHeadRun.denQ HandSHeadRun.tabQ) p w) HandSHeadRun.fenceQ 8000 R.prog).map (fun x => HandSHeadRun.seenQ qv lo (importedModules R.prog.main.body) (fun s => PySem.W.xlAt qv [] s && PySem.W.recOk R.toRowW.records s) x.2.abs) = some (PySem.W.openGood qv lo) := by
  kernel_rfl
theorem run3a (w : World) : (HandSHeadRun.wholeF (fun p => HandSHeadRun.stepQ (HandSHeadRun.denQ HandSHeadRun.tabQ) p w) HandSHeadRun.fenceQ 8000 R.prog).map (fun x => (fa.all fun f => f.ok (KF (HandSHeadRun.getT x.2)))) = some true := by
  kernel_rfl
theorem run3b (w : World) : (HandSHeadRun.wholeF (fun p => HandSHeadRun.stepQ (HandSHeadRun.denQ HandSHeadRun.tabQ) p w) HandSHeadRun.fenceQ 8000 R.prog).map (fun x => ((fn.take 26).all fun d => d.ok (KF (HandSHeadRun.getT x.2)))) = some true := by
  kernel_rfl
theorem run3c (w : World) : (HandSHeadRun.wholeF (fun p => HandSHeadRun.stepQ (HandSHeadRun.denQ HandSHeadRun.tabQ) p w) HandSHeadRun.fenceQ 8000 R.prog).map (fun x => ((fn.drop 26).all fun d => d.ok (KF (HandSHeadRun.getT x.2)))) = some true := by
  kernel_rfl
theorem and3 {α : Type} {o : Option α} {f g h k : α → Bool} (e : ∀ x, k x = (g x && h x)) (h1 : o.map f = some true) (h2 : o.map g = some true) (h3 : o.map h = some true) : o.map (fun x => f x && k x) = some true := by
  cases o with
  | none => cases h1
  | some x =>
    have e1 : f x = true := Option.some.inj h1
    have e2 : g x = true := Option.some.inj h2
    have e3 : h x = true := Option.some.inj h3
    show some (f x && k x) = some true
    rw [e, e1, e2, e3]
    rfl
theorem run3 (w : World) : (HandSHeadRun.wholeF (fun p => HandSHeadRun.stepQ (HandSHeadRun.denQ HandSHeadRun.tabQ) p w) HandSHeadRun.fenceQ 8000 R.prog).map (fun x => ((fa.all fun f => f.ok (KF (HandSHeadRun.getT x.2))) && fn.all fun d => d.ok (KF (HandSHeadRun.getT x.2)))) = some true :=
  and3 (fun x => by rw [← List.all_append, List.take_append_drop]) (run3a w) (run3b w) (run3c w)
theorem run4 (w : World) : (HandSHeadRun.wholeF (fun p => HandSHeadRun.stepQ (HandSHeadRun.denQ HandSHeadRun.tabQ) p w) HandSHeadRun.fenceQ 8000 R.prog).map (fun x => fn.map fun d => He.fnW (KF (HandSHeadRun.getT x.2)) d.at_) = some (fn.map He.DefD.val) := by
  kernel_rfl
theorem run5 (w : World) : (HandSHeadRun.wholeF (fun p => HandSHeadRun.stepQ (HandSHeadRun.denQ HandSHeadRun.tabQ) p w) HandSHeadRun.fenceQ 8000 R.prog).map (fun x => ex (KF (HandSHeadRun.getT x.2))) = some true := by
  kernel_rfl
theorem map5 {α β γ δ ε ζ : Type} {o : Option α} {f : α → β} {g : α → γ} {h : α → δ} {i : α → ε} {j : α → ζ} {a : β} {b : γ} {c : δ} {d : ε} {e : ζ} (h1 : o.map f = some a) (h2 : o.map g = some b) (h3 : o.map h = some c) (h4 : o.map i = some d) (h5 : o.map j = some e) :
    o.map (fun x => (f x, g x, ((h x, i x), j x))) = some (a, b, ((c, d), e)) := by
  cases o with
  | none => cases h1
  | some x =>
    have e1 : f x = a := Option.some.inj h1
    have e2 : g x = b := Option.some.inj h2
    have e3 : h x = c := Option.some.inj h3
    have e4 : i x = d := Option.some.inj h4
    have e5 : j x = e := Option.some.inj h5
    show some (f x, g x, ((h x, i x), j x)) = some (a, b, ((c, d), e))
    rw [e1, e2, e3, e4, e5]
theorem run (w : World) : HandSHeadRun.RunEqI R qv hook ob 8000 lo w := map5 (run1 w) (run2 w) (run3 w) (run4 w) (run5 w)
end K19

namespace K19
open PySem PySem.Spec PyProof.Rows L2 Ver Num
/-! ### the pen: a dict of the script's cells, a place, a rest -/
def penL (c : Addr) (b l : Int) : List (Key × V) := [(.inr "cells", .ref c), (.inr "begun", .int b), (.inr "left", .int l)]
structure PenAt (H : Hp) (d : Addr) (k : Int) : Prop where
  ex : ∃ (c : Addr) (cells : List Int) (b l : Int), H d = some (.dK (penL c b l)) ∧ H c = some (.lst (cells.map V.int)) ∧ cells.length ≤ 63 ∧ 0 ≤ b ∧ b ≤ k ∧ 0 ≤ l
/-- all but what stands at d is kept; the pen's list of cells is the same object -/
def But (d : Addr) (H H' : Hp) : Prop := (∀ b o, H b = some o → b ≠ d → H' b = some o) ∧ ∀ c b l, H d = some (.dK (penL c b l)) → ∃ b' l', H' d = some (.dK (penL c b' l'))
theorem But.refl {d : Addr} {H : Hp} : But d H H := ⟨fun _ _ e _ => e, fun c b l e => ⟨b, l, e⟩⟩
theorem But.trans {d : Addr} {H H1 H2 : Hp} (a : But d H H1) (b : But d H1 H2) : But d H H2 := ⟨fun c o e n => b.1 c o (a.1 c o e n) n, fun c x l e => by
  obtain ⟨b1, l1, e1⟩ := a.2 c x l e
  exact b.2 c b1 l1 e1⟩
theorem But.same {d : Addr} {H H1 : Hp} (s : Same H H1) : But d H H1 := ⟨fun c o e _ => s c o e, fun c b l e => ⟨b, l, s _ _ e⟩⟩
theorem pen_inj {c c2 : Addr} {b b2 l l2 : Int} (h : penL c b l = penL c2 b2 l2) : c = c2 := by
  have h1 := (List.cons.inj h).1
  exact V.ref.inj (congrArg Prod.snd h1)
theorem but_up {d c : Addr} {H : Hp} {b l b' l' : Int} (h : H d = some (.dK (penL c b l))) : But d H (upd H d (.dK (penL c b' l'))) := ⟨fun b u e n => by rw [upd_ne n]; exact e, fun c2 b2 l2 e => by
  rw [h] at e
  have e2 : penL c b l = penL c2 b2 l2 := HO.dK.inj (Option.some.inj e)
  have ec := pen_inj e2
  subst ec
  exact ⟨b', l', upd_same⟩⟩
/-- the pen with its list of cells told -/
structure PenC (H : Hp) (d c : Addr) (k : Int) : Prop where
  ex : ∃ (cells : List Int) (b l : Int), H d = some (.dK (penL c b l)) ∧ H c = some (.lst (cells.map V.int)) ∧ cells.length ≤ 63 ∧ 0 ≤ b ∧ b ≤ k ∧ 0 ≤ l
theorem PenAt.c {H : Hp} {d : Addr} {k : Int} (p : PenAt H d k) : ∃ c, PenC H d c k := by
  obtain ⟨c, cells, b, l, h⟩ := p.ex
  exact ⟨c, cells, b, l, h⟩
theorem PenC.at_ {H : Hp} {d c : Addr} {k : Int} (p : PenC H d c k) : PenAt H d k := by
  obtain ⟨cells, b, l, h⟩ := p.ex
  exact ⟨c, cells, b, l, h⟩
theorem PenC.on {H H' : Hp} {d c : Addr} {k k' : Int} (p : PenC H d c k) (bt : But d H H') (q : PenAt H' d k') : PenC H' d c k' := by
  obtain ⟨cells, b, l, h1, _⟩ := p.ex
  obtain ⟨b1, l1, e1⟩ := bt.2 c b l h1
  obtain ⟨c2, cells2, b2, l2, g1, g⟩ := q.ex
  have e2 : penL c b1 l1 = penL c2 b2 l2 := HO.dK.inj (Option.some.inj (e1.symm.trans g1))
  have ec := pen_inj e2
  subst ec
  exact ⟨cells2, b2, l2, g1, g⟩
theorem PenC.up {H : Hp} {d c D : Addr} {k : Int} {o : HO} (p : PenC H d c k) (n1 : d ≠ D) (n2 : c ≠ D) : PenC (upd H D o) d c k := by
  obtain ⟨cells, b, l, h1, h2, h⟩ := p.ex
  exact ⟨cells, b, l, by rw [upd_ne n1]; exact h1, by rw [upd_ne n2]; exact h2, h⟩
theorem PenAt.same {H H' : Hp} {d : Addr} {k : Int} (p : PenAt H d k) (s : Same H H') : PenAt H' d k := by
  obtain ⟨c, cells, b, l, h1, h2, r⟩ := p.ex
  exact ⟨c, cells, b, l, s _ _ h1, s _ _ h2, r⟩
theorem PenAt.mono {H : Hp} {d : Addr} {j k : Int} (p : PenAt H d j) (h : j ≤ k) : PenAt H d k := by
  obtain ⟨c, cells, b, l, h1, h2, h3, h4, h5, h6⟩ := p.ex
  exact ⟨c, cells, b, l, h1, h2, h3, h4, by omega, h6⟩
theorem ks1 : ¬ (("cells" : Str) = "begun") := by decide +kernel
theorem ks2 : ¬ (("cells" : Str) = "left") := by decide +kernel
theorem ks3 : ¬ (("begun" : Str) = "left") := by decide +kernel
theorem nk {a b : Str} (h : ¬ a = b) : ¬ ((Sum.inr a : Key) = (Sum.inr b : Key)) := fun z => h (Sum.inr.inj z)
theorem pen_cells (c : Addr) (b l : Int) : valV (penL c b l) (.inr "cells") = some (.ref c) := valV_pos rfl
theorem pen_begun (c : Addr) (b l : Int) : valV (penL c b l) (.inr "begun") = some (.int b) := (valV_neg (nk ks1)).trans (valV_pos rfl)
theorem pen_left (c : Addr) (b l : Int) : valV (penL c b l) (.inr "left") = some (.int l) := (valV_neg (nk ks2)).trans ((valV_neg (nk ks3)).trans (valV_pos rfl))
theorem put_begun (c : Addr) (b l b' : Int) : putK (penL c b l) (.inr "begun") (.int b') = penL c b' l := by
  have n1 := nk ks1
  have n2 := nk (Ne.symm ks3)
  simp [putK, penL, n1, n2]
theorem put_left (c : Addr) (b l l' : Int) : putK (penL c b l) (.inr "left") (.int l') = penL c b l' := by
  have n1 := nk ks2
  have n2 := nk ks3
  simp [putK, penL, n1, n2]
theorem get_cells {H : Hp} {d c : Addr} {b l : Int} (h : H d = some (.dK (penL c b l))) : DGet H d (.str "cells") (some (.ref c)) := by
  have z := DGet.k (k := Sum.inr "cells") h
  rwa [pen_cells] at z
theorem get_begun {H : Hp} {d c : Addr} {b l : Int} (h : H d = some (.dK (penL c b l))) : DGet H d (.str "begun") (some (.int b)) := by
  have z := DGet.k (k := Sum.inr "begun") h
  rwa [pen_begun] at z
theorem get_left {H : Hp} {d c : Addr} {b l : Int} (h : H d = some (.dK (penL c b l))) : DGet H d (.str "left") (some (.int l)) := by
  have z := DGet.k (k := Sum.inr "left") h
  rwa [pen_left] at z
theorem dput_begun {H : Hp} {d c : Addr} {b l b' : Int} (h : H d = some (.dK (penL c b l))) : DPut H d (.str "begun") (.int b') (upd H d (.dK (penL c b' l))) := by
  have z := DPut.k (k := Sum.inr "begun") (v := .int b') h (by show 3 < sizeLine; decide)
  rwa [put_begun] at z
theorem dput_left {H : Hp} {d c : Addr} {b l l' : Int} (h : H d = some (.dK (penL c b l))) : DPut H d (.str "left") (.int l') (upd H d (.dK (penL c b l'))) := by
  have z := DPut.k (k := Sum.inr "left") (v := .int l') h (by show 3 < sizeLine; decide)
  rwa [put_left] at z
theorem merge_pen (c : Addr) (b l : Int) : mergeK [] (penL c b l) = penL c b l := by
  have n1 := nk ks1
  have n2 := nk ks2
  have n3 := nk ks3
  simp [mergeK, putK, penL, n1, n2, n3]
/-! ### lists of ints as data -/
theorem dp_ints {K : PySem.W.Frag} {H : Hp} : ∀ ns : List Int, DpAll K H (ns.map V.int) (ns.map PyData.int)
  | [] => .nil
  | n :: ns => .cons (.int n) (dp_ints ns)
theorem ints_depth : ∀ ns : List Int, PyData.depthAll (ns.map PyData.int) ≤ 1
  | [] => by simp [PyData.depthAll]
  | n :: ns => by
    have := ints_depth ns
    simp only [List.map_cons, PyData.depthAll, PyData.depth]
    omega
theorem ints_can : ∀ ns : List Int, PyData.canLayAll0 (ns.map PyData.int) = true
  | [] => by simp [PyData.canLayAll0]
  | n :: ns => by simp only [List.map_cons, PyData.canLayAll0, PyData.canLay0, ints_can ns, Bool.and_true]
theorem ints_shaped (ns : List Int) : SeqAt.shaped (.list (ns.map PyData.int)) = true := by
  unfold SeqAt.shaped
  have h1 := ints_depth ns
  have h2 := ints_can ns
  have e1 : (PyData.list (ns.map PyData.int)).canLay0 = true := by simp only [PyData.canLay0, h2]
  have e2 : (PyData.list (ns.map PyData.int)).depth ≤ 64 := by
    simp only [PyData.depth]
    omega
  rw [e1, decide_eq_true e2]
  rfl
theorem ints_empty : ∀ ns : List Int, PyData.eqv (.list (ns.map PyData.int)) (.list []) = decide (ns = [])
  | [] => by simp [PyData.eqv, PyData.eqvAll]
  | n :: ns => by simp [PyData.eqv, PyData.eqvAll]
end K19

namespace K19
open PySem PySem.Spec PyProof.Rows L2 Ver Num
section
variable {P : Program} {w : World} {K : PySem.W.Frag} {mg : Str → Option Value} {base : Heap}
/-! ### _law_pen -/
theorem cut_ints (ns : List Int) (lo hi : Option Int) : cutV (ns.map V.int) lo hi = ((ns.drop (HT.sIx ns.length 0 lo)).take (HT.sIx ns.length ns.length hi - HT.sIx ns.length 0 lo)).map V.int := by
  unfold cutV
  rw [List.length_map, List.map_take, List.map_drop]
def spPen (K : PySem.W.Frag) : Sp := fun vs H Q _ => ∃ (a : Addr) (ns : List Int), vs = [.ref a] ∧ SqL K H a (ns.map V.int) ∧ ns.length ≤ 63 ∧ ∀ (d : Addr) (H' : Hp), Same H H' → H d = none → PenAt H' d 0 → Q (.ref d) H'
theorem ok_pen (T : Tx K mg) : FnG P w K mg base CX0 1 (He.ga K "_law_pen") (spPen K) := by
  refine mk__law_pen T.d (fun vs H Q E h => ?_) (fun cdv A outer s H vs Q E hg hr h => ?_)
  · obtain ⟨a, ns, rfl, _⟩ := h
    rfl
  · obtain ⟨a, ns, rfl, hs, hl, q⟩ := h
    refine ⟨_, pss_one (ps_ret (pe_disp (pps_cons pe_str (pe_callTy call_list_of (by rfl) (T.z "list" (by decide +kernel)) (by decide +kernel) (pa_cons (pe_slice sl_list (pv 0) po_none (po_some pe_int)) pa_nil))
      (pps_cons pe_str pe_int (pps_cons pe_str pe_int pps_nil))) (by rfl) (by rfl) (fun z => by cases z) (by decide))), ?_⟩
    intro d nd
    have s0 := same_up (o := .dK []) nd
    refine ⟨_, rfl, 63, rfl, a, _, rfl, s0.seq hs, fun m nm => ?_⟩
    have s1 := same_up (o := .lst (cutV (ns.map V.int) none (some 63))) nm
    refine ⟨m, _, rfl, .inl (.inl (.inl upd_same)), fun c nc => ?_⟩
    have s2 := same_up (o := .lst (cutV (ns.map V.int) none (some 63))) nc
    have sa := (s0.trans s1).trans s2
    have dd : H d = none := nd
    have dm : d ≠ m := ne_of_none upd_same nm
    have dc : d ≠ c := fun z => by
      rw [← z, upd_ne dm, upd_same] at nc
      cases nc
    refine ⟨?_, penL c 0 0, rfl, by show 3 ≤ 15; decide, ?_⟩
    · rw [upd_ne dc, upd_ne dm, upd_same]
    · rw [merge_pen]
      refine q d _ (fun b o e => ?_) nd ⟨c, (ns.drop (HT.sIx ns.length 0 none)).take (HT.sIx ns.length ns.length (some 63) - HT.sIx ns.length 0 none), 0, 0, upd_same, ?_, ?_, by omega, by omega, by omega⟩
      · rw [upd_ne (ne_of_none e nd)]
        exact sa _ _ e
      · rw [upd_ne (Ne.symm dc), upd_same, cut_ints]
      · rw [List.length_take, List.length_drop]
        omega
/-! ### _law_draw -/
theorem em1 {X m : Int} (h : 0 < m) (h2 : m ≤ 2 ^ 64) : -(2 ^ 64) < X % m ∧ X % m < 2 ^ 64 := by
  have a := Int.emod_nonneg X (show m ≠ 0 by omega)
  have b := Int.emod_lt_of_pos X h
  omega
def spDraw : Sp := fun vs H Q _ => ∃ (d : Addr) (k n : Int), vs = [.ref d, .int n] ∧ PenAt H d k ∧ k < 1000000000000 ∧ 0 < n ∧ n < 1073741824 ∧
  ∀ (i : Int) (H' : Hp), But d H H' → PenAt H' d (k + 1) → 0 ≤ i → i < n → Q (.int i) H'
theorem ok_draw (T : Tx K mg) : FnG P w K mg base CX0 1 (He.ga K "_law_draw") spDraw := by
  refine mk__law_draw T.d (fun vs H Q E h => ?_) (fun cdv A outer s H vs Q E hg hr h => ?_)
  · obtain ⟨d, k, n, rfl, _⟩ := h
    rfl
  · obtain ⟨d, k, n, rfl, pen, k9, n0, n9, q⟩ := h
    have hu := hu_of hr
    have nd := sc__law_draw.nd
    have zi := T.z "int" (by decide +kernel)
    have zl := T.z "len" (by decide +kernel)
    have za := T.z "abs" (by decide +kernel)
    have bi : bootBuiltins "int" = some (.type "int") := by decide +kernel
    have bl : bootBuiltins "len" = some (.builtin "len") := by decide +kernel
    have ba : bootBuiltins "abs" = some (.builtin "abs") := by decide +kernel
    obtain ⟨c, cells, b, l, hd, hc, cl, b0, bk, l0⟩ := pen.ex
    have dc : d ≠ c := ne_of hd hc (by intro z; cases z)
    refine ⟨_, pss_cons (ps_if (pt_cmpR op_gt (pe_dget hu (pv 0) pe_str (fun _ _ => rfl)) pe_int (nomark _))
        (pss_cons (ps_set (i := 2) nd rfl (Or.inl rfl) (pe_op op_mod (pe_callTy call_int1 (by rfl) zi bi (pa_cons (pe_dget hu (pv 0) pe_str (fun _ _ => rfl)) pa_nil)) (pv 1)))
        (pss_cons (ps_dput hu (pv 0) pe_str (pe_op op_fdiv (pe_dget hu (pv 0) pe_str (fun _ _ => rfl)) (pv 1)) rfl)
        (pss_one (ps_ret (pv 2))))) pss_nil)
      (pss_cons (ps_set (i := 3) nd rfl (Or.inl rfl) (pe_dget hu (pv 0) pe_str (fun _ _ => rfl)))
      (pss_cons (ps_dput hu (pv 0) pe_str (pe_op op_add (pv 3) pe_int) rfl)
      (pss_cons (ps_set (i := 4) nd rfl (Or.inl rfl) (pe_op op_add (pe_op op_mul pe_int (pv 3)) pe_int))
      (pss_cons (ps_if (pt_cmpR (op_neD hr.units) (pe_dget hu (pv 0) pe_str (fun _ _ => rfl)) (pe_lst pa_nil) (nomark _))
        (pss_one (ps_set (i := 4) nd rfl (Or.inl rfl) (pe_ix ix_list (pe_dget hu (pv 0) pe_str (fun _ _ => rfl))
          (pe_op op_mod (pe_callTy call_int1 (by rfl) zi bi (pa_cons (pv 3) pa_nil)) (pe_callB call_len_seq (by rfl) zl bl (pa_cons (pe_dget hu (pv 0) pe_str (fun _ _ => rfl)) pa_nil))) (fun _ _ => rfl)))) pss_nil)
      (pss_cons (ps_if (PW.pt (pw_and (pt_cmpR op_lt (pv 3) (pe_callB call_len_seq (by rfl) zl bl (pa_cons (pe_dget hu (pv 0) pe_str (fun _ _ => rfl)) pa_nil)) (nomark _))
          (pw_and1 (pt_cmpR op_ge (pe_callB call_abs (by rfl) za ba (pa_cons (pv 4) pa_nil)) (pe_op op_pow pe_int pe_int) (nomark _)))))
        (pss_cons (ps_dput hu (pv 0) pe_str (pe_op op_fdiv (pe_op op_sub (pe_callB call_abs (by rfl) za ba (pa_cons (pv 4) pa_nil)) (pe_op op_pow pe_int pe_int)) (pv 1)) rfl)
        (pss_one (ps_ret (pe_op op_mod (pe_callTy call_int1 (by rfl) zi bi (pa_cons (pe_op op_sub (pe_callB call_abs (by rfl) za ba (pa_cons (pv 4) pa_nil)) (pe_op op_pow pe_int pe_int)) pa_nil)) (pv 1))))) pss_nil)
      (pss_cons (ps_set (i := 5) nd rfl (Or.inl rfl) (pe_op op_mul (pe_op op_mod (pe_callTy call_int1 (by rfl) zi bi (pa_cons (pv 4) pa_nil)) pe_int) pe_int))
      (pss_cons (ps_set (i := 6) nd rfl (Or.inl rfl) (pe_op op_mod (pe_callTy call_int1 (by rfl) zi bi (pa_cons (pe_op op_add (pe_op op_add (pv 5) (pe_op op_mul (pv 3) (pe_op op_add (pe_op op_mul pe_int (pv 3)) pe_int))) pe_int) pa_nil)) pe_int))
      (pss_cons (ps_set (i := 6) nd rfl (Or.inl rfl) (pe_op op_mod (pe_callTy call_int1 (by rfl) zi bi (pa_cons (pe_op op_add (pe_op op_add (pe_op op_add (pe_op op_mul (pv 6) (pv 6)) (pe_op op_mul pe_int (pv 6))) (pe_op op_mul pe_int (pv 3))) pe_int) pa_nil)) pe_int))
      (pss_one (ps_ret (pe_op op_mod (pe_callTy call_int1 (by rfl) zi bi (pa_cons (pe_op op_fdiv (pe_op op_mod (pe_callTy call_int1 (by rfl) zi bi (pa_cons (pe_op op_mul (pv 6) (pe_op op_add (pv 6) pe_int)) pa_nil)) pe_int) pe_int) pa_nil)) (pv 1)))))))))))), ?_⟩
    refine ⟨_, rfl, d, _, rfl, get_left hd, _, _, rfl, rfl, _, rfl, ?_⟩
    refine ite2 (fun hz => ?_) (fun hz => ?_)
    · -- the rest of a great cell
      refine ⟨_, rfl, d, _, rfl, get_left hd, .inl ⟨_, rfl, _, rfl, _, _, rfl, rfl, (by show 0 < n; omega), ?_⟩⟩
      refine ⟨_, rfl, d, _, rfl, get_left hd, _, rfl, _, _, rfl, rfl, ⟨by show 0 < n; omega, by show n < 1073741824; omega⟩, _, rfl, d, _, rfl, dput_left hd, ?_⟩
      refine ⟨_, rfl, q _ _ (but_up hd) ⟨c, cells, b, l / n, upd_same, by rw [upd_ne (Ne.symm dc)]; exact hc, cl, b0, by omega, Int.ediv_nonneg l0 (by omega)⟩ (Int.emod_nonneg _ (by omega)) (Int.emod_lt_of_pos _ n0)⟩
    · -- a new cell
      have hd1 : (upd H d (.dK (penL c (b + 1) l))) d = some (.dK (penL c (b + 1) l)) := upd_same
      have hc1 : (upd H d (.dK (penL c (b + 1) l))) c = some (.lst (cells.map V.int)) := by rw [upd_ne (Ne.symm dc)]; exact hc
      refine ⟨_, rfl, d, _, rfl, get_begun hd, ?_⟩
      refine ⟨_, rfl, _, _, rfl, rfl, _, rfl, d, _, rfl, dput_begun hd, ?_⟩
      refine ⟨_, rfl, _, _, rfl, rfl, .inl ⟨by decide, by decide⟩, _, _, rfl, rfl, ?_⟩
      refine ⟨_, rfl, d, _, rfl, get_cells hd1, Nat.zero_le _, fun z nz => ?_⟩
      have sz := same_up (o := .lst []) nz
      have hd2 := sz _ _ hd1
      have hc2 := sz _ _ hc1
      have bt : But d H (upd (upd H d (.dK (penL c (b + 1) l))) z (.lst [])) := (but_up hd).trans (But.same sz)
      refine ⟨.list (cells.map PyData.int), .list [], .lst (SqL.of hc2) (dp_ints cells), .lst (SqL.of upd_same) .nil, ints_shaped cells, ints_shaped [], _, rfl, ?_⟩
      rw [ints_empty]
      generalize upd (upd H d (.dK (penL c (b + 1) l))) z (.lst []) = H2 at hd2 hc2 bt
      have pen2 : ∀ l' : Int, 0 ≤ l' → PenAt (upd H2 d (.dK (penL c (b + 1) l'))) d (k + 1) := fun l' z0 => ⟨c, cells, b + 1, l', upd_same, by rw [upd_ne (Ne.symm dc)]; exact hc2, cl, by omega, by omega, z0⟩
      have pen0 : PenAt H2 d (k + 1) := ⟨c, cells, b + 1, l, hd2, hc2, cl, by omega, by omega, l0⟩
      by_cases he : cells = []
      all_goals
        first
        | (refine ifF (by rw [decide_eq_true he]; rfl) ?_)
        | (have hlen : 0 < (cells.map V.int).length := by
            rw [List.length_map]
            exact List.length_pos_iff.mpr he
           have hm0 := Int.emod_nonneg b (show (((cells.map V.int).length : Nat) : Int) ≠ 0 by omega)
           have hm1 := Int.emod_lt_of_pos b (show (0 : Int) < (((cells.map V.int).length : Nat) : Int) by omega)
           obtain ⟨j, hj⟩ : ∃ j : Nat, b % (((cells.map V.int).length : Nat) : Int) = (j : Int) := ⟨(b % (((cells.map V.int).length : Nat) : Int)).toNat, by omega⟩
           have jl : j < cells.length := by
            rw [hj, List.length_map] at hm1
            omega
           have hat : atI (cells.map V.int) (b % (((cells.map V.int).length : Nat) : Int)) = some (V.int cells[j]) := by
            rw [hj]
            exact atI_nat (by rw [List.getElem?_map, List.getElem?_eq_getElem jl]; rfl)
           refine ifT (by rw [decide_eq_false he]; rfl) ?_
           refine ⟨_, rfl, d, _, rfl, get_cells hd2, _, rfl, .inl ⟨_, rfl, _, rfl, d, _, rfl, get_cells hd2, c, _, rfl, .inl (SqL.of hc2), _, _, rfl, rfl, (by show (0 : Int) < (((cells.map V.int).length : Nat) : Int); omega), c, _, _, _, rfl, rfl, SqL.of hc2, hat, ?_⟩⟩)
        refine ⟨_, rfl, _, rfl, d, _, rfl, get_cells hd2, c, _, rfl, .inl (SqL.of hc2), _, _, rfl, rfl, _, rfl, ?_⟩
        refine ite2 (fun h1 => ?_) (fun h1 => iteF ?_)
        all_goals
          first
          | (refine ⟨_, rfl, _, rfl, _, _, rfl, rfl, ⟨by decide, by decide, by decide⟩, _, _, rfl, rfl, _, rfl, ?_⟩
             refine ite2 (fun h2 => ?_) (fun h2 => ?_))
          | skip
        all_goals
          first
          | (have h3 := of_decide_eq_true h2
             refine ⟨_, rfl, _, rfl, _, _, rfl, rfl, ⟨by decide, by decide, by decide⟩, _, _, rfl, rfl, _, rfl, _, _, rfl, rfl, ⟨by show 0 < n; omega, by show n < 1073741824; omega⟩, _, rfl, d, _, rfl, dput_left hd2, ?_⟩
             refine ⟨_, rfl, _, rfl, _, _, rfl, rfl, ⟨by decide, by decide, by decide⟩, _, _, rfl, rfl, .inl ⟨_, rfl, _, rfl, _, _, rfl, rfl, (by show 0 < n; omega), ?_⟩⟩
             exact q _ _ (bt.trans (but_up hd2)) (pen2 _ (Int.ediv_nonneg (Int.sub_nonneg.mpr h3) (by omega))) (Int.emod_nonneg _ (by omega)) (Int.emod_lt_of_pos _ n0))
          | (refine ⟨_, rfl, .inl ⟨_, rfl, _, _, rfl, rfl, (by show (0 : Int) < 4294967197; decide), _, _, rfl, rfl, .inr ⟨by decide, by decide⟩, ?_⟩⟩
             refine ⟨_, rfl, _, rfl, _, rfl, _, _, rfl, rfl, .inl ⟨by decide, by decide⟩, _, _, rfl, rfl, _, _, rfl, rfl, .inl ⟨by show -(2 ^ 64) < b; omega, by show b < 2 ^ 64; omega⟩, _, _, rfl, rfl, _, _, rfl, rfl, .inl ⟨_, rfl, _, _, rfl, rfl, (by show (0 : Int) < 4294967189; decide), ?_⟩⟩
             refine ⟨_, rfl, _, rfl, _, _, rfl, rfl, .inl (em1 (by decide) (by decide)), _, rfl, _, _, rfl, rfl, .inl ⟨by decide, by decide⟩, _, _, rfl, rfl, _, rfl, _, _, rfl, rfl, .inl ⟨by decide, by decide⟩, _, _, rfl, rfl, _, _, rfl, rfl, .inl ⟨_, rfl, _, _, rfl, rfl, (by show (0 : Int) < 4294967161; decide), ?_⟩⟩
             refine ⟨_, rfl, _, rfl, _, _, rfl, rfl, _, _, rfl, rfl, .inl (em1 (by decide) (by decide)), .inl ⟨_, rfl, _, _, rfl, rfl, (by show (0 : Int) < 4294967143; decide), _, _, rfl, rfl, ⟨by decide, by decide⟩, .inl ⟨_, rfl, _, rfl, _, _, rfl, rfl, (by show 0 < n; omega), ?_⟩⟩⟩
             exact q _ _ bt pen0 (Int.emod_nonneg _ (by omega)) (Int.emod_lt_of_pos _ n0))
end
end K19

namespace K19
open PySem PySem.Spec PyProof.Rows L2 Ver Num
section
variable {P : Program} {w : World} {K : PySem.W.Frag} {mg : Str → Option Value} {base : Heap}
theorem pen_ne {H : Hp} {d a : Addr} {k : Int} {xs : List V} (p : PenAt H d k) (h : H a = some (.lst xs)) : a ≠ d := by
  obtain ⟨c, cells, b, l, h1, _⟩ := p.ex
  exact ne_of h h1 (by intro z; cases z)
/-! ### _law_pick, _law_prime, _law_number -/
def spPick : Sp := fun vs H Q _ => ∃ (d a : Addr) (k : Int) (xs : List V), vs = [.ref d, .ref a] ∧ PenAt H d k ∧ k < 1000000000000 ∧ H a = some (.lst xs) ∧ 0 < xs.length ∧ xs.length < 1000 ∧
  ∀ (x : V) (H' : Hp), x ∈ xs → But d H H' → PenAt H' d (k + 1) → Q x H'
theorem ok_pick (T : Tx K mg) : FnG P w K mg base CX0 2 (He.ga K "_law_pick") spPick := by
  refine mk__law_pick T.d (fun vs H Q E h => ?_) (fun cdv A outer s H vs Q E hg hr h => ?_)
  · obtain ⟨d, a, k, xs, rfl, _⟩ := h
    rfl
  · obtain ⟨d, a, k, xs, rfl, pen, k9, ha, l0, l9, q⟩ := h
    refine ⟨_, pss_one (ps_ret (pe_ix ix_list (pv 1) (pe_callG (ok_draw T) hr hg (by rfl) (T.g "_law_draw" (by decide +kernel)) (kp__law_draw T.d) pass0
      (pa_cons (pv 0) (pa_cons (pe_callB call_len_seq (by rfl) (T.z "len" (by decide +kernel)) (by decide +kernel) (pa_cons (pv 1) pa_nil)) pa_nil))) (fun _ _ => rfl))), ?_⟩
    refine ⟨_, rfl, _, rfl, _, rfl, a, xs, rfl, .inl (SqL.of ha), d, k, _, rfl, pen, k9, by omega, by omega, fun i H1 bt pen1 i0 i1 => ?_⟩
    have ha1 := bt.1 a _ ha (pen_ne pen ha)
    obtain ⟨j, rfl⟩ : ∃ j : Nat, i = (j : Int) := ⟨i.toNat, by omega⟩
    have jl : j < xs.length := by omega
    refine ⟨a, xs, _, xs[j], rfl, rfl, SqL.of ha1, atI_nat (List.getElem?_eq_getElem jl), q _ H1 (List.getElem_mem jl) bt pen1⟩
end
end K19

namespace Ver
open PySem PySem.Spec PyProof.Rows L2
section
variable {X : Cx}
/-! ### == and != and in of data without dicts, any texts -/
def rEqP (K : PySem.W.Frag) : R2 := fun x y H Q => ∃ d e, Do K H x d ∧ Do K H y e ∧ d.plain = true ∧ e.plain = true ∧ d.depth ≤ 64 ∧ Q (.bl (PyData.eqv d e)) H
def rNeP (K : PySem.W.Frag) : R2 := fun x y H Q => ∃ d e, Do K H x d ∧ Do K H y e ∧ d.plain = true ∧ e.plain = true ∧ d.depth ≤ 64 ∧ Q (.bl (!PyData.eqv d e)) H
theorem op_eqP (sm : Sm X.K) (hu : X.A.units + 64 < cLine) : OpR X (compareOp .Eq) (rEqP X.K) := by
  intro pins s σ H x y v u Q I rx ry h
  obtain ⟨d, e, hd, he, sd, se, dd, q⟩ := h
  obtain ⟨as, r1, _⟩ := Do.reads sm I d x v hd rx
  obtain ⟨bs, r2, _⟩ := Do.reads sm I e y u he ry
  exact SeqAt.eq_plain r1 r2 sd se (by omega) ⟨.bl _, H, I, rfl, q⟩
theorem op_neP (sm : Sm X.K) (hu : X.A.units + 64 < cLine) : OpR X (compareOp .NotEq) (rNeP X.K) := by
  intro pins s σ H x y v u Q I rx ry h
  obtain ⟨d, e, hd, he, sd, se, dd, q⟩ := h
  obtain ⟨as, r1, _⟩ := Do.reads sm I d x v hd rx
  obtain ⟨bs, r2, _⟩ := Do.reads sm I e y u he ry
  exact SeqAt.ne_plain r1 r2 sd se (by omega) ⟨.bl _, H, I, rfl, q⟩
end
end Ver
namespace K19
open PySem PySem.Spec PyProof.Rows L2 Ver Num
/-! ### lists of texts and ints -/
def flatD : V → Option PyData
  | .int i => some (.int i)
  | .str s => some (.str s)
  | _ => none
def FlatL (xs : List V) : Prop := ∀ x ∈ xs, (flatD x).isSome = true
def datL (xs : List V) : List PyData := xs.filterMap flatD
theorem flat_int (ns : List Int) : FlatL (ns.map V.int) := fun x hx => by
  obtain ⟨i, _, rfl⟩ := List.mem_map.mp hx
  rfl
theorem flat_str (ss : List Str) : FlatL (ss.map V.str) := fun x hx => by
  obtain ⟨i, _, rfl⟩ := List.mem_map.mp hx
  rfl
theorem datL_cons {x : V} {xs : List V} (h : FlatL (x :: xs)) : ∃ d, flatD x = some d ∧ datL (x :: xs) = d :: datL xs ∧ d.plain = true ∧ d.depth = 0 ∧ ∀ {K : PySem.W.Frag} {H : Hp}, Do K H x d := by
  have hx := h x List.mem_cons_self
  cases x with
  | int i => exact ⟨.int i, rfl, rfl, rfl, by simp [PyData.depth], fun {K H} => .int i⟩
  | str s => exact ⟨.str s, rfl, rfl, rfl, by simp [PyData.depth], fun {K H} => .str s⟩
  | _ => cases hx
theorem flat_tail {x : V} {xs : List V} (h : FlatL (x :: xs)) : FlatL xs := fun y hy => h y (List.mem_cons_of_mem _ hy)
theorem do_flat {K : PySem.W.Frag} {H : Hp} : ∀ {xs : List V}, FlatL xs → DoAll K H xs (datL xs)
  | [], _ => .nil
  | x :: xs, h => by
    obtain ⟨d, _, e, _, _, hd⟩ := datL_cons h
    rw [e]
    exact .cons hd (do_flat (flat_tail h))
theorem plain_flat : ∀ {xs : List V}, FlatL xs → PyData.plainAll (datL xs) = true
  | [], _ => rfl
  | x :: xs, h => by
    obtain ⟨d, _, e, p, _, _⟩ := datL_cons h
    rw [e]
    show (d.plain && PyData.plainAll (datL xs)) = true
    rw [p, plain_flat (flat_tail h)]
    rfl
theorem depth_flat : ∀ {xs : List V}, FlatL xs → PyData.depthAll (datL xs) ≤ 1
  | [], _ => by simp [datL, PyData.depthAll]
  | x :: xs, h => by
    obtain ⟨d, _, e, _, z, _⟩ := datL_cons h
    have := depth_flat (flat_tail h)
    rw [e]
    simp only [PyData.depthAll]
    omega
theorem eqv_flat {xs : List V} (h : FlatL xs) : PyData.eqv (.list (datL xs)) (.list []) = xs.isEmpty := by
  cases xs with
  | nil => exact SeqAt.eqv_refl_plain _ rfl
  | cons x xs =>
    obtain ⟨d, _, e, _⟩ := datL_cons h
    rw [e]
    simp [PyData.eqv, PyData.eqvAll]
theorem flat_erase {xs : List V} (h : FlatL xs) (k : Nat) : FlatL (xs.eraseIdx k) := fun x hx => h x (List.mem_of_mem_eraseIdx hx)
theorem perm_erase {α : Type} : ∀ {xs : List α} {k : Nat} {y : α}, xs[k]? = some y → (y :: xs.eraseIdx k).Perm xs
  | x :: xs, 0, y, h => by
    cases h
    exact List.Perm.refl _
  | x :: xs, k + 1, y, h => by
    have ih := perm_erase (xs := xs) (k := k) (y := y) h
    rw [List.eraseIdx_cons_succ]
    exact (List.Perm.swap x y _).trans (ih.cons x)
  | [], k, y, h => by simp at h
theorem seq_at {i : Int} {n : Nat} (h0 : 0 ≤ i) (h1 : i < (n : Int)) : seqIndex? i n = some i.toNat := by
  unfold seqIndex?
  simp
  omega
section
variable {P : Program} {w : World} {K : PySem.W.Frag} {mg : Str → Option Value} {base : Heap}
theorem PenC.same {H H' : Hp} {d c : Addr} {k : Int} (p : PenC H d c k) (s : Same H H') : PenC H' d c k := p.on (But.same s) (p.at_.same s)
theorem PenC.mono {H : Hp} {d c : Addr} {j k : Int} (p : PenC H d c j) (h : j ≤ k) : PenC H d c k := by
  obtain ⟨cells, b, l, h1, h2, h3, h4, h5, h6⟩ := p.ex
  exact ⟨cells, b, l, h1, h2, h3, h4, by omega, h6⟩
theorem But.up {d D : Addr} {H H' : Hp} {o : HO} (b : But d H H') (n : H D = none) (nd : d ≠ D) : But d H (upd H' D o) :=
  ⟨fun x u e ne => by rw [upd_ne (ne_of_none e n)]; exact b.1 x u e ne, fun c b0 l e => by
    obtain ⟨b', l', e'⟩ := b.2 c b0 l e
    exact ⟨b', l', by rw [upd_ne nd]; exact e'⟩⟩
/-! ### _law_shuffled -/
def spShuf (K : PySem.W.Frag) : Sp := fun vs H Q _ => ∃ (d a : Addr) (k : Int) (xs : List V), vs = [.ref d, .ref a] ∧ PenAt H d k ∧ k < 1000000000 ∧ SqL K H a xs ∧ FlatL xs ∧ xs.length ≤ 100 ∧
  ∀ (p : Addr) (ys : List V) (H' : Hp), ys.Perm xs → H' p = some (.lst ys) → But d H H' → PenAt H' d (k + (xs.length : Int)) → Q (.ref p) H'
theorem ok_shuf (T : Tx K mg) : FnG P w K mg base CX0 2 (He.ga K "_law_shuffled") (spShuf K) := by
  refine mk__law_shuffled T.d (fun vs H Q E h => ?_) (fun cdv A outer s H vs Q E hg hr h => ?_)
  · obtain ⟨d, a, k, xs, rfl, _⟩ := h
    rfl
  · obtain ⟨d, a, k, xs, rfl, pen, k9, ha, fx, lx, q⟩ := h
    have nd := sc__law_shuffled.nd
    have hu := hr.units
    refine ⟨_, pss_cons (ps_par (i := 2) (j := 3) rfl nd rfl rfl (by decide) rfl rfl (pa_cons (pe_callTy call_list_of (by rfl) (T.z "list" (by decide +kernel)) (by decide +kernel) (pa_cons (pv 1) pa_nil)) (pa_cons (pe_lst pa_nil) pa_nil)) rfl)
      (pss_cons (ps_while PassesOwn.never (pt_cmpR (op_neP T.sm hu) (pv 2) (pe_lst pa_nil) (nomark _))
        (pss_one (ps_expr (pe_bm PySem.F.plainAttrs_list PySem.F.slot_list_append PySem.F.type_list_append mt_append (pv 3) (pa_cons
          (pe_bm PySem.F.plainAttrs_list PySem.F.slot_list_pop PySem.F.type_list_pop mt_popAt (pv 2) (pa_cons (pe_callG (ok_draw T) hr hg (by rfl) (T.g "_law_draw" (by decide +kernel)) (kp__law_draw T.d) pass0
            (pa_cons (pv 0) (pa_cons (pe_callB call_len_seq (by rfl) (T.z "len" (by decide +kernel)) (by decide +kernel) (pa_cons (pv 2) pa_nil)) pa_nil))) pa_nil)) pa_nil)))))
      (pss_one (ps_ret (pv 3)))), ?_⟩
    refine ⟨_, rfl, a, xs, rfl, .inl ha, fun r nr => ⟨by show 0 ≤ sizeLine; decide, fun f nf => ⟨_, _, rfl, ?_⟩⟩⟩
    obtain ⟨c, penC⟩ := pen.c
    obtain ⟨cells, b0, l0, hd, hc, _⟩ := id penC.ex
    have s1 := same_up (o := .lst xs) nr
    have s2 := same_up (o := .lst []) nf
    have dr : d ≠ r := ne_of_none hd nr
    have cr : c ≠ r := ne_of_none hc nr
    have nf0 : H f = none := by
      cases e : H f with
      | none => rfl
      | some o =>
        have := s1 _ _ e
        rw [nf] at this
        cases this
    have df : d ≠ f := ne_of_none hd nf0
    have cf : c ≠ f := ne_of_none hc nf0
    have rf : r ≠ f := ne_of_none (upd_same (a := r)) nf
    refine ⟨fun n σ H' => ∃ (xs' ys : List V), n = xs'.length ∧ H' r = some (.lst xs') ∧ H' f = some (.lst ys) ∧ FlatL xs' ∧ (ys ++ xs').Perm xs ∧ But d H H' ∧ PenC H' d c (k + (ys.length : Int)) ∧ σ = [some (.ref d), some (.ref a), some (.ref r), some (.ref f)],
      ⟨xs.length, xs, [], rfl, s2 _ _ upd_same, upd_same, fx, List.Perm.refl _, But.same (s1.trans s2), PenC.mono (PenC.same penC (s1.trans s2)) (by simp), rfl⟩, ?_⟩
    rintro n σ H' ⟨xs', ys, rfl, hr', hf', fx', pm, bt, pc, rfl⟩
    refine ⟨_, rfl, by show 0 ≤ sizeLine; decide, fun z nz => ?_⟩
    have s3 := same_up (o := .lst []) nz
    have dep := depth_flat fx'
    refine ⟨.list (datL xs'), .list [], .lst (SqL.of (s3 _ _ hr')) (do_flat fx'), .lst (SqL.of upd_same) .nil, by show PyData.plainAll _ = true; exact plain_flat fx', rfl, by simp only [PyData.depth]; omega, _, rfl, ?_⟩
    rw [eqv_flat fx']
    cases xs' with
    | nil =>
      refine ifF rfl ⟨_, rfl, ?_⟩
      rw [List.append_nil] at pm
      exact q f ys _ pm (s3 _ _ hf') (bt.trans (But.same s3)) (((PenC.same pc s3).at_).mono (by rw [pm.length_eq]; omega))
    | cons x0 xr =>
      refine ifT rfl ?_
      have hr3 := s3 _ _ hr'
      have hf3 := s3 _ _ hf'
      have lxs := pm.length_eq
      rw [List.length_append, List.length_cons] at lxs
      refine ⟨fun σ' H'' => ∃ (xs2 ys2 : List V), xs2.length < (x0 :: xr).length ∧ H'' r = some (.lst xs2) ∧ H'' f = some (.lst ys2) ∧ FlatL xs2 ∧ (ys2 ++ xs2).Perm xs ∧ But d H H'' ∧ PenC H'' d c (k + (ys2.length : Int)) ∧ σ' = [some (.ref d), some (.ref a), some (.ref r), some (.ref f)], ?_, ?_⟩
      · rintro σ' H'' ⟨xs2, ys2, hlt, e1, e2, e3, e4, e5, e6, e7⟩
        exact ⟨_, hlt, xs2, ys2, rfl, e1, e2, e3, e4, e5, e6, e7⟩
      · refine ⟨_, rfl, .inl ⟨rfl, _, SqL.of hf3⟩, ?_⟩
        refine ⟨_, rfl, .inl ⟨rfl, _, SqL.of hr3⟩, ?_⟩
        refine ⟨_, rfl, _, rfl, r, _, rfl, .inl (SqL.of hr3), ?_⟩
        have pc3 := PenC.same pc s3
        refine ⟨d, _, _, rfl, pc3.at_, by omega, by rw [List.length_cons]; omega, by rw [List.length_cons]; omega, fun i H4 bt4 pen4 i0 i1 => ?_⟩
        have pc4 := pc3.on bt4 pen4
        have hr4 := bt4.1 r _ hr3 (Ne.symm dr)
        have hf4 := bt4.1 f _ hf3 (Ne.symm df)
        obtain ⟨y, hy⟩ : ∃ y, (x0 :: xr)[i.toNat]? = some y := ⟨_, List.getElem?_eq_getElem (by omega)⟩
        refine ⟨r, x0 :: xr, i, i.toNat, y, rfl, rfl, hr4, by omega, by rw [List.length_cons] at i1; omega, seq_at i0 i1, hy, ?_⟩
        refine ⟨f, ys, y, rfl, rfl, by rw [upd_ne (Ne.symm rf)]; exact hf4, by rw [sizeLine_eq]; omega, ?_⟩
        have pm2 : ((ys ++ [y]) ++ (x0 :: xr).eraseIdx i.toNat).Perm xs := by
          rw [List.append_assoc]
          exact ((perm_erase hy).append_left ys).trans pm
        have le := pm2.length_eq
        rw [List.length_append, List.length_append] at le
        have l1 : [y].length = 1 := rfl
        refine ⟨_, _, ?_, by rw [upd_ne rf, upd_same], upd_same, flat_erase fx' _, pm2, ?_, ?_, rfl⟩
        · rw [List.length_cons]
          omega
        · exact ((bt.trans (But.same s3)).trans bt4 |>.up (by exact nr) dr).up nf0 df
        · exact PenC.mono ((pc4.up dr cr).up df cf) (by rw [List.length_append]; omega)
end
end K19

namespace Ver
open PySem PySem.Spec PyProof.Rows L2
/-- list(e.values()) -/
def tListVals (te : TE) : TE := fun σ H Q => te σ H fun x H1 => ∃ (d : Addr) (kvs : List (Key × V)), x = .ref d ∧ H1 d = some (.dK kvs) ∧ ∀ q, H1 q = none → Q (.ref q) (upd H1 q (.lst (kvs.map (·.2))))
section
variable {X : Cx} {e : Expr} {te : TE} {p apos cpos pos : Pos}
theorem pe_listVals (hc : X.calm = true) (he : PE X e te) (hg : Gl X "list") (hm : X.mg "list" = none) (hv : bootBuiltins "list" = some (.type "list")) (hbase : attributeBase e "values" X.env (eval e X.env) = eval e X.env := by rfl) (hline : (apos.endLine == cpos.line) = true := by rfl)
    (hs : starEach [.Call (.Attribute e "values" apos) [] [] cpos] X.env = (false, eval (.Call (.Attribute e "values" apos) [] [] cpos) X.env) :: starEach [] X.env := by rfl) :
    PE X (.Call (.Name "list" p) [.Call (.Attribute e "values" apos) [] [] cpos] [] pos) (tListVals te) := by
  refine ⟨fun pins s σ H Q I hq => wpAny_Call_Name_kw (ld_blt I hg hm hv (PyProof.Rows.callWith_type1 ?_ hs rfl))⟩
  rw [hs]
  refine (Calls.spliced_cons ?_ : wpAny _ _ (spliced ((false, eval (.Call (.Attribute e "values" apos) [] [] cpos) X.env) :: backTo pos (starEach [] X.env))) _ _ s)
  refine wpAny_Call_method (T := "dict") (id := "dict.values") hbase rfl hline F.plainAttrs_dict F.slot_dict_values F.type_dict_values (thn (he.run pins s σ H _ I hq) fun u s1 ⟨x, H1, I1, rx, d, kvs, ex, hd, q⟩ => ?_)
  subst ex
  obtain rfl : u = Value.ref d := rx
  obtain ⟨hz, lo, vs, rk, hdo⟩ := dk_of I1.hok hd
  obtain ⟨ep, hat⟩ := hdo.dictAt
  have hl : kvs.length = vs.length := Paired.length rk
  refine ⟨hdo.typeIs, hdo.mapOf.noDict, ?_⟩
  refine (method_meetsIn F.slot_dict_values F.entry_dict_values rfl (PySem.evalArgs_none ⟨rfl, hdo.typeIs, F.args_dict_values_1 _, _, meets_dict_values (mixKind X.prog X.w) d lo, ⟨vs, hdo⟩, ?_⟩) : wpAny _ _ (callWith cpos (.builtin "dict.values") [.ref d] [] []) _ X.xe s1)
  refine Calls.spliced_nil ?_
  have I2 : Inv X pins σ H1 { s1 with heap := s1.heap.push { cls := .type "dict_values", data := .fields #[.ref d] } } := I1.kept (t' := s1.toks) fun b ob q => Heap.get?_push_of_some _ q
  refine PySem.W.kdl_call (PySem.W.kdl_values (knd := mixKind X.prog X.w) (kvs := vs) (ep := ep)) (I1.ok.hd hc) ⟨⟨_, Heap.get?_push_size _ rfl, rfl, rfl⟩, hat.push _⟩ (by rw [← hl]; exact hz) fun h' tk acc' c' kp hS hacc => ?_
  refine ⟨.ref _, upd H1 _ (.lst (kvs.map (·.2))), I2.laid kp (Nat.le_refl _) (show ObjOk X.prog X.w _ _ _ (.lst (kvs.map (·.2))) from ⟨by rw [List.length_map]; exact hz, acc'.toList, c', ?_, ?_⟩), rfl, q _ (I2.hok.fresh (Nat.le_refl _))⟩
  · have el : acc'.toList.length = acc'.size := Array.length_toList
    refine vals_of_at (by rw [List.length_map, el, hacc.1, hl]) fun j x v h1 h2 => ?_
    obtain ⟨k, hky⟩ := hacc.2 j v (by rw [← Array.getElem?_toList]; exact h2)
    rw [List.getElem?_map] at h1
    cases hj : kvs[j]? with
    | none =>
      rw [hj] at h1
      cases h1
    | some q =>
      rw [hj] at h1
      cases h1
      obtain ⟨y, e1, e2⟩ := LiI.paired_get rk hj
      rw [hky] at e1
      cases e1
      exact e2.2
  · rw [Array.toArray_toList]
    exact hS
/-- sorted of texts, as many as there are -/
def rSortedSA (K : PySem.W.Frag) : List V → Hp → VK → Prop := fun vs H Q => ∃ (a : Addr) (xs : List Str), vs = [V.ref a] ∧ SqL K H a (xs.map V.str) ∧
  ∀ (ys : List Str) (p : Addr), ys.Perm xs → sortedS ys = true → H p = none → Q (.ref p) (upd H p (.lst (ys.map V.str)))
theorem cr_sortedSA : CallR X (.builtin "sorted") (rSortedSA X.K) := by
  intro pins s σ H vs us Q I r h
  obtain ⟨a, xs, rfl, hs, q⟩ := h
  obtain ⟨its, rv, hl, hz⟩ := I.list hs
  rw [Vals.ref1 r]
  have len := rv.length
  rw [List.length_map] at len
  refine PyProof.Rows.sorted_strsAny hl.isList rv.strs (by rw [← len, ← List.length_map (f := V.str)]; exact hz) fun out ys h1 h2 h3 => ?_
  obtain ⟨ep, hat⟩ := PyProof.Rows.sortedAll_at s.heap its out
  have few : (ys.map V.str).length ≤ sizeLine := by
    rw [List.length_map, h2.length_eq, ← List.length_map (f := V.str)]
    exact hz
  exact ⟨.ref _, upd H (s.heap.objs.size + 1) (.lst (ys.map V.str)), I.laid (t' := s.toks) (fun _ _ => PyProof.Rows.sortedAll_old) (Nat.le_succ _) ⟨few, out.toList, ep, vals_of_strs h1, hat⟩, rfl, q ys _ h2 h3 (I.hok.fresh (Nat.le_succ _))⟩
end
end Ver
namespace Ver
open PySem PySem.Spec PyProof.Rows L2
/-- list(text) -/
def rListText : List V → Hp → VK → Prop := fun vs H Q => ∃ x : Str, vs = [.str x] ∧ x.cps.size ≤ 16000000 ∧ ∀ q, H q = none → Q (.ref q) (upd H q (.lst (x.cps.toList.map fun c => V.str ⟨#[c]⟩)))
theorem cr_listText {X : Cx} (hc : X.calm = true) : CallR X (.type "list") rListText := by
  intro pins s σ H vs us Q I r h
  obtain ⟨x, rfl, hz, q⟩ := h
  obtain ⟨u, rfl, t, rfl⟩ := vals1 r
  have few : x.cps.size ≤ sizeLine := by rw [sizeLine_eq]; omega
  refine PySem.call_list_str (I.ok.hd hc) x t (fun h' tk acc c kp hS hacc => ?_) few
  refine ⟨.ref s.heap.objs.size, upd H s.heap.objs.size (.lst (x.cps.toList.map fun c => V.str ⟨#[c]⟩)), I.laid kp (Nat.le_refl _) (show ObjOk X.prog X.w _ _ _ (.lst _) from ⟨by rw [List.length_map, Array.length_toList]; exact few, acc.toList, c, ?_, ?_⟩), rfl, q _ (I.hok.fresh (Nat.le_refl _))⟩
  · refine vals_of_at (by rw [List.length_map, Array.length_toList, Array.length_toList, hacc.1]) fun j y v h1 h2 => ?_
    obtain ⟨k, tk2, e1, e2⟩ := hacc.2 j v (by rw [← Array.getElem?_toList]; exact h2)
    rw [List.getElem?_map, Array.getElem?_toList, e1] at h1
    cases h1
    exact ⟨tk2, e2⟩
  · rw [Array.toArray_toList]
    exact hS
end Ver

/-! Lists of numbers, of texts of one sign, in order. -/
namespace Ver
open PySem PySem.Spec PyProof.Rows L2 SX
theorem perm_map {α β : Type} {f : α → β} (g : β → α) (hg : ∀ a, g (f a) = a) {ys : List β} {zs : List α} (h : ys.Perm (zs.map f)) : ∃ zs' : List α, ys = zs'.map f ∧ zs'.Perm zs := by
  refine ⟨ys.map g, ?_, ?_⟩
  · rw [List.map_map]
    refine (List.map_id ys).symm.trans (List.map_congr_left fun y hy => ?_)
    obtain ⟨z, _, rfl⟩ := List.mem_map.mp (h.mem_iff.mp hy)
    show f z = f (g (f z))
    rw [hg]
  · have e := h.map g
    rw [List.map_map] at e
    have e2 : zs.map (g ∘ f) = zs := by
      conv => rhs; rw [← List.map_id zs]
      exact List.map_congr_left fun z _ => hg z
    rwa [e2] at e
def unI : V → Int
  | .int i => i
  | _ => 0
def unS : V → Str
  | .str s => s
  | _ => S []
def un1 (s : Str) : Nat := s.cps.toList.headD 0
theorem ints_perm {ys : List V} {ns : List Int} (h : ys.Perm (ns.map V.int)) : ∃ ns' : List Int, ys = ns'.map V.int ∧ ns'.Perm ns := perm_map unI (fun _ => rfl) h
theorem strs_perm {ys : List V} {ns : List Str} (h : ys.Perm (ns.map V.str)) : ∃ ns' : List Str, ys = ns'.map V.str ∧ ns'.Perm ns := perm_map unS (fun _ => rfl) h
abbrev ones (cs : List Nat) : List Str := cs.map fun c => S [c]
theorem ones_perm {ys : List Str} {cs : List Nat} (h : ys.Perm (ones cs)) : ∃ ds : List Nat, ys = ones ds ∧ ds.Perm cs := perm_map un1 (fun _ => rfl) h
theorem le_of_rising : ∀ (ds : List Nat) (p : Nat), risingS (S [p]) (ones ds) = true → (p :: ds).Pairwise (· ≤ ·)
  | [], p, _ => List.pairwise_singleton _ _
  | d :: ds, p, h => by
    have h : (!ltCps [d] [p] && risingS (S [d]) (ones ds)) = true := h
    rw [Bool.and_eq_true] at h
    have ih := le_of_rising ds d h.2
    have e : p ≤ d := by
      have h1 := h.1
      simp [ltCps] at h1
      exact h1
    refine List.pairwise_cons.mpr ⟨fun x hx => ?_, ih⟩
    rcases List.mem_cons.mp hx with rfl | hx
    · exact e
    · exact Nat.le_trans e ((List.pairwise_cons.mp ih).1 x hx)
theorem le_of_sorted {ds : List Nat} (h : sortedS (ones ds) = true) : ds.Pairwise (· ≤ ·) := by
  cases ds with
  | nil => exact List.Pairwise.nil
  | cons d ds => exact le_of_rising ds d h
theorem asc_eq {ds cs : List Nat} (p : ds.Perm cs) (h : ds.Pairwise (· ≤ ·)) (h2 : cs.Pairwise (· < ·)) : ds = cs :=
  List.Perm.eq_of_pairwise (fun a b _ _ h1 h2 => Nat.le_antisymm h1 h2) h (h2.imp Nat.le_of_lt) p
theorem asc_nodup {cs : List Nat} (h : cs.Pairwise (· < ·)) : cs.Nodup := h.imp (S := fun a b => a ≠ b) fun h => Nat.ne_of_lt h
theorem lt_of_le_nodupN : ∀ {l : List Nat}, l.Pairwise (· ≤ ·) → l.Nodup → l.Pairwise (· < ·)
  | [], _, _ => List.Pairwise.nil
  | x :: l, h, d => by
    obtain ⟨h1, h2⟩ := List.pairwise_cons.mp h
    obtain ⟨d1, d2⟩ := List.nodup_cons.mp d
    exact List.pairwise_cons.mpr ⟨fun y hy => Nat.lt_of_le_of_ne (h1 y hy) fun e => d1 (e ▸ hy), lt_of_le_nodupN h2 d2⟩
/-- texts of one sign in order, from any arrangement -/
theorem ones_sorted {ys : List Str} {cs : List Nat} (p : ys.Perm (ones cs)) (h : sortedS ys = true) (asc : cs.Pairwise (· < ·)) : ys = ones cs := by
  obtain ⟨ds, rfl, pd⟩ := ones_perm p
  rw [asc_eq pd (le_of_sorted h) asc]
theorem joinL_ones : ∀ cs : List Nat, TL.joinL [] (cs.map fun c => [c]) = cs
  | [] => rfl
  | [c] => rfl
  | c :: d :: cs => by
    have ih := joinL_ones (d :: cs)
    show [c] ++ ([] ++ TL.joinL [] ((d :: cs).map fun c => [c])) = c :: d :: cs
    rw [ih]
    rfl
theorem join_ones (cs : List Nat) : Txt.join (S []) (ones cs) = S cs := by
  have e : ones cs = (cs.map fun c => [c]).map S := by
    rw [List.map_map]
    rfl
  rw [e, join_S, joinL_ones]
theorem ones_len (cs : List Nat) : ((ones cs).map (·.length)).sum = cs.length := by
  induction cs with
  | nil => rfl
  | cons c cs ih =>
    show (S [c]).length + ((ones cs).map (·.length)).sum = _
    rw [ih, S_len, List.length_cons, List.length_cons, List.length_nil]
    omega
theorem chars_S (cs : List Nat) : (S cs).cps.toList = cs := by simp
end Ver

/-! Comprehensions whose parts only read. -/
namespace Ver
open PySem PySem.Spec PyProof.Rows L2
section
variable {J : It} {n : Nat} {G : Hp → Prop} {Y : Nat → V → Prop}
theorem same_new {Hb H : Hp} {D : Addr} {o : HO} (nD : Hb D = none) (s : Same Hb H) : Same Hb (upd H D o) := fun b u e => by
  rw [upd_ne (ne_of_none e nD)]
  exact s b u e
/-- [e for x in ..]: x in slot j, the i-th result is y i -/
theorem lc_one (w : Walk J n G (fun i H x H' => H' = H ∧ Y i x)) {te : TE} {j : Nat} {σ : L2.St} {Hb : Hp} {D : Addr} {Qd : Hp → Prop} (y : Nat → V) (nD : Hb D = none) (few : n ≤ 20000) (hG : ∀ H, Same Hb H → G H)
    (hs : ∀ i x H (R : V → Hp → Prop), i < n → Same Hb H → Y i x → R (y i) H → te ((wipe σ [j]).set j (some x)) H R)
    (hd : ∀ H, Same Hb H → H D = some (.lst ((List.range n).map y)) → Qd H) (hw : ∀ x : V, wipe ((wipe σ [j]).set j (some x)) [j] = wipe σ [j] := by intro _; rfl) :
    ∃ W : Nat → Nat → Hp → Prop, (∃ m, W 0 m (upd Hb D (.lst []))) ∧ ∀ i m H, W i m H →
      (J.stop i H ∧ Qd H) ∨ (J.go i H ∧ ∃ Nx : Hp → Prop, (∀ H', Nx H' → ∃ m', m' < m ∧ W (i + 1) m' H') ∧ ∀ x H', J.yld i H x H' → gName j x (wipe σ [j]) H' fun σ2 H2 => wipe σ2 [j] = wipe σ [j] ∧ tYes σ2 H2 fun b H3 =>
        if b = true then te σ2 H3 fun y H4 => ∃ acc, H4 D = some (.lst acc) ∧ acc.length < sizeLine ∧ Nx (upd H4 D (.lst (acc ++ [y]))) else Nx H3) := by
  refine lc_it w (fun i H => Same Hb H ∧ H D = some (.lst ((List.range i).map y))) ⟨same_new nD (fun _ _ e => e), upd_same⟩ (fun i H _ p => hG H p.1) (fun i x H H' hi p hy => ?_) fun H p => hd H p.1 p.2
  obtain ⟨rfl, hy⟩ := hy
  refine ⟨hw x, ?_⟩
  unfold tYes
  dsimp only
  rw [if_pos rfl]
  refine hs i x _ _ hi p.1 hy ⟨_, p.2, ?_, same_new nD p.1, ?_⟩
  · rw [List.length_map, List.length_range, sizeLine_eq]
    omega
  · rw [upd_same, List.range_succ, List.map_append]
    rfl
/-- [e for x in .. if t] -/
theorem lc_some (w : Walk J n G (fun i H x H' => H' = H ∧ Y i x)) {tt : TT} {te : TE} {j : Nat} {σ : L2.St} {Hb : Hp} {D : Addr} {Qd : Hp → Prop} (y : Nat → V) (keep : Nat → Bool) (nD : Hb D = none) (few : n ≤ 20000) (hG : ∀ H, Same Hb H → G H)
    (ht : ∀ i x H (R : Bool → Hp → Prop), i < n → Same Hb H → Y i x → R (keep i) H → tt ((wipe σ [j]).set j (some x)) H R)
    (hs : ∀ i x H (R : V → Hp → Prop), i < n → keep i = true → Same Hb H → Y i x → R (y i) H → te ((wipe σ [j]).set j (some x)) H R)
    (hd : ∀ H, Same Hb H → H D = some (.lst (((List.range n).filter keep).map y)) → Qd H) (hw : ∀ x : V, wipe ((wipe σ [j]).set j (some x)) [j] = wipe σ [j] := by intro _; rfl) :
    ∃ W : Nat → Nat → Hp → Prop, (∃ m, W 0 m (upd Hb D (.lst []))) ∧ ∀ i m H, W i m H →
      (J.stop i H ∧ Qd H) ∨ (J.go i H ∧ ∃ Nx : Hp → Prop, (∀ H', Nx H' → ∃ m', m' < m ∧ W (i + 1) m' H') ∧ ∀ x H', J.yld i H x H' → gName j x (wipe σ [j]) H' fun σ2 H2 => wipe σ2 [j] = wipe σ [j] ∧ tt σ2 H2 fun b H3 =>
        if b = true then te σ2 H3 fun y H4 => ∃ acc, H4 D = some (.lst acc) ∧ acc.length < sizeLine ∧ Nx (upd H4 D (.lst (acc ++ [y]))) else Nx H3) := by
  refine lc_it w (fun i H => Same Hb H ∧ H D = some (.lst (((List.range i).filter keep).map y))) ⟨same_new nD (fun _ _ e => e), upd_same⟩ (fun i H _ p => hG H p.1) (fun i x H H' hi p hy => ?_) fun H p => hd H p.1 p.2
  obtain ⟨rfl, hy⟩ := hy
  refine ⟨hw x, ht i x _ _ hi p.1 hy ?_⟩
  have r1 : List.range (i + 1) = List.range i ++ [i] := List.range_succ
  cases hk : keep i with
  | true =>
    rw [if_pos rfl]
    refine hs i x _ _ hi hk p.1 hy ⟨_, p.2, ?_, same_new nD p.1, ?_⟩
    · have l1 := List.length_filter_le keep (List.range i)
      rw [List.length_range] at l1
      rw [List.length_map, sizeLine_eq]
      omega
    · rw [upd_same, r1, List.filter_append, List.map_append, show List.filter keep [i] = [i] by simp [hk]]
      rfl
  | false =>
    rw [if_neg Bool.false_ne_true]
    refine ⟨p.1, ?_⟩
    rw [r1, List.filter_append, show List.filter keep [i] = [] by simp [hk], List.append_nil]
    exact p.2
end
section
variable {K : PySem.W.Frag} {a d : Addr} {xs : List V} {o : Obj}
theorem wk_list : Walk (Itl K a) xs.length (fun H => SqL K H a xs) (fun i H x H' => H' = H ∧ xs[i]? = some x) := walk_list
theorem wk_tup : Walk (Itt K a) xs.length (fun H => SqT K H a xs) (fun i H x H' => H' = H ∧ xs[i]? = some x) := walk_tup
theorem wk_range {n : Nat} : Walk (Itr 0 n) n (fun _ => True) (fun i H x H' => H' = H ∧ x = .int (0 + (i : Int))) := walk_range
theorem wk_str {z : Str} : Walk (Its z) z.cps.size (fun _ => True) (fun i H x H' => H' = H ∧ ∃ c, z.cps[i]? = some c ∧ x = .str ⟨#[c]⟩) := walk_str
theorem wk_keys {kvs : List (Key × V)} : Walk (Itk d o kvs) kvs.length (fun H => H d = some (.frz o (.dK kvs))) (fun i H x H' => H' = H ∧ ∃ k v, kvs[i]? = some (k, v) ∧ x = kV k) := walk_keys
end
theorem range_map {α β : Type} [Inhabited α] (xs : List α) (f : α → β) (y : Nat → β) (h : ∀ i x, xs[i]? = some x → y i = f x) : (List.range xs.length).map y = xs.map f := by
  refine List.ext_getElem (by rw [List.length_map, List.length_map, List.length_range]) fun i h1 h2 => ?_
  rw [List.length_map] at h2
  rw [List.getElem_map, List.getElem_map, List.getElem_range]
  exact h i _ (List.getElem?_eq_getElem h2)
end Ver
namespace Ver
open PySem PySem.Spec PyProof.Rows L2
theorem valV_no {κ : Type} [DecidableEq κ] : ∀ {kvs : List (κ × V)} {k : κ}, k ∉ kvs.map (·.1) → valV kvs k = none
  | [], _, _ => rfl
  | p :: kvs, k, h => by
    rw [List.map_cons, List.mem_cons, not_or] at h
    exact (valV_neg fun z => h.1 z.symm).trans (valV_no h.2)
/-- {k: v for x in ..}, new keys -/
theorem dc_one {J : It} {n : Nat} {G : Hp → Prop} {Y : Nat → V → Prop} (w : Walk J n G (fun i H x H' => H' = H ∧ Y i x)) {tk tv : TE} {j : Nat} {σ : L2.St} {Hb : Hp} {D : Addr} {Qd : Hp → Prop} (kf : Nat → Key) (y : Nat → V) (inj : ∀ a b, a < n → b < n → kf a = kf b → a = b) (nD : Hb D = none) (few : n ≤ 20000) (hG : ∀ H, Same Hb H → G H)
    (hs : ∀ i x H (R : V → Hp → Prop), i < n → Same Hb H → Y i x → R (kV (kf i)) H → tk ((wipe σ [j]).set j (some x)) H R)
    (hv : ∀ i x H (R : V → Hp → Prop), i < n → Same Hb H → Y i x → R (y i) H → tv ((wipe σ [j]).set j (some x)) H R)
    (hd : ∀ H, Same Hb H → H D = some (.dK ((List.range n).map fun i => (kf i, y i))) → Qd H) (hw : ∀ x : V, wipe ((wipe σ [j]).set j (some x)) [j] = wipe σ [j] := by intro _; rfl) :
    ∃ W : Nat → Nat → Hp → Prop, (∃ m, W 0 m (upd Hb D (.dK []))) ∧ ∀ i m H, W i m H →
      (J.stop i H ∧ Qd H) ∨ (J.go i H ∧ ∃ Nx : Hp → Prop, (∀ H', Nx H' → ∃ m', m' < m ∧ W (i + 1) m' H') ∧ ∀ x H', J.yld i H x H' → gName j x (wipe σ [j]) H' fun σ2 H2 => wipe σ2 [j] = wipe σ [j] ∧ tYes σ2 H2 fun b H3 =>
        if b = true then tk σ2 H3 fun y H4 => tv σ2 H4 fun z H5 => ∃ kvs k, y = kV k ∧ H5 D = some (.dK kvs) ∧ kvs.length < sizeLine ∧ Nx (upd H5 D (.dK (putK kvs k z))) else Nx H3) := by
  refine ⟨fun i m H => m = n - i ∧ i ≤ n ∧ Same Hb H ∧ H D = some (.dK ((List.range i).map fun i => (kf i, y i))), ⟨n, by simp, Nat.zero_le _, same_new nD (fun _ _ e => e), upd_same⟩, ?_⟩
  rintro i m H ⟨rfl, hi, p⟩
  by_cases hlt : i < n
  · refine .inr ⟨w.goes i H hlt (hG H p.1), fun H => Same Hb H ∧ H D = some (.dK ((List.range (i + 1)).map fun i => (kf i, y i))), fun H' p' => ⟨n - (i + 1), by omega, rfl, hlt, p'⟩, fun x H' yy => ?_⟩
    obtain ⟨rfl, hy⟩ := w.yields i H x H' hlt (hG H p.1) yy
    refine ⟨hw x, ?_⟩
    unfold tYes
    dsimp only
    rw [if_pos rfl]
    refine hs i x _ _ hlt p.1 hy (hv i x _ _ hlt p.1 hy ⟨_, kf i, rfl, p.2, ?_, same_new nD p.1, ?_⟩)
    · rw [List.length_map, List.length_range, sizeLine_eq]
      omega
    · rw [upd_same, putK_new, List.range_succ, List.map_append]
      · rfl
      · refine valV_no fun z => ?_
        rw [List.map_map] at z
        obtain ⟨m, hm, e⟩ := List.mem_map.mp z
        have hm := List.mem_range.mp hm
        exact absurd (inj m i (by omega) hlt e) (by omega)
  · have e : i = n := by omega
    subst e
    exact .inl ⟨w.stops H (hG H p.1), hd H p.1 p.2⟩
end Ver
namespace Ver
open PySem PySem.Spec PyProof.Rows L2
/-- [(a, b) for x in ..]: the i-th result is a new pair -/
theorem lc_pair {J : It} {n : Nat} {G : Hp → Prop} {Y : Nat → V → Prop} (w : Walk J n G (fun i H x H' => H' = H ∧ Y i x)) {te : TE} {j : Nat} {σ : L2.St} {Hb : Hp} {D : Addr} {Qd : Hp → Prop} (a b : Nat → V) (nD : Hb D = none) (few : n ≤ 20000) (hG : ∀ H, Same Hb H → G H)
    (hs : ∀ i x H (R : V → Hp → Prop), i < n → Same Hb H → Y i x → (∀ t, H t = none → R (.ref t) (upd H t (.tup [a i, b i]))) → te ((wipe σ [j]).set j (some x)) H R)
    (hd : ∀ H (ts : List Addr), Same Hb H → H D = some (.lst (ts.map V.ref)) → ts.length = n → (∀ i t, ts[i]? = some t → H t = some (.tup [a i, b i]) ∧ Hb t = none) → Qd H) (hw : ∀ x : V, wipe ((wipe σ [j]).set j (some x)) [j] = wipe σ [j] := by intro _; rfl) :
    ∃ W : Nat → Nat → Hp → Prop, (∃ m, W 0 m (upd Hb D (.lst []))) ∧ ∀ i m H, W i m H →
      (J.stop i H ∧ Qd H) ∨ (J.go i H ∧ ∃ Nx : Hp → Prop, (∀ H', Nx H' → ∃ m', m' < m ∧ W (i + 1) m' H') ∧ ∀ x H', J.yld i H x H' → gName j x (wipe σ [j]) H' fun σ2 H2 => wipe σ2 [j] = wipe σ [j] ∧ tYes σ2 H2 fun b H3 =>
        if b = true then te σ2 H3 fun y H4 => ∃ acc, H4 D = some (.lst acc) ∧ acc.length < sizeLine ∧ Nx (upd H4 D (.lst (acc ++ [y]))) else Nx H3) := by
  refine lc_it w (fun i H => Same Hb H ∧ ∃ ts : List Addr, H D = some (.lst (ts.map V.ref)) ∧ ts.length = i ∧ ∀ j t, ts[j]? = some t → H t = some (.tup [a j, b j]) ∧ Hb t = none) ⟨same_new nD (fun _ _ e => e), [], upd_same, rfl, fun j t h => by simp at h⟩ (fun i H _ p => hG H p.1) (fun i x H H' hi p hy => ?_) fun H ⟨p, ts, h1, h2, h3⟩ => hd H ts p h1 h2 h3
  obtain ⟨rfl, hy⟩ := hy
  obtain ⟨sm, ts, h1, h2, h3⟩ := p
  refine ⟨hw x, ?_⟩
  unfold tYes
  dsimp only
  rw [if_pos rfl]
  refine hs i x _ _ hi sm hy fun t nt => ?_
  have tD : D ≠ t := ne_of_none h1 nt
  refine ⟨_, by rw [upd_ne tD]; exact h1, ?_, ?_, ts ++ [t], ?_, ?_, ?_⟩
  · rw [List.length_map, h2, sizeLine_eq]
    omega
  · exact fun c u e => by
      rw [upd_ne (ne_of_none e nD), upd_ne (ne_of_none (sm c u e) nt)]
      exact sm c u e
  · rw [upd_same, List.map_append]
    rfl
  · rw [List.length_append, h2]
    rfl
  · intro k u hk
    by_cases hkl : k < ts.length
    · rw [List.getElem?_append_left hkl] at hk
      obtain ⟨e1, e2⟩ := h3 k u hk
      have uD : u ≠ D := fun z => by
        rw [z, h1] at e1
        cases e1
      exact ⟨by rw [upd_ne uD, upd_ne (ne_of_none e1 nt)]; exact e1, e2⟩
    · have hk2 : k = ts.length := by
        have := (List.getElem?_eq_some_iff.mp hk).1
        rw [List.length_append, List.length_cons, List.length_nil] at this
        omega
      subst hk2
      have : u = t := by
        rw [List.getElem?_append_right (Nat.le_refl _)] at hk
        simp at hk
        exact hk.symm
      subst this
      refine ⟨?_, ?_⟩
      · rw [upd_ne (Ne.symm tD), upd_same, h2]
      · cases e : Hb u with
        | none => rfl
        | some o =>
          have := sm u o e
          rw [nt] at this
          cases this
end Ver

namespace K19
open PySem PySem.Spec PyProof.Rows L2 Ver Num SX
/-! ### letters with costs -/
abbrev LC := List (Nat × Int)
structure LOk (L : LC) : Prop where
  pos : 1 ≤ L.length
  few : L.length ≤ 4
  asc : (L.map (·.1)).Pairwise (· < ·)
  rng : ∀ p ∈ L, 97 ≤ p.1 ∧ p.1 ≤ 122
  cost : ∀ p ∈ L, 1 ≤ p.2 ∧ p.2 ≤ 9
/-- letters -/
structure CsOk (cs : List Nat) : Prop where
  pos : 1 ≤ cs.length
  few : cs.length ≤ 4
  asc : cs.Pairwise (· < ·)
  rng : ∀ c ∈ cs, 97 ≤ c ∧ c ≤ 122
theorem LOk.cs {L : LC} (o : LOk L) : CsOk (L.map (·.1)) := ⟨by rw [List.length_map]; exact o.pos, by rw [List.length_map]; exact o.few, o.asc, fun c hc => by
  obtain ⟨p, hp, rfl⟩ := List.mem_map.mp hc
  exact o.rng p hp⟩
/-- the dict from letters to costs -/
abbrev dOf (L : LC) : List (Key × V) := L.map fun p => (Sum.inr (S [p.1]), V.int p.2)
/-- the value at a letter -/
theorem valV_mem : ∀ {L : LC}, (L.map (·.1)).Nodup → ∀ {p : Nat × Int}, p ∈ L → valV (dOf L) (.inr (S [p.1])) = some (.int p.2)
  | q :: L, nd, p, hp => by
    obtain ⟨n1, n2⟩ := List.nodup_cons.mp nd
    rcases List.mem_cons.mp hp with rfl | h
    · exact valV_pos rfl
    · refine (valV_neg fun z => ?_).trans (valV_mem n2 h)
      have e : S [q.1] = S [p.1] := Sum.inr.inj z
      have e2 : q.1 = p.1 := (List.cons.inj (S_inj e)).1
      exact n1 (List.mem_map.mpr ⟨p, h, e2.symm⟩)
theorem keys_dOf (L : LC) : ((dOf L).map fun kv => kV kv.1) = (ones (L.map (·.1))).map V.str := by
  rw [List.map_map, List.map_map, List.map_map]
  rfl
theorem valV_off : ∀ {L : LC} {c : Nat}, c ∉ L.map (·.1) → valV (dOf L) (.inr (S [c])) = none
  | [], _, _ => rfl
  | q :: L, c, h => by
    rw [List.map_cons, List.mem_cons, not_or] at h
    exact (valV_neg fun z => h.1 (List.cons.inj (S_inj (Sum.inr.inj z))).1.symm).trans (valV_off h.2)
theorem merge_fresh : ∀ (M L : LC), ((L ++ M).map (·.1)).Nodup → mergeK (dOf L) (dOf M) = dOf (L ++ M)
  | [], L, _ => by
    rw [List.append_nil]
    rfl
  | p :: M, L, nd => by
    have e : L ++ p :: M = (L ++ [p]) ++ M := by simp
    have hp : putK (dOf L) (.inr (S [p.1])) (.int p.2) = dOf (L ++ [p]) := by
      rw [putK_new _ ?_]
      · rw [dOf, dOf, List.map_append]
        rfl
      · refine valV_off fun z => ?_
        rw [List.map_append, List.map_cons, List.nodup_append] at nd
        exact nd.2.2 p.1 z p.1 List.mem_cons_self rfl
    show mergeK (putK (dOf L) (.inr (S [p.1])) (.int p.2)) (dOf M) = _
    rw [hp, e]
    exact merge_fresh M (L ++ [p]) (by rw [← e]; exact nd)
section
variable {P : Program} {w : World} {K : PySem.W.Frag} {mg : Str → Option Value} {base : Heap}
/-! ### _law_pick out of a text -/
def spPickS : Sp := fun vs H Q _ => ∃ (d : Addr) (k : Int) (cs : List Nat), vs = [.ref d, .str (S cs)] ∧ PenAt H d k ∧ k < 1000000000000 ∧ 0 < cs.length ∧ cs.length < 1000 ∧
  ∀ (c : Nat) (H' : Hp), c ∈ cs → But d H H' → PenAt H' d (k + 1) → Q (.str (S [c])) H'
theorem sl_of {n : Nat} (h : n ≤ 20000) : n ≤ sizeLine := by rw [sizeLine_eq]; omega
theorem ok_pickS (T : Tx K mg) : FnG P w K mg base CX0 2 (He.ga K "_law_pick") spPickS := by
  refine mk__law_pick T.d (fun vs H Q E h => ?_) (fun cdv A outer s H vs Q E hg hr h => ?_)
  · obtain ⟨d, k, cs, rfl, _⟩ := h
    rfl
  · obtain ⟨d, k, cs, rfl, pen, k9, l0, l9, q⟩ := h
    refine ⟨_, pss_one (ps_ret (pe_ix ix_str (pv 1) (pe_callG (ok_draw T) hr hg (by rfl) (T.g "_law_draw" (by decide +kernel)) (kp__law_draw T.d) pass0
      (pa_cons (pv 0) (pa_cons (pe_callB call_len_str (by rfl) (T.z "len" (by decide +kernel)) (by decide +kernel) (pa_cons (pv 1) pa_nil)) pa_nil))) (fun _ _ => rfl))), ?_⟩
    have ls := S_len cs
    have sl : (S cs).length ≤ sizeLine := by rw [ls]; exact sl_of (by omega)
    refine ⟨_, rfl, _, rfl, _, rfl, _, rfl, sl, d, k, _, rfl, pen, k9, by omega, by omega, fun i H1 bt pen1 i0 i1 => ?_⟩
    obtain ⟨j, rfl⟩ : ∃ j : Nat, i = (j : Int) := ⟨i.toNat, by omega⟩
    have jl : j < cs.length := by omega
    refine ⟨_, _, _, rfl, rfl, sl, ?_, q _ H1 (List.getElem_mem jl) bt pen1⟩
    rw [chars_S]
    exact atI_nat (List.getElem?_eq_getElem jl)
/-! ### _law_letters -/
def alpha : Str := "abcdefghijklmnopqrstuvwxyz"
theorem alpha_eq : alpha.cps.toList = (List.range 26).map (97 + ·) := by decide +kernel
theorem alpha_at {j : Nat} (h : j < 26) : atI alpha.cps.toList (j : Int) = some (97 + j) := by
  refine atI_nat ?_
  rw [alpha_eq, List.getElem?_map, List.getElem?_range h]
  rfl
def codeI (i : Int) : Nat := 97 + i.toNat
theorem cs_of {ns ms ms' : List Int} {i : Int} (pn : ns.Perm ((List.range 26).map fun i : Nat => (i : Int))) (i0 : 0 ≤ i) (i1 : i < 4) (em : ms = ns.take (1 + i).toNat) (pm : ms'.Perm ms) (srt : ms'.Pairwise (· ≤ ·)) :
    (∀ x ∈ ms', 0 ≤ x ∧ x < 26) ∧ ms'.length ≤ 4 ∧ CsOk (ms'.map codeI) := by
  have nl : ns.length = 26 := by rw [pn.length_eq, List.length_map, List.length_range]
  have ml : ms'.length = (1 + i).toNat := by
    rw [pm.length_eq, em, List.length_take]
    omega
  have rg : ∀ x ∈ ms', 0 ≤ x ∧ x < 26 := fun x hx => by
    have h := pm.mem_iff.mp hx
    rw [em] at h
    obtain ⟨j, hj, rfl⟩ := List.mem_map.mp (pn.mem_iff.mp (List.mem_of_mem_take h))
    have := List.mem_range.mp hj
    omega
  have nd0 : ((List.range 26).map fun i : Nat => (i : Int)).Nodup := by decide
  have nd : ms'.Nodup := by
    rw [pm.nodup_iff, em]
    exact (List.take_sublist _ _).nodup ((pn.nodup_iff).mpr nd0)
  refine ⟨rg, by omega, ⟨by rw [List.length_map]; omega, by rw [List.length_map]; omega, ?_, fun c hc => ?_⟩⟩
  · rw [List.pairwise_map]
    refine List.Pairwise.imp_of_mem (fun {a b} ha hb h => ?_) (srt.and nd)
    have h1 := rg a ha
    have h2 := rg b hb
    have h3 := h.1
    have h4 : a ≠ b := h.2
    unfold codeI
    omega
  · obtain ⟨x, hx, rfl⟩ := List.mem_map.mp hc
    have := rg x hx
    unfold codeI
    omega
def spLetters : Sp := fun vs H Q _ => ∃ (d : Addr) (k : Int), vs = [.ref d, .int 3] ∧ PenAt H d k ∧ k < 100000000 ∧
  ∀ (cs : List Nat) (H' : Hp), CsOk cs → But d H H' → PenAt H' d (k + 27) → Q (.str (S cs)) H'
theorem ok_letters (T : Tx K mg) : FnG P w K mg base CX0 3 (He.ga K "_law_letters") spLetters := by
  refine mk__law_letters T.d (fun vs H Q E h => ?_) (fun cdv A outer s H vs Q E hg hr h => ?_)
  · obtain ⟨d, k, rfl, _⟩ := h
    rfl
  · obtain ⟨d, k, rfl, pen, k9, q⟩ := h
    have nd := sc__law_letters.nd
    refine ⟨_, pss_cons (ps_set (i := 2) nd rfl (Or.inl rfl) (pe_callB cr_sorted (by rfl) (T.z "sorted" (by decide +kernel)) (by decide +kernel) (pa_cons
        (pe_slice sl_list (pe_callG (ok_shuf T) hr hg (by rfl) (T.g "_law_shuffled" (by decide +kernel)) (kp__law_shuffled T.d) pass0 (pa_cons (pv 0) (pa_cons (pe_listRg rfl (by rfl) (T.z "list" (by decide +kernel)) (prg_1 (by rfl) (T.z "range" (by decide +kernel)) pe_int)) pa_nil)))
          po_none (po_some (pe_op op_add pe_int (pe_callG (ok_draw T) (hr.mono (by decide)) hg (by rfl) (T.g "_law_draw" (by decide +kernel)) (kp__law_draw T.d) pass0 (pa_cons (pv 0) (pa_cons (pv 1) pa_nil)))))) pa_nil)))
      (pss_one (ps_ret (pe_join pe_str (pe_lc (own := [("_law_place", 3)]) (g := gName 3) (tt := tYes) rfl nd (pi_list (pv 2)) (blkOk_by (N := n__law_letters) (sc := defScope s__law_letters) (by decide +kernel)) (fun _ _ _ _ _ => pg_name (i := 3) nd rfl (Or.inl rfl)) (fun _ _ _ _ _ => pts_nil)
        (fun _ _ _ _ _ => pe_ix ix_str pe_str (pv 3) (fun _ _ => rfl)))))), ?_⟩
    have e26 : rgV 0 26 = ((List.range 26).map fun i : Nat => (i : Int)).map V.int := by
      unfold rgV
      rw [List.map_map]
      refine List.map_congr_left fun i _ => ?_
      show V.int (0 + (i : Int)) = V.int (i : Int)
      rw [Int.zero_add]
    have l26 : (rgV 0 26).length = 26 := by rw [rgV_length]; rfl
    refine ⟨_, rfl, 26, rfl, ⟨by decide, by decide, by decide, by decide, by decide⟩, fun q0 nq => ?_⟩
    have s1 := same_up (o := .lst (rgV 0 26)) nq
    refine ⟨d, q0, k, rgV 0 26, rfl, pen.same s1, by omega, SqL.of upd_same, by rw [e26]; exact flat_int _, by omega, fun p ys H1 pm hp bt1 pen1 => ?_⟩
    rw [l26] at pen1
    have pm' := pm
    rw [e26] at pm'
    obtain ⟨ns, rfl, pn⟩ := ints_perm pm'
    refine ⟨_, rfl, _, rfl, d, _, 3, rfl, pen1, by omega, by decide, by decide, fun i H2 bt2 pen2 i0 i1 => ?_⟩
    have hp2 := bt2.1 p _ hp (pen_ne pen1 hp)
    refine ⟨_, _, rfl, rfl, _, rfl, p, _, rfl, .inl (.inl hp2), fun r nr => ?_⟩
    have ec : cutV (ns.map V.int) none (some (1 + i)) = (ns.take (1 + i).toNat).map V.int := by
      have nl : ns.length = 26 := by rw [pn.length_eq, List.length_map, List.length_range]
      rw [cut_ints, HT.sIx_none, List.drop_zero, Nat.sub_zero]
      have e : HT.sIx ns.length ns.length (some (1 + i)) = (1 + i).toNat := by
        obtain ⟨j, hj⟩ : ∃ j : Nat, 1 + i = (j : Int) := ⟨(1 + i).toNat, by omega⟩
        rw [hj, HT.sIx_nat]
        omega
      rw [e]
    have s2 := same_up (o := .lst (cutV (ns.map V.int) none (some (1 + i)))) nr
    rw [ec] at s2 ⊢
    refine ⟨r, _, rfl, SqL.of upd_same, by rw [List.length_take]; omega, fun ms' p2 pm2 srt np2 => ?_⟩
    obtain ⟨rg, ml, co⟩ := cs_of pn i0 (show i < 4 by omega) rfl pm2 srt
    have s3 := same_up (o := .lst (ms'.map V.int)) np2
    refine ⟨⟨_, rfl⟩, _, rfl, p2, rfl, ⟨_, SqL.of upd_same⟩, fun D nD => lc_one wk_list (fun i => .str (S [codeI (ms'.getD i 0)])) nD (by rw [List.length_map]; omega) (fun H' s' => s'.seq (SqL.of upd_same)) (fun j x H' R hj s' hx hR => ?_) (fun H' s' hD => ?_)⟩
    · rw [List.getElem?_map] at hx
      cases hm : ms'[j]? with
      | none =>
        rw [hm] at hx
        cases hx
      | some m =>
        rw [hm] at hx
        cases hx
        have hmm := rg m (List.mem_of_getElem? hm)
        refine ⟨_, rfl, _, m, 97 + m.toNat, rfl, rfl, by decide, ?_, ?_⟩
        · obtain ⟨u, rfl⟩ : ∃ u : Nat, m = (u : Int) := ⟨m.toNat, by omega⟩
          exact alpha_at (by omega)
        · have e : ms'.getD j 0 = m := by
            rw [List.getD_eq_getElem?_getD, hm]
            rfl
          rw [e] at hR
          exact hR
    · have e : ((List.range (ms'.map V.int).length).map fun i => V.str (S [codeI (ms'.getD i 0)])) = (ones (ms'.map codeI)).map V.str := by
        rw [List.length_map, range_map ms' (fun m => V.str (S [codeI m])) _ fun i x hx => by rw [List.getD_eq_getElem?_getD, hx]; rfl]
        rw [List.map_map, List.map_map]
        rfl
      rw [e] at hD
      refine ⟨_, D, _, rfl, rfl, .inl (SqL.of hD), ?_, ?_⟩
      · rw [ones_len, List.length_map, List.length_map, List.length_map]
        rw [show ("" : Str).length = 0 from rfl, Nat.mul_zero]
        omega
      · rw [show ("" : Str) = S [] from rfl, Ver.join_ones]
        have bt := (((But.same s1).trans bt1).trans bt2).trans (But.same ((s2.trans s3).trans s'))
        exact q _ _ co bt ((pen2.same ((s2.trans s3).trans s')).mono (by omega))
end
end K19

namespace K19
open PySem PySem.Spec PyProof.Rows L2 Ver Num
section
variable {P : Program} {w : World} {K : PySem.W.Frag} {mg : Str → Option Value} {base : Heap}
/-- an int that is no bool -/
def isI : PyData → Bool
  | .int _ => true
  | _ => false
theorem isI_is (d : PyData) : (is_int d && !is_bool d) = isI d := by cases d <;> rfl
def spInt (K : PySem.W.Frag) : Sp := fun vs H Q _ => ∃ (x : V) (d : PyData), vs = [x] ∧ Do K H x d ∧ Q (.bl (isI d)) H
theorem ok_is_integer (T : Tx K mg) : FnG P w K mg base CX0 1 (He.ga K "is_integer") (spInt K) := by
  refine mk_is_integer T.d (fun vs H Q E h => ?_) (fun cdv A outer s H vs Q E hg hr h => ?_)
  · obtain ⟨x, d, rfl, _⟩ := h
    rfl
  · obtain ⟨x, d, rfl, hd, q⟩ := h
    have zi := T.z "isinstance" (by decide +kernel)
    rw [← isI_is] at q
    refine ⟨_, pss_one (ps_ret (pe_and (pe_callB call_isi (by rfl) zi (by decide +kernel) (pa_cons (pv 0) (pa_cons (pe_bltn (v := .ty "int") (by rfl) (T.z "int" (by decide +kernel)) (by decide +kernel) rfl) pa_nil)))
      (pe_one (pe_not (pe_callB call_isi (by rfl) zi (by decide +kernel) (pa_cons (pv 0) (pa_cons (pe_bltn (v := .ty "bool") (by rfl) (T.z "bool" (by decide +kernel)) (by decide +kernel) rfl) pa_nil))))))), ?_⟩
    refine ⟨_, rfl, _, _, _, _, _, rfl, .ty "int", hd.ty, kit_int d, _, rfl, ?_⟩
    cases e : is_int d with
    | false =>
      rw [e] at q
      exact ifF rfl q
    | true =>
      rw [e] at q
      exact ifT rfl ⟨_, rfl, _, _, _, _, _, rfl, .ty "bool", hd.ty, kit_bool d, _, rfl, q⟩
def btw (lo hi : Int) : PyData → Bool
  | .int i => decide (lo ≤ i) && decide (i ≤ hi)
  | _ => false
def spBtw (K : PySem.W.Frag) : Sp := fun vs H Q _ => ∃ (x : V) (d : PyData) (lo hi : Int), vs = [x, .int lo, .int hi] ∧ Do K H x d ∧ Q (.bl (btw lo hi d)) H
theorem btw_not {lo hi : Int} {d : PyData} (h : isI d = false) : btw lo hi d = false := by cases d <;> first | rfl | cases h
theorem ok_is_between (T : Tx K mg) : FnG P w K mg base CX0 2 (He.ga K "is_between") (spBtw K) := by
  refine mk_is_between T.d (fun vs H Q E h => ?_) (fun cdv A outer s H vs Q E hg hr h => ?_)
  · obtain ⟨x, d, lo, hi, rfl, _⟩ := h
    rfl
  · obtain ⟨x, d, lo, hi, rfl, hd, q⟩ := h
    refine ⟨_, pss_one (ps_ret (pe_and (pe_callG (ok_is_integer T) hr hg (by rfl) (T.g "is_integer" (by decide +kernel)) (kp_is_integer T.d) pass0 (pa_cons (pv 0) pa_nil))
      (pe_one (pe_chain op_le op_le (pv 1) (pv 0) (pv 2))))), ?_⟩
    refine ⟨_, rfl, x, d, rfl, hd, _, rfl, ?_⟩
    cases e : isI d with
    | false =>
      rw [btw_not e] at q
      exact ifF rfl q
    | true =>
      cases hd with
      | int i =>
        refine ifT rfl ⟨_, rfl, _, rfl, _, _, rfl, rfl, _, rfl, ?_⟩
        have q : Q (.bl (decide (lo ≤ i) && decide (i ≤ hi))) H := q
        by_cases h : lo ≤ i
        · rw [decide_eq_true h] at q
          exact ifT (decide_eq_true h) ⟨_, rfl, _, _, rfl, rfl, q⟩
        · rw [decide_eq_false h] at q
          exact ifF (decide_eq_false h) q
      | _ => cases e
end
end K19

namespace K19
open PySem PySem.Spec PyProof.Rows L2 Ver Num SX
section
variable {P : Program} {w : World} {K : PySem.W.Frag} {mg : Str → Option Value} {base : Heap}
/-! ### is_letters -/
theorem eqv_same {d : PyData} (h : d.plain = true) : PyData.eqv d d = true := SeqAt.eqv_refl_plain d h
def spIsL : Sp := fun vs H Q _ => ∃ cs : List Nat, vs = [.str (S cs)] ∧ CsOk cs ∧ ∀ H', Same H H' → Q (.bl true) H'
theorem sing_in {cs : List Nat} {j : Str} : (∃ c ∈ (S cs).cps.toList, j = PySem.Froz.sing c) ↔ j ∈ ones cs := by
  rw [chars_S, List.mem_map]
  exact ⟨fun ⟨c, hc, e⟩ => ⟨c, hc, e.symm⟩, fun ⟨c, hc, e⟩ => ⟨c, hc, e.symm⟩⟩
theorem one_lt {a b : Nat} : ([a] : List Nat) < [b] ↔ a < b := by
  rw [List.cons_lt_cons_iff]
  constructor
  · rintro (h | ⟨_, h⟩)
    · exact h
    · exact absurd h (List.not_lt_nil _)
  · exact .inl
theorem ones_nodup {cs : List Nat} (h : cs.Nodup) : (ones cs).Nodup := by
  rw [List.nodup_iff_pairwise_ne, List.pairwise_map]
  exact (List.nodup_iff_pairwise_ne.mp h).imp fun h e => h (List.cons.inj (S_inj e)).1
theorem ok_is_letters (T : Tx K mg) : FnG P w K mg base CX0 1 (He.ga K "is_letters") spIsL := by
  refine mk_is_letters T.d (fun vs H Q E h => ?_) (fun cdv A outer s H vs Q E hg hr h => ?_)
  · obtain ⟨cs, rfl, _⟩ := h
    rfl
  · obtain ⟨cs, rfl, co, q⟩ := h
    have nd := sc_is_letters.nd
    have hu := hr.units
    obtain ⟨tm, gm⟩ := T.ml
    refine ⟨_, pss_cons (ps_if (PW.pt (pw_or (pt_not (pt_val (pe_callB call_isi (by rfl) (T.z "isinstance" (by decide +kernel)) (by decide +kernel) (pa_cons (pv 0) (pa_cons (pe_bltn (v := .ty "str") (by rfl) (T.z "str" (by decide +kernel)) (by decide +kernel) rfl) pa_nil)))))
        (pw_or1 (pt_not (pt_chain op_le op_le pe_int (pe_callB call_len_str (by rfl) (T.z "len" (by decide +kernel)) (by decide +kernel) (pa_cons (pv 0) pa_nil)) (pe_glob (v := .int 4) (by rfl) gm ⟨_, rfl⟩)))))) (pss_one (ps_ret pe_bl)) pss_nil)
      (pss_one (ps_ret (pe_and (pe_cmpR (op_eqP T.sm hu) (pe_callTy (cr_listText rfl) (by rfl) (T.z "list" (by decide +kernel)) (by decide +kernel) (pa_cons (pv 0) pa_nil))
          (pe_callB (cr_sortedTx rfl) (by rfl) (T.z "sorted" (by decide +kernel)) (by decide +kernel) (pa_cons (pe_callTy (cr_setText rfl) (by rfl) (T.z "set" (by decide +kernel)) (by decide +kernel) (pa_cons (pv 0) pa_nil)) pa_nil)) (nomark _))
        (pe_one (pe_callB (cr_all rfl) (by rfl) (T.z "all" (by decide +kernel)) (by decide +kernel) (pa_cons
          (pe_lc (own := [("letter", 1)]) (g := gName 1) (tt := tYes) rfl nd (pi_str (pv 0)) (blkOk_by (N := n_is_letters) (sc := defScope s_is_letters) (by decide +kernel)) (fun _ _ _ _ _ => pg_name (i := 1) nd rfl (Or.inl rfl)) (fun _ _ _ _ _ => pts_nil)
            (fun _ _ _ _ _ => pe_chain op_le_str op_le_str pe_str (pv 1) pe_str)) pa_nil)))))), ?_⟩
    have ls := S_len cs
    have l1 := co.pos
    have l4 := co.few
    have sl : (S cs).length ≤ sizeLine := by rw [ls]; exact sl_of (by omega)
    have asz : (S cs).cps.size = cs.length := by simp
    have ascii : (S cs).cps.all (· < 128) = true := by
      rw [← Array.all_toList, chars_S, List.all_eq_true]
      intro c hc
      have := co.rng c hc
      exact decide_eq_true (by omega)
    have kS : PySem.W.kitOne K (.type "str") (.type "str") = some true := kit_str (.str (S cs))
    refine ⟨_, rfl, _, _, _, _, true, rfl, .ty "str", (Do.str (S cs) : Do K H _ _).ty, kS, _, rfl, ifF rfl ?_⟩
    refine ⟨_, rfl, _, rfl, sl, _, _, rfl, rfl, _, rfl, ?_⟩
    rw [ls]
    refine ifT (decide_eq_true (by omega)) ⟨_, _, rfl, rfl, _, rfl, ?_⟩
    rw [decide_eq_true (show (cs.length : Int) ≤ 4 by omega)]
    refine ifF rfl ?_
    refine ⟨_, rfl, S cs, rfl, by rw [asz]; omega, fun p np => ?_⟩
    have eL : ((S cs).cps.toList.map fun c => V.str ⟨#[c]⟩) = (ones cs).map V.str := by
      rw [chars_S, List.map_map]
      rfl
    rw [eL]
    have s1 := same_up (o := .lst ((ones cs).map V.str)) np
    refine ⟨_, rfl, S cs, rfl, ascii, by rw [asz]; unfold scanBound; omega, fun l g ndl ll hl ng => ?_⟩
    have s2 := same_up (o := SetTx P w g l) ng
    have pl : l.Perm (ones cs) := by
      refine perm_of_nodup (ones_nodup (asc_nodup co.asc)) (fun x hx => (hl x).mpr (sing_in.mpr hx)) ?_
      rw [List.length_map]
      rw [asz] at ll
      exact ll
    refine ⟨g, l, rfl, upd_same, by rw [asz] at ll; omega, fun ys p2 py srt np2 => ?_⟩
    have ey := ones_sorted (py.trans pl) srt co.asc
    rw [ey]
    have s3 := same_up (o := .lst ((ones cs).map V.str)) np2
    have fl := flat_str (ones cs)
    have dep := depth_flat fl
    have pln : (PyData.list (datL ((ones cs).map V.str))).plain = true := plain_flat fl
    refine ⟨.list (datL ((ones cs).map V.str)), .list (datL ((ones cs).map V.str)), .lst (SqL.of ((s2.trans s3) _ _ upd_same)) (do_flat fl), .lst (SqL.of upd_same) (do_flat fl), pln, pln, by simp only [PyData.depth]; omega, _, rfl, ?_⟩
    rw [eqv_same pln]
    refine ifT rfl ⟨_, rfl, S cs, rfl, fun D nD => lc_one wk_str (fun _ => .bl true) nD (by rw [asz]; omega) (fun _ _ => trivial) (fun j x H' R hj s' hx hR => ?_) (fun H' s' hD => ?_)⟩
    · obtain ⟨c, hc, rfl⟩ := hx
      rw [← Array.getElem?_toList, chars_S] at hc
      have rg := co.rng c (List.mem_of_getElem? hc)
      refine ⟨_, rfl, _, _, rfl, rfl, _, rfl, ?_⟩
      have h1 : (!decide ((⟨#[c]⟩ : Str).cps.toList < ("a" : Str).cps.toList)) = true := by
        have e : ("a" : Str).cps.toList = [97] := by decide +kernel
        rw [e, decide_eq_false (show ¬ ([c] : List Nat) < [97] from fun z => by have := one_lt.mp z; omega)]
        rfl
      refine ifT h1 ⟨_, _, rfl, rfl, ?_⟩
      have h2 : (!decide (("z" : Str).cps.toList < (⟨#[c]⟩ : Str).cps.toList)) = true := by
        have e : ("z" : Str).cps.toList = [122] := by decide +kernel
        rw [e, decide_eq_false (show ¬ ([122] : List Nat) < [c] from fun z => by have := one_lt.mp z; omega)]
        rfl
      rw [h2]
      exact hR
    · have e : ((List.range (S cs).cps.size).map fun _ => V.bl true) = (List.replicate cs.length true).map V.bl := by
        rw [asz, List.map_replicate, List.map_const', List.length_range]
      rw [e] at hD
      refine ⟨D, _, rfl, SqL.of hD, ?_⟩
      rw [show (List.replicate cs.length true).all id = true by simp]
      exact q H' (((s1.trans s2).trans s3).trans s')
end
end K19

namespace K19
open PySem PySem.Spec PyProof.Rows L2 Ver Num SX
/-! ### is_letters of any text -/
instance csDec (cs : List Nat) : Decidable (CsOk cs) :=
  decidable_of_iff (1 ≤ cs.length ∧ cs.length ≤ 4 ∧ cs.Pairwise (· < ·) ∧ ∀ c ∈ cs, 97 ≤ c ∧ c ≤ 122) ⟨fun ⟨a, b, c, d⟩ => ⟨a, b, c, d⟩, fun h => ⟨h.pos, h.few, h.asc, h.rng⟩⟩
def azB (c : Nat) : Bool := decide (97 ≤ c) && decide (c ≤ 122)
theorem cs_dec {cs : List Nat} (h1 : 1 ≤ cs.length) (h4 : cs.length ≤ 4) (h : cs.Pairwise (· < ·)) : decide (CsOk cs) = cs.all azB := by
  by_cases h5 : cs.all azB = true
  · rw [h5]
    refine decide_eq_true ⟨h1, h4, h, fun c hc => ?_⟩
    have := List.all_eq_true.mp h5 c hc
    unfold azB at this
    rw [Bool.and_eq_true, decide_eq_true_eq, decide_eq_true_eq] at this
    exact this
  · rw [Bool.eq_false_iff.mpr h5]
    refine decide_eq_false fun z => h5 (List.all_eq_true.mpr fun c hc => ?_)
    have := z.rng c hc
    unfold azB
    rw [decide_eq_true this.1, decide_eq_true this.2]
    rfl
theorem eqv_strs : ∀ (xs ys : List Str), PyData.eqvAll (datL (xs.map V.str)) (datL (ys.map V.str)) = decide (xs = ys)
  | [], [] => by simp [datL, PyData.eqvAll]
  | [], y :: ys => by simp [datL, flatD, PyData.eqvAll]
  | x :: xs, [] => by simp [datL, flatD, PyData.eqvAll]
  | x :: xs, y :: ys => by
    have ih := eqv_strs xs ys
    have e1 : datL ((x :: xs).map V.str) = .str x :: datL (xs.map V.str) := rfl
    have e2 : datL ((y :: ys).map V.str) = .str y :: datL (ys.map V.str) := rfl
    rw [e1, e2]
    simp only [PyData.eqvAll, PyData.eqv]
    rw [ih]
    by_cases h : x = y
    · by_cases h2 : xs = ys
      · subst h h2
        simp
      · simp [h, h2]
    · have hb : (x == y) = false := beq_eq_false_iff_ne.mpr h
      rw [hb]
      simp [h]
theorem eqv_strL (xs ys : List Str) : PyData.eqv (.list (datL (xs.map V.str))) (.list (datL (ys.map V.str))) = decide (xs = ys) := by
  have e : PyData.eqv (.list (datL (xs.map V.str))) (.list (datL (ys.map V.str))) = PyData.eqvAll (datL (xs.map V.str)) (datL (ys.map V.str)) := by simp only [PyData.eqv]
  rw [e, eqv_strs]
section
variable {P : Program} {w : World} {K : PySem.W.Frag} {mg : Str → Option Value} {base : Heap}
def spIsLB : Sp := fun vs H Q _ => ∃ cs : List Nat, vs = [.str (S cs)] ∧ (∀ c ∈ cs, c < 128) ∧ cs.length ≤ 2000 ∧ ∀ H', Same H H' → Q (.bl (decide (CsOk cs))) H'
theorem ok_is_lettersB (T : Tx K mg) : FnG P w K mg base CX0 1 (He.ga K "is_letters") spIsLB := by
  refine mk_is_letters T.d (fun vs H Q E h => ?_) (fun cdv A outer s H vs Q E hg hr h => ?_)
  · obtain ⟨cs, rfl, _⟩ := h
    rfl
  · obtain ⟨cs, rfl, asc, l2, q⟩ := h
    have nd := sc_is_letters.nd
    have hu := hr.units
    obtain ⟨tm, gm⟩ := T.ml
    refine ⟨_, pss_cons (ps_if (PW.pt (pw_or (pt_not (pt_val (pe_callB call_isi (by rfl) (T.z "isinstance" (by decide +kernel)) (by decide +kernel) (pa_cons (pv 0) (pa_cons (pe_bltn (v := .ty "str") (by rfl) (T.z "str" (by decide +kernel)) (by decide +kernel) rfl) pa_nil)))))
        (pw_or1 (pt_not (pt_chain op_le op_le pe_int (pe_callB call_len_str (by rfl) (T.z "len" (by decide +kernel)) (by decide +kernel) (pa_cons (pv 0) pa_nil)) (pe_glob (v := .int 4) (by rfl) gm ⟨_, rfl⟩)))))) (pss_one (ps_ret pe_bl)) pss_nil)
      (pss_one (ps_ret (pe_and (pe_cmpR (op_eqP T.sm hu) (pe_callTy (cr_listText rfl) (by rfl) (T.z "list" (by decide +kernel)) (by decide +kernel) (pa_cons (pv 0) pa_nil))
          (pe_callB (cr_sortedTx rfl) (by rfl) (T.z "sorted" (by decide +kernel)) (by decide +kernel) (pa_cons (pe_callTy (cr_setText rfl) (by rfl) (T.z "set" (by decide +kernel)) (by decide +kernel) (pa_cons (pv 0) pa_nil)) pa_nil)) (nomark _))
        (pe_one (pe_callB (cr_all rfl) (by rfl) (T.z "all" (by decide +kernel)) (by decide +kernel) (pa_cons
          (pe_lc (own := [("letter", 1)]) (g := gName 1) (tt := tYes) rfl nd (pi_str (pv 0)) (blkOk_by (N := n_is_letters) (sc := defScope s_is_letters) (by decide +kernel)) (fun _ _ _ _ _ => pg_name (i := 1) nd rfl (Or.inl rfl)) (fun _ _ _ _ _ => pts_nil)
            (fun _ _ _ _ _ => pe_chain op_le_str op_le_str pe_str (pv 1) pe_str)) pa_nil)))))), ?_⟩
    have ls := S_len cs
    have sl : (S cs).length ≤ sizeLine := by rw [ls]; exact sl_of (by omega)
    have asz : (S cs).cps.size = cs.length := by simp
    have ascii : (S cs).cps.all (· < 128) = true := by
      rw [← Array.all_toList, chars_S, List.all_eq_true]
      intro c hc
      exact decide_eq_true (asc c hc)
    have kS : PySem.W.kitOne K (.type "str") (.type "str") = some true := kit_str (.str (S cs))
    refine ⟨_, rfl, _, _, _, _, true, rfl, .ty "str", (Do.str (S cs) : Do K H _ _).ty, kS, _, rfl, ifF rfl ?_⟩
    refine ⟨_, rfl, _, rfl, sl, _, _, rfl, rfl, _, rfl, ?_⟩
    rw [ls]
    by_cases l1 : 1 ≤ cs.length
    case neg =>
      have z := q H (Same.refl H)
      rw [decide_eq_false fun z : CsOk cs => l1 z.pos] at z
      exact ifF (decide_eq_false (by omega)) ⟨_, rfl, ifT rfl z⟩
    refine ifT (decide_eq_true (by omega)) ⟨_, _, rfl, rfl, _, rfl, ?_⟩
    by_cases l4 : cs.length ≤ 4
    case neg =>
      have z := q H (Same.refl H)
      rw [decide_eq_false fun z : CsOk cs => l4 z.few] at z
      rw [decide_eq_false (show ¬ (cs.length : Int) ≤ 4 by omega)]
      exact ifT rfl z
    rw [decide_eq_true (show (cs.length : Int) ≤ 4 by omega)]
    refine ifF rfl ?_
    refine ⟨_, rfl, S cs, rfl, by rw [asz]; omega, fun p np => ?_⟩
    have eL : ((S cs).cps.toList.map fun c => V.str ⟨#[c]⟩) = (ones cs).map V.str := by
      rw [chars_S, List.map_map]
      rfl
    rw [eL]
    have s1 := same_up (o := .lst ((ones cs).map V.str)) np
    refine ⟨_, rfl, S cs, rfl, ascii, by rw [asz]; unfold scanBound; omega, fun l g ndl ll hl ng => ?_⟩
    have s2 := same_up (o := SetTx P w g l) ng
    refine ⟨g, l, rfl, upd_same, by rw [asz] at ll; omega, fun ys p2 py srt np2 => ?_⟩
    have s3 := same_up (o := .lst (ys.map V.str)) np2
    have fl := flat_str (ones cs)
    have fl2 := flat_str ys
    have dep := depth_flat fl
    have pln : (PyData.list (datL ((ones cs).map V.str))).plain = true := plain_flat fl
    have pln2 : (PyData.list (datL (ys.map V.str))).plain = true := plain_flat fl2
    refine ⟨.list (datL ((ones cs).map V.str)), .list (datL (ys.map V.str)), .lst (SqL.of ((s2.trans s3) _ _ upd_same)) (do_flat fl), .lst (SqL.of upd_same) (do_flat fl2), pln, pln2, by simp only [PyData.depth]; omega, _, rfl, ?_⟩
    rw [eqv_strL]
    have ss := (s1.trans s2).trans s3
    by_cases up : cs.Pairwise (· < ·)
    case neg =>
      have z := q _ ss
      rw [decide_eq_false fun z : CsOk cs => up z.asc] at z
      have ne : ¬ ones cs = ys := fun e => by
        subst e
        have nd1 : (ones cs).Nodup := py.nodup_iff.mpr ndl
        have nd2 : cs.Nodup := by
          have h := List.nodup_iff_pairwise_ne.mp nd1
          rw [List.pairwise_map] at h
          exact List.nodup_iff_pairwise_ne.mpr (h.imp fun hab e => hab (by rw [e]))
        exact up (lt_of_le_nodupN (le_of_sorted srt) nd2)
      exact ifF (decide_eq_false ne) z
    have pl : l.Perm (ones cs) := by
      refine perm_of_nodup (ones_nodup (asc_nodup up)) (fun x hx => (hl x).mpr (sing_in.mpr hx)) ?_
      rw [List.length_map]
      rw [asz] at ll
      exact ll
    have ey := ones_sorted (py.trans pl) srt up
    refine ifT (decide_eq_true ey.symm) ⟨_, rfl, S cs, rfl, fun D nD => lc_one wk_str (fun i => .bl (azB (cs.getD i 0))) nD (by rw [asz]; omega) (fun _ _ => trivial) (fun j x H' R hj s' hx hR => ?_) (fun H' s' hD => ?_)⟩
    · obtain ⟨c, hc, rfl⟩ := hx
      rw [← Array.getElem?_toList, chars_S] at hc
      have e : cs.getD j 0 = c := by rw [List.getD_eq_getElem?_getD, hc]; rfl
      rw [e] at hR
      refine ⟨_, rfl, _, _, rfl, rfl, _, rfl, ?_⟩
      have ea : ("a" : Str).cps.toList = [97] := by decide +kernel
      have ez : ("z" : Str).cps.toList = [122] := by decide +kernel
      have h1 : (!decide ((⟨#[c]⟩ : Str).cps.toList < ("a" : Str).cps.toList)) = decide (97 ≤ c) := by
        rw [ea]
        by_cases h : 97 ≤ c
        · rw [decide_eq_true h, decide_eq_false (show ¬ ([c] : List Nat) < [97] from fun z => by have := one_lt.mp z; omega)]
          rfl
        · rw [decide_eq_false h, decide_eq_true (show ([c] : List Nat) < [97] from one_lt.mpr (by omega))]
          rfl
      have h2 : (!decide (("z" : Str).cps.toList < (⟨#[c]⟩ : Str).cps.toList)) = decide (c ≤ 122) := by
        rw [ez]
        by_cases h : c ≤ 122
        · rw [decide_eq_true h, decide_eq_false (show ¬ ([122] : List Nat) < [c] from fun z => by have := one_lt.mp z; omega)]
          rfl
        · rw [decide_eq_false h, decide_eq_true (show ([122] : List Nat) < [c] from one_lt.mpr (by omega))]
          rfl
      unfold azB at hR
      rw [h1]
      by_cases h : 97 ≤ c
      · rw [decide_eq_true h] at hR ⊢
        refine ifT rfl ⟨_, _, rfl, rfl, ?_⟩
        rw [h2]
        exact hR
      · rw [decide_eq_false h] at hR ⊢
        exact ifF rfl hR
    · have e : ((List.range (S cs).cps.size).map fun i => V.bl (azB (cs.getD i 0))) = (cs.map azB).map V.bl := by
        rw [asz, range_map cs (fun c => V.bl (azB c)) _ fun i x hx => by rw [List.getD_eq_getElem?_getD, hx]; rfl]
        exact (List.map_map ..).symm
      rw [e] at hD
      refine ⟨D, _, rfl, SqL.of hD, ?_⟩
      have z := q H' (ss.trans s')
      rw [cs_dec l1 l4 up] at z
      rw [List.all_map]
      exact z
end
end K19

namespace K19
open PySem PySem.Spec PyProof.Rows L2 Ver Num
section
variable {P : Program} {w : World} {K : PySem.W.Frag} {mg : Str → Option Value} {base : Heap}
theorem doall_len {H : Hp} : ∀ {xs : List V} {ds : List PyData}, DoAll K H xs ds → xs.length = ds.length
  | [], [], _ => rfl
  | x :: xs, d :: ds, h => by
    cases h with
    | cons h1 h2 => rw [List.length_cons, List.length_cons, doall_len h2]
  | [], _ :: _, h => by cases h
  | _ :: _, [], h => by cases h
/-- a pair of ints in lowest terms, the lower one from 2 on -/
def frac : PyData → Bool
  | .tuple [.int t, .int b] => decide (2 ≤ b) && decide (Nat.gcd t.natAbs b.natAbs = 1)
  | _ => false
def frac2 : PyData → PyData → Bool
  | .int t, .int b => decide (2 ≤ b) && decide (Nat.gcd t.natAbs b.natAbs = 1)
  | _, _ => false
theorem frac_two (d e : PyData) : frac (.tuple [d, e]) = frac2 d e := by cases d <;> cases e <;> rfl
theorem frac_not {d : PyData} (h : is_tuple d = false) : frac d = false := by cases d <;> first | rfl | cases h
theorem frac_len {ds : List PyData} (h : ds.length ≠ 2) : frac (.tuple ds) = false := by
  match ds, h with
  | [], _ => rfl
  | [d1], _ => cases d1 <;> rfl
  | [_, _], h => exact absurd rfl h
  | d1 :: d2 :: _ :: _, _ => cases d1 <;> cases d2 <;> rfl
def spFrac (K : PySem.W.Frag) : Sp := fun vs H Q _ => ∃ (x : V) (d : PyData), vs = [x] ∧ Do K H x d ∧ Q (.bl (frac d)) H
theorem ok_is_fraction (T : Tx K mg) : FnG P w K mg base CX0 2 (He.ga K "is_fraction") (spFrac K) := by
  refine mk_is_fraction T.d (fun vs H Q E h => ?_) (fun cdv A outer s H vs Q E hg hr h => ?_)
  · obtain ⟨x, d, rfl, _⟩ := h
    rfl
  · obtain ⟨x, d, rfl, hd, q⟩ := h
    have nd := sc_is_fraction.nd
    have gi := T.g "is_integer" (by decide +kernel)
    refine ⟨_, pss_cons (ps_if (PW.pt (pw_or (pt_not (pt_val (pe_callB call_isi (by rfl) (T.z "isinstance" (by decide +kernel)) (by decide +kernel) (pa_cons (pv 0) (pa_cons (pe_bltn (v := .ty "tuple") (by rfl) (T.z "tuple" (by decide +kernel)) (by decide +kernel) rfl) pa_nil)))))
        (pw_or1 (pt_cmpR op_ne (pe_callB call_len_seq (by rfl) (T.z "len" (by decide +kernel)) (by decide +kernel) (pa_cons (pv 0) pa_nil)) pe_int (nomark _))))) (pss_one (ps_ret pe_bl)) pss_nil)
      (pss_cons (ps_asg (pv 0) (pg_tup rfl (pgs_cons (pg_name (i := 1) nd rfl (.inl rfl)) (pgs_cons (pg_name (i := 2) nd rfl (.inl rfl)) pgs_nil))))
      (pss_one (ps_ret (pe_and (pe_callG (ok_is_integer T) hr hg (by rfl) gi (kp_is_integer T.d) pass0 (pa_cons (pv 1) pa_nil))
        (pe_and (pe_callG (ok_is_integer T) hr hg (by rfl) gi (kp_is_integer T.d) pass0 (pa_cons (pv 2) pa_nil))
        (pe_and (pe_cmpR op_ge (pv 2) pe_int (nomark _)) (pe_one (pe_cmpR op_eq (pe_callBfun cr_gcd (by rfl) T.gcd (pa_cons (pv 1) (pa_cons (pv 2) pa_nil))) pe_int (nomark _))))))))), ?_⟩
    refine ⟨_, rfl, _, _, _, _, _, rfl, .ty "tuple", hd.ty, kit_tuple d, _, rfl, ?_⟩
    cases e : is_tuple d with
    | false =>
      rw [frac_not e] at q
      exact ifT rfl (ifT rfl q)
    | true =>
      refine ifF rfl ?_
      cases hd with
      | tup hs ha =>
        rename_i a xs ds
        have lx := doall_len ha
        refine ⟨_, rfl, a, _, rfl, .inr hs, rfl, _, rfl, ?_⟩
        rw [iEq]
        by_cases l2 : ds.length = 2
        · refine ifF (by rw [decide_eq_true (show ((xs.length : Nat) : Int) = 2 by omega)]; rfl) ?_
          obtain ⟨d1, d2, rfl⟩ : ∃ d1 d2, ds = [d1, d2] := by
            match ds, l2 with
            | [d1, d2], _ => exact ⟨d1, d2, rfl⟩
          obtain ⟨x1, x2, rfl⟩ : ∃ x1 x2, xs = [x1, x2] := by
            have lx2 : xs.length = 2 := lx
            match xs, lx2 with
            | [x1, x2], _ => exact ⟨x1, x2, rfl⟩
          rw [frac_two] at q
          cases ha with
          | cons h1 ha =>
            cases ha with
            | cons h2 _ =>
              refine ⟨_, rfl, a, _, rfl, hs, rfl, _, _, rfl, _, _, rfl, rfl, ?_⟩
              refine ⟨_, rfl, x1, d1, rfl, h1, _, rfl, ?_⟩
              cases e1 : isI d1 with
              | false =>
                refine ifF rfl ?_
                have z : frac2 d1 d2 = false := by cases d1 <;> first | rfl | cases e1
                rw [z] at q
                exact q
              | true =>
                refine ifT rfl ⟨_, rfl, x2, d2, rfl, h2, _, rfl, ?_⟩
                cases e2 : isI d2 with
                | false =>
                  refine ifF rfl ?_
                  have z : frac2 d1 d2 = false := by cases d1 <;> cases d2 <;> first | rfl | cases e2
                  rw [z] at q
                  exact q
                | true =>
                  refine ifT rfl ?_
                  cases h1 with
                  | int t =>
                    cases h2 with
                    | int b =>
                      have q : Q (.bl (decide (2 ≤ b) && decide (Nat.gcd t.natAbs b.natAbs = 1))) H := q
                      refine ⟨_, rfl, _, _, rfl, rfl, _, rfl, ?_⟩
                      by_cases hb : 2 ≤ b
                      · rw [decide_eq_true hb] at q
                        refine ifT (decide_eq_true hb) ⟨_, rfl, _, rfl, t, b, rfl, rfl, ?_⟩
                        rw [iEq]
                        by_cases g : Nat.gcd t.natAbs b.natAbs = 1
                        · rw [decide_eq_true g] at q
                          rw [decide_eq_true (show ((Nat.gcd t.natAbs b.natAbs : Nat) : Int) = 1 by omega)]
                          exact q
                        · rw [decide_eq_false g] at q
                          rw [decide_eq_false (show ¬ ((Nat.gcd t.natAbs b.natAbs : Nat) : Int) = 1 by omega)]
                          exact q
                      · rw [decide_eq_false hb] at q
                        exact ifF (decide_eq_false hb) q
                    | _ => cases e2
                  | _ => cases e1
        · rw [frac_len l2] at q
          exact ifT (by rw [decide_eq_false (show ¬ ((xs.length : Nat) : Int) = 2 by omega)]; rfl) q
      | _ => cases e
end
end K19

/-! Both kinds of fields over Rat: their operations, the rules of numbers, remainders of fractions. -/
namespace Num
open Rat
inductive Fk where
  | fr
  | md (p : Int)
def Fk.code : Fk → Int
  | .fr => 0
  | .md p => p
def Fk.ok : Fk → Prop
  | .fr => True
  | .md p => Md p
def iq (i : Int) : Rat := ((i : Int) : Rat)
theorem iq_num (i : Int) : (iq i).num = i := rfl
theorem iq_den (i : Int) : (iq i).den = 1 := rfl
theorem iq_eq {q : Rat} (h : q.den = 1) : q = iq q.num := by
  apply Rat.ext
  · rfl
  · exact h
def addG : Fk → Rat → Rat → Rat
  | .fr, a, b => a + b
  | .md p, a, b => iq ((a.num + b.num) % p)
def subG : Fk → Rat → Rat → Rat
  | .fr, a, b => a - b
  | .md p, a, b => iq ((a.num - b.num) % p)
def mulG : Fk → Rat → Rat → Rat
  | .fr, a, b => a * b
  | .md p, a, b => iq ((a.num * b.num) % p)
def Sz : Fk → Nat → Rat → Prop
  | .fr, n, q => Bq n q
  | .md p, _, q => q.den = 1 ∧ 0 ≤ q.num ∧ q.num < p
theorem Sz.mono {φ : Fk} {m n : Nat} {q : Rat} (h : Sz φ m q) (hl : m ≤ n) : Sz φ n q := by
  cases φ with
  | fr => exact Bq.mono h hl
  | md p => exact h
theorem emod_r (a b n : Int) : (a * (b % n)) % n = (a * b) % n := by
  rw [Int.mul_emod, Int.emod_emod, ← Int.mul_emod]
theorem emod_l (a b n : Int) : (a % n * b) % n = (a * b) % n := by
  rw [Int.mul_emod, Int.emod_emod, ← Int.mul_emod]
theorem sz_md {p i : Int} {n : Nat} (h : Md p) : Sz (.md p) n (iq (i % p)) := by
  have := h.lo
  exact ⟨rfl, Int.emod_nonneg _ (by omega), Int.emod_lt_of_pos _ (by omega)⟩
theorem md_self {p : Int} {n : Nat} {a : Rat} (h : Sz (.md p) n a) : iq (a.num % p) = a := by
  obtain ⟨h1, h2, h3⟩ := h
  rw [Int.emod_eq_of_lt h2 h3]
  exact (iq_eq h1).symm
theorem addG_comm (φ : Fk) (a b : Rat) : addG φ a b = addG φ b a := by
  cases φ with
  | fr => exact Rat.add_comm a b
  | md p => simp only [addG, Int.add_comm]
theorem mulG_comm (φ : Fk) (a b : Rat) : mulG φ a b = mulG φ b a := by
  cases φ with
  | fr => exact Rat.mul_comm a b
  | md p => simp only [mulG, Int.mul_comm]
theorem addG_assoc (φ : Fk) (a b c : Rat) : addG φ (addG φ a b) c = addG φ a (addG φ b c) := by
  cases φ with
  | fr => exact Rat.add_assoc a b c
  | md p => simp only [addG, iq_num, Int.emod_add_emod, Int.add_emod_emod, Int.add_assoc]
theorem mulG_assoc (φ : Fk) (a b c : Rat) : mulG φ (mulG φ a b) c = mulG φ a (mulG φ b c) := by
  cases φ with
  | fr => exact Rat.mul_assoc a b c
  | md p => simp only [mulG, iq_num, emod_l, emod_r, Int.mul_assoc]
theorem mulG_add (φ : Fk) (a b c : Rat) : mulG φ a (addG φ b c) = addG φ (mulG φ a b) (mulG φ a c) := by
  cases φ with
  | fr => exact Rat.mul_add a b c
  | md p => simp only [mulG, addG, iq_num, emod_r, Int.emod_add_emod, Int.add_emod_emod, Int.mul_add]
theorem subG_add {φ : Fk} {n : Nat} {a b : Rat} (h : Sz φ n a) : addG φ (subG φ a b) b = a := by
  cases φ with
  | fr => exact Rat.sub_add_cancel
  | md p =>
    simp only [addG, subG, iq_num, Int.emod_add_emod, Int.sub_add_cancel]
    exact md_self h
theorem subG_self (φ : Fk) (a : Rat) : subG φ a a = 0 := by
  cases φ with
  | fr => exact Rat.sub_self
  | md p =>
    simp only [subG, Int.sub_self, Int.zero_emod]
    rfl
theorem addG_zero {φ : Fk} {n : Nat} {a : Rat} (h : Sz φ n a) : addG φ a 0 = a := by
  cases φ with
  | fr => exact Rat.add_zero a
  | md p =>
    have e : (0 : Rat).num = 0 := rfl
    simp only [addG, e, Int.add_zero]
    exact md_self h
theorem mulG_one {φ : Fk} {n : Nat} {a : Rat} (h : Sz φ n a) : mulG φ a 1 = a := by
  cases φ with
  | fr => exact Rat.mul_one a
  | md p =>
    have e : (1 : Rat).num = 1 := rfl
    simp only [mulG, e, Int.mul_one]
    exact md_self h
theorem mulG_zero (φ : Fk) (a : Rat) : mulG φ a 0 = 0 := by
  cases φ with
  | fr => exact Rat.mul_zero a
  | md p =>
    have e : (0 : Rat).num = 0 := rfl
    simp only [mulG, e, Int.mul_zero, Int.zero_emod]
    rfl
theorem sub_sub {φ : Fk} {n : Nat} {a : Rat} (h : Sz φ n a) : subG φ 0 (subG φ 0 a) = a := by
  cases φ with
  | fr =>
    show (0 : Rat) - (0 - a) = a
    rw [Rat.sub_eq_add_neg, Rat.sub_eq_add_neg, Rat.zero_add, Rat.zero_add, Rat.neg_neg]
  | md p =>
    have e : (0 : Rat).num = 0 := rfl
    simp only [subG, e, iq_num, Int.sub_emod_emod]
    have e2 : (0 : Int) - (0 - a.num) = a.num := by omega
    rw [e2]
    exact md_self h
/-! ### coprime to the modulus -/
theorem cop {p x : Int} (m : Md p) (h : ¬ p ∣ x) : Nat.gcd p.natAbs x.natAbs = 1 := by
  have hlo := m.lo
  have h0 := Int.emod_nonneg x (show p ≠ 0 by omega)
  have h1 := Int.emod_lt_of_pos x (show 0 < p by omega)
  have hz : x % p ≠ 0 := fun z => h (Int.dvd_of_emod_eq_zero z)
  have g := m.pr (x % p) (by omega) h1
  have e : Int.gcd (x % p) p = Int.gcd x p := by
    rw [Int.emod_def, Int.gcd_sub_mul_left_left]
  rw [e] at g
  rw [Nat.gcd_comm]
  exact g
theorem dvd_mul_cop {p x y : Int} (m : Md p) (hy : ¬ p ∣ y) (h : p ∣ x * y) : p ∣ x := by
  have c := cop m hy
  rw [← Int.natAbs_dvd_natAbs] at h ⊢
  rw [Int.natAbs_mul] at h
  exact Nat.Coprime.dvd_of_dvd_mul_right c h
theorem not_dvd_mul {p x y : Int} (m : Md p) (hx : ¬ p ∣ x) (hy : ¬ p ∣ y) : ¬ p ∣ x * y := fun h => hx (dvd_mul_cop m hy h)
theorem eq_of_dvd {p a b : Int} (a0 : 0 ≤ a) (ap : a < p) (b0 : 0 ≤ b) (bp : b < p) (h : p ∣ a - b) : a = b := by
  have e : (a - b) % p = 0 := Int.emod_eq_zero_of_dvd h
  have e2 : a % p = b % p := Int.emod_eq_emod_iff_emod_sub_eq_zero.mpr e
  rw [Int.emod_eq_of_lt a0 ap, Int.emod_eq_of_lt b0 bp] at e2
  exact e2
theorem dvd_of_emod {p a b : Int} (h : a % p = b % p) : p ∣ a - b := Int.dvd_of_emod_eq_zero (Int.emod_eq_emod_iff_emod_sub_eq_zero.mp h)
/-! ### quotients -/
theorem mulG_cancel {φ : Fk} {n m : Nat} {a b c : Rat} (ok : φ.ok) (ha : Sz φ n a) (hc : Sz φ m c) (hb : Sz φ n b) (b0 : b ≠ 0) (h : mulG φ c b = mulG φ a b) : c = a := by
  cases φ with
  | fr =>
    have h2 : c * b = a * b := h
    have e : c * b * b⁻¹ = a * b * b⁻¹ := by rw [h2]
    rwa [Rat.mul_assoc, Rat.mul_assoc, Rat.mul_inv_cancel b b0, Rat.mul_one, Rat.mul_one] at e
  | md p =>
    have ok : Md p := ok
    obtain ⟨a1, a2, a3⟩ := ha
    obtain ⟨b1, b2, b3⟩ := hb
    obtain ⟨c1, c2, c3⟩ := hc
    have h2 : (c.num * b.num) % p = (a.num * b.num) % p := congrArg Rat.num h
    have nb : ¬ p ∣ b.num := fun z => by
      have z2 := Int.emod_eq_zero_of_dvd z
      rw [Int.emod_eq_of_lt b2 b3] at z2
      exact b0 (Rat.num_eq_zero.mp z2)
    have d := dvd_of_emod h2
    rw [← Int.sub_mul] at d
    have e := eq_of_dvd c2 c3 a2 a3 (dvd_mul_cop ok nb d)
    rw [iq_eq c1, iq_eq a1, e]
theorem div_mul {a b : Rat} (b0 : b ≠ 0) : (a.num * b.den) /. ((a.den : Int) * b.num) * b = a := by
  have bn : b.num ≠ 0 := fun z => b0 (Rat.num_eq_zero.mp z)
  have bd : (b.den : Int) ≠ 0 := by have := den_pos' b; omega
  conv => lhs; rhs; rw [← Rat.num_divInt_den b]
  rw [Rat.divInt_mul_divInt]
  have e1 : a.num * (b.den : Int) * b.num = a.num * ((b.den : Int) * b.num) := Int.mul_assoc _ _ _
  have e2 : (a.den : Int) * b.num * (b.den : Int) = a.den * ((b.den : Int) * b.num) := by rw [Int.mul_assoc, Int.mul_comm b.num]
  rw [e1, e2, Rat.divInt_mul_right (Int.mul_ne_zero bd bn), Rat.num_divInt_den]
/-! ### remainders of fractions -/
/-- c is the remainder of q modulo p -/
def Rem (p : Int) (q : Rat) (c : Int) : Prop := ¬ p ∣ (q.den : Int) ∧ 0 ≤ c ∧ c < p ∧ (c * q.den) % p = q.num % p
theorem cross {N D : Int} (hD : D ≠ 0) : N * ((N /. D).den : Int) = (N /. D).num * D := by
  obtain ⟨t', b', h1, h2, h3, h4, h5, h6⟩ := dvs_ex (t := N) hD
  rw [h5, h6]
  generalize dvs N D = d at *
  rw [h1, h2, Int.mul_assoc, ← Int.mul_assoc t' d b', Int.mul_comm t' d, Int.mul_assoc]
theorem den_dvd {N D : Int} (hD : D ≠ 0) : ((N /. D).den : Int) ∣ D := by
  obtain ⟨t', b', h1, h2, h3, h4, h5, h6⟩ := dvs_ex (t := N) hD
  rw [h6]
  exact ⟨dvs N D, by rw [Int.mul_comm]; exact h2⟩
theorem rem_nd {p N D : Int} (hD : D ≠ 0) (h : ¬ p ∣ D) : ¬ p ∣ ((N /. D).den : Int) := fun z => h (Int.dvd_trans z (den_dvd hD))
theorem rem_is {p N D c c' : Int} (m : Md p) (hD : D ≠ 0) (nD : ¬ p ∣ D) (c0 : 0 ≤ c) (cp : c < p) (h : (c * D) % p = N % p) (r : Rem p (N /. D) c') : c' = c := by
  obtain ⟨r1, r2, r3, r4⟩ := r
  have x := cross (N := N) hD
  generalize (N /. D).num = n at *
  generalize ((N /. D).den : Int) = d at *
  refine eq_of_dvd r2 r3 c0 cp (dvd_mul_cop m (not_dvd_mul m r1 nD) ?_)
  obtain ⟨u, hu⟩ := dvd_of_emod r4
  obtain ⟨v, hv⟩ := dvd_of_emod h
  have e1 : c' * d = n + p * u := by omega
  have e2 : c * D = N + p * v := by omega
  refine ⟨u * D - v * d, ?_⟩
  have e3 : (c' - c) * (d * D) = c' * d * D - c * D * d := by
    rw [Int.sub_mul, Int.mul_assoc c' d D, Int.mul_assoc c D d, Int.mul_comm D d]
  rw [e3, e1, e2, Int.add_mul, Int.add_mul, x, Int.mul_sub, Int.mul_assoc, Int.mul_assoc]
  omega
theorem dd_ne0 (a b : Rat) : (a.den : Int) * b.den ≠ 0 := Int.mul_ne_zero (by have := den_pos' a; omega) (by have := den_pos' b; omega)
theorem rem_add {p : Int} {a b : Rat} {c e f : Int} (m : Md p) (ha : Rem p a c) (hb : Rem p b e) (h : Rem p (a + b) f) : f = (c + e) % p := by
  obtain ⟨a1, a2, a3, a4⟩ := ha
  obtain ⟨b1, b2, b3, b4⟩ := hb
  have hlo := m.lo
  rw [← add_is] at h
  refine rem_is m (dd_ne0 a b) (not_dvd_mul m a1 b1) (Int.emod_nonneg _ (by omega)) (Int.emod_lt_of_pos _ (by omega)) ?_ h
  rw [emod_l, Int.add_mul, Int.add_emod, ← Int.mul_assoc, Int.mul_comm (a.den : Int), ← Int.mul_assoc, Int.mul_emod (c * (a.den : Int)), a4, ← Int.mul_emod, Int.mul_emod (e * (b.den : Int)), b4, ← Int.mul_emod, ← Int.add_emod]
theorem rem_mul {p : Int} {a b : Rat} {c e f : Int} (m : Md p) (ha : Rem p a c) (hb : Rem p b e) (h : Rem p (a * b) f) : f = (c * e) % p := by
  obtain ⟨a1, a2, a3, a4⟩ := ha
  obtain ⟨b1, b2, b3, b4⟩ := hb
  have hlo := m.lo
  rw [← mul_is] at h
  refine rem_is m (dd_ne0 a b) (not_dvd_mul m a1 b1) (Int.emod_nonneg _ (by omega)) (Int.emod_lt_of_pos _ (by omega)) ?_ h
  have e1 : c * e * ((a.den : Int) * b.den) = c * a.den * (e * b.den) := by
    rw [Int.mul_assoc, Int.mul_assoc, ← Int.mul_assoc e, Int.mul_comm e (a.den : Int), Int.mul_assoc (a.den : Int)]
  rw [emod_l, e1, Int.mul_emod (c * (a.den : Int)), a4, b4, ← Int.mul_emod]
theorem num_nd {p : Int} {b : Rat} {e : Int} (m : Md p) (hb : Rem p b e) (e0 : e ≠ 0) : ¬ p ∣ b.num := fun z => by
  obtain ⟨b1, b2, b3, b4⟩ := hb
  rw [Int.emod_eq_zero_of_dvd z] at b4
  have d := dvd_mul_cop m b1 (Int.dvd_of_emod_eq_zero b4)
  have := Int.le_of_dvd (by omega) d
  omega
theorem rem_div {p : Int} {a b : Rat} {c e f g : Int} (m : Md p) (ha : Rem p a c) (hb : Rem p b e) (e0 : e ≠ 0) (g0 : 0 ≤ g) (gp : g < p) (hg : (g * e) % p = c) (h : Rem p ((a.num * b.den) /. ((a.den : Int) * b.num)) f) : f = g := by
  have nb := num_nd m hb e0
  obtain ⟨a1, a2, a3, a4⟩ := ha
  obtain ⟨b1, b2, b3, b4⟩ := hb
  have bn : b.num ≠ 0 := fun z => nb (by rw [z]; exact Int.dvd_zero p)
  refine rem_is m (Int.mul_ne_zero (by have := den_pos' a; omega) bn) (not_dvd_mul m a1 nb) g0 gp ?_ h
  have x1 : (g * ((a.den : Int) * b.num)) % p = (g * ((a.den : Int) * (e * b.den))) % p := by
    rw [Int.mul_emod g, Int.mul_emod (a.den : Int) b.num, ← b4, ← Int.mul_emod (a.den : Int), ← Int.mul_emod g]
  have x2 : g * ((a.den : Int) * (e * b.den)) = g * e * (a.den * b.den) := by
    rw [Int.mul_assoc g e, ← Int.mul_assoc e (a.den : Int), Int.mul_comm e (a.den : Int), Int.mul_assoc (a.den : Int)]
  have x3 : (g * e * ((a.den : Int) * b.den)) % p = (c * (a.den * b.den)) % p := by
    rw [Int.mul_emod (g * e), hg]
    exact emod_r c _ p
  rw [x1, x2, x3, ← Int.mul_assoc, Int.mul_emod (c * (a.den : Int)), a4, ← Int.mul_emod]
end Num

namespace K19
open PySem PySem.Spec PyProof.Rows L2 Ver Num
def absI (i : Int) : Int := if i < 0 then -i else i
theorem ten9 : (10 : Int) ^ (9 : Int).toNat = 1000000000 := by decide
/-- a fraction: an int, or a pair of ints -/
def NumQ (H : Hp) (x : V) (q : Rat) : Prop := (q.den = 1 ∧ x = .int q.num) ∨ (q.den ≠ 1 ∧ ∃ a, x = .ref a ∧ H a = some (.tup [.int q.num, .int (q.den : Int)]))
theorem NumQ.same {H H' : Hp} {x : V} {q : Rat} (h : NumQ H x q) (s : Same H H') : NumQ H' x q := by
  rcases h with h | ⟨d, a, e, h⟩
  · exact .inl h
  · exact .inr ⟨d, a, e, s _ _ h⟩
theorem NumQ.int {H : Hp} {x : V} {q : Rat} {t : Int} (h1 : q.num = t) (h2 : q.den = 1) (e : x = .int t) : NumQ H x q := .inl ⟨h2, by rw [h1]; exact e⟩
/-- passed numbers -/
def Ok100 (q : Rat) : Prop := absI q.num < FL ∧ (q.den : Int) < FL
/-- // by any divisor but 0, also a great one -/
theorem op_fdivZ {X : Cx} : OpR X (binaryOp .FloorDiv) (rI (fun _ j => j ≠ 0 ∧ j.natAbs.log2 < 9000) fun i j => .int (i.fdiv j)) := opI fun _ _ _ _ _ _ _ hc q => floordiv_int hc.1 q (.inl (PyProof.noPylong_of_log2 hc.2))
theorem log_lt {n a : Nat} (h : n < 2 ^ a) (h0 : 0 < a) (h9 : a ≤ 9000) : n.log2 < 9000 := Nat.lt_of_lt_of_le (PySem.Flt.log2_lt_of h0 h) h9
theorem dvs_log {t b : Int} {a : Nat} (hb : b ≠ 0) (h : b.natAbs < 2 ^ a) (h0 : 0 < a) (h9 : a ≤ 9000) : (dvs t b).natAbs.log2 < 9000 := by
  have l : Nat.gcd t.natAbs b.natAbs ≤ b.natAbs := Nat.gcd_le_right _ (by omega)
  refine log_lt (a := a) ?_ h0 h9
  unfold dvs
  split <;> omega
theorem dvs_neg {t b : Int} (h : b < 0) : dvs t b = -((Nat.gcd t.natAbs b.natAbs : Nat) : Int) := if_pos h
theorem dvs_nn {t b : Int} (h : ¬ b < 0) : dvs t b = ((Nat.gcd t.natAbs b.natAbs : Nat) : Int) := if_neg h
/-! ### as data -/
def dq (q : Rat) : PyData := if q.den = 1 then .int q.num else .tuple [.int q.num, .int (q.den : Int)]
theorem dq_int {q : Rat} (h : q.den = 1) : dq q = .int q.num := if_pos h
theorem dq_tup {q : Rat} (h : q.den ≠ 1) : dq q = .tuple [.int q.num, .int (q.den : Int)] := if_neg h
theorem dp_q {K : PySem.W.Frag} {H : Hp} {x : V} {q : Rat} (h : NumQ H x q) : Dp K H x (dq q) := by
  rcases h with ⟨d, e⟩ | ⟨d, a, e, h⟩
  · rw [dq_int d, e]
    exact .int _
  · rw [dq_tup d, e]
    exact .tup (.inl (.inl h)) (.cons (.int _) (.cons (.int _) .nil))
theorem pf_look (v : V) : ([(("_prime" : Str), v)] : List (Str × V)).lookup ("_prime" : Str) = some v := by simp [List.lookup]
theorem pf_no (v : V) {m : Str} (h : (m == ("_prime" : Str)) = false) : ([(("_prime" : Str), v)] : List (Str × V)).lookup m = none := by simp [List.lookup, h]
theorem ok_bq {q : Rat} (o : Ok100 q) : Bq 333 q := by
  have h1 := o.1
  have h2 := o.2
  unfold absI FL at h1
  unfold FL at h2
  have e : (2 : Nat) ^ 333 = 17498005798264095394980017816940970922825355447145699491406164851279623993595007385788105416184430592 := by decide
  unfold Bq
  rw [e]
  split at h1 <;> omega
theorem den_bq {n : Nat} {q : Rat} (h : Bq n q) : ((q.den : Nat) : Int).natAbs < 2 ^ n := h.2
theorem to4000 {n k : Nat} (h : k < 2 ^ n) (hn : n ≤ 4000) : k < 2 ^ 4000 := Nat.lt_of_lt_of_le h (Nat.pow_le_pow_right (by decide) hn)
section
variable {P : Program} {w : World} {K : PySem.W.Frag} {mg : Str → Option Value} {base : Heap}
/-! ### is_prime -/
theorem call_isqrt {X : Cx} : CallR X (.builtin "math.isqrt") (fun vs H Q => ∃ a : Int, vs = [.int a] ∧ 0 ≤ a ∧ a < 2 ^ 64 ∧ Q (.int ((Float64.isqrt a.toNat : Nat) : Int)) H) := by
  intro pins s σ H vs us Q I r h
  obtain ⟨a, rfl, h0, h1, q⟩ := h
  obtain ⟨u, rfl, t, rfl⟩ := vals1 r
  exact PySem.W.mg_isqrt h0 h1 ⟨.int _, H, I.tok _, ⟨_, rfl⟩, q⟩
def spIsPrime : Sp := fun vs H Q _ => ∃ v : Int, vs = [.int v] ∧ prB Float64.isqrt v = true ∧ Float64.isqrt v.toNat ≤ 1000000 ∧ Q (.bl true) H
theorem range_odd (r : Nat) : Builtin.Range.rangeSize 3 ((r : Int) + 1) 2 = (((r + 1 - 3 + 1) / 2 : Nat) : Int) := by
  unfold Builtin.Range.rangeSize
  rw [if_pos (by decide)]
  by_cases h : (3 : Int) < (r : Int) + 1
  · rw [if_pos h]
    omega
  · rw [if_neg h]
    omega
theorem small_odd {r : Nat} (h : r ≤ 1000000) : Builtin.Range.small 3 ((r : Int) + 1) 2 = true := by
  unfold Builtin.Range.small
  rw [range_odd]
  have h2 : (r + 1 - 3 + 1) / 2 ≤ 1000000 := by omega
  generalize (r + 1 - 3 + 1) / 2 = n at h2
  have f1 : ∀ i : Int, 0 ≤ i → i ≤ 2000000 → Builtin.Range.rangeFitsLong i = true := fun i h0 h1 => by
    unfold Builtin.Range.rangeFitsLong
    rw [decide_eq_true (show -(2 ^ 63 : Int) ≤ i by omega), decide_eq_true (show i < (2 ^ 63 : Int) by omega)]
    rfl
  rw [f1 3 (by omega) (by omega), f1 ((r : Int) + 1) (by omega) (by omega), f1 2 (by omega) (by omega), f1 (n : Int) (by omega) (by omega), if_pos (by decide), f1 ((r : Int) + 1 + (2 - 1)) (by omega) (by omega), Bool.or_true]
  rfl
theorem ok_is_prime (T : Tx K mg) : FnG P w K mg base CX0 3 (He.ga K "is_prime") spIsPrime := by
  refine mk_is_prime T.d (fun vs H Q E h => ?_) (fun cdv A outer s H vs Q E hg hr h => ?_)
  · obtain ⟨v, rfl, _⟩ := h
    rfl
  · obtain ⟨v, rfl, hp, hq, q⟩ := h
    obtain ⟨tg, gp⟩ := T.gp
    have hp1 : ((decide (2 ≤ v) && decide (v ≤ 1000000000)) && (if v % 2 = 0 then decide (v = 2) else oddOk v.toNat ((Float64.isqrt v.toNat + 1 - 3 + 1) / 2))) = true := hp
    rw [Bool.and_eq_true, Bool.and_eq_true] at hp1
    obtain ⟨⟨p1, p2⟩, p3⟩ := hp1
    have v2 : 2 ≤ v := of_decide_eq_true p1
    have v9 : v ≤ 1000000000 := of_decide_eq_true p2
    refine ⟨_, pss_cons (ps_if (pt_not (pt_val (pe_callG (ok_is_between T) hr hg (by rfl) (T.g "is_between" (by decide +kernel)) (kp_is_between T.d) pass0 (pa_cons (pv 0) (pa_cons pe_int (pa_cons (pe_glob (v := .int 1000000000) (by rfl) gp ⟨_, rfl⟩) pa_nil)))))) (pss_one (ps_ret pe_bl)) pss_nil)
      (pss_cons (ps_if (pt_cmpR op_eq (pe_op op_and (pv 0) pe_int) pe_int (nomark _)) (pss_one (ps_ret (pe_cmpR op_eq (pv 0) pe_int (nomark _)))) pss_nil)
      (pss_cons (ps_for PassesOwn.never rfl (pi_range3 (by rfl) (T.z "range" (by decide +kernel)) (pa_cons pe_int (pa_cons (pe_op op_add (pe_callBfun call_isqrt (by rfl) T.isq (pa_cons (pv 0) pa_nil)) pe_int) (pa_cons pe_int pa_nil)))) (pg_name (i := 1) sc_is_prime.nd rfl (.inl rfl))
        (pss_one (ps_if (pt_cmpR op_eq (pe_op op_mod (pv 0) (pv 1)) pe_int (nomark _)) (pss_one (ps_ret pe_bl)) pss_nil)))
      (pss_one (ps_ret pe_bl)))), ?_⟩
    refine ⟨_, rfl, .int v, .int v, 2, 1000000000, rfl, .int v, _, rfl, ?_⟩
    show (if (!(decide (2 ≤ v) && decide (v ≤ 1000000000))) = true then _ else _)
    rw [p1, p2]
    refine ifF rfl ⟨_, rfl, _, _, rfl, rfl, rfl, _, rfl, ?_⟩
    rw [iEq, bitAnd_m1]
    by_cases e : v % 2 = 0
    · rw [if_pos e] at p3
      refine ifT (decide_eq_true e) ⟨_, rfl, rfl, ?_⟩
      rw [iEq, p3]
      exact q
    · rw [if_neg e] at p3
      refine ifF (decide_eq_false e) ⟨_, rfl, v, rfl, by omega, by omega, _, _, rfl, rfl, 3, _, 2, _, rfl, ⟨by decide, by decide, small_odd hq, range_odd _⟩, ?_⟩
      refine for_rangeC (lo := 3) (c := 2) (fun i σ H' => ∃ d : Option V, σ = [some (.int v), d] ∧ H' = H) ⟨none, rfl, rfl⟩ ?_ ?_
      · rintro i σ H' hi ⟨d, rfl, rfl⟩
        refine ⟨_, rfl, _, rfl, _, _, rfl, rfl, (by show (0 : Int) < 3 + (i : Int) * 2; omega), rfl, _, rfl, ?_⟩
        rw [iEq]
        refine ifF (decide_eq_false fun z => ?_) ⟨_, rfl, rfl⟩
        have o := List.all_eq_true.mp p3 i (List.mem_range.mpr hi)
        have z2 : v.toNat % (3 + 2 * i) = 0 := by
          have e1 : ((v.toNat % (3 + 2 * i) : Nat) : Int) = v % (3 + (i : Int) * 2) := by
            rw [Int.natCast_emod]
            congr 1
            · omega
            · rw [Int.natCast_add, Int.natCast_mul]
              omega
          omega
        rw [z2] at o
        cases o
      · rintro σ H' ⟨d, rfl, rfl⟩
        exact q
def spFInit (K : PySem.W.Frag) : Sp := fun vs H Q _ => ∃ (f C dx : Addr) (p : Int), vs = [.ref f, .int p] ∧ FC K C ∧ H f = some (.ins C dx []) ∧ Q .non (upd H f (.ins C dx [(("_prime" : Str), V.int p)]))
theorem ok_finit (T : Tx K mg) : FnG P w K mg base CX0 1 (He.ma K (He.ga K "Field") "__init__") (spFInit K) := by
  refine mk_Field___init__ T.d (fun vs H Q E h => ?_) (fun cdv A outer s H vs Q E hg hr h => ?_)
  · obtain ⟨f, C, dx, p, rfl, _⟩ := h
    rfl
  · obtain ⟨f, C, dx, p, rfl, c, hf, q⟩ := h
    exact ⟨_, pss_one (ps_fld (pv 0) (pv 1) rfl), ⟨_, rfl, _, rfl, f, C, dx, [], rfl, hf, c.cl, c.np, (by show 0 < 1000; decide), q⟩⟩
def spMInit (K : PySem.W.Frag) : Sp := fun vs H Q _ => ∃ (f dx : Addr) (p : Int), vs = [.ref f, .int p] ∧ prB Float64.isqrt p = true ∧ Float64.isqrt p.toNat ≤ 1000000 ∧ H f = some (.ins (He.ga K "Modulo") dx []) ∧ Q .non (upd H f (.ins (He.ga K "Modulo") dx [(("_prime" : Str), V.int p)]))
theorem ok_minit (T : Tx K mg) : FnG P w K mg base CX0 4 (He.ma K (He.ga K "Modulo") "__init__") (spMInit K) := by
  refine mk_Modulo___init__ T.d (fun vs H Q E h => ?_) (fun cdv A outer s H vs Q E hg hr h => ?_)
  · obtain ⟨f, dx, p, rfl, _⟩ := h
    rfl
  · obtain ⟨f, dx, p, rfl, p1, p2, hf, q⟩ := h
    refine ⟨_, pss_cons (ps_if (pt_not (pt_val (pe_callG (ok_is_prime T) hr hg (by rfl) (T.g "is_prime" (by decide +kernel)) (kp_is_prime T.d) pass0 (pa_cons (pv 1) pa_nil)))) pss_never pss_nil)
      (pss_one (ps_expr (pe_clsG (by rfl) (T.g "Field" (by decide +kernel)) T.rdF T.gaF T.fiF (kp_Field___init__ T.d) (ok_finit T) (hr.mono (by decide)) hg pass0 (pa_cons (pv 0) (pa_cons (pv 1) pa_nil))))), ?_⟩
    exact ⟨_, rfl, p, rfl, p1, p2, _, rfl, ifF rfl ⟨_, rfl, _, rfl, f, _, dx, p, rfl, T.fcM, hf, q⟩⟩
end
end K19

namespace K19
open PySem PySem.Spec PyProof.Rows L2 Ver Num
/-! ### both kinds of fields -/
/-- what the text asks of a prime that it draws -/
structure Pm (p : Int) : Prop where
  md : Md p
  pr : prB Float64.isqrt p = true
  sq : Float64.isqrt p.toNat ≤ 1000000
theorem pm2 : Pm 2 := ⟨md2, by decide +kernel, by decide +kernel⟩
theorem pm3 : Pm 3 := ⟨md3, by decide +kernel, by decide +kernel⟩
theorem pm5 : Pm 5 := ⟨md5, by decide +kernel, by decide +kernel⟩
theorem pm7 : Pm 7 := ⟨md7, by decide +kernel, by decide +kernel⟩
theorem pm101 : Pm 101 := ⟨md101, by decide +kernel, by decide +kernel⟩
theorem pm1000003 : Pm 1000003 := ⟨md1000003, by decide +kernel, by decide +kernel⟩
def pval : Fk → V
  | .fr => .non
  | .md p => .int p
def okP : Fk → Prop
  | .fr => True
  | .md p => Pm p
def FieldC (K : PySem.W.Frag) (H : Hp) (f : Addr) (φ : Fk) : Prop := ∃ C dx, FC K C ∧ MC K C ∧ H f = some (.ins C dx [(("_prime" : Str), pval φ)])
theorem FieldC.same {K : PySem.W.Frag} {H H' : Hp} {f : Addr} {φ : Fk} (F : FieldC K H f φ) (s : Same H H') : FieldC K H' f φ := by
  obtain ⟨C, dx, c, m, e⟩ := F
  exact ⟨C, dx, c, m, s _ _ e⟩
theorem FieldC.but {K : PySem.W.Frag} {H H' : Hp} {f d : Addr} {φ : Fk} {k : Int} (F : FieldC K H f φ) (pen : PenAt H d k) (b : But d H H') : FieldC K H' f φ := by
  obtain ⟨C, dx, c, m, e⟩ := F
  obtain ⟨cc, cells, b1, l, h1, _⟩ := pen.ex
  exact ⟨C, dx, c, m, b.1 _ _ e (ne_of e h1 (by intro z; cases z))⟩
theorem go_methG {K : PySem.W.Frag} {σ : L2.St} {H : Hp} {f : Addr} {φ : Fk} {i : Nat} {Q : VK} {m : Str} {sp : Sp} {E : XK} {t : TA} (h0 : σ[i]? = some (some (.ref f))) (F : FieldC K H f φ)
    (hm : m ∈ (fms : List Str)) (hn : (m == ("_prime" : Str)) = false)
    (q : t σ H fun vs H2 => sp (.ref f :: vs) H2 Q E) : tMethG K m (He.ma K (He.ga K "Field") m) sp E (tVar i) t σ H Q := by
  obtain ⟨C, dx, c, mm, e⟩ := F
  exact ⟨.ref f, h0, f, C, dx, _, rfl, e, c.cl, c.m m hm, pf_no _ hn, q⟩
theorem rd_prime {K : PySem.W.Frag} {σ : L2.St} {H : Hp} {f : Addr} {φ : Fk} {i : Nat} {Q : VK} (h0 : σ[i]? = some (some (.ref f))) (F : FieldC K H f φ) (q : Q (pval φ) H) : tFld K (tVar i) "_prime" σ H Q := by
  obtain ⟨C, dx, c, m, e⟩ := F
  exact ⟨.ref f, h0, f, C, dx, _, pval φ, rfl, e, c.cl, c.np, pf_look _, q⟩
/-! ### parts, is_longer -/
def two : PyData → Option (Int × Int)
  | .int t => some (t, 1)
  | .tuple [.int t, .int b] => some (t, b)
  | _ => none
theorem two_cases {d : PyData} {t b : Int} (h : two d = some (t, b)) : (d = .int t ∧ b = 1) ∨ d = .tuple [.int t, .int b] := by
  unfold two at h
  split at h
  · cases h
    exact .inl ⟨rfl, rfl⟩
  · cases h
    exact .inr rfl
  · cases h
theorem do_pair {K : PySem.W.Frag} {H : Hp} {x : V} {t b : Int} (h : Do K H x (.tuple [.int t, .int b])) : ∃ a, x = .ref a ∧ SqT K H a [.int t, .int b] := by
  cases h with
  | tup hs ha =>
    cases ha with
    | cons h1 ha =>
      cases ha with
      | cons h2 ha =>
        cases ha
        cases h1
        cases h2
        exact ⟨_, rfl, hs⟩
theorem do_q {K : PySem.W.Frag} {H : Hp} {x : V} {q : Rat} (h : NumQ H x q) : Do K H x (dq q) := by
  rcases h with ⟨d, e⟩ | ⟨d, a, e, h⟩
  · rw [dq_int d, e]
    exact .int _
  · rw [dq_tup d, e]
    exact .tup (.inl (.inl h)) (.cons (.int _) (.cons (.int _) .nil))
section
variable {P : Program} {w : World} {K : PySem.W.Frag} {mg : Str → Option Value} {base : Heap}
def spParts (K : PySem.W.Frag) : Sp := fun vs H Q _ => ∃ (x : V) (d : PyData) (t b : Int), vs = [x] ∧ Do K H x d ∧ two d = some (t, b) ∧ ∀ (p : Addr) (H' : Hp), Same H H' → SqT K H' p [.int t, .int b] → Q (.ref p) H'
theorem ok_parts (T : Tx K mg) : FnG P w K mg base CX0 1 (He.ga K "parts") (spParts K) := by
  refine mk_parts T.d (fun vs H Q E h => ?_) (fun cdv A outer s H vs Q E hg hr h => ?_)
  · obtain ⟨x, d, t, b, rfl, _⟩ := h
    rfl
  · obtain ⟨x, d, t, b, rfl, hd, h2, q⟩ := h
    refine ⟨_, pss_one (ps_ret (pe_ifExp (pt_val (pe_callB call_isi (by rfl) (T.z "isinstance" (by decide +kernel)) (by decide +kernel) (pa_cons (pv 0) (pa_cons (pe_bltn (v := .ty "tuple") (by rfl) (T.z "tuple" (by decide +kernel)) (by decide +kernel) rfl) pa_nil))))
      (pv 0) (pe_tup (pa_cons (pv 0) (pa_cons pe_int pa_nil))))), ?_⟩
    refine ⟨_, rfl, _, _, _, _, _, rfl, .ty "tuple", hd.ty, kit_tuple d, _, rfl, ?_⟩
    rcases two_cases h2 with ⟨rfl, rfl⟩ | rfl
    · cases hd
      exact ifF rfl ⟨_, rfl, (by show 2 ≤ sizeLine; decide), fun p np => q p _ (same_up np) (.inl (.inl upd_same))⟩
    · obtain ⟨a, rfl, hs⟩ := do_pair hd
      exact ifT rfl ⟨_, rfl, q a H (Same.refl H) hs⟩
def spIsLonger (K : PySem.W.Frag) : Sp := fun vs H Q _ => ∃ (x : V) (d : PyData) (t b l : Int), vs = [x, .int l] ∧ Do K H x d ∧ two d = some (t, b) ∧ ∀ H' : Hp, Same H H' → Q (.bl (decide (l ≤ absI t) || decide (l ≤ b))) H'
theorem ok_is_longer (T : Tx K mg) : FnG P w K mg base CX0 2 (He.ga K "is_longer") (spIsLonger K) := by
  refine mk_is_longer T.d (fun vs H Q E h => ?_) (fun cdv A outer s H vs Q E hg hr h => ?_)
  · obtain ⟨x, d, t, b, l, rfl, _⟩ := h
    rfl
  · obtain ⟨x, d, t, b, l, rfl, hd, h2, q⟩ := h
    refine ⟨_, pss_cons (ps_asg (pe_callG (ok_parts T) hr hg (by rfl) (T.g "parts" (by decide +kernel)) (kp_parts T.d) pass0 (pa_cons (pv 0) pa_nil))
        (pg_tup rfl (pgs_cons (pg_name (i := 2) sc_is_longer.nd rfl (.inl rfl)) (pgs_cons (pg_name (i := 3) sc_is_longer.nd rfl (.inl rfl)) pgs_nil))))
      (pss_one (ps_ret (pe_or (pe_cmpR op_ge (pe_callB call_abs (by rfl) (T.z "abs" (by decide +kernel)) (by decide +kernel) (pa_cons (pv 2) pa_nil)) (pv 1) (nomark _))
        (pe_one (pe_cmpR op_ge (pv 3) (pv 1) (nomark _)))))), ?_⟩
    refine ⟨_, rfl, x, d, t, b, rfl, hd, h2, fun p H1 s1 hp => ?_⟩
    refine ⟨p, _, rfl, hp, rfl, _, _, rfl, _, _, rfl, rfl, ?_⟩
    refine ⟨_, rfl, _, rfl, _, rfl, _, _, rfl, rfl, _, rfl, ?_⟩
    have q1 := q H1 s1
    by_cases h : l ≤ absI t
    · rw [decide_eq_true h] at q1
      exact ifT (decide_eq_true h) q1
    · rw [decide_eq_false h] at q1
      exact ifF (decide_eq_false h) ⟨_, rfl, _, rfl, _, _, rfl, rfl, q1⟩
/-! ### holds, is_number -/
def holdsB : Fk → PyData → Bool
  | .fr, d => isI d || frac d
  | .md p, d => btw 0 (p - 1) d
theorem two_int {d : PyData} (h : isI d = true) : ∃ t, d = .int t := by
  cases d <;> first | exact ⟨_, rfl⟩ | cases h
theorem two_frac {d : PyData} (h : frac d = true) : ∃ t b, d = .tuple [.int t, .int b] ∧ 2 ≤ b ∧ Nat.gcd t.natAbs b.natAbs = 1 := by
  unfold frac at h
  split at h
  · rename_i t b
    rw [Bool.and_eq_true] at h
    exact ⟨t, b, rfl, of_decide_eq_true h.1, of_decide_eq_true h.2⟩
  · cases h
theorem btw_int {lo hi : Int} {d : PyData} (h : btw lo hi d = true) : ∃ t, d = .int t ∧ lo ≤ t ∧ t ≤ hi := by
  cases d <;> first | (rename_i t; have h : (decide (lo ≤ t) && decide (t ≤ hi)) = true := h; rw [Bool.and_eq_true] at h; exact ⟨t, rfl, of_decide_eq_true h.1, of_decide_eq_true h.2⟩) | cases h
theorem holds_two {φ : Fk} {d : PyData} (h : holdsB φ d = true) : ∃ t b, two d = some (t, b) := by
  cases φ with
  | fr =>
    have h : (isI d || frac d) = true := h
    rw [Bool.or_eq_true] at h
    rcases h with h | h
    · obtain ⟨t, rfl⟩ := two_int h
      exact ⟨t, 1, rfl⟩
    · obtain ⟨t, b, rfl, _⟩ := two_frac h
      exact ⟨t, b, rfl⟩
  | md p =>
    obtain ⟨t, rfl, _⟩ := btw_int h
    exact ⟨t, 1, rfl⟩
/-- at least so great above or below -/
def longB (l : Int) (d : PyData) : Bool := match two d with
  | some (t, b) => decide (l ≤ absI t) || decide (l ≤ b)
  | none => false
theorem longB_two {l : Int} {d : PyData} {t b : Int} (h : two d = some (t, b)) : longB l d = (decide (l ≤ absI t) || decide (l ≤ b)) := by
  unfold longB
  rw [h]
def numB (φ : Fk) (d : PyData) : Bool := holdsB φ d && !longB FL d
def spHolds (K : PySem.W.Frag) : Sp := fun vs H Q _ => ∃ (f : Addr) (x : V) (d : PyData) (φ : Fk), vs = [.ref f, x] ∧ FieldC K H f φ ∧ Do K H x d ∧ okP φ ∧ Q (.bl (holdsB φ d)) H
theorem ok_holds (T : Tx K mg) : FnG P w K mg base CX0 3 (He.ma K (He.ga K "Field") "holds") (spHolds K) := by
  refine mk_Field_holds T.d (fun vs H Q E h => ?_) (fun cdv A outer s H vs Q E hg hr h => ?_)
  · obtain ⟨f, x, d, φ, rfl, _⟩ := h
    rfl
  · obtain ⟨f, x, d, φ, rfl, F, hd, ok, q⟩ := h
    refine ⟨_, pss_cons (ps_if (pt_cmp (pc_notN (pe_fld (pv 0) rfl))) (pss_one (ps_ret (pe_callG (ok_is_between T) hr hg (by rfl) (T.g "is_between" (by decide +kernel)) (kp_is_between T.d) pass0 (pa_cons (pv 1) (pa_cons pe_int (pa_cons (pe_op op_sub (pe_fld (pv 0) rfl) pe_int) pa_nil)))))) pss_nil)
      (pss_one (ps_ret (pe_or (pe_callG (ok_is_integer T) (hr.mono (by decide)) hg (by rfl) (T.g "is_integer" (by decide +kernel)) (kp_is_integer T.d) pass0 (pa_cons (pv 1) pa_nil))
        (pe_one (pe_callG (ok_is_fraction T) hr hg (by rfl) (T.g "is_fraction" (by decide +kernel)) (kp_is_fraction T.d) pass0 (pa_cons (pv 1) pa_nil)))))), ?_⟩
    cases φ with
    | fr =>
      refine rd_prime rfl F ⟨_, rfl, ifF rfl ?_⟩
      have q : Q (.bl (isI d || frac d)) H := q
      refine ⟨_, rfl, x, d, rfl, hd, _, rfl, ?_⟩
      cases e : isI d with
      | true =>
        rw [e] at q
        exact ifT rfl q
      | false =>
        rw [e] at q
        exact ifF rfl ⟨_, rfl, x, d, rfl, hd, q⟩
    | md p =>
      refine rd_prime rfl F ⟨_, rfl, ifT rfl ?_⟩
      obtain ⟨C, dx, c, m, e⟩ := F
      exact ⟨_, rfl, _, rfl, f, C, dx, _, .int p, rfl, e, c.cl, c.np, pf_look _, _, _, rfl, rfl, x, d, 0, p - 1, rfl, hd, q⟩
def spIsNumber (K : PySem.W.Frag) : Sp := fun vs H Q _ => ∃ (f : Addr) (x : V) (d : PyData) (φ : Fk), vs = [.ref f, x] ∧ FieldC K H f φ ∧ Do K H x d ∧ okP φ ∧ ∀ H', Same H H' → Q (.bl (numB φ d)) H'
theorem ok_is_number (T : Tx K mg) : FnG P w K mg base CX0 4 (He.ma K (He.ga K "Field") "is_number") (spIsNumber K) := by
  refine mk_Field_is_number T.d (fun vs H Q E h => ?_) (fun cdv A outer s H vs Q E hg hr h => ?_)
  · obtain ⟨f, x, d, φ, rfl, _⟩ := h
    rfl
  · obtain ⟨f, x, d, φ, rfl, F, hd, ok, q⟩ := h
    obtain ⟨tl, gl⟩ := T.fl
    refine ⟨_, pss_one (ps_ret (pe_and (pe_methG (pv 0) (kp_Field_holds T.d) (ok_holds T) hr hg pass0 (pa_cons (pv 1) pa_nil))
      (pe_one (pe_not (pe_callG (ok_is_longer T) (hr.mono (by decide)) hg (by rfl) (T.g "is_longer" (by decide +kernel)) (kp_is_longer T.d) pass0 (pa_cons (pv 1) (pa_cons (pe_glob (v := .int FL) (by rfl) gl ⟨_, rfl⟩) pa_nil))))))), ?_⟩
    refine go_methG rfl F (by decide +kernel) (by decide +kernel) ⟨_, rfl, f, x, d, φ, rfl, F, hd, ok, _, rfl, ?_⟩
    have q : ∀ H', Same H H' → Q (.bl (holdsB φ d && !longB FL d)) H' := q
    cases e : holdsB φ d with
    | false =>
      rw [e] at q
      exact ifF rfl (q H (Same.refl H))
    | true =>
      obtain ⟨t, b, h2⟩ := holds_two e
      rw [e, longB_two h2] at q
      exact ifT rfl ⟨_, rfl, x, d, t, b, FL, rfl, hd, h2, fun H' s' => ⟨_, rfl, q H' s'⟩⟩
end
end K19

namespace K19
open PySem PySem.Spec PyProof.Rows L2 Ver Num SX
/-! ### words -/
abbrev Wd := List Nat
abbrev vS (u : Wd) : V := .str (S u)
theorem tw_all {p : Nat → Bool} : ∀ l : List Nat, (∀ c ∈ l, p c = true) → l.takeWhile p = l
  | [], _ => rfl
  | c :: l, h => by
    rw [List.takeWhile_cons, if_pos (h c List.mem_cons_self), tw_all l fun d hd => h d (List.mem_cons_of_mem _ hd)]
theorem tw_lt {p : Nat → Bool} : ∀ l : List Nat, (∃ c ∈ l, p c = false) → (l.takeWhile p).length < l.length
  | [], ⟨c, h, _⟩ => nomatch h
  | d :: l, ⟨c, h, hp⟩ => by
    rw [List.takeWhile_cons]
    by_cases hd : p d = true
    · rw [if_pos hd, List.length_cons, List.length_cons]
      have : c ∈ l := by
        rcases List.mem_cons.mp h with rfl | h
        · rw [hd] at hp
          cases hp
        · exact h
      have := tw_lt l ⟨c, this, hp⟩
      omega
    · rw [if_neg hd]
      exact Nat.succ_pos _
theorem tw_next {p : Nat → Bool} : ∀ l : List Nat, (∃ c ∈ l, p c = false) → ∃ c ∈ l.drop (l.takeWhile p).length, p c = false
  | [], ⟨c, h, _⟩ => nomatch h
  | d :: l, ⟨c, h, hp⟩ => by
    rw [List.takeWhile_cons]
    by_cases hd : p d = true
    · rw [if_pos hd, List.length_cons, List.drop_succ_cons]
      have : c ∈ l := by
        rcases List.mem_cons.mp h with rfl | h
        · rw [hd] at hp
          cases hp
        · exact h
      exact tw_next l ⟨c, this, hp⟩
    · rw [if_neg hd]
      exact ⟨c, h, hp⟩
theorem strip_all {u cs : Wd} (h : ∀ c ∈ u, c ∈ cs) : Txt.stripChars (S u) (S cs) = S [] := by
  have ht : (S u).cps.toList.takeWhile ((S cs).cps.contains) = u := by
    refine tw_all u fun c hc => ?_
    have := h c hc
    simp [this]
  have e0 : stripLo ((S cs).cps.contains) true (S u) = u.length := by
    unfold stripLo
    rw [if_pos rfl, ht]
  have e1 : stripHi ((S cs).cps.contains) true (S u) u.length = u.length := by
    unfold stripHi
    rw [if_pos rfl, chars_S, List.drop_length, S_len]
    rfl
  unfold Txt.stripChars Txt.stripBy stripSame stripped
  rw [e0, e1, S_len]
  cases u with
  | nil => rfl
  | cons c u =>
    rw [if_neg (by simp)]
    exact TL.ext_tl (by simp [Builtin.Str.strSub, TL.tl])
theorem strip_no {u cs : Wd} (h : ∃ c ∈ u, c ∉ cs) : Txt.stripChars (S u) (S cs) ≠ S [] := by
  have hp : ∃ c ∈ u, (S cs).cps.contains c = false := by
    obtain ⟨c, h1, h2⟩ := h
    exact ⟨c, h1, by simp [h2]⟩
  have l1 := tw_lt u hp
  obtain ⟨d, hd, hn⟩ := tw_next u hp
  have e0 : stripLo ((S cs).cps.contains) true (S u) = (u.takeWhile ((S cs).cps.contains)).length := by
    unfold stripLo
    rw [if_pos rfl, chars_S]
  generalize (u.takeWhile ((S cs).cps.contains)).length = lo at *
  have l2 := tw_lt (p := (S cs).cps.contains) (u.drop lo).reverse ⟨d, List.mem_reverse.mpr hd, hn⟩
  rw [List.length_reverse, List.length_drop] at l2
  have e1 : stripHi ((S cs).cps.contains) true (S u) lo = u.length - ((u.drop lo).reverse.takeWhile ((S cs).cps.contains)).length := by
    unfold stripHi
    rw [if_pos rfl, chars_S, S_len]
  generalize ((u.drop lo).reverse.takeWhile ((S cs).cps.contains)).length = tk at *
  unfold Txt.stripChars Txt.stripBy stripped
  intro z
  split at z
  · have := S_inj z
    subst this
    simp at l1
  · rw [e0, e1] at z
    have zl := congrArg (fun s : Str => s.cps.size) z
    simp [Builtin.Str.strSub] at zl
    omega
/-- whether a value is a word over these letters -/
def isW (cs : List Nat) : PyData → Bool
  | .str s => decide (s.length ≤ 160) && s.cps.toList.all fun c => decide (c ∈ cs)
  | _ => false
theorem isW_S {cs u : List Nat} : isW cs (.str (S u)) = true ↔ u.length ≤ 160 ∧ ∀ c ∈ u, c ∈ cs := by
  show (decide ((S u).length ≤ 160) && (S u).cps.toList.all fun c => decide (c ∈ cs)) = true ↔ _
  rw [S_len, chars_S, Bool.and_eq_true, decide_eq_true_eq, List.all_eq_true]
  exact ⟨fun h => ⟨h.1, fun c hc => of_decide_eq_true (h.2 c hc)⟩, fun h => ⟨h.1, fun c hc => decide_eq_true (h.2 c hc)⟩⟩
/-- texts among data are short -/
def smallD (d : PyData) : Prop := ∀ s, d = .str s → s.length ≤ 20000
section
variable {P : Program} {w : World} {K : PySem.W.Frag} {mg : Str → Option Value} {base : Heap}
def spIsW (K : PySem.W.Frag) : Sp := fun vs H Q _ => ∃ (x : V) (d : PyData) (cs : Wd), vs = [x, vS cs] ∧ Do K H x d ∧ smallD d ∧ Q (.bl (isW cs d)) H
theorem ok_is_word (T : Tx K mg) : FnG P w K mg base CX0 1 (He.ga K "is_word") (spIsW K) := by
  refine mk_is_word T.d (fun vs H Q E h => ?_) (fun cdv A outer s H vs Q E hg hr h => ?_)
  · obtain ⟨x, d, cs, rfl, _⟩ := h
    rfl
  · obtain ⟨x, d, cs, rfl, hd, sm, q⟩ := h
    have nd := sc_is_word.nd
    obtain ⟨tk, hk⟩ := T.lw
    refine ⟨_, pss_cons (ps_if (PW.pt (pw_or (pt_not (pt_val (pe_callB call_isi (by rfl) (T.z "isinstance" (by decide +kernel)) (by decide +kernel) (pa_cons (pv 0) (pa_cons (pe_bltn (v := .ty "str") (by rfl) (T.z "str" (by decide +kernel)) (by decide +kernel) rfl) pa_nil)))))
        (pw_or1 (pt_cmpR op_gt (pe_callB call_len_str (by rfl) (T.z "len" (by decide +kernel)) (by decide +kernel) (pa_cons (pv 0) pa_nil)) (pe_glob (v := .int 160) (by rfl) hk ⟨_, rfl⟩) (nomark _))))) (pss_one (ps_ret pe_bl)) pss_nil)
      (pss_one (ps_ret (pe_cmpR op_eq (pe_bm PySem.F.plainAttrs_str PySem.F.slot_str_strip PySem.F.type_str_strip (mt_stripChars) (pv 0) (pa_cons (pv 1) pa_nil)) pe_str (nomark _)))), ?_⟩
    refine ⟨_, rfl, _, _, _, _, _, rfl, .ty "str", hd.ty, kit_str d, _, rfl, ?_⟩
    cases es : is_str d with
    | false =>
      have e : isW cs d = false := by
        cases d with
        | str s => cases es
        | _ => rfl
      rw [e] at q
      exact ifT rfl (ifT rfl q)
    | true =>
      obtain ⟨s', rfl⟩ : ∃ s', d = .str s' := by
        cases d with
        | str s' => exact ⟨s', rfl⟩
        | _ => cases es
      cases hd
      obtain ⟨u, rfl⟩ : ∃ u, s' = S u := ⟨TL.tl s', (S_tl s').symm⟩
      have lu := sm _ rfl
      rw [S_len] at lu
      have ls := S_len u
      have sl : (S u).length ≤ sizeLine := by rw [ls]; exact sl_of lu
      refine ifF rfl ⟨_, rfl, _, rfl, sl, _, _, rfl, rfl, _, rfl, ?_⟩
      rw [ls]
      by_cases l6 : u.length ≤ 160
      case neg =>
        have e : isW cs (.str (S u)) = false := by
          cases h : isW cs (.str (S u)) with
          | false => rfl
          | true => exact absurd (isW_S.mp h).1 l6
        rw [e] at q
        exact ifT (decide_eq_true (by omega)) q
      refine ifF (decide_eq_false (by omega)) ⟨_, rfl, rfl, _, rfl, _, _, rfl, rfl, sl, rfl, ?_⟩
      rw [sEq]
      by_cases hc : ∀ c ∈ u, c ∈ cs
      · have e : isW cs (.str (S u)) = true := isW_S.mpr ⟨l6, hc⟩
        rw [e] at q
        rw [strip_all hc]
        exact q
      · have e : isW cs (.str (S u)) = false := by
          cases h : isW cs (.str (S u)) with
          | false => rfl
          | true => exact absurd (isW_S.mp h).2 hc
        rw [e] at q
        have ne : ∃ c ∈ u, c ∉ cs := Classical.byContradiction fun z => hc fun c h => Classical.byContradiction fun z2 => z ⟨c, h, z2⟩
        rw [decide_eq_false (show ¬ Txt.stripChars (S u) (S cs) = ("" : Str) from strip_no ne)]
        exact q
end
end K19

/-! xs[i::k] of a list. -/
namespace Ver
open PySem PySem.Spec PyProof.Rows L2
theorem fm_congr {α β : Type} {f g : α → Option β} {l : List α} (h : ∀ a ∈ l, f a = g a) : l.filterMap f = l.filterMap g := by
  induction l with
  | nil => rfl
  | cons a l ih =>
    rw [List.filterMap_cons, List.filterMap_cons, h a List.mem_cons_self, ih fun b hb => h b (List.mem_cons_of_mem _ hb)]
theorem fm_range {α : Type} : ∀ l : List α, (List.range l.length).filterMap (l[·]?) = l
  | [] => rfl
  | a :: l => by
    have ih := fm_range l
    rw [List.length_cons, List.range_succ_eq_map, List.filterMap_cons, List.filterMap_map]
    show a :: List.filterMap ((fun x => (a :: l)[x]?) ∘ Nat.succ) (List.range l.length) = a :: l
    have e : ((fun x => (a :: l)[x]?) ∘ Nat.succ) = fun x => l[x]? := funext fun x => by simp
    rw [e, ih]
/-- the places that are taken -/
def stepIx (i k : Int) (n : Nat) : List Nat := sliceRange (sliceBounds (some i) none (some k) n).1 (sliceBounds (some i) none (some k) n).2.1 (sliceBounds (some i) none (some k) n).2.2
def stepV {α : Type} (xs : List α) (i k : Int) : List α := (stepIx i k xs.length).filterMap (xs[·]?)
theorem vals_pick {xs : List V} {us : List Value} (r : Vals xs us) : ∀ js : List Nat, Vals (js.filterMap (xs[·]?)) (js.filterMap (us[·]?))
  | [] => .nil
  | j :: js => by
    have ih := vals_pick r js
    rw [List.filterMap_cons, List.filterMap_cons]
    have hl := r.length
    cases hx : xs[j]? with
    | none =>
      have : us[j]? = none := List.getElem?_eq_none (by have := List.getElem?_eq_none_iff.mp hx; omega)
      rw [this]
      exact ih
    | some x =>
      obtain ⟨u, hu, ru⟩ := r.get hx
      rw [hu]
      exact .cons ru ih
theorem step_len {α : Type} (xs : List α) (i k : Int) (h : (stepIx i k xs.length).length ≤ sizeLine) : (stepV xs i k).length ≤ sizeLine := Nat.le_trans (List.length_filterMap_le _ _) h
def tStepL (K : PySem.W.Frag) (te : TE) (tl ts : TO) : TE := fun σ H Q => te σ H fun x H1 => tl σ H1 fun l H2 => ts σ H2 fun t H3 => ∃ a xs i k, x = .ref a ∧ l = some i ∧ t = some k ∧ SqL K H3 a xs ∧ k ≠ 0 ∧ (stepIx i k xs.length).length ≤ sizeLine ∧
  ∀ p, H3 p = none → Q (.ref p) (upd H3 p (.lst (stepV xs i k)))
theorem pe_stepL {X : Cx} {e el es : Expr} {te : TE} {tl ts : TO} {p3 pos : Pos} (he : PE X e te) (hl : PO X (some el) tl) (hs : PO X (some es) ts) :
    PE X (.Subscript e (.Slice (some el) none (some es) p3) pos) (tStepL X.K te tl ts) := by
  refine ⟨fun pins s σ H Q I h => ?_⟩
  refine Subscript_ (thn (he.run pins s σ H _ I h) fun v s1 ⟨x, H1, I1, r1, q1⟩ => ?_)
  refine wpAny_Slice (thn (hl.run pins s1 σ H1 _ I1 q1) fun vl s2 ⟨l, H2, I2, pl, q2⟩ => ?_)
  refine thn (po_none.run pins s2 σ H2 (fun o H3 => o = none ∧ H3 = H2) I2 ⟨rfl, rfl⟩) fun vu s3 ⟨u, H3, I3, pu, eu, e3⟩ => ?_
  subst eu e3
  refine thn (hs.run pins s3 σ H3 _ I3 q2) fun vs s4 ⟨t, H4, I4, ps, q4⟩ => ?_
  obtain ⟨a, xs, i, k, rfl, rfl, rfl, hx, hk, hz, q⟩ := q4
  cases r1
  have J : Inv X pins σ H4 { s4 with heap := s4.heap.push { cls := .type "slice", data := .fields #[vl, vu, vs] } } := I4.kept (t' := s4.toks) fun b ob q => Heap.get?_push_of_some _ q
  obtain ⟨its, r, ht, hn⟩ := J.list hx
  have hlen := r.length
  show wpAny (model X.prog X.w) X.A (subscriptTail e (.Slice (some el) none (some es) p3) (.ref a) (.ref s4.heap.objs.size)) (EP X pins σ Q) X.xe { s4 with heap := s4.heap.push { cls := .type "slice", data := .fields #[vl, vu, vs] } }
  refine tail_any (ops := [.ref a, .ref s4.heap.objs.size]) ht.isList.typeIs (PySem.slot_list_getitem.lookup) ?_ (by with_unfolding_all rfl)
  refine wpAny_getItem_list_slice ht.isList (Heap.IsSliceOf.new _ vl vu vs) pl pu ps (by intro z; exact hk (Option.some.inj z)) ?_ (by rw [List.size_toArray]; omega)
  have ep : slicePick its.toArray (some i) none (some k) = (stepV its i k).toArray := by
    unfold slicePick stepV stepIx
    rw [List.size_toArray]
    congr 1
    exact fm_congr fun j _ => by simp
  rw [ep]
  have rp : Vals (stepV xs i k) (stepV its i k) := by
    unfold stepV
    rw [hlen]
    exact vals_pick r _
  refine ⟨.ref _, _, J.laid (t' := s4.toks) (o := .lst (stepV xs i k)) (fun b ob q => Heap.get?_push_of_some _ q) (Nat.le_refl _) ?_, rfl, q _ (J.hok.fresh (Nat.le_refl _))⟩
  exact ⟨step_len xs i k hz, _, 0, rp, Heap.get?_push_size _ rfl⟩
/-! ### the columns of a table -/
/-- the places at, at + n, .. below n * m -/
theorem stepIx_col {n m j : Nat} (hj : j < n) : stepIx (j : Int) (n : Int) (m * n) = (List.range m).map fun i => j + n * i := by
  have hn : (n : Int) > 0 := by omega
  have hj0 : ¬ ((j : Int) < 0) := by omega
  have eb : sliceBounds (some (j : Int)) none (some (n : Int)) (m * n) = (max 0 (min (j : Int) ((m * n : Nat) : Int)), ((m * n : Nat) : Int), (n : Int)) := by
    unfold sliceBounds
    simp only [Option.getD_some, if_pos hn, if_neg hj0]
  unfold stepIx
  rw [eb]
  show sliceRange (max 0 (min (j : Int) ((m * n : Nat) : Int))) ((m * n : Nat) : Int) (n : Int) = _
  unfold sliceRange
  rw [if_pos hn]
  cases m with
  | zero =>
    rw [Nat.zero_mul, if_neg (by omega)]
    rfl
  | succ m =>
    have hle : n ≤ (m + 1) * n := by rw [Nat.succ_mul]; omega
    have es : max 0 (min (j : Int) (((m + 1) * n : Nat) : Int)) = (j : Int) := by omega
    rw [es, if_pos (by omega)]
    have ec : (((m + 1) * n : Nat) : Int) - (j : Int) + (n : Int) - 1 = (n : Int) * ((m + 1 : Nat) : Int) + ((n - 1 - j : Nat) : Int) := by
      rw [Nat.mul_comm, Int.natCast_mul]
      omega
    have ed : ((((m + 1) * n : Nat) : Int) - (j : Int) + (n : Int) - 1) / (n : Int) = ((m + 1 : Nat) : Int) := by
      rw [ec, Int.mul_comm, Int.add_comm, Int.add_mul_ediv_right _ _ (by omega), Int.ediv_eq_zero_of_lt (by omega) (by omega), Int.zero_add]
    rw [ed]
    show List.map (fun k : Nat => ((j : Int) + (n : Int) * (k : Int)).toNat) (List.range (((m + 1 : Nat) : Int)).toNat) = _
    rw [Int.toNat_natCast]
    refine List.map_congr_left fun k _ => ?_
    have e2 : (j : Int) + (n : Int) * (k : Int) = ((j + n * k : Nat) : Int) := by rw [Int.natCast_add, Int.natCast_mul]
    rw [e2, Int.toNat_natCast]
theorem flat_at {α : Type} {n : Nat} : ∀ {rows : List (List α)}, (∀ r ∈ rows, r.length = n) → ∀ {i j : Nat}, j < n → rows.flatten[j + n * i]? = (rows[i]?).bind (·[j]?)
  | [], _, i, j, _ => by simp
  | r :: rows, h, i, j, hj => by
    have hr := h r List.mem_cons_self
    rw [List.flatten_cons]
    cases i with
    | zero =>
      rw [Nat.mul_zero, Nat.add_zero, List.getElem?_append_left (by omega)]
      rfl
    | succ i =>
      have e : j + n * (i + 1) = r.length + (j + n * i) := by rw [Nat.mul_succ, hr]; omega
      rw [e, List.getElem?_append_right (by omega), Nat.add_sub_cancel_left, flat_at (fun r' h' => h r' (List.mem_cons_of_mem _ h')) hj]
      rfl
/-- column j -/
def colOf {α : Type} (rows : List (List α)) (j : Nat) : List α := rows.filterMap (·[j]?)
theorem step_col {α : Type} {n : Nat} {rows : List (List α)} (h : ∀ r ∈ rows, r.length = n) {j : Nat} (hj : j < n) : stepV rows.flatten (j : Int) (n : Int) = colOf rows j := by
  have hl : rows.flatten.length = rows.length * n := by
    clear hj
    induction rows with
    | nil => simp
    | cons r rows ih =>
      rw [List.flatten_cons, List.length_append, ih fun r' h' => h r' (List.mem_cons_of_mem _ h'), h r List.mem_cons_self, List.length_cons, Nat.succ_mul]
      omega
  unfold stepV
  rw [hl, stepIx_col hj, List.filterMap_map]
  have e : List.filterMap ((fun x => rows.flatten[x]?) ∘ fun i => j + n * i) (List.range rows.length) = List.filterMap (fun i => (rows[i]?).bind (·[j]?)) (List.range rows.length) :=
    fm_congr fun i _ => flat_at h hj
  rw [e]
  unfold colOf
  conv => rhs; rw [← fm_range rows, List.filterMap_filterMap]
end Ver

/-! zip of two sequences, each a list or a tuple. -/
namespace Ver
open PySem PySem.Spec PyProof.Rows L2
/-- a list (false) or a tuple (true) of these items -/
def Row : Bool → Heap → Addr → Array Value → Prop
  | false, h, l, xs => h.IsList l xs
  | true, h, l, xs => h.IsTuple l xs
/-- its iterator, so far -/
def Cur : Bool → Heap → Addr → Addr → Nat → Prop
  | false, h, t, l, i => h.IsListIter t l i
  | true, h, t, l, i => h.IsTupleIter t l i
def curName : Bool → String
  | false => "list_iterator"
  | true => "tuple_iterator"
abbrev curObj (k : Bool) (l : Addr) : Obj := { cls := .type (curName k), data := .fields #[.ref l, .int 0 0] }
section
variable {k : Bool} {h g : Heap} {l t b : Addr} {xs : Array Value} {i : Nat}
theorem Row.but (r : Row k h l xs) (e : Heap.ExtBut b h g) (n : l ≠ b) : Row k g l xs := by
  cases k with
  | false => exact Heap.IsList.extBut r e n
  | true => exact Heap.IsTuple.extBut r e n
theorem Row.push (r : Row k h l xs) (o : Obj) : Row k (h.push o) l xs := by
  cases k with
  | false => exact Heap.IsList.push r o
  | true => exact Heap.IsTuple.push r o
theorem Row.lt (r : Row k h l xs) : l < h.objs.size := by
  cases k with
  | false => obtain ⟨o, e, _⟩ := r; exact Heap.lt_size e
  | true => obtain ⟨o, e, _⟩ := r; exact Heap.lt_size e
theorem Cur.but (c : Cur k h t l i) (e : Heap.ExtBut b h g) (n : t ≠ b) : Cur k g t l i := by
  cases k with
  | false => exact Heap.IsListIter.extBut c e n
  | true => exact Heap.IsTupleIter.extBut c e n
theorem Cur.on (c : Cur k h t l i) (e : ∀ o, h.get? t = some o → g.get? t = some o) : Cur k g t l i := by
  cases k with
  | false => exact Heap.IsListIter.at c e
  | true => exact Heap.IsTupleIter.at c e
theorem Cur.ob (c : Cur k h t l i) : ∃ o, h.get? t = some o ∧ o.data = .fields #[.ref l, .int i 0] := by
  cases k with
  | false => obtain ⟨o, e, _, d⟩ := c; exact ⟨o, e, d⟩
  | true => obtain ⟨o, e, _, d⟩ := c; exact ⟨o, e, d⟩
theorem Cur.new (e : h.get? t = some (curObj k l)) : Cur k h t l 0 := by
  cases k with
  | false => exact ⟨_, e, rfl, rfl⟩
  | true => exact ⟨_, e, rfl, rfl⟩
end
section
variable {P : Program} {w : World} {A : Around} {E : Value → Shared → Prop} {s : Shared} {k : Bool} {l t : Addr} {xs : Array Value} {i : Nat}
theorem cur_item {x : Value} {Q : Value → Shared → Prop} (c : Cur k s.heap t l i) (r : Row k s.heap l xs) (hx : xs[i]? = some x) (q : ∀ g, Cur k g t l (i + 1) → Heap.SameBut t s.heap g → Q x { s with heap := g }) :
    wpAny (model P w) A (Builtin.SmallTypes.nextOf (.ref t)) Q E s := by
  cases k with
  | false => exact wpAny_nextOf_list_item c r hx q
  | true => exact RZ.nextOf_tuple_item c r hx q
theorem cur_end {Q : Value → Shared → Prop} (hh : A.handled = none) (c : Cur k s.heap t l i) (r : Row k s.heap l xs) (hx : xs[i]? = none)
    (q : ∀ g e, Heap.ExtBut t s.heap g → (∃ o, g.get? e = some o ∧ o.cls = .type "StopIteration") → E (.ref e) { s with heap := g }) : wpAny (model P w) A (Builtin.SmallTypes.nextOf (.ref t)) Q E s := by
  cases k with
  | false => exact wpAny_nextOf_list_end hh c r hx q
  | true => exact RZ.nextOf_tuple_end hh c r hx q
/-- a turn of the pair's walk -/
theorem pair_item {z ti to_ c1 c2 l1 l2 : Addr} {k1 k2 : Bool} {i1 i2 : Nat} {xs ys : Array Value} {x y a b : Value} {Q : Value → Shared → Prop} (D : ZipApart z ti to_ c1 c2 l1 l2)
    (hz : IsZip s.heap z ti to_ .none) (hti : IsPair s.heap ti (.ref c1) (.ref c2)) (hto : IsPair s.heap to_ a b)
    (e1 : Cur k1 s.heap c1 l1 i1) (e2 : Cur k2 s.heap c2 l2 i2) (r1 : Row k1 s.heap l1 xs) (r2 : Row k2 s.heap l2 ys) (hx : xs[i1]? = some x) (hy : ys[i2]? = some y)
    (q : ∀ g, IsZip g z ti to_ (rawInt s.heap.objs.size) → IsPair g to_ x y → Cur k1 g c1 l1 (i1 + 1) → Cur k2 g c2 l2 (i2 + 1) → IsPair g s.heap.objs.size x y → g.objs.size = s.heap.objs.size + 1 →
      (∀ u o, u ≠ z → u ≠ to_ → u ≠ c1 → u ≠ c2 → s.heap.get? u = some o → g.get? u = some o) → Q (.ref s.heap.objs.size) { s with heap := g }) :
    wpAny (model P w) A (Builtin.«zip.__next__» ⟨[.ref z], []⟩) (fun fin s' => ∃ v, fin = .done (.ret v) ∧ Q v s') E s := by
  show wpAny _ _ (field (.ref z) 2 >>= _) _ _ _
  refine wpAny_bind (wpAny_field hz rfl (x := .bool false) rfl ?_)
  show wpAny _ _ (field (.ref z) 3 >>= _) _ _ _
  refine wpAny_bind (wpAny_field hz rfl (x := .ref ti) rfl (wpAny_bind (wpAny_seqItems hti rfl ?_)))
  show wpAny _ _ (Builtin.SmallTypes.ownedTupleIsFree (.ref z) >>= _) _ _ _
  refine wpAny_bind ?_
  unfold Builtin.SmallTypes.ownedTupleIsFree
  refine wpAny_bind (wpAny_field hz rfl (x := .none) rfl (wpAny_pure ?_))
  simp only [if_true]
  refine wpAny_bind (wpAny_rule (wpAny_bind (wpAny_field hz rfl (x := .ref to_) rfl (wpAny_bind (wpAny_setField_rec hz (by simp) fun g1 hz1 b1 => ?_)))))
  replace hz1 : IsZip g1 z ti to_ .ellipsis := hz1
  refine wpAny_bind ?_
  simp only [List.zipIdx_cons, List.zipIdx_nil, List.forIn_cons, List.forIn_nil]
  refine wpAny_bind (wpAny_bind (wpAny_onRaise ?_))
  show wpAny _ _ (Builtin.SmallTypes.nextOf (.ref c1) >>= _) _ _ _
  refine wpAny_bind (cur_item (e1.but b1.extBut D.i1z) (r1.but b1.extBut D.l1z) hx fun g2 f1 b2 => wpAny_pure ?_)
  have hto2 : IsPair g2 to_ a b := b2.extBut _ _ D.TOi1 (b1.extBut _ _ D.TOz hto)
  refine wpAny_bind (wpAny_seqItems hto2 rfl (wpAny_bind (wpAny_updateSeq_pair hto2 fun g3 hto3 b3 => ?_)))
  replace hto3 : IsPair g3 to_ x b := hto3
  refine wpAny_bind (wpAny_letGo (wpAny_pure (wpAny_bind (wpAny_bind (wpAny_onRaise ?_)))))
  show wpAny _ _ (Builtin.SmallTypes.nextOf (.ref c2) >>= _) _ _ _
  refine wpAny_bind (cur_item (((e2.but b1.extBut D.i2z).but b2.extBut D.i12.symm).but b3.extBut D.TOi2.symm) (((r2.but b1.extBut D.l2z).but b2.extBut D.l2i1).but b3.extBut D.l2TO) hy fun g4 f2 b4 => wpAny_pure ?_)
  have hto4 : IsPair g4 to_ x b := b4.extBut _ _ D.TOi2 hto3
  refine wpAny_bind (wpAny_seqItems hto4 rfl (wpAny_bind (wpAny_updateSeq_pair hto4 fun g5 hto5 b5 => ?_)))
  replace hto5 : IsPair g5 to_ x y := hto5
  refine wpAny_bind (wpAny_letGo (wpAny_pure (wpAny_pure (wpAny_bind (wpAny_seqItems hto5 rfl (wpAny_bind (wpAny_newTuple ?_)))))))
  have sz : g5.objs.size = s.heap.objs.size := by rw [b5.1, b4.1, b3.1, b2.1, b1.1]
  have hz5 : IsZip g5 z ti to_ .ellipsis := b5.extBut _ _ D.TOz.symm (b4.extBut _ _ D.i2z.symm (b3.extBut _ _ D.TOz.symm (b2.extBut _ _ D.i1z.symm hz1)))
  have kp5 : ∀ u o, u ≠ z → u ≠ to_ → u ≠ c1 → u ≠ c2 → s.heap.get? u = some o → g5.get? u = some o := fun u o n1 n2 n3 n4 e =>
    b5.extBut _ _ n2 (b4.extBut _ _ n4 (b3.extBut _ _ n2 (b2.extBut _ _ n3 (b1.extBut _ _ n1 e))))
  have f15 : Cur k1 g5 c1 l1 (i1 + 1) := ((f1.but b3.extBut D.TOi1.symm).but b4.extBut D.i12).but b5.extBut D.TOi1.symm
  have f25 : Cur k2 g5 c2 l2 (i2 + 1) := f2.but b5.extBut D.TOi2.symm
  have zlt : z < g5.objs.size := Heap.lt_size hz5
  show wpAny _ _ (Builtin.SmallTypes.ownedTupleHandOut (.ref z) (.ref g5.objs.size) >>= _) _ _ _
  refine wpAny_bind ?_
  unfold Builtin.SmallTypes.ownedTupleHandOut
  have hz6 : IsZip (g5.push { cls := .type "tuple", data := .seq #[x, y] }) z ti to_ .ellipsis := Heap.get?_push_of_some _ hz5
  refine wpAny_bind (wpAny_setField_rec hz6 (by simp) fun g7 hz7 b7 => ?_)
  replace hz7 : IsZip g7 z ti to_ (rawInt g5.objs.size) := hz7
  refine wpAny_setField_rec hz7 (by simp) fun g8 hz8 b8 => ?_
  replace hz8 : IsZip g8 z ti to_ (rawInt g5.objs.size) := hz8
  have up : ∀ u o, u ≠ z → g5.get? u = some o → g8.get? u = some o := fun u o n e => b8.extBut _ _ n (b7.extBut _ _ n (Heap.get?_push_of_some _ e))
  have new8 : IsPair g8 g5.objs.size x y := b8.extBut _ _ (Nat.ne_of_gt zlt) (b7.extBut _ _ (Nat.ne_of_gt zlt) (Heap.get?_push_size _ rfl))
  have sz8 : g8.objs.size = g5.objs.size + 1 := by rw [b8.1, b7.1, Heap.size_push]
  rw [sz] at hz8 new8 sz8
  refine wpAny_pure ⟨_, rfl, ?_⟩
  show Q (.ref g5.objs.size) _
  rw [sz]
  exact q g8 hz8 (up _ _ D.TOz hto5) (f15.on fun o e => up _ o D.i1z e) (f25.on fun o e => up _ o D.i2z e) new8 sz8 fun u o n1 n2 n3 n4 e => up u o n1 (kp5 u o n1 n2 n3 n4 e)
theorem pair_end {z ti to_ c1 c2 l1 l2 : Addr} {k1 k2 : Bool} {i1 i2 : Nat} {xs ys : Array Value} {a b : Value} {Q : Fin → Shared → Prop} (hh : A.handled = none) (D : ZipApart z ti to_ c1 c2 l1 l2)
    (hz : IsZip s.heap z ti to_ .none) (hti : IsPair s.heap ti (.ref c1) (.ref c2)) (hto : IsPair s.heap to_ a b)
    (e1 : Cur k1 s.heap c1 l1 i1) (e2 : Cur k2 s.heap c2 l2 i2) (r1 : Row k1 s.heap l1 xs) (r2 : Row k2 s.heap l2 ys) (he : xs[i1]? = none ∨ ys[i2]? = none)
    (q : ∀ g e, (∀ u o, u ≠ z → u ≠ to_ → u ≠ c1 → u ≠ c2 → s.heap.get? u = some o → g.get? u = some o) → (∃ o, g.get? e = some o ∧ o.cls = .type "StopIteration") → E (.ref e) { s with heap := g }) :
    wpAny (model P w) A (Builtin.«zip.__next__» ⟨[.ref z], []⟩) Q E s := by
  show wpAny _ _ (field (.ref z) 2 >>= _) _ _ _
  refine wpAny_bind (wpAny_field hz rfl (x := .bool false) rfl ?_)
  show wpAny _ _ (field (.ref z) 3 >>= _) _ _ _
  refine wpAny_bind (wpAny_field hz rfl (x := .ref ti) rfl (wpAny_bind (wpAny_seqItems hti rfl ?_)))
  show wpAny _ _ (Builtin.SmallTypes.ownedTupleIsFree (.ref z) >>= _) _ _ _
  refine wpAny_bind ?_
  unfold Builtin.SmallTypes.ownedTupleIsFree
  refine wpAny_bind (wpAny_field hz rfl (x := .none) rfl (wpAny_pure ?_))
  simp only [if_true]
  refine wpAny_bind (wpAny_rule (wpAny_bind (wpAny_field hz rfl (x := .ref to_) rfl (wpAny_bind (wpAny_setField_rec hz (by simp) fun g1 hz1 b1 => ?_)))))
  replace hz1 : IsZip g1 z ti to_ .ellipsis := hz1
  refine wpAny_bind ?_
  simp only [List.zipIdx_cons, List.zipIdx_nil, List.forIn_cons, List.forIn_nil]
  refine wpAny_bind (wpAny_bind (wpAny_onRaise ?_))
  show wpAny _ _ (Builtin.SmallTypes.nextOf (.ref c1) >>= _) _ _ _
  cases hx : xs[i1]? with
  | none =>
    refine wpAny_bind (cur_end hh (e1.but b1.extBut D.i1z) (r1.but b1.extBut D.l1z) hx fun g2 e b2 hs => ?_)
    obtain ⟨oe, oh, oc⟩ := hs
    have hz2 : IsZip g2 z ti to_ .ellipsis := b2 _ _ D.i1z.symm hz1
    have nz : e ≠ z := fun y => by rw [y, hz2] at oh; cases oh; simp at oc
    exact wpAny_setField_rec hz2 (by simp) fun g3 _ b3 => q g3 e (fun u o n1 _ n3 _ y => b3.extBut _ _ n1 (b2 _ _ n3 (b1.extBut _ _ n1 y))) ⟨oe, b3.extBut _ _ nz oh, oc⟩
  | some x =>
    have hy : ys[i2]? = none := by
      rcases he with h | h
      · rw [hx] at h
        cases h
      · exact h
    refine wpAny_bind (cur_item (e1.but b1.extBut D.i1z) (r1.but b1.extBut D.l1z) hx fun g2 f1 b2 => wpAny_pure ?_)
    have hto2 : IsPair g2 to_ a b := b2.extBut _ _ D.TOi1 (b1.extBut _ _ D.TOz hto)
    refine wpAny_bind (wpAny_seqItems hto2 rfl (wpAny_bind (wpAny_updateSeq_pair hto2 fun g3 hto3 b3 => ?_)))
    refine wpAny_bind (wpAny_letGo (wpAny_pure (wpAny_bind (wpAny_bind (wpAny_onRaise ?_)))))
    show wpAny _ _ (Builtin.SmallTypes.nextOf (.ref c2) >>= _) _ _ _
    refine wpAny_bind (cur_end hh (((e2.but b1.extBut D.i2z).but b2.extBut D.i12.symm).but b3.extBut D.TOi2.symm) (((r2.but b1.extBut D.l2z).but b2.extBut D.l2i1).but b3.extBut D.l2TO) hy fun g4 e b4 hs => ?_)
    obtain ⟨oe, oh, oc⟩ := hs
    have hz4 : IsZip g4 z ti to_ .ellipsis := b4 _ _ D.i2z.symm (b3.extBut _ _ D.TOz.symm (b2.extBut _ _ D.i1z.symm hz1))
    have nz : e ≠ z := fun y => by rw [y, hz4] at oh; cases oh; simp at oc
    exact wpAny_setField_rec hz4 (by simp) fun g5 _ b5 => q g5 e (fun u o n1 n2 n3 n4 y => b5.extBut _ _ n1 (b4 _ _ n4 (b3.extBut _ _ n2 (b2.extBut _ _ n3 (b1.extBut _ _ n1 y))))) ⟨oe, b5.extBut _ _ nz oh, oc⟩
theorem next_pair {z ti to_ c1 c2 l1 l2 : Addr} {k1 k2 : Bool} {i1 i2 : Nat} {xs ys : Array Value} {x y a b : Value} {Q : Option Value → Shared → Prop} (D : ZipApart z ti to_ c1 c2 l1 l2)
    (hz : IsZip s.heap z ti to_ .none) (hti : IsPair s.heap ti (.ref c1) (.ref c2)) (hto : IsPair s.heap to_ a b)
    (e1 : Cur k1 s.heap c1 l1 i1) (e2 : Cur k2 s.heap c2 l2 i2) (r1 : Row k1 s.heap l1 xs) (r2 : Row k2 s.heap l2 ys) (hx : xs[i1]? = some x) (hy : ys[i2]? = some y)
    (q : ∀ g, IsZip g z ti to_ (rawInt s.heap.objs.size) → IsPair g to_ x y → Cur k1 g c1 l1 (i1 + 1) → Cur k2 g c2 l2 (i2 + 1) → IsPair g s.heap.objs.size x y → g.objs.size = s.heap.objs.size + 1 →
      (∀ u o, u ≠ z → u ≠ to_ → u ≠ c1 → u ≠ c2 → s.heap.get? u = some o → g.get? u = some o) → Q (some (.ref s.heap.objs.size)) { s with heap := g }) : wpAny (model P w) A (pyNext (.ref z)) Q E s := by
  have ty : s.TypeIs (.ref z) "zip" := ⟨_, hz, rfl⟩
  unfold pyNext
  exact wpAny_bind (wpAny_attempt (wpAny_callSpecial?_slot (name := Str.ofString "__next__") ty F.slot_zip_next (wpAny_call_entry F.slot_zip_next ty F.entry_zip_next
    (pair_item D hz hti hto e1 e2 r1 r2 hx hy fun g a1 a2 a3 a4 a5 a6 a7 => wpAny_pure (q g a1 a2 a3 a4 a5 a6 a7)) (F.args_zip_next_1 _))))
theorem next_none {z ti to_ c1 c2 l1 l2 : Addr} {k1 k2 : Bool} {i1 i2 : Nat} {xs ys : Array Value} {a b : Value} {Q : Option Value → Shared → Prop} (hh : A.handled = none) (D : ZipApart z ti to_ c1 c2 l1 l2)
    (hz : IsZip s.heap z ti to_ .none) (hti : IsPair s.heap ti (.ref c1) (.ref c2)) (hto : IsPair s.heap to_ a b)
    (e1 : Cur k1 s.heap c1 l1 i1) (e2 : Cur k2 s.heap c2 l2 i2) (r1 : Row k1 s.heap l1 xs) (r2 : Row k2 s.heap l2 ys) (he : xs[i1]? = none ∨ ys[i2]? = none)
    (q : ∀ g, (∀ u o, u ≠ z → u ≠ to_ → u ≠ c1 → u ≠ c2 → s.heap.get? u = some o → g.get? u = some o) → Q none { s with heap := g }) : wpAny (model P w) A (pyNext (.ref z)) Q E s := by
  have ty : s.TypeIs (.ref z) "zip" := ⟨_, hz, rfl⟩
  unfold pyNext
  refine wpAny_bind (wpAny_attempt (wpAny_callSpecial?_slot (name := Str.ofString "__next__") ty F.slot_zip_next (wpAny_call_entry F.slot_zip_next ty F.entry_zip_next
    (pair_end hh D hz hti hto e1 e2 r1 r2 he fun g e k hs => ?_) (F.args_zip_next_1 _))))
  obtain ⟨o, oh, oc⟩ := hs
  refine wpAny_bind (wpAny_isInstance (T := "StopIteration") (b := true) ⟨o, oh, oc⟩ isSubtype_stop ?_)
  exact wpAny_pure (q _ k)
end
/-! ### zip called -/
abbrev zb1 (k : Bool) (h : Heap) (l : Addr) : Heap := h.push (curObj k l)
abbrev zb2 (k1 k2 : Bool) (h : Heap) (l1 l2 : Addr) : Heap := (zb1 k1 h l1).push (curObj k2 l2)
abbrev zb3 (k1 k2 : Bool) (h : Heap) (l1 l2 : Addr) : Heap := (zb2 k1 k2 h l1 l2).push { cls := .type "tuple", data := .seq #[.ref h.objs.size, .ref (zb1 k1 h l1).objs.size] }
abbrev zb4 (k1 k2 : Bool) (h : Heap) (l1 l2 : Addr) : Heap := (zb3 k1 k2 h l1 l2).push { cls := .type "tuple", data := .seq #[.none, .none] }
abbrev zb5 (k1 k2 : Bool) (h : Heap) (l1 l2 : Addr) : Heap := (zb4 k1 k2 h l1 l2).push { cls := .type "zip", data := .fields #[.none, .bool false, .bool false, .ref (zb2 k1 k2 h l1 l2).objs.size, .ref (zb3 k1 k2 h l1 l2).objs.size] }
theorem iter_row {P : Program} {w : World} {A : Around} {E : Value → Shared → Prop} {s : Shared} {k : Bool} {l : Addr} {xs : Array Value} {Q : Value → Shared → Prop} (r : Row k s.heap l xs) (q : Q (.ref s.heap.objs.size) { s with heap := s.heap.push (curObj k l) }) :
    wpAny (model P w) A (pyIter (.ref l)) Q E s := by
  cases k with
  | false => exact wpAny_pyIter_list r q
  | true => exact wpAny_pyIter_tuple r q
theorem meets_zb (k1 k2 : Bool) (l1 l2 : Addr) (xs ys : Array Value) :
    Meets (Builtin.«zip.__new__» ⟨[.type "zip", .ref l1, .ref l2], []⟩) (fun _ R s => Row k1 s.heap l1 xs ∧ Row k2 s.heap l2 ys ∧
      R (.ok (.ret (.ref (zb4 k1 k2 s.heap l1 l2).objs.size))) { s with heap := zb5 k1 k2 s.heap l1 l2 }) :=
  .of_wp fun prog w A R s h => by
    obtain ⟨hp, g, d, tk, os⟩ := s
    obtain ⟨r1, r2, h⟩ := h
    have hsub := sub_zip
    have q1 : Row k1 (Shared.heap ⟨hp, g, d, tk, os⟩) l1 xs := r1
    have q2 : Row k2 (Shared.heap ⟨hp.push (curObj k1 l1), g, d, tk, os⟩) l2 ys := r2.push _
    wp_walk using iter_row q1, iter_row q2
    exact ⟨_, rfl, h⟩
end Ver

/-! zip of two sequences, each a list or a tuple: over the layer. -/
namespace Ver
open PySem PySem.Spec PyProof.Rows L2
section
variable {P : Program} {w : World} {A : Around} {E : Value → Shared → Prop} {s : Shared}
theorem call_zb {k1 k2 : Bool} {l1 l2 : Addr} {xs ys : Array Value} {Q : Value → Shared → Prop} (r1 : Row k1 s.heap l1 xs) (r2 : Row k2 s.heap l2 ys)
    (q : ∀ g, IsZip g (s.heap.objs.size + 4) (s.heap.objs.size + 2) (s.heap.objs.size + 3) .none → IsPair g (s.heap.objs.size + 2) (.ref s.heap.objs.size) (.ref (s.heap.objs.size + 1)) →
      IsPair g (s.heap.objs.size + 3) .none .none → Cur k1 g s.heap.objs.size l1 0 → Cur k2 g (s.heap.objs.size + 1) l2 0 →
      (∀ u o, s.heap.get? u = some o → g.get? u = some o) → Q (.ref (s.heap.objs.size + 4)) { s with heap := g }) :
    wpAny (model P w) A (call (.type "zip") [.ref l1, .ref l2]) Q E s := by
  refine callType_new F.called_zip (by decide) (F.typeCall_zip_2 _ _) (F.newCall_zip_2 _ _) (fun obj => F.args_object_init_3 obj _ _) F.entry_zip_new (meets_zb k1 k2 l1 l2 xs ys) ⟨r1, r2, ?_⟩
  have n1 : (zb1 k1 s.heap l1).objs.size = s.heap.objs.size + 1 := Heap.size_push ..
  have n2 : (zb2 k1 k2 s.heap l1 l2).objs.size = s.heap.objs.size + 2 := by rw [Heap.size_push, n1]
  have n3 : (zb3 k1 k2 s.heap l1 l2).objs.size = s.heap.objs.size + 3 := by rw [Heap.size_push, n2]
  have n4 : (zb4 k1 k2 s.heap l1 l2).objs.size = s.heap.objs.size + 4 := by rw [Heap.size_push, n3]
  have a5 : (zb5 k1 k2 s.heap l1 l2).get? (zb4 k1 k2 s.heap l1 l2).objs.size = some _ := Heap.get?_push_size _ rfl
  have a4 : (zb5 k1 k2 s.heap l1 l2).get? (zb3 k1 k2 s.heap l1 l2).objs.size = some _ := Heap.get?_push_of_some _ (Heap.get?_push_size _ rfl)
  have a3 : (zb5 k1 k2 s.heap l1 l2).get? (zb2 k1 k2 s.heap l1 l2).objs.size = some _ := Heap.get?_push_of_some _ (Heap.get?_push_of_some _ (Heap.get?_push_size _ rfl))
  have a2 : (zb5 k1 k2 s.heap l1 l2).get? (zb1 k1 s.heap l1).objs.size = some (curObj k2 l2) := Heap.get?_push_of_some _ (Heap.get?_push_of_some _ (Heap.get?_push_of_some _ (Heap.get?_push_size _ rfl)))
  have a1 : (zb5 k1 k2 s.heap l1 l2).get? s.heap.objs.size = some (curObj k1 l1) := Heap.get?_push_of_some _ (Heap.get?_push_of_some _ (Heap.get?_push_of_some _ (Heap.get?_push_of_some _ (Heap.get?_push_size _ rfl))))
  show _ ∧ _
  rw [n2, n3, n4] at a5
  rw [n1, n2] at a3
  rw [n3] at a4
  rw [n1] at a2
  rw [n4]
  exact ⟨⟨_, a5, rfl⟩, q _ a5 a3 a4 (Cur.new a1) (Cur.new a2) fun u o e =>
    Heap.get?_push_of_some _ (Heap.get?_push_of_some _ (Heap.get?_push_of_some _ (Heap.get?_push_of_some _ (Heap.get?_push_of_some _ e))))⟩
end
/-- a sequence over the layer: a list or a tuple -/
def SqB (K : PySem.W.Frag) (H : Hp) : Bool → Addr → List V → Prop
  | false, a, xs => SqL K H a xs
  | true, a, xs => SqT K H a xs
theorem SqB.same {K : PySem.W.Frag} {H H' : Hp} {k : Bool} {a : Addr} {xs : List V} (s : Same H H') (h : SqB K H k a xs) : SqB K H' k a xs := by
  cases k with
  | false => exact s.seq h
  | true =>
    have r : SqT K H a xs := h
    rcases r with (h | ⟨o, h⟩) | h
    · exact .inl (.inl (s _ _ h))
    · exact .inl (.inr ⟨o, s _ _ h⟩)
    · exact .inr h
section
variable {X : Cx} {pins : List (Addr × Obj)} {σ : L2.St} {H : Hp} {s : Shared} {k : Bool} {a : Addr} {xs ys : List V}
theorem sqb_row (I : Inv X pins σ H s) (h : SqB X.K H k a xs) : ∃ its : List Value, Vals xs its ∧ Row k s.heap a its.toArray ∧ xs.length ≤ sizeLine := by
  cases k with
  | false =>
    obtain ⟨its, r, p, z⟩ := I.list h
    exact ⟨its, r, p.isList, z⟩
  | true =>
    obtain ⟨its, r, p, z⟩ := I.tuple h
    exact ⟨its, r, p, z⟩
theorem sqb_inj (I : Inv X pins σ H s) (h : SqB X.K H k a xs) (g : SqB X.K H k a ys) : xs = ys := by
  cases k with
  | false => exact I.list_inj h g
  | true => exact I.tuple_inj h g
end
/-- the sequences as they stand at each turn, the items in new pairs -/
def ItB (K : PySem.W.Frag) (k1 k2 : Bool) (a b : Addr) : It :=
  ⟨fun i H => ∃ (xs ys : List V) (x y : V), SqB K H k1 a xs ∧ SqB K H k2 b ys ∧ xs[i]? = some x ∧ ys[i]? = some y,
    fun i H v H' => ∃ t x y, v = .ref t ∧ H t = none ∧ H' = upd H t (.tup [x, y]) ∧ (∀ xs, SqB K H k1 a xs → xs[i]? = some x) ∧ ∀ ys, SqB K H k2 b ys → ys[i]? = some y,
    fun i H => ∃ xs ys : List V, SqB K H k1 a xs ∧ SqB K H k2 b ys ∧ (xs.length ≤ i ∨ ys.length ≤ i)⟩
abbrev tnB (k1 k2 : Bool) (a b z ti to_ c1 c2 : Addr) : Nat → Heap → Prop := fun i h => IsZip h z ti to_ .none ∧ IsPair h ti (.ref c1) (.ref c2) ∧ (∃ x y, IsPair h to_ x y) ∧ Cur k1 h c1 a i ∧ Cur k2 h c2 b i
theorem turn_zb {P : Program} {w : World} {K : PySem.W.Frag} {elts : List Expr} {kk : Nat} {tpos : Pos} {k1 k2 : Bool} {a b z ti to_ c1 c2 : Addr} (D : ZipApart z ti to_ c1 c2 a b) :
    Turn P w K (.Tuple elts kk tpos) (ItB K k1 k2 a b) [z, ti, to_, c1, c2] z (tnB k1 k2 a b z ti to_ c1 c2) where
  mem := by simp
  obj := fun i h st u hu => by
    obtain ⟨hz, hti, ⟨x, y, hto⟩, f1, f2⟩ := st
    obtain ⟨o1, e1, d1⟩ := f1.ob
    obtain ⟨o2, e2, d2⟩ := f2.ob
    rcases (show u = z ∨ u = ti ∨ u = to_ ∨ u = c1 ∨ u = c2 by simpa using hu) with e | e | e | e | e
    · rw [e]; exact ⟨_, hz, fun v q => nomatch q⟩
    · rw [e]; exact ⟨_, hti, fun v q => nomatch q⟩
    · rw [e]; exact ⟨_, hto, fun v q => nomatch q⟩
    · exact ⟨o1, by rw [e]; exact e1, fun v q => by rw [d1] at q; cases q⟩
    · exact ⟨o2, by rw [e]; exact e2, fun v q => by rw [d2] at q; cases q⟩
  keep := fun i h g st kp => by
    obtain ⟨hz, hti, ⟨x, y, hto⟩, f1, f2⟩ := st
    exact ⟨kp z (by simp) _ hz, kp ti (by simp) _ hti, ⟨x, y, kp to_ (by simp) _ hto⟩, f1.on fun o e => kp c1 (by simp) o e, f2.on fun o e => kp c2 (by simp) o e⟩
  item := by
    intro X eP ew eK hc i pins s σ H E I hf st hg
    subst eP ew eK
    obtain ⟨hz, hti, ⟨x0, y0, hto⟩, f1, f2⟩ := st
    obtain ⟨xs, ys, x, y, hxs, hys, hx, hy⟩ := hg
    obtain ⟨us, rv, p, _⟩ := sqb_row I hxs
    obtain ⟨vs, rv2, p2, _⟩ := sqb_row I hys
    obtain ⟨u, hu, ru⟩ := rv.get hx
    obtain ⟨v, hv, ru2⟩ := rv2.get hy
    have zlt : z < s.heap.objs.size := Heap.lt_size hz
    refine next_pair D hz hti hto f1 f2 p p2 (x := u) (y := v) (by simpa using hu) (by simpa using hv) fun g zg tg g1 g2 hnew _ kp => ?_
    refine ⟨_, rfl, wpAny_letOwnedTupleGo_zip (s := { s with heap := g }) zg fun g' zg' sb => ?_⟩
    have at_ : g'.get? s.heap.objs.size = some { cls := .type "tuple", data := .seq #[u, v] } := (sb.2 _ (Nat.ne_of_gt zlt)).trans hnew
    have obj : ObjOk X.prog X.w (upd H s.heap.objs.size (.tup [x, y])) g' s.heap.objs.size (.tup [x, y]) := ⟨by show 2 ≤ sizeLine; decide, [u, v], .cons ru (.cons ru2 .nil), ⟨_, at_, rfl, _, rfl⟩⟩
    have J : Inv X pins σ (upd H s.heap.objs.size (.tup [x, y])) { s with heap := g' } :=
      I.turnedNew (t' := s.toks) (ch := [z, ti, to_, c1, c2]) (fun c o nb e => (sb.2 c fun q => nb (by simp [q])).trans (kp c o (fun q => nb (by simp [q])) (fun q => nb (by simp [q])) (fun q => nb (by simp [q])) (fun q => nb (by simp [q])) e)) hf (Nat.le_refl _) obj
    refine ⟨.ref s.heap.objs.size, _, J, rfl, ⟨_, x, y, rfl, I.hok.fresh (Nat.le_refl _), rfl, fun l hl => by rw [sqb_inj I hl hxs]; exact hx, fun l hl => by rw [sqb_inj I hl hys]; exact hy⟩, ⟨zg', ?_, ⟨u, v, ?_⟩, ?_, ?_⟩, fun c hcm => ?_⟩
    · exact (sb.2 _ D.TIz).trans (kp _ _ D.TIz D.TITO D.TIi1 D.TIi2 hti)
    · exact (sb.2 _ D.TOz).trans tg
    · exact g1.on fun o e => (sb.2 _ D.i1z).trans e
    · exact g2.on fun o e => (sb.2 _ D.i2z).trans e
    · have lt : c < s.heap.objs.size := by
        obtain ⟨o1, e1, _⟩ := f1.ob
        obtain ⟨o2, e2, _⟩ := f2.ob
        rcases (show c = z ∨ c = ti ∨ c = to_ ∨ c = c1 ∨ c = c2 by simpa using hcm) with e | e | e | e | e
        · rw [e]; exact zlt
        · rw [e]; exact Heap.lt_size hti
        · rw [e]; exact Heap.lt_size hto
        · rw [e]; exact Heap.lt_size e1
        · rw [e]; exact Heap.lt_size e2
      rw [upd_ne (Nat.ne_of_lt lt)]
      exact (hf c hcm).1
  done := by
    intro X eP ew eK hc i pins s σ H E I hf st hg
    subst eP ew eK
    obtain ⟨hz, hti, ⟨x0, y0, hto⟩, f1, f2⟩ := st
    obtain ⟨xs, ys, hxs, hys, he⟩ := hg
    obtain ⟨us, rv, p, _⟩ := sqb_row I hxs
    obtain ⟨vs, rv2, p2, _⟩ := sqb_row I hys
    have l1 := rv.length
    have l2 := rv2.length
    have he2 : us.toArray[i]? = none ∨ vs.toArray[i]? = none := by
      rcases he with q | q
      · exact .inl (by simp; omega)
      · exact .inr (by simp; omega)
    exact next_none (I.ok.hd hc) D hz hti hto f1 f2 p p2 he2 fun g kp => ⟨rfl, I.turnedL (t' := s.toks) (ch := [z, ti, to_, c1, c2]) (fun c o nb e =>
      kp c o (fun q => nb (by simp [q])) (fun q => nb (by simp [q])) (fun q => nb (by simp [q])) (fun q => nb (by simp [q])) e) hf⟩
  self := fun A i s Q E st h => wpAny_pyIter_zip st.1 h
def iZipB (K : PySem.W.Frag) (ta : TA) : TI := fun σ H R => ta σ H fun vs H1 => ∃ k1 k2 a b xs ys, vs = [.ref a, .ref b] ∧ SqB K H1 k1 a xs ∧ SqB K H1 k2 b ys ∧ R (ItB K k1 k2 a b) H1
theorem pi_zipB {X : Cx} {e e2 : Expr} {ta : TA} {p pos tpos : Pos} {elts : List Expr} {kk : Nat} (hg : Gl X "zip") (hm : X.mg "zip" = none) (ha : PA X [e, e2] ta)
    (hs : starEach [e, e2] X.env = (false, eval e X.env) :: starEach [e2] X.env := by rfl) (hpl : (backTo pos (starEach [e2] X.env)).any (·.1) = false := by rfl) :
    PI X (.Tuple elts kk tpos) (.Call (.Name "zip" p) [e, e2] [] pos) (iZipB X.K ta) := by
  refine ⟨fun pins s σ H R I h => ?_⟩
  refine Call_ (ld_blt I hg hm PyProof.Rows.boot_zip (PyProof.Rows.callWith_type1 (thn (ha.run pos pins s σ H _ I h) fun us s1 ⟨vs, H1, I1, r1, q1⟩ => ?_) hs hpl))
  obtain ⟨k1, k2, a, b, xs, ys, rfl, hxs, hys, q⟩ := q1
  obtain ⟨u, v, rfl, ru, rv⟩ := vals2 r1
  obtain rfl : u = Value.ref a := ru
  obtain rfl : v = Value.ref b := rv
  obtain ⟨_, _, p1, _⟩ := sqb_row I1 hxs
  obtain ⟨_, _, p2, _⟩ := sqb_row I1 hys
  refine call_zb p1 p2 fun g hz hti hto f1 f2 kp => wpAny_pyIter_zip hz ?_
  have J : Inv X pins σ H1 { s1 with heap := g } := I1.kept (t' := s1.toks) kp
  refine ⟨s1.heap.objs.size + 4, [s1.heap.objs.size + 4, s1.heap.objs.size + 2, s1.heap.objs.size + 3, s1.heap.objs.size, s1.heap.objs.size + 1], _, _, H1, rfl, J, turn_zb (PySem.W.ktu_apart s1.heap.objs.size a b p1.lt p2.lt), ⟨hz, hti, ⟨_, _, hto⟩, f1, f2⟩, fun c hcm => ?_, q⟩
  have hle : s1.heap.objs.size ≤ c := by
    rcases (show c = s1.heap.objs.size + 4 ∨ c = s1.heap.objs.size + 2 ∨ c = s1.heap.objs.size + 3 ∨ c = s1.heap.objs.size ∨ c = s1.heap.objs.size + 1 by simpa using hcm) with e | e | e | e | e <;> rw [e] <;> first | exact Nat.le_add_right _ _ | exact Nat.le_refl _
  exact I1.fpOk hle (I1.hok.fresh hle)
/-- its walk -/
theorem wk_zb {K : PySem.W.Frag} {k1 k2 : Bool} {a b : Addr} {xs ys : List V} {n : Nat} (h1 : xs.length = n) (h2 : ys.length = n) :
    Walk (ItB K k1 k2 a b) n (fun H => SqB K H k1 a xs ∧ SqB K H k2 b ys) (fun i H v H' => ∃ t x y, v = .ref t ∧ H t = none ∧ H' = upd H t (.tup [x, y]) ∧ xs[i]? = some x ∧ ys[i]? = some y) := by
  refine ⟨fun i H hi q => ?_, fun H q => ⟨xs, ys, q.1, q.2, .inl (by omega)⟩, fun i H v H' hi q y => ?_⟩
  · exact ⟨xs, ys, xs[i]'(by omega), ys[i]'(by omega), q.1, q.2, List.getElem?_eq_getElem _, List.getElem?_eq_getElem _⟩
  · obtain ⟨t, x, y', e1, e2, e3, e4, e5⟩ := y
    exact ⟨t, x, y', e1, e2, e3, e4 _ q.1, e5 _ q.2⟩
end Ver

/-! Comprehensions whose parts make new objects. -/
namespace Ver
open PySem PySem.Spec PyProof.Rows L2
/-- all but D stands -/
def SameX (D : Addr) (H H' : Hp) : Prop := ∀ b u, b ≠ D → H b = some u → H' b = some u
theorem Same.toX {D : Addr} {H H' : Hp} (s : Same H H') : SameX D H H' := fun b u _ e => s b u e
theorem none_of {H H' : Hp} {a : Addr} (s : Same H H') (n : H' a = none) : H a = none := by
  cases e : H a with
  | none => rfl
  | some o =>
    have z := s a o e
    rw [n] at z
    cases z
/-- new since H0 -/
def Fr (H0 H : Hp) (b : Addr) (o : HO) : Prop := H0 b = none ∧ H b = some o
theorem Fr.same {H0 H H' : Hp} {b : Addr} {o : HO} (f : Fr H0 H b o) (s : Same H H') : Fr H0 H' b o := ⟨f.1, s _ _ f.2⟩
theorem Fr.off {H0 H H' : Hp} {D b : Addr} {o : HO} (f : Fr H0 H b o) (n : H0 D ≠ none) (s : SameX D H H') : Fr H0 H' b o := ⟨f.1, s _ _ (fun z => n (z ▸ f.1)) f.2⟩
theorem sameX_upd {D : Addr} {H : Hp} {o : HO} : SameX D H (upd H D o) := fun b u n e => by rw [upd_ne n]; exact e
theorem sameX_new {D t : Addr} {H : Hp} {o : HO} (h : H t = none) : SameX D H (upd H t o) := fun b u _ e => by rw [upd_ne (ne_of_none e h)]; exact e
theorem SameX.trans {D : Addr} {H H' H2 : Hp} (s : SameX D H H') (s2 : SameX D H' H2) : SameX D H H2 := fun b u n e => s2 b u n (s b u n e)
section
variable {J : It} {n : Nat} {G : Hp → Prop} {Y : Nat → V → Prop}
/-- [e for x in ..]: x in slot j; of the i-th result Z i holds -/
theorem lc_grow (w : Walk J n G (fun i H x H' => H' = H ∧ Y i x)) {te : TE} {j : Nat} {σ : L2.St} {Hb : Hp} {D : Addr} {Qd : Hp → Prop} (Z : Nat → V → Hp → Prop)
    (zs : ∀ i v H H', SameX D H H' → Z i v H → Z i v H') (nD : Hb D = none) (few : n ≤ 20000) (hG : ∀ H, Same Hb H → G H)
    (hs : ∀ i x H (R : V → Hp → Prop), i < n → Same Hb H → H D ≠ none → Y i x → (∀ v H', Same H H' → Z i v H' → R v H') → te ((wipe σ [j]).set j (some x)) H R)
    (hd : ∀ H vs, Same Hb H → H D = some (.lst vs) → vs.length = n → (∀ i v, vs[i]? = some v → Z i v H) → Qd H) (hw : ∀ x : V, wipe ((wipe σ [j]).set j (some x)) [j] = wipe σ [j] := by intro _; rfl) :
    ∃ W : Nat → Nat → Hp → Prop, (∃ m, W 0 m (upd Hb D (.lst []))) ∧ ∀ i m H, W i m H →
      (J.stop i H ∧ Qd H) ∨ (J.go i H ∧ ∃ Nx : Hp → Prop, (∀ H', Nx H' → ∃ m', m' < m ∧ W (i + 1) m' H') ∧ ∀ x H', J.yld i H x H' → gName j x (wipe σ [j]) H' fun σ2 H2 => wipe σ2 [j] = wipe σ [j] ∧ tYes σ2 H2 fun b H3 =>
        if b = true then te σ2 H3 fun y H4 => ∃ acc, H4 D = some (.lst acc) ∧ acc.length < sizeLine ∧ Nx (upd H4 D (.lst (acc ++ [y]))) else Nx H3) := by
  refine lc_it w (fun i H => Same Hb H ∧ ∃ vs, H D = some (.lst vs) ∧ vs.length = i ∧ ∀ i v, vs[i]? = some v → Z i v H) ⟨same_new nD (fun _ _ e => e), [], upd_same, rfl, fun i v h => by simp at h⟩ (fun i H _ p => hG H p.1) (fun i x H H' hi p hy => ?_) fun H ⟨p, vs, h1, h2, h3⟩ => hd H vs p h1 h2 h3
  obtain ⟨rfl, hy⟩ := hy
  obtain ⟨p, vs, h1, h2, h3⟩ := p
  refine ⟨hw x, ?_⟩
  unfold tYes
  dsimp only
  rw [if_pos rfl]
  refine hs i x _ _ hi p (by rw [h1]; intro z; cases z) hy fun v H2 s2 hz => ⟨vs, s2 _ _ h1, ?_, same_new nD (p.trans s2), vs ++ [v], upd_same, ?_, fun k u hk => ?_⟩
  · rw [h2, sizeLine_eq]
    omega
  · rw [List.length_append, h2]
    rfl
  · by_cases hkl : k < vs.length
    · rw [List.getElem?_append_left hkl] at hk
      exact zs _ _ _ _ ((Same.toX s2).trans sameX_upd) (h3 k u hk)
    · have hk2 : k = vs.length := by
        have := (List.getElem?_eq_some_iff.mp hk).1
        rw [List.length_append] at this
        simp at this
        omega
      subst hk2
      rw [List.getElem?_append_right (by omega), Nat.sub_self] at hk
      cases hk
      rw [h2]
      exact zs _ _ _ _ sameX_upd hz
/-- .. the i-th result is the value y i -/
theorem lc_oneS (w : Walk J n G (fun i H x H' => H' = H ∧ Y i x)) {te : TE} {j : Nat} {σ : L2.St} {Hb : Hp} {D : Addr} {Qd : Hp → Prop} (y : Nat → V) (nD : Hb D = none) (few : n ≤ 20000) (hG : ∀ H, Same Hb H → G H)
    (hs : ∀ i x H (R : V → Hp → Prop), i < n → Same Hb H → Y i x → (∀ H', Same H H' → R (y i) H') → te ((wipe σ [j]).set j (some x)) H R)
    (hd : ∀ H, Same Hb H → H D = some (.lst ((List.range n).map y)) → Qd H) (hw : ∀ x : V, wipe ((wipe σ [j]).set j (some x)) [j] = wipe σ [j] := by intro _; rfl) :
    ∃ W : Nat → Nat → Hp → Prop, (∃ m, W 0 m (upd Hb D (.lst []))) ∧ ∀ i m H, W i m H →
      (J.stop i H ∧ Qd H) ∨ (J.go i H ∧ ∃ Nx : Hp → Prop, (∀ H', Nx H' → ∃ m', m' < m ∧ W (i + 1) m' H') ∧ ∀ x H', J.yld i H x H' → gName j x (wipe σ [j]) H' fun σ2 H2 => wipe σ2 [j] = wipe σ [j] ∧ tYes σ2 H2 fun b H3 =>
        if b = true then te σ2 H3 fun y H4 => ∃ acc, H4 D = some (.lst acc) ∧ acc.length < sizeLine ∧ Nx (upd H4 D (.lst (acc ++ [y]))) else Nx H3) := by
  refine lc_grow w (fun i v _ => v = y i) (fun _ _ _ _ _ h => h) nD few hG (fun i x H R hi s _ hy r => hs i x H R hi s hy fun H' s' => r _ H' s' rfl) (fun H vs s e l h => hd H s ?_) hw
  have e2 : vs = (List.range n).map y := by
    refine List.ext_getElem? fun i => ?_
    by_cases hi : i < n
    · have hg : vs[i]? = some (vs[i]'(by omega)) := List.getElem?_eq_getElem _
      rw [hg, h i _ hg]
      simp [hi]
    · rw [List.getElem?_eq_none (by omega), List.getElem?_eq_none (by simp; omega)]
  rw [e, e2]
/-- [e for x, y in zip(one, other)]: x in slot i, y in slot j -/
theorem lc_zip {K : PySem.W.Frag} {k1 k2 : Bool} {a b : Addr} {xs ys : List V} {n : Nat} (h1 : xs.length = n) (h2 : ys.length = n) {te : TE} {i j : Nat} {σ : L2.St} {Hb : Hp} {D : Addr} {Qd : Hp → Prop} (z : Nat → V) (nD : Hb D = none) (few : n ≤ 20000)
    (hx : SqB K Hb k1 a xs) (hy : SqB K Hb k2 b ys)
    (hs : ∀ m x y H (R : V → Hp → Prop), m < n → Same Hb H → xs[m]? = some x → ys[m]? = some y → R (z m) H → te (((wipe σ [i, j]).set i (some x)).set j (some y)) H R)
    (hd : ∀ H, Same Hb H → H D = some (.lst ((List.range n).map z)) → Qd H) (hw : ∀ x y : V, wipe (((wipe σ [i, j]).set i (some x)).set j (some y)) [i, j] = wipe σ [i, j] := by intro _ _; rfl) :
    ∃ W : Nat → Nat → Hp → Prop, (∃ m, W 0 m (upd Hb D (.lst []))) ∧ ∀ m1 m H, W m1 m H →
      ((ItB K k1 k2 a b).stop m1 H ∧ Qd H) ∨ ((ItB K k1 k2 a b).go m1 H ∧ ∃ Nx : Hp → Prop, (∀ H', Nx H' → ∃ m', m' < m ∧ W (m1 + 1) m' H') ∧ ∀ x H', (ItB K k1 k2 a b).yld m1 H x H' → gTup K 2 (gCons (gName i) (gCons (gName j) gNil)) x (wipe σ [i, j]) H' fun σ2 H2 => wipe σ2 [i, j] = wipe σ [i, j] ∧ tYes σ2 H2 fun b H3 =>
        if b = true then te σ2 H3 fun y H4 => ∃ acc, H4 D = some (.lst acc) ∧ acc.length < sizeLine ∧ Nx (upd H4 D (.lst (acc ++ [y]))) else Nx H3) := by
  refine lc_it (wk_zb h1 h2) (fun m H => Same Hb H ∧ H D = some (.lst ((List.range m).map z))) ⟨same_new nD (fun _ _ e => e), upd_same⟩ (fun m H _ p => ⟨hx.same p.1, hy.same p.1⟩) (fun m v H H' hm p hv => ?_) fun H p => hd H p.1 p.2
  obtain ⟨t, x, y, rfl, nt, rfl, ex, ey⟩ := hv
  obtain ⟨p, hD⟩ := p
  refine ⟨t, [x, y], rfl, .inl (.inl upd_same), rfl, x, [y], rfl, y, [], rfl, rfl, hw x y, ?_⟩
  unfold tYes
  dsimp only
  rw [if_pos rfl]
  have tD : D ≠ t := ne_of_none hD nt
  have p2 : Same Hb (upd H t (.tup [x, y])) := fun c u e => by
    rw [upd_ne (ne_of_none (p c u e) nt)]
    exact p c u e
  refine hs m x y _ _ hm p2 ex ey ⟨_, by rw [upd_ne tD]; exact hD, ?_, same_new nD p2, ?_⟩
  · rw [List.length_map, List.length_range, sizeLine_eq]
    omega
  · rw [upd_same, List.range_succ, List.map_append]
    rfl
end
/-! ### a walk over a list or a tuple -/
def ItS (K : PySem.W.Frag) : Bool → Addr → It
  | false, a => Itl K a
  | true, a => Itt K a
def iSq (K : PySem.W.Frag) (tl : TE) : TI := fun σ H R => tl σ H fun x H1 => ∃ k a, x = .ref a ∧ (∃ xs, SqB K H1 k a xs) ∧ R (ItS K k a) H1
theorem pi_sq {X : Cx} {tg l : Expr} {tl : TE} (hl : PE X l tl) : PI X tg l (iSq X.K tl) := by
  refine ⟨fun pins s σ H R I h => ?_⟩
  refine thn (hl.run pins s σ H _ I h) fun v s1 ⟨x, H1, I1, r1, q1⟩ => ?_
  obtain ⟨k, a, e, ⟨xs, hq⟩, q⟩ := q1
  subst e
  cases r1
  cases k with
  | false =>
    obtain ⟨its, rv, p, hz⟩ := I1.list hq
    refine wpAny_pyIter_list p.isList ?_
    refine ⟨s1.heap.objs.size, [s1.heap.objs.size], _, _, H1, rfl, I1.kept (t' := s1.toks) fun b o e => Heap.get?_push_of_some _ e, turn_list a _, ⟨_, Heap.get?_push_size _ rfl, rfl, rfl⟩, fun b hb => ?_, q⟩
    have e : b = s1.heap.objs.size := by simpa using hb
    subst e
    exact I1.fpOk (Nat.le_refl _) (I1.hok.fresh (Nat.le_refl _))
  | true =>
    obtain ⟨its, rv, p, hz⟩ := I1.tuple hq
    refine wpAny_pyIter_tuple (show s1.heap.IsTuple a its.toArray from p) ?_
    refine ⟨s1.heap.objs.size, [s1.heap.objs.size], _, _, H1, rfl, I1.kept (t' := s1.toks) fun b o e => Heap.get?_push_of_some _ e, turn_tuple a _, ⟨_, Heap.get?_push_size _ rfl, rfl, rfl⟩, fun b hb => ?_, q⟩
    have e : b = s1.heap.objs.size := by simpa using hb
    subst e
    exact I1.fpOk (Nat.le_refl _) (I1.hok.fresh (Nat.le_refl _))
theorem walk_sq {K : PySem.W.Frag} {k : Bool} {a : Addr} {xs : List V} : Walk (ItS K k a) xs.length (fun H => SqB K H k a xs) (YAt xs) := by
  cases k with
  | false => exact walk_list
  | true => exact walk_tup
end Ver

namespace K19
open PySem PySem.Spec PyProof.Rows L2 Ver Num SX
/-! ### rows and tables modulo a prime -/
/-- the sum of the products -/
def dotI (xs ys : List Int) : Int := (List.zipWith (· * ·) xs ys).sum
/-- numbers of a field modulo p -/
def InP (p : Int) (xs : List Int) : Prop := ∀ x ∈ xs, 0 ≤ x ∧ x < p
abbrev nums (xs : List Int) : List V := xs.map V.int
section
variable {P : Program} {w : World} {K : PySem.W.Frag} {mg : Str → Option Value} {base : Heap}
def spRatio (K : PySem.W.Frag) : Sp := fun vs H Q _ => ∃ (f : Addr) (p t : Int), vs = [.ref f, .int t, .int 1] ∧ FieldC K H f (.md p) ∧ 0 < p ∧ Q (.int (t % p)) H
theorem ok_ratio (T : Tx K mg) : FnG P w K mg base CX0 1 (He.ma K (He.ga K "Field") "ratio") (spRatio K) := by
  refine mk_Field_ratio T.d (fun vs H Q E h => ?_) (fun cdv A outer s H vs Q E hg hr h => ?_)
  · obtain ⟨f, p, t, rfl, _⟩ := h
    rfl
  · obtain ⟨f, p, t, rfl, F, p0, q⟩ := h
    refine ⟨_, pss_cons (ps_if (pt_cmp (pc_isN (pe_fld (pv 0) rfl))) pss_never pss_nil)
      (pss_cons (ps_if (pt_cmpR op_eq (pv 2) pe_int (nomark _)) (pss_one (ps_ret (pe_op op_mod (pv 1) (pe_fld (pv 0) rfl)))) pss_nil)
      pss_never), ?_⟩
    refine rd_prime rfl F ⟨_, rfl, ifF rfl ⟨_, rfl, rfl, _, rfl, ?_⟩⟩
    rw [iEq]
    exact ifT (decide_eq_true rfl) ⟨_, rfl, rd_prime rfl F ⟨_, _, rfl, rfl, p0, q⟩⟩
def spCommon (K : PySem.W.Frag) : Sp := fun vs H Q _ => ∃ (f : Addr) (p : Int) (x : V), vs = [.ref f, x] ∧ FieldC K H f (.md p) ∧ ∀ (t : Addr) (H' : Hp), Same H H' → H' t = some (.tup [x, .int 1]) → Q (.ref t) H'
theorem ok_common (T : Tx K mg) : FnG P w K mg base CX0 1 (He.ma K (He.ga K "Field") "common") (spCommon K) := by
  refine mk_Field_common T.d (fun vs H Q E h => ?_) (fun cdv A outer s H vs Q E hg hr h => ?_)
  · obtain ⟨f, p, x, rfl, _⟩ := h
    rfl
  · obtain ⟨f, p, x, rfl, F, q⟩ := h
    refine ⟨_, pss_cons (ps_if (pt_cmp (pc_notN (pe_fld (pv 0) rfl))) (pss_one (ps_ret (pe_tup (pa_cons (pv 1) (pa_cons pe_int pa_nil))))) pss_nil) pss_never, ?_⟩
    refine rd_prime rfl F ⟨_, rfl, ifT rfl ?_⟩
    exact ⟨_, rfl, by show 2 ≤ sizeLine; decide, fun t nt => q t _ (same_up nt) upd_same⟩
theorem inP_at {p : Int} {xs : List Int} (h : InP p xs) {m : Nat} {x : V} (e : (nums xs)[m]? = some x) : ∃ i, xs[m]? = some i ∧ x = .int i ∧ 0 ≤ i ∧ i < p := by
  rw [List.getElem?_map] at e
  cases hx : xs[m]? with
  | none => rw [hx] at e; cases e
  | some i =>
    rw [hx] at e
    cases e
    have := h i (List.mem_of_getElem? hx)
    exact ⟨i, rfl, rfl, this.1, this.2⟩
theorem zw_at {xs ys : List Int} {m : Nat} {i j : Int} (h1 : xs[m]? = some i) (h2 : ys[m]? = some j) : (List.zipWith (· * ·) xs ys).getD m 0 = i * j := by
  rw [List.getD_eq_getElem?_getD, List.getElem?_zipWith, h1, h2]
  rfl
theorem zw_list {xs ys : List Int} {n : Nat} (h1 : xs.length = n) (h2 : ys.length = n) : (List.range n).map (fun m => V.int ((List.zipWith (· * ·) xs ys).getD m 0)) = nums (List.zipWith (· * ·) xs ys) := by
  refine List.ext_getElem? fun m => ?_
  rw [List.getElem?_map, List.getElem?_map]
  by_cases h : m < n
  · have hl : m < (List.zipWith (· * ·) xs ys).length := by rw [List.length_zipWith]; omega
    rw [List.getElem?_range h, Option.map_some, List.getD_eq_getElem?_getD, List.getElem?_eq_getElem hl]
    rfl
  · rw [List.getElem?_eq_none (by simp; omega), List.getElem?_eq_none (by rw [List.length_zipWith]; omega)]
    rfl
def spWD (K : PySem.W.Frag) : Sp := fun vs H Q _ => ∃ (f a b : Addr) (k1 k2 : Bool) (p : Int) (xs ys : List Int) (n : Nat), vs = [.ref f, .ref a, .ref b] ∧ FieldC K H f (.md p) ∧ 0 < p ∧ p ≤ 1000000000 ∧
  SqB K H k1 a (nums xs) ∧ SqB K H k2 b (nums ys) ∧ xs.length = n ∧ ys.length = n ∧ n ≤ 20000 ∧ InP p xs ∧ InP p ys ∧ ∀ H', Same H H' → Q (.int (dotI xs ys % p)) H'
theorem ok_wd (T : Tx K mg) : FnG P w K mg base CX0 2 (He.ga K "whole_dot") (spWD K) := by
  refine mk_whole_dot T.d (fun vs H Q E h => ?_) (fun cdv A outer s H vs Q E hg hr h => ?_)
  · obtain ⟨f, a, b, k1, k2, p, xs, ys, n, rfl, _⟩ := h
    rfl
  · obtain ⟨f, a, b, k1, k2, p, xs, ys, n, rfl, F, p0, p9, hx, hy, lx, ly, few, ix, iy, q⟩ := h
    have nd := sc_whole_dot.nd
    refine ⟨_, pss_one (ps_ret (pe_methG (pv 0) (kp_Field_ratio T.d) (ok_ratio T) hr hg pass0 (pa_cons (pe_callB (cr_sum rfl) (by rfl) (T.z "sum" (by decide +kernel)) (by decide +kernel) (pa_cons
        (pe_lc (own := [("x", 3), ("y", 4)]) (g := gTup K 2 (gCons (gName 3) (gCons (gName 4) gNil))) (tt := tYes) rfl nd (pi_zipB (by rfl) (T.z "zip" (by decide +kernel)) (pa_cons (pv 1) (pa_cons (pv 2) pa_nil))) (blkOk_by (N := n_whole_dot) (sc := defScope s_whole_dot) (by decide +kernel))
          (fun _ _ _ _ _ => pg_tup rfl (pgs_cons (pg_name (i := 3) nd rfl (Or.inl rfl)) (pgs_cons (pg_name (i := 4) nd rfl (Or.inl rfl)) pgs_nil))) (fun _ _ _ _ _ => pts_nil)
          (fun _ _ _ _ _ => pe_op op_mul (pv 3) (pv 4))) pa_nil)) (pa_cons pe_int pa_nil)))), ?_⟩
    refine go_methG rfl F (by decide +kernel) (by decide +kernel) ⟨_, rfl, _, rfl, k1, k2, a, b, _, _, rfl, hx, hy, fun D nD => ?_⟩
    refine lc_zip (n := n) (by simp [lx]) (by simp [ly]) (fun m => V.int ((List.zipWith (· * ·) xs ys).getD m 0)) nD few hx hy (fun m x y H2 R hm sm ex ey r => ?_) fun H2 s2 hD => ?_
    · obtain ⟨i, e1, rfl, i0, i1⟩ := inP_at ix ex
      obtain ⟨j, e2, rfl, j0, j1⟩ := inP_at iy ey
      rw [zw_at e1 e2] at r
      exact ⟨_, rfl, _, rfl, _, _, rfl, rfl, .inl ⟨by show -(2 ^ 64) < i; omega, by show i < 2 ^ 64; omega⟩, r⟩
    · rw [zw_list lx ly] at hD
      exact ⟨D, _, rfl, .of hD, f, p, _, rfl, F.same s2, p0, q H2 s2⟩
end
end K19

namespace K19
open PySem PySem.Spec PyProof.Rows L2 Ver Num SX
/-- a whole row of numbers, bottom 1 -/
def RowA (K : PySem.W.Frag) (H : Hp) (r : Addr) (xs : List Int) : Prop := ∃ a k, SqT K H r [.ref a, .int 1] ∧ SqB K H k a (nums xs)
/-- a step, bottom 1: its columns -/
def StepA (K : PySem.W.Frag) (H : Hp) (s : Addr) (cols : List (List Int)) : Prop := ∃ (c : Addr) (ds : List Addr), SqT K H s [.ref c, .int 1] ∧ SqL K H c (ds.map V.ref) ∧ ds.length = cols.length ∧ ∀ i d, ds[i]? = some d → SqL K H d (nums (cols.getD i []))
theorem sqt_same {K : PySem.W.Frag} {H H' : Hp} {a : Addr} {xs : List V} (s : Same H H') (h : SqT K H a xs) : SqT K H' a xs := SqB.same (k := true) s h
theorem RowA.same {K : PySem.W.Frag} {H H' : Hp} {r : Addr} {xs : List Int} (h : RowA K H r xs) (s : Same H H') : RowA K H' r xs := by
  obtain ⟨a, k, h1, h2⟩ := h
  exact ⟨a, k, sqt_same s h1, h2.same s⟩
theorem StepA.same {K : PySem.W.Frag} {H H' : Hp} {r : Addr} {cols : List (List Int)} (h : StepA K H r cols) (s : Same H H') : StepA K H' r cols := by
  obtain ⟨c, ds, h1, h2, h3, h4⟩ := h
  exact ⟨c, ds, sqt_same s h1, s.seq h2, h3, fun i d e => s.seq (h4 i d e)⟩
theorem ref_at {ds : List Addr} {i : Nat} {x : V} (e : (ds.map V.ref)[i]? = some x) : ∃ d, ds[i]? = some d ∧ x = .ref d := by
  rw [List.getElem?_map] at e
  cases hx : ds[i]? with
  | none => rw [hx] at e; cases e
  | some d =>
    rw [hx] at e
    cases e
    exact ⟨d, rfl, rfl⟩
theorem map_range {α β : Type} {xs : List α} {n : Nat} (d : α) (h : xs.length = n) (g : α → β) : (List.range n).map (fun i => g (xs.getD i d)) = xs.map g := by
  subst h
  refine List.ext_getElem? fun m => ?_
  rw [List.getElem?_map, List.getElem?_map]
  by_cases h : m < xs.length
  · rw [List.getElem?_range h, Option.map_some, List.getD_eq_getElem?_getD, List.getElem?_eq_getElem h]
    rfl
  · rw [List.getElem?_eq_none (by simp; omega), List.getElem?_eq_none (by omega)]
    rfl
/-- what a step makes of a row -/
def goI (p : Int) (cols : List (List Int)) (xs : List Int) : List Int := cols.map fun c => dotI xs c % p
theorem inP_go {p : Int} (h : 0 < p) (cols : List (List Int)) (xs : List Int) : InP p (goI p cols xs) := fun x hx => by
  obtain ⟨c, _, rfl⟩ := List.mem_map.mp hx
  exact ⟨Int.emod_nonneg _ (by omega), Int.emod_lt_of_pos _ h⟩
def teCol (K : PySem.W.Frag) : TE := fun σ H Q => tCons (tVar 0) (tCons (tVar 3) (tCons (tVar 7) tNil)) σ H fun vs H1 => spWD K vs H1 Q E0
section
variable {P : Program} {w : World} {K : PySem.W.Frag} {mg : Str → Option Value} {base : Heap}
def spRA (K : PySem.W.Frag) : Sp := fun vs H Q _ => ∃ (f r s : Addr) (p : Int) (xs : List Int) (cols : List (List Int)), vs = [.ref f, .ref r, .ref s] ∧ FieldC K H f (.md p) ∧ 0 < p ∧ p ≤ 1000000000 ∧
  RowA K H r xs ∧ StepA K H s cols ∧ InP p xs ∧ (∀ c ∈ cols, c.length = xs.length ∧ InP p c) ∧ cols.length ≤ 24 ∧ xs.length ≤ 24 ∧ ∀ t H', Same H H' → RowA K H' t (goI p cols xs) → Q (.ref t) H'
theorem ok_ra (T : Tx K mg) : FnG P w K mg base CX0 3 (He.ga K "row_after") (spRA K) := by
  refine mk_row_after T.d (fun vs H Q E h => ?_) (fun cdv A outer s H vs Q E hg hr h => ?_)
  · obtain ⟨f, r, s, p, xs, cols, rfl, _⟩ := h
    rfl
  · obtain ⟨f, r, s', p, xs, cols, rfl, F, p0, p9, ⟨a, k, hr1, ha⟩, ⟨c, ds, hs1, hc, ld, hd⟩, ix, ic, l24, x24, q⟩ := h
    have nd := sc_row_after.nd
    refine ⟨_, pss_cons (ps_asg (pv 1) (pg_tup rfl (pgs_cons (pg_name (i := 3) nd rfl (.inr rfl)) (pgs_cons (pg_name (i := 4) nd rfl (.inl rfl)) pgs_nil))))
      (pss_cons (ps_asg (pv 2) (pg_tup rfl (pgs_cons (pg_name (i := 5) nd rfl (.inl rfl)) (pgs_cons (pg_name (i := 6) nd rfl (.inl rfl)) pgs_nil))))
      (pss_one (ps_ret (pe_tup (pa_cons
        (pe_lc (own := [("column", 7)]) (g := gName 7) (tt := tYes) (te := teCol K) rfl nd (pi_list (pv 5)) (blkOk_by (N := n_row_after) (sc := defScope s_row_after) (by decide +kernel))
          (fun _ _ _ _ _ => pg_name (i := 7) nd rfl (Or.inl rfl)) (fun _ _ _ _ _ => pts_nil)
          (fun _ _ _ _ _ => pe_callG (ok_wd T) hr hg (by rfl) (T.g "whole_dot" (by decide +kernel)) (kp_whole_dot T.d) pass0 (pa_cons (pv 0) (pa_cons (pv 3) (pa_cons (pv 7) pa_nil)))))
        (pa_cons (pe_op op_mul (pv 4) (pv 6)) pa_nil)))))), ?_⟩
    refine ⟨_, rfl, r, _, rfl, hr1, rfl, _, _, rfl, _, _, rfl, rfl, ?_⟩
    refine ⟨_, rfl, s', _, rfl, hs1, rfl, _, _, rfl, _, _, rfl, rfl, ?_⟩
    refine ⟨_, rfl, c, rfl, ⟨_, hc⟩, fun D nD => ?_⟩
    refine lc_oneS (te := teCol K) (j := 7) walk_list (fun i => V.int (dotI xs (cols.getD i []) % p)) nD (by simp; omega) (fun H s => s.seq hc) (fun i x H2 R hi s2 hx r => ?_) fun H2 s2 hD => ?_
    · obtain ⟨d, e, rfl⟩ := ref_at hx
      have hl : i < cols.length := by simp at hi; omega
      have hm : cols.getD i [] ∈ cols := by
        rw [List.getD_eq_getElem?_getD, List.getElem?_eq_getElem hl]
        exact List.getElem_mem _
      obtain ⟨lc, icc⟩ := ic _ hm
      exact ⟨_, rfl, _, rfl, _, rfl, f, a, d, k, false, p, xs, _, xs.length, rfl, F.same s2, p0, p9, ha.same s2, s2.seq (hd i d e), rfl, lc, by omega, ix, icc, fun H' s' => r H' s'⟩
    · refine ⟨_, rfl, _, rfl, _, _, rfl, rfl, .inl ⟨by decide, by decide⟩, by show 2 ≤ sizeLine; decide, fun t nt => q t _ (s2.trans (same_up nt)) ⟨D, false, .inl (.inl upd_same), ?_⟩⟩
      rw [show (ds.map V.ref).length = cols.length by simp [ld]] at hD
      rw [map_range [] rfl (fun c => V.int (dotI xs c % p))] at hD
      have : nums (goI p cols xs) = cols.map fun c => V.int (dotI xs c % p) := by simp [goI, nums, Function.comp_def]
      rw [this]
      exact SqL.of ((same_up nt) _ _ hD)
def spRD (K : PySem.W.Frag) : Sp := fun vs H Q _ => ∃ (f r s : Addr) (p : Int) (xs ys : List Int), vs = [.ref f, .ref r, .ref s] ∧ FieldC K H f (.md p) ∧ 0 < p ∧ p ≤ 1000000000 ∧
  RowA K H r xs ∧ RowA K H s ys ∧ InP p xs ∧ InP p ys ∧ xs.length = ys.length ∧ ys.length ≤ 24 ∧ ∀ H', Same H H' → Q (.int (dotI xs ys % p)) H'
theorem ok_rdot (T : Tx K mg) : FnG P w K mg base CX0 3 (He.ga K "row_dot") (spRD K) := by
  refine mk_row_dot T.d (fun vs H Q E h => ?_) (fun cdv A outer s H vs Q E hg hr h => ?_)
  · obtain ⟨f, r, s, p, xs, ys, rfl, _⟩ := h
    rfl
  · obtain ⟨f, r, s', p, xs, ys, rfl, F, p0, p9, ⟨a, k, hr1, ha⟩, ⟨b, k2, hs1, hb⟩, ix, iy, lxy, l24, q⟩ := h
    have nd := sc_row_dot.nd
    refine ⟨_, pss_cons (ps_asg (pv 1) (pg_tup rfl (pgs_cons (pg_name (i := 3) nd rfl (.inl rfl)) (pgs_cons (pg_name (i := 4) nd rfl (.inl rfl)) pgs_nil))))
      (pss_cons (ps_asg (pv 2) (pg_tup rfl (pgs_cons (pg_name (i := 5) nd rfl (.inl rfl)) (pgs_cons (pg_name (i := 6) nd rfl (.inl rfl)) pgs_nil))))
      (pss_one (ps_ret (pe_methG (pv 0) (kp_Field_ratio T.d) (ok_ratio T) (hr.mono (by decide)) hg pass0 (pa_cons
        (pe_callG (ok_wd T) hr hg (by rfl) (T.g "whole_dot" (by decide +kernel)) (kp_whole_dot T.d) pass0 (pa_cons (pv 0) (pa_cons (pv 3) (pa_cons (pv 5) pa_nil))))
        (pa_cons (pe_op op_mul (pv 4) (pv 6)) pa_nil)))))), ?_⟩
    refine ⟨_, rfl, r, _, rfl, hr1, rfl, _, _, rfl, _, _, rfl, rfl, ?_⟩
    refine ⟨_, rfl, s', _, rfl, hs1, rfl, _, _, rfl, _, _, rfl, rfl, ?_⟩
    refine go_methG rfl F (by decide +kernel) (by decide +kernel) ⟨_, rfl, _, rfl, _, rfl, f, a, b, k, k2, p, xs, ys, _, rfl, F, p0, p9, ha, hb, rfl, lxy.symm, by omega, ix, iy, fun H' s' => ?_⟩
    refine ⟨_, rfl, _, rfl, _, _, rfl, rfl, .inl ⟨by decide, by decide⟩, f, p, _, rfl, F.same s', p0, ?_⟩
    rw [Int.emod_emod]
    exact q H' s'
def spNO (K : PySem.W.Frag) : Sp := fun vs H Q _ => ∃ (f r : Addr) (p : Int) (xs : List Int), vs = [.ref f, .ref r] ∧ FieldC K H f (.md p) ∧ 0 < p ∧ RowA K H r xs ∧ InP p xs ∧ xs.length ≤ 24 ∧ ∀ l H', Same H H' → H' l = some (.lst (nums xs)) → Q (.ref l) H'
theorem ok_no (T : Tx K mg) : FnG P w K mg base CX0 2 (He.ga K "numbers_of") (spNO K) := by
  refine mk_numbers_of T.d (fun vs H Q E h => ?_) (fun cdv A outer s H vs Q E hg hr h => ?_)
  · obtain ⟨f, r, p, xs, rfl, _⟩ := h
    rfl
  · obtain ⟨f, r, p, xs, rfl, F, p0, ⟨a, k, hr1, ha⟩, ix, x24, q⟩ := h
    have nd := sc_numbers_of.nd
    refine ⟨_, pss_cons (ps_asg (pv 1) (pg_tup rfl (pgs_cons (pg_name (i := 2) nd rfl (.inl rfl)) (pgs_cons (pg_name (i := 3) nd rfl (.inr rfl)) pgs_nil))))
      (pss_one (ps_ret (pe_lc (own := [("top", 4)]) (g := gName 4) (tt := tYes) (te := tMethG K "ratio" (He.ma K (He.ga K "Field") "ratio") (spRatio K) E0 (tVar 0) (tCons (tVar 4) (tCons (tVar 3) tNil))) rfl nd (pi_sq (pv 2)) (blkOk_by (N := n_numbers_of) (sc := defScope s_numbers_of) (by decide +kernel))
          (fun _ _ _ _ _ => pg_name (i := 4) nd rfl (Or.inl rfl)) (fun _ _ _ _ _ => pts_nil)
          (fun _ _ _ _ _ => pe_methG (pv 0) (kp_Field_ratio T.d) (ok_ratio T) hr hg pass0 (pa_cons (pv 4) (pa_cons (pv 3) pa_nil)))))), ?_⟩
    refine ⟨_, rfl, r, _, rfl, hr1, rfl, _, _, rfl, _, _, rfl, rfl, ?_⟩
    refine ⟨_, rfl, k, a, rfl, ⟨_, ha⟩, fun D nD => ?_⟩
    refine lc_oneS walk_sq (fun i => V.int (xs.getD i 0)) nD (by simp; omega) (fun H s => ha.same s) (fun i x H2 R hi s2 hx r => ?_) fun H2 s2 hD => ?_
    · obtain ⟨j, e, rfl, j0, j1⟩ := inP_at ix hx
      refine go_methG rfl (F.same s2) (by decide +kernel) (by decide +kernel) ⟨_, rfl, _, rfl, f, p, j, rfl, F.same s2, p0, ?_⟩
      rw [Int.emod_eq_of_lt j0 j1]
      have : xs.getD i 0 = j := by rw [List.getD_eq_getElem?_getD, e]; rfl
      rw [← this]
      exact r H2 (Same.refl H2)
    · rw [show (nums xs).length = xs.length by simp, map_range 0 rfl V.int] at hD
      exact q D H2 s2 hD
end
end K19

/-! [x for row in table for x in row]: a tuple of tuples. -/
namespace Ver
open PySem PySem.Spec PyProof.Rows L2
theorem take_next {α : Type} {l : List α} {k : Nat} {x : α} (h : l[k]? = some x) : l.take (k + 1) = l.take k ++ [x] := by
  have hk := (List.getElem?_eq_some_iff.mp h).1
  rw [List.take_add_one, h]
  rfl
theorem flat_take {α : Type} {rows : List (List α)} {k : Nat} (h : k < rows.length) : (rows.take (k + 1)).flatten = (rows.take k).flatten ++ rows.getD k [] := by
  rw [List.take_add_one, List.getElem?_eq_getElem h, List.flatten_append, List.getD_eq_getElem?_getD, List.getElem?_eq_getElem h]
  simp
theorem len_take {α : Type} {rows : List (List α)} {k : Nat} (h : k < rows.length) (j : Nat) : ((rows.take k).flatten ++ (rows.getD k []).take j).length ≤ rows.flatten.length := by
  have e : rows.flatten = (rows.take (k + 1)).flatten ++ (rows.drop (k + 1)).flatten := by
    rw [← List.flatten_append, List.take_append_drop]
  rw [e, flat_take h, List.length_append, List.length_append, List.length_append, List.length_take]
  omega
theorem lc2_flat {K : PySem.W.Frag} {a : Addr} {ts : List Addr} {rows : List (List V)} {σ : L2.St} {Hb : Hp} {D : Addr} {Qd : Hp → Prop} {i j : Nat} (nD : Hb D = none) (hx : SqT K Hb a (ts.map V.ref)) (hl : ts.length = rows.length)
    (hr : ∀ k d, ts[k]? = some d → SqT K Hb d (rows.getD k [])) (few : rows.flatten.length ≤ 20000) (hd : ∀ H, Same Hb H → H D = some (.lst rows.flatten) → Qd H)
    (hw1 : ∀ x : V, wipe ((wipe σ [i, j]).set i (some x)) [i, j] = wipe σ [i, j] := by intro _; rfl) (hr1 : ∀ x : V, ((wipe σ [i, j]).set i (some x))[i]? = some (some x) := by intro _; rfl)
    (hw2 : ∀ x y : V, wipe ((wipe ((wipe σ [i, j]).set i (some x)) [j]).set j (some y)) [j] = wipe ((wipe σ [i, j]).set i (some x)) [j] := by intro _ _; rfl)
    (hr2 : ∀ x y : V, ((wipe ((wipe σ [i, j]).set i (some x)) [j]).set j (some y))[j]? = some (some y) := by intro _ _; rfl) :
    ∃ W : Nat → Nat → Hp → Prop, (∃ m, W 0 m (upd Hb D (.lst []))) ∧ ∀ k m H, W k m H →
      ((Itt K a).stop k H ∧ Qd H) ∨ ((Itt K a).go k H ∧ ∃ Nx : Hp → Prop, (∀ H', Nx H' → ∃ m', m' < m ∧ W (k + 1) m' H') ∧ ∀ x H', (Itt K a).yld k H x H' → gName i x (wipe σ [i, j]) H' fun σ2 H2 => wipe σ2 [i, j] = wipe σ [i, j] ∧ tYes σ2 H2 fun b H3 =>
        if b = true then iTup K (tVar i) σ2 H3 fun J1 H4 => ∃ W1 : Nat → Nat → Hp → Prop, (∃ m, W1 0 m H4) ∧ ∀ j1 k1 H, W1 j1 k1 H →
          (J1.stop j1 H ∧ Nx H) ∨ (J1.go j1 H ∧ ∃ Nx1 : Hp → Prop, (∀ H', Nx1 H' → ∃ k', k' < k1 ∧ W1 (j1 + 1) k' H') ∧ ∀ x H', J1.yld j1 H x H' → gName j x (wipe σ2 [j]) H' fun σ3 H5 => wipe σ3 [j] = wipe σ2 [j] ∧ tYes σ3 H5 fun b H6 =>
            if b = true then tVar j σ3 H6 fun y H7 => ∃ acc, H7 D = some (.lst acc) ∧ acc.length < sizeLine ∧ Nx1 (upd H7 D (.lst (acc ++ [y]))) else Nx1 H6)
        else Nx H3) := by
  have SS : ∀ {H a xs}, Same Hb H → SqT K Hb a xs → SqT K H a xs := fun s h => SqB.same (k := true) s h
  refine ⟨fun k m H => m = rows.length - k ∧ k ≤ rows.length ∧ Same Hb H ∧ H D = some (.lst (rows.take k).flatten), ⟨rows.length, by simp, Nat.zero_le _, same_new nD (fun _ _ e => e), upd_same⟩, ?_⟩
  rintro k m H ⟨rfl, hk, sm, hD⟩
  by_cases hlt : k < rows.length
  · have hkt : k < ts.length := by omega
    have et : (ts.map V.ref)[k]? = some (V.ref (ts[k]'hkt)) := by simp [hkt]
    have hrow := hr k (ts[k]'hkt) (List.getElem?_eq_getElem hkt)
    generalize hro : rows.getD k [] = row at hrow
    refine .inr ⟨⟨_, _, SS sm hx, et⟩, fun H' => Same Hb H' ∧ H' D = some (.lst (rows.take (k + 1)).flatten), fun H' p => ⟨rows.length - (k + 1), by omega, rfl, hlt, p⟩, fun x H' y => ?_⟩
    obtain ⟨rfl, y⟩ := y
    have ex := y _ (SS sm hx)
    rw [et] at ex
    cases ex
    refine ⟨hw1 _, ?_⟩
    unfold tYes
    dsimp only
    rw [if_pos rfl]
    refine ⟨_, hr1 _, ts[k]'hkt, rfl, ⟨_, SS sm hrow⟩, ?_⟩
    refine ⟨fun j1 k1 H => k1 = row.length - j1 ∧ j1 ≤ row.length ∧ Same Hb H ∧ H D = some (.lst ((rows.take k).flatten ++ row.take j1)), ⟨row.length, by simp, Nat.zero_le _, sm, by rw [List.take_zero, List.append_nil]; exact hD⟩, ?_⟩
    rintro j1 k1 H1 ⟨rfl, hj, s1, h1⟩
    by_cases hjl : j1 < row.length
    · refine .inr ⟨⟨_, _, SS s1 hrow, List.getElem?_eq_getElem hjl⟩, fun H' => Same Hb H' ∧ H' D = some (.lst ((rows.take k).flatten ++ row.take (j1 + 1))), fun H' p => ⟨row.length - (j1 + 1), by omega, rfl, hjl, p⟩, fun x H' y => ?_⟩
      obtain ⟨rfl, y⟩ := y
      have ex := y _ (SS s1 hrow)
      refine ⟨hw2 _ _, ⟨x, hr2 _ _, _, h1, ?_, same_new nD s1, ?_⟩⟩
      · have := len_take hlt j1
        rw [hro] at this
        rw [sizeLine_eq]
        omega
      · rw [upd_same, take_next ex, List.append_assoc]
    · have e : j1 = row.length := by omega
      subst e
      refine .inl ⟨⟨_, SS s1 hrow, Nat.le_refl _⟩, s1, ?_⟩
      rw [flat_take hlt, hro, h1, List.take_length]
  · have e : k = rows.length := by omega
    subst e
    refine .inl ⟨⟨_, SS sm hx, by simp [hl]⟩, hd H sm ?_⟩
    rw [hD, List.take_length]
/-- {k: v for x in ..}, new keys; of the i-th value Z i holds -/
theorem dc_grow {J : It} {n : Nat} {G : Hp → Prop} {Y : Nat → V → Prop} (w : Walk J n G (fun i H x H' => H' = H ∧ Y i x)) {tk tv : TE} {j : Nat} {σ : L2.St} {Hb : Hp} {D : Addr} {Qd : Hp → Prop} (kf : Nat → Key) (Z : Nat → V → Hp → Prop)
    (zs : ∀ i v H H', SameX D H H' → Z i v H → Z i v H') (inj : ∀ a b, a < n → b < n → kf a = kf b → a = b) (nD : Hb D = none) (few : n ≤ 20000) (hG : ∀ H, Same Hb H → G H)
    (hs : ∀ i x H (R : V → Hp → Prop), i < n → Same Hb H → Y i x → R (kV (kf i)) H → tk ((wipe σ [j]).set j (some x)) H R)
    (hv : ∀ i x H (R : V → Hp → Prop), i < n → Same Hb H → (∃ kvs, H D = some (.dK kvs)) → Y i x → (∀ v H', Same H H' → Z i v H' → R v H') → tv ((wipe σ [j]).set j (some x)) H R)
    (hd : ∀ H vs, Same Hb H → H D = some (.dK (List.zip ((List.range n).map kf) vs)) → vs.length = n → (∀ i v, vs[i]? = some v → Z i v H) → Qd H) (hw : ∀ x : V, wipe ((wipe σ [j]).set j (some x)) [j] = wipe σ [j] := by intro _; rfl) :
    ∃ W : Nat → Nat → Hp → Prop, (∃ m, W 0 m (upd Hb D (.dK []))) ∧ ∀ i m H, W i m H →
      (J.stop i H ∧ Qd H) ∨ (J.go i H ∧ ∃ Nx : Hp → Prop, (∀ H', Nx H' → ∃ m', m' < m ∧ W (i + 1) m' H') ∧ ∀ x H', J.yld i H x H' → gName j x (wipe σ [j]) H' fun σ2 H2 => wipe σ2 [j] = wipe σ [j] ∧ tYes σ2 H2 fun b H3 =>
        if b = true then tk σ2 H3 fun y H4 => tv σ2 H4 fun z H5 => ∃ kvs k, y = kV k ∧ H5 D = some (.dK kvs) ∧ kvs.length < sizeLine ∧ Nx (upd H5 D (.dK (putK kvs k z))) else Nx H3) := by
  refine ⟨fun i m H => m = n - i ∧ i ≤ n ∧ Same Hb H ∧ ∃ vs, H D = some (.dK (List.zip ((List.range i).map kf) vs)) ∧ vs.length = i ∧ ∀ i v, vs[i]? = some v → Z i v H, ⟨n, by simp, Nat.zero_le _, same_new nD (fun _ _ e => e), [], upd_same, rfl, fun i v h => by simp at h⟩, ?_⟩
  rintro i m H ⟨rfl, hi, p, vs, h1, h2, h3⟩
  by_cases hlt : i < n
  · refine .inr ⟨w.goes i H hlt (hG H p), fun H => Same Hb H ∧ ∃ vs, H D = some (.dK (List.zip ((List.range (i + 1)).map kf) vs)) ∧ vs.length = i + 1 ∧ ∀ i v, vs[i]? = some v → Z i v H, fun H' p' => ⟨n - (i + 1), by omega, rfl, hlt, p'⟩, fun x H' yy => ?_⟩
    obtain ⟨rfl, hy⟩ := w.yields i H x H' hlt (hG H p) yy
    refine ⟨hw x, ?_⟩
    unfold tYes
    dsimp only
    rw [if_pos rfl]
    refine hs i x _ _ hlt p hy (hv i x _ _ hlt p ⟨_, h1⟩ hy fun v H2 s2 hz => ⟨_, kf i, rfl, s2 _ _ h1, ?_, same_new nD (p.trans s2), vs ++ [v], ?_, ?_, fun k u hk => ?_⟩)
    · rw [List.length_zip, List.length_map, List.length_range, sizeLine_eq]
      omega
    · rw [upd_same, putK_new, List.range_succ, List.map_append, List.zip_append]
      · rfl
      · rw [List.length_map, List.length_range, h2]
      · refine valV_no fun z => ?_
        rw [List.map_fst_zip (by rw [List.length_map, List.length_range, h2]; exact Nat.le_refl _)] at z
        obtain ⟨m, hm, e⟩ := List.mem_map.mp z
        have hm := List.mem_range.mp hm
        exact absurd (inj m i (by omega) hlt e) (by omega)
    · rw [List.length_append, h2]
      rfl
    · by_cases hkl : k < vs.length
      · rw [List.getElem?_append_left hkl] at hk
        exact zs _ _ _ _ ((Same.toX s2).trans sameX_upd) (h3 k u hk)
      · have hk2 : k = vs.length := by
          have := (List.getElem?_eq_some_iff.mp hk).1
          rw [List.length_append] at this
          simp at this
          omega
        subst hk2
        rw [List.getElem?_append_right (by omega), Nat.sub_self] at hk
        cases hk
        rw [h2]
        exact zs _ _ _ _ sameX_upd hz
  · have e : i = n := by omega
    subst e
    exact .inl ⟨w.stops H (hG H p), hd H vs p h1 h2 h3⟩
end Ver

namespace K19
open PySem PySem.Spec PyProof.Rows L2 Ver Num SX
/-- a tuple of tuples of numbers -/
def TabA (K : PySem.W.Frag) (H : Hp) (t : Addr) (rows : List (List Int)) : Prop := ∃ ts : List Addr, SqT K H t (ts.map V.ref) ∧ ts.length = rows.length ∧ ∀ i d, ts[i]? = some d → SqT K H d (nums (rows.getD i []))
theorem TabA.same {K : PySem.W.Frag} {H H' : Hp} {t : Addr} {rows : List (List Int)} (h : TabA K H t rows) (s : Same H H') : TabA K H' t rows := by
  obtain ⟨ts, h1, h2, h3⟩ := h
  exact ⟨ts, sqt_same s h1, h2, fun i d e => sqt_same s (h3 i d e)⟩
theorem getD_map {α β : Type} (g : α → β) (xs : List α) (i : Nat) (d : α) : (xs.map g).getD i (g d) = g (xs.getD i d) := by
  rw [List.getD_eq_getElem?_getD, List.getD_eq_getElem?_getD, List.getElem?_map]
  cases xs[i]? <;> rfl
theorem col_nums (rows : List (List Int)) (j : Nat) : colOf (rows.map nums) j = nums (colOf rows j) := by
  unfold colOf
  rw [List.filterMap_map]
  unfold nums
  rw [List.map_filterMap]
  exact fm_congr fun r _ => by simp
theorem flat_nums (rows : List (List Int)) : (rows.map nums).flatten = nums rows.flatten := by
  unfold nums
  rw [List.map_flatten]
theorem flat_len {α : Type} {n : Nat} : ∀ {rows : List (List α)}, (∀ r ∈ rows, r.length = n) → rows.flatten.length = rows.length * n
  | [], _ => by simp
  | r :: rows, h => by
    rw [List.flatten_cons, List.length_append, flat_len fun r' h' => h r' (List.mem_cons_of_mem _ h'), h r List.mem_cons_self, List.length_cons, Nat.succ_mul]
    omega
/-- a square table -/
structure Sq (n : Nat) (rows : List (List Int)) : Prop where
  l : rows.length = n
  r : ∀ r ∈ rows, r.length = n
def colsOf (n : Nat) (rows : List (List Int)) : List (List Int) := (List.range n).map (colOf rows)
/-- a step just made -/
def StepC (H : Hp) (s : Addr) (cols : List (List Int)) : Prop := ∃ (c : Addr) (ds : List Addr), H s = some (.tup [.ref c, .int 1]) ∧ H c = some (.lst (ds.map V.ref)) ∧ ds.length = cols.length ∧ ∀ i d, ds[i]? = some d → H d = some (.lst (nums (cols.getD i [])))
theorem StepC.toA {K : PySem.W.Frag} {H : Hp} {s : Addr} {cols : List (List Int)} (h : StepC H s cols) : StepA K H s cols := by
  obtain ⟨c, ds, h1, h2, h3, h4⟩ := h
  exact ⟨c, ds, .inl (.inl h1), SqL.of h2, h3, fun i d e => SqL.of (h4 i d e)⟩
/-- .. its lists and tuples new since H0 -/
def StepF (H0 H : Hp) (s : Addr) (cols : List (List Int)) : Prop := ∃ (c : Addr) (ds : List Addr), Fr H0 H s (.tup [.ref c, .int 1]) ∧ Fr H0 H c (.lst (ds.map V.ref)) ∧ ds.length = cols.length ∧ ∀ i d, ds[i]? = some d → Fr H0 H d (.lst (nums (cols.getD i [])))
theorem StepF.toC {H0 H : Hp} {s : Addr} {cols : List (List Int)} (h : StepF H0 H s cols) : StepC H s cols := by
  obtain ⟨c, ds, h1, h2, h3, h4⟩ := h
  exact ⟨c, ds, h1.2, h2.2, h3, fun i d e => (h4 i d e).2⟩
theorem StepF.same {H0 H H' : Hp} {s : Addr} {cols : List (List Int)} (h : StepF H0 H s cols) (sm : Same H H') : StepF H0 H' s cols := by
  obtain ⟨c, ds, h1, h2, h3, h4⟩ := h
  exact ⟨c, ds, h1.same sm, h2.same sm, h3, fun i d e => (h4 i d e).same sm⟩
theorem StepF.from {H0 H1 H : Hp} {s : Addr} {cols : List (List Int)} (h : StepF H1 H s cols) (n : ∀ b, H1 b = none → H0 b = none) : StepF H0 H s cols := by
  obtain ⟨c, ds, h1, h2, h3, h4⟩ := h
  exact ⟨c, ds, ⟨n _ h1.1, h1.2⟩, ⟨n _ h2.1, h2.2⟩, h3, fun i d e => ⟨n _ (h4 i d e).1, (h4 i d e).2⟩⟩
def teCut (K : PySem.W.Frag) : TE := tStepL K (tVar 3) (tPart (tVar 7)) (tPart (tVar 2))
section
variable {P : Program} {w : World} {K : PySem.W.Frag} {mg : Str → Option Value} {base : Heap}
def spStep (K : PySem.W.Frag) : Sp := fun vs H Q _ => ∃ (f t : Addr) (p : Int) (rows : List (List Int)) (n : Nat), vs = [.ref f, .ref t] ∧ FieldC K H f (.md p) ∧ TabA K H t rows ∧ Sq n rows ∧ n ≤ 24 ∧ ∀ s H', Same H H' → StepF H H' s (colsOf n rows) → Q (.ref s) H'
theorem ok_step (T : Tx K mg) : FnG P w K mg base CX0 2 (He.ga K "step_of") (spStep K) := by
  refine mk_step_of T.d (fun vs H Q E h => ?_) (fun cdv A outer s H0 vs Q E hg hr h => ?_)
  · obtain ⟨f, t, p, rows, n, rfl, _⟩ := h
    rfl
  · obtain ⟨f, t, p, rows, n, rfl, F, ⟨ts, ht, lt, hd⟩, sq, n24, q⟩ := h
    have nd := sc_step_of.nd
    refine ⟨_, pss_cons (ps_set (i := 2) nd rfl (Or.inr rfl) (pe_callB call_len_seq (by rfl) (T.z "len" (by decide +kernel)) (by decide +kernel) (pa_cons (pv 1) pa_nil)))
      (pss_cons (ps_asg (pe_methG (pv 0) (kp_Field_common T.d) (ok_common T) hr hg pass0 (pa_cons
          (pe_lc2 (own := [("row", 5), ("number", 6)]) (vs1 := [6]) (g := gName 5) (g1 := gName 6) (wi1 := iTup K (tVar 5)) (tt := tYes) (tt1 := tYes) (te := tVar 6) rfl nd (pi_tup (pv 1)) (blkOk_by (N := n_step_of) (sc := defScope s_step_of) (by decide +kernel)) (by decide)
            (fun _ _ _ _ _ => pg_name (i := 5) nd rfl (Or.inl rfl)) (fun _ _ _ _ _ => pts_nil) (fun _ _ _ _ _ => pi_tup (pv 5)) (fun _ _ _ _ _ => pg_name (i := 6) nd rfl (Or.inl rfl)) (fun _ _ _ _ _ => pts_nil) (fun _ _ _ _ _ => pv 6)) pa_nil))
        (pg_tup rfl (pgs_cons (pg_name (i := 3) nd rfl (.inr rfl)) (pgs_cons (pg_name (i := 4) nd rfl (.inl rfl)) pgs_nil))))
      (pss_one (ps_ret (pe_tup (pa_cons
        (pe_lc (own := [("at", 7)]) (g := gName 7) (tt := tYes) (te := teCut K) rfl nd (pi_range1 (by rfl) (T.z "range" (by decide +kernel)) (pa_cons (pv 2) pa_nil)) (blkOk_by (N := n_step_of) (sc := defScope s_step_of) (by decide +kernel))
          (fun _ _ _ _ _ => pg_name (i := 7) nd rfl (Or.inl rfl)) (fun _ _ _ _ _ => pts_nil)
          (fun _ _ _ _ _ => pe_stepL (pv 3) (po_some (pv 7)) (po_some (pv 2))))
        (pa_cons (pv 4) pa_nil)))))), ?_⟩
    refine ⟨_, rfl, t, _, rfl, .inr ht, ?_⟩
    have hr2 : ∀ k d, ts[k]? = some d → SqT K H0 d ((rows.map nums).getD k []) := fun k d e => by
      rw [show ([] : List V) = nums [] from rfl, getD_map]
      exact hd k d e
    have lr : (rows.map nums).length = rows.length := by simp
    have sq2 : ∀ r ∈ rows.map nums, r.length = n := fun r hr => by
      obtain ⟨r0, h0, rfl⟩ := List.mem_map.mp hr
      rw [List.length_map]
      exact sq.r r0 h0
    have lf : (rows.map nums).flatten.length = n * n := by
      rw [flat_len sq2, lr, sq.l]
    have nn : n * n ≤ 576 := Nat.mul_le_mul n24 n24
    refine go_methG rfl F (by decide +kernel) (by decide +kernel) ⟨_, rfl, t, rfl, ⟨_, ht⟩, fun D nD => ?_⟩
    refine lc2_flat (rows := rows.map nums) nD ht (by rw [lr]; exact lt) hr2 (by omega) fun H1 s1 hD => ?_
    refine ⟨f, p, .ref D, rfl, F.same s1, fun u H2 s2 hu => ?_⟩
    refine ⟨u, _, rfl, .inl (.inl hu), rfl, _, _, rfl, _, _, rfl, rfl, ?_⟩
    have hD2 := s2 _ _ hD
    have s12 := s1.trans s2
    refine ⟨_, rfl, _, rfl, by show -(2 ^ 62 : Int) ≤ _; omega, by show ((ts.map V.ref).length : Int) < 2 ^ 62; rw [List.length_map, lt, sq.l]; omega, fun D3 nD3 => ?_⟩
    have en : ((ts.map V.ref).length : Int).toNat = n := by rw [Int.toNat_natCast, List.length_map, lt, sq.l]
    have en2 : ((ts.map V.ref).length : Int) = (n : Int) := by rw [List.length_map, lt, sq.l]
    rw [en]
    refine lc_grow (te := teCut K) (j := 7) walk_range (fun i v H => ∃ d, v = .ref d ∧ d ≠ D3 ∧ H0 d = none ∧ H d = some (.lst (nums (colOf rows i)))) ?_ nD3 (by omega) (fun _ _ => trivial) (fun i x H3 R hi s3 h3 hx r => ?_) fun H3 vs s3 h3 l3 hz => ?_
    · rintro i v H H' sx ⟨d, rfl, nd, n0, e⟩
      exact ⟨d, rfl, nd, n0, sx _ _ nd e⟩
    · subst hx
      refine ⟨_, rfl, _, rfl, _, rfl, _, rfl, _, rfl, D, _, _, _, rfl, rfl, rfl, SqL.of (s3 _ _ hD2), ?_, ?_, fun d nd3 => ?_⟩
      · rw [en2]
        omega
      · show (stepIx (0 + (i : Int)) _ _).length ≤ _
        rw [en2, lf, Int.zero_add, stepIx_col hi, List.length_map, List.length_range, sizeLine_eq]
        omega
      · have e1 : stepV (rows.map nums).flatten (0 + (i : Int)) ((ts.map V.ref).length : Int) = nums (colOf rows i) := by
          rw [en2, Int.zero_add, step_col sq2 hi, col_nums]
        rw [e1]
        exact r (.ref d) _ (same_up nd3) ⟨d, rfl, fun z => h3 (z ▸ nd3), none_of (s12.trans s3) nd3, upd_same⟩
    · refine ⟨_, rfl, by show 2 ≤ sizeLine; decide, fun v nv => q v _ ((s12.trans s3).trans (same_up nv)) ?_⟩
      have zs : ∃ ds : List Addr, vs = ds.map V.ref ∧ ∀ i d, ds[i]? = some d → H0 d = none ∧ H3 d = some (.lst (nums (colOf rows i))) := by
        clear l3 h3
        refine ⟨vs.map fun v => match v with | .ref d => d | _ => 0, ?_, fun i d e => ?_⟩
        · rw [List.map_map]
          refine (List.map_id _).symm.trans (List.map_congr_left fun v hv => ?_)
          obtain ⟨i, hi⟩ := List.mem_iff_getElem?.mp hv
          obtain ⟨d, rfl, _⟩ := hz i v hi
          rfl
        · rw [List.getElem?_map] at e
          cases hv : vs[i]? with
          | none => rw [hv] at e; cases e
          | some v =>
            obtain ⟨d', rfl, _, h⟩ := hz i v hv
            rw [hv] at e
            cases e
            exact h
      obtain ⟨ds, rfl, hds⟩ := zs
      have snv := same_up (o := .tup [V.ref D3, V.int 1]) nv
      refine ⟨D3, ds, ⟨none_of (s12.trans s3) nv, upd_same⟩, ⟨none_of s12 nD3, snv _ _ h3⟩, by simpa [colsOf] using l3, fun i d e => ?_⟩
      have hi : i < n := by
        have := (List.getElem?_eq_some_iff.mp e).1
        simp at l3
        omega
      have e2 : (colsOf n rows).getD i [] = colOf rows i := by
        unfold colsOf
        rw [List.getD_eq_getElem?_getD, List.getElem?_map, List.getElem?_range hi]
        rfl
      rw [e2]
      exact ⟨(hds i d e).1, snv _ _ (hds i d e).2⟩
end
end K19

namespace K19
open PySem PySem.Spec PyProof.Rows L2 Ver Num SX
/-! ### the parts of a machine -/
theorem numB_int {p x : Int} (m : Md p) (h0 : 0 ≤ x) (h1 : x < p) : numB (.md p) (.int x) = true := by
  have hh := m.hi
  have e1 : holdsB (.md p) (.int x) = true := by
    show (decide (0 ≤ x) && decide (x ≤ p - 1)) = true
    rw [decide_eq_true h0, decide_eq_true (show x ≤ p - 1 by omega)]
    rfl
  unfold numB
  rw [e1, longB_two (t := x) (b := 1) rfl]
  have e2 : decide (FL ≤ absI x) = false := decide_eq_false (by unfold FL absI; split <;> omega)
  rw [e2, decide_eq_false (show ¬ FL ≤ 1 by unfold FL; omega)]
  rfl
theorem kit_lt (K : PySem.W.Frag) : PySem.W.kitAny K (.type "list") [.type "list", .type "tuple"] = some true := kitAny_cons (b := true) (kit_ty (by decide +kernel)) (fun h => nomatch h) (fun _ => rfl)
theorem pair_lt : Paired ClsV [V.ty "list", V.ty "tuple"] [Value.type "list", Value.type "tuple"] := .cons (.ty _) (.cons (.ty _) .nil)
theorem all_true {n : Nat} : ((List.range n).map fun _ => V.bl true) = (List.replicate n true).map V.bl := by
  refine List.ext_getElem? fun m => ?_
  by_cases h : m < n <;> simp [h]
theorem all_rep : ∀ n, (List.replicate n true).all id = true
  | 0 => rfl
  | n + 1 => by rw [List.replicate_succ, List.all_cons, all_rep n]; rfl
/-- a list of numbers, a list of lists of numbers: just laid -/
def TabL (H : Hp) (t : Addr) (rows : List (List Int)) : Prop := ∃ ts : List Addr, H t = some (.lst (ts.map V.ref)) ∧ ts.length = rows.length ∧ ∀ i d, ts[i]? = some d → H d = some (.lst (nums (rows.getD i [])))
theorem TabL.same {H H' : Hp} {t : Addr} {rows : List (List Int)} (h : TabL H t rows) (s : Same H H') : TabL H' t rows := by
  obtain ⟨ts, h1, h2, h3⟩ := h
  exact ⟨ts, s _ _ h1, h2, fun i d e => s _ _ (h3 i d e)⟩
def teNum (K : PySem.W.Frag) : TE := tMethG K "is_number" (He.ma K (He.ga K "Field") "is_number") (spIsNumber K) E0 (tVar 0) (tCons (tVar 2) tNil)
section
variable {P : Program} {w : World} {K : PySem.W.Frag} {mg : Str → Option Value} {base : Heap}
def spIsRow (K : PySem.W.Frag) : Sp := fun vs H Q _ => ∃ (f l : Addr) (p : Int) (xs : List Int), vs = [.ref f, .ref l] ∧ FieldC K H f (.md p) ∧ Pm p ∧ H l = some (.lst (nums xs)) ∧ InP p xs ∧ xs.length ≤ 24 ∧ ∀ H', Same H H' → Q (.bl true) H'
theorem ok_is_row (T : Tx K mg) : FnG P w K mg base CX0 5 (He.ga K "is_row") (spIsRow K) := by
  refine mk_is_row T.d (fun vs H Q E h => ?_) (fun cdv A outer s H vs Q E hg hr h => ?_)
  · obtain ⟨f, l, p, xs, rfl, _⟩ := h
    rfl
  · obtain ⟨f, l, p, xs, rfl, F, pm, hl, ix, x24, q⟩ := h
    have nd := sc_is_row.nd
    refine ⟨_, pss_one (ps_ret (pe_and (pe_callB call_isiT (by rfl) (T.z "isinstance" (by decide +kernel)) (by decide +kernel) (pa_cons (pv 1) (pa_cons (pe_tup (pa_cons
          (pe_bltn (v := .ty "list") (by rfl) (T.z "list" (by decide +kernel)) (by decide +kernel) rfl) (pa_cons (pe_bltn (v := .ty "tuple") (by rfl) (T.z "tuple" (by decide +kernel)) (by decide +kernel) rfl) pa_nil))) pa_nil)))
      (pe_one (pe_callB (cr_all rfl) (by rfl) (T.z "all" (by decide +kernel)) (by decide +kernel) (pa_cons
          (pe_lc (own := [("number", 2)]) (g := gName 2) (tt := tYes) (te := teNum K) rfl nd (pi_list (pv 1)) (blkOk_by (N := n_is_row) (sc := defScope s_is_row) (by decide +kernel)) (fun _ _ _ _ _ => pg_name (i := 2) nd rfl (Or.inl rfl)) (fun _ _ _ _ _ => pts_nil)
            (fun _ _ _ _ _ => pe_methG (pv 0) (kp_Field_is_number T.d) (ok_is_number T) hr hg pass0 (pa_cons (pv 2) pa_nil))) pa_nil))))), ?_⟩
    refine ⟨_, rfl, by show 2 ≤ sizeLine; decide, fun t nt => ?_⟩
    have s1 := same_up (o := .tup [V.ty "list", V.ty "tuple"]) nt
    refine ⟨.ref l, t, _, _, _, true, rfl, upd_same, pair_lt, .base (.lst (s1 _ _ hl)), kit_lt K, _, rfl, ifT rfl ?_⟩
    refine ⟨_, rfl, l, rfl, ⟨_, SqL.of (s1 _ _ hl)⟩, fun D nD => ?_⟩
    refine lc_oneS (te := teNum K) (j := 2) wk_list (fun _ => V.bl true) nD (by simp; omega) (fun H s => SqL.of (s _ _ (s1 _ _ hl))) (fun i x H2 R hi s2 hx r => ?_) fun H2 s2 hD => ?_
    · obtain ⟨j, e, rfl, j0, j1⟩ := inP_at ix hx
      refine go_methG rfl (F.same (s1.trans s2)) (by decide +kernel) (by decide +kernel) ⟨_, rfl, f, .int j, .int j, .md p, rfl, F.same (s1.trans s2), .int j, pm, fun H' s' => ?_⟩
      rw [numB_int pm.md j0 j1]
      exact r H' s'
    · rw [all_true] at hD
      refine ⟨D, _, rfl, SqL.of hD, ?_⟩
      rw [all_rep]
      exact q H2 (s1.trans s2)
def spIsTab (K : PySem.W.Frag) : Sp := fun vs H Q _ => ∃ (f t : Addr) (p : Int) (rows : List (List Int)) (n : Nat), vs = [.ref f, .ref t, .int n] ∧ FieldC K H f (.md p) ∧ Pm p ∧ TabL H t rows ∧ Sq n rows ∧ (∀ r ∈ rows, InP p r) ∧ n ≤ 24 ∧ ∀ H', Same H H' → Q (.bl true) H'
def teTab (K : PySem.W.Frag) : TE := tAndV (fun σ H Q => tCons (tVar 0) (tCons (tVar 3) tNil) σ H fun vs H1 => spIsRow K vs H1 Q E0) (tOp rEq (tCB (fun xs H Q => ∃ p ys, xs = [.ref p] ∧ (SqL K H p ys ∨ SqT K H p ys) ∧ Q (.int ys.length) H) (tCons (tVar 3) tNil)) (tVar 2))
theorem sq_at {n i : Nat} {rows : List (List Int)} (s : Sq n rows) (h : i < rows.length) : rows.getD i [] ∈ rows := by
  rw [List.getD_eq_getElem?_getD, List.getElem?_eq_getElem h]
  exact List.getElem_mem _
theorem ok_is_table (T : Tx K mg) : FnG P w K mg base CX0 6 (He.ga K "is_table") (spIsTab K) := by
  refine mk_is_table T.d (fun vs H Q E h => ?_) (fun cdv A outer s H vs Q E hg hr h => ?_)
  · obtain ⟨f, t, p, rows, n, rfl, _⟩ := h
    rfl
  · obtain ⟨f, t, p, rows, n, rfl, F, pm, ⟨ts, ht, lt, hd⟩, sq, ir, n24, q⟩ := h
    have nd := sc_is_table.nd
    refine ⟨_, pss_cons (ps_if (PW.pt (pw_or (pt_not (pt_val (pe_callB call_isiT (by rfl) (T.z "isinstance" (by decide +kernel)) (by decide +kernel) (pa_cons (pv 1) (pa_cons (pe_tup (pa_cons
          (pe_bltn (v := .ty "list") (by rfl) (T.z "list" (by decide +kernel)) (by decide +kernel) rfl) (pa_cons (pe_bltn (v := .ty "tuple") (by rfl) (T.z "tuple" (by decide +kernel)) (by decide +kernel) rfl) pa_nil))) pa_nil)))))
          (pw_or1 (pt_cmpR op_ne (pe_callB call_len_seq (by rfl) (T.z "len" (by decide +kernel)) (by decide +kernel) (pa_cons (pv 1) pa_nil)) (pv 2) (nomark _))))) pss_never pss_nil)
      (pss_one (ps_ret (pe_callB (cr_all rfl) (by rfl) (T.z "all" (by decide +kernel)) (by decide +kernel) (pa_cons
          (pe_lc (own := [("row", 3)]) (g := gName 3) (tt := tYes) (te := teTab K) rfl nd (pi_list (pv 1)) (blkOk_by (N := n_is_table) (sc := defScope s_is_table) (by decide +kernel)) (fun _ _ _ _ _ => pg_name (i := 3) nd rfl (Or.inl rfl)) (fun _ _ _ _ _ => pts_nil)
            (fun _ _ _ _ _ => pe_and (pe_callG (ok_is_row T) hr hg (by rfl) (T.g "is_row" (by decide +kernel)) (kp_is_row T.d) pass0 (pa_cons (pv 0) (pa_cons (pv 3) pa_nil)))
              (pe_one (pe_cmpR op_eq (pe_callB call_len_seq (by rfl) (T.z "len" (by decide +kernel)) (by decide +kernel) (pa_cons (pv 3) pa_nil)) (pv 2) (nomark _))))) pa_nil)))), ?_⟩
    refine ⟨_, rfl, by show 2 ≤ sizeLine; decide, fun u nu => ?_⟩
    have s1 := same_up (o := .tup [V.ty "list", V.ty "tuple"]) nu
    refine ⟨.ref t, u, _, _, _, true, rfl, upd_same, pair_lt, .base (.lst (s1 _ _ ht)), kit_lt K, _, rfl, ifF rfl ?_⟩
    refine ⟨_, rfl, t, _, rfl, .inl (SqL.of (s1 _ _ ht)), _, rfl, rfl, _, rfl, ?_⟩
    rw [iEq, decide_eq_true (show ((ts.map V.ref).length : Int) = (n : Int) by rw [List.length_map, lt, sq.l])]
    refine ifF rfl ⟨_, rfl, t, rfl, ⟨_, SqL.of (s1 _ _ ht)⟩, fun D nD => ?_⟩
    refine lc_oneS (te := teTab K) (j := 3) wk_list (fun _ => V.bl true) nD (by rw [List.length_map, lt, sq.l]; omega) (fun H s => SqL.of (s _ _ (s1 _ _ ht))) (fun i x H2 R hi s2 hx r => ?_) fun H2 s2 hD => ?_
    · obtain ⟨d, e, rfl⟩ := ref_at hx
      have hl : i < rows.length := by rw [List.length_map, lt] at hi; exact hi
      have hm := sq_at sq hl
      have s12 := s1.trans s2
      have hd2 := s12 _ _ (hd i d e)
      have lr := sq.r _ hm
      refine ⟨_, rfl, _, rfl, f, d, p, _, rfl, F.same s12, pm, hd2, ir _ hm, by omega, fun H' s' => ⟨_, rfl, ifT rfl ?_⟩⟩
      refine ⟨_, rfl, d, _, rfl, .inl (SqL.of (s' _ _ hd2)), _, rfl, rfl, ?_⟩
      rw [iEq, decide_eq_true (show ((nums (rows.getD i [])).length : Int) = (n : Int) by rw [List.length_map, lr])]
      exact r H' s'
    · rw [all_true] at hD
      refine ⟨D, _, rfl, SqL.of hD, ?_⟩
      rw [all_rep]
      exact q H2 (s1.trans s2)
end
end K19

namespace K19
open PySem PySem.Spec PyProof.Rows L2 Ver Num SX
/-- a machine modulo a prime -/
structure Mac where
  p : Int
  cs : List Nat
  st : List Int
  tb : Nat → List (List Int)
  en : List Int
structure MOk (M : Mac) : Prop where
  pm : Pm M.p
  cs : CsOk M.cs
  n24 : M.st.length ≤ 24
  en : M.en.length = M.st.length
  ist : InP M.p M.st
  ien : InP M.p M.en
  sq : ∀ c ∈ M.cs, Sq M.st.length (M.tb c)
  itb : ∀ c ∈ M.cs, ∀ r ∈ M.tb c, InP M.p r
/-- a dict: an object for each letter -/
def dAt (cs : List Nat) (f : Nat → Addr) : List (Key × V) := cs.map fun c => ((.inr (S [c]) : Key), V.ref (f c))
theorem valV_dAt : ∀ {cs : List Nat} (f : Nat → Addr) {c : Nat}, c ∈ cs → valV (dAt cs f) (.inr (S [c])) = some (.ref (f c))
  | d :: cs, f, c, h => by
    unfold dAt
    rw [List.map_cons]
    by_cases e : d = c
    · subst e
      exact valV_pos rfl
    · rw [valV_neg (fun z => e (List.cons.inj (S_inj (Sum.inr.inj z))).1)]
      exact valV_dAt f ((List.mem_cons.mp h).resolve_left fun z => e z.symm)
/-- its parts, just laid -/
structure PartsA (H : Hp) (a d b : Addr) (M : Mac) : Prop where
  a : H a = some (.lst (nums M.st))
  b : H b = some (.lst (nums M.en))
  d : ∃ ta, H d = some (.dK (dAt M.cs ta)) ∧ ∀ c ∈ M.cs, TabL H (ta c) (M.tb c)
theorem PartsA.same {H H' : Hp} {a d b : Addr} {M : Mac} (h : PartsA H a d b M) (s : Same H H') : PartsA H' a d b M := by
  obtain ⟨ta, h1, h2⟩ := h.d
  exact ⟨s _ _ h.a, s _ _ h.b, ta, s _ _ h1, fun c hc => (h2 c hc).same s⟩
theorem cs_lt {cs : List Nat} (o : CsOk cs) : ∀ c ∈ cs, c < 128 := fun c hc => by
  have := o.rng c hc
  omega
section
variable {P : Program} {w : World} {K : PySem.W.Frag} {mg : Str → Option Value} {base : Heap}
def spCheck (K : PySem.W.Frag) : Sp := fun vs H Q _ => ∃ (f a d b : Addr) (M : Mac), vs = [.ref f, .str (S M.cs), .ref a, .ref d, .ref b] ∧ FieldC K H f (.md M.p) ∧ MOk M ∧ PartsA H a d b M ∧ ∀ H', Same H H' → Q .non H'
theorem ok_check (T : Tx K mg) : FnG P w K mg base CX0 7 (He.ga K "check_parts") (spCheck K) := by
  refine mk_check_parts T.d (fun vs H Q E h => ?_) (fun cdv A outer s H vs Q E hg hr h => ?_)
  · obtain ⟨f, a, d, b, M, rfl, _⟩ := h
    rfl
  · obtain ⟨f, a, d, b, M, rfl, F, ok, pt, q⟩ := h
    have nd := sc_check_parts.nd
    have hu : (A.deeper (envOfC "check_parts" (defScope s_check_parts) s.heap.objs.size (He.ga K "check_parts") cdv)).units + 1 < cLine := by have := hr.units; omega
    obtain ⟨tm, gm⟩ := T.ms
    have zi := T.z "isinstance" (by decide +kernel)
    have bi : bootBuiltins "isinstance" = some (.builtin "isinstance") := by decide +kernel
    have zl := T.z "len" (by decide +kernel)
    have bl : bootBuiltins "len" = some (.builtin "len") := by decide +kernel
    refine ⟨_, pss_cons (ps_if (pt_not (pt_val (pe_callB call_isi (by rfl) zi bi (pa_cons (pv 0) (pa_cons (pe_glob (v := .ref (He.ga K "Field")) (by rfl) (T.g "Field" (by decide +kernel)) rfl) pa_nil))))) pss_never pss_nil)
      (pss_cons (ps_if (pt_not (pt_val (pe_callG (ok_is_lettersB T) (hr.mono (by decide)) hg (by rfl) (T.g "is_letters" (by decide +kernel)) (kp_is_letters T.d) pass0 (pa_cons (pv 1) pa_nil)))) pss_never pss_nil)
      (pss_cons (ps_if (pt_not (pt_val (pe_callG (ok_is_row T) (hr.mono (by decide)) hg (by rfl) (T.g "is_row" (by decide +kernel)) (kp_is_row T.d) pass0 (pa_cons (pv 0) (pa_cons (pv 2) pa_nil))))) pss_never pss_nil)
      (pss_cons (ps_set (i := 5) nd rfl (Or.inl rfl) (pe_callB call_len_seq (by rfl) zl bl (pa_cons (pv 2) pa_nil)))
      (pss_cons (ps_if (PW.pt (pw_or (pt_not (pt_val (pe_callG (ok_is_row T) (hr.mono (by decide)) hg (by rfl) (T.g "is_row" (by decide +kernel)) (kp_is_row T.d) pass0 (pa_cons (pv 0) (pa_cons (pv 4) pa_nil)))))
          (pw_or1 (pt_cmpR op_ne (pe_callB call_len_seq (by rfl) zl bl (pa_cons (pv 4) pa_nil)) (pv 5) (nomark _))))) pss_never pss_nil)
      (pss_cons (ps_if (PW.pt (pw_or (pt_not (pt_val (pe_callB call_isi (by rfl) zi bi (pa_cons (pv 3) (pa_cons (pe_bltn (v := .ty "dict") (by rfl) (T.z "dict" (by decide +kernel)) (by decide +kernel) rfl) pa_nil)))))
          (pw_or1 (pt_cmpR op_ne (pe_callB call_lenD (by rfl) zl bl (pa_cons (pv 3) pa_nil)) (pe_callB call_len_str (by rfl) zl bl (pa_cons (pv 1) pa_nil)) (nomark _))))) pss_never pss_nil)
      (pss_cons (ps_for PassesOwn.never rfl (pi_str (pv 1)) (pg_name (i := 6) nd rfl (.inl rfl))
        (pss_one (ps_if (PW.pt (pw_or (pt_cmp (pc_dnotin hu (pv 6) (pv 3)))
          (pw_or1 (pt_not (pt_val (pe_callG (ok_is_table T) hr hg (by rfl) (T.g "is_table" (by decide +kernel)) (kp_is_table T.d) pass0 (pa_cons (pv 0) (pa_cons (pe_dget hu (pv 3) (pv 6) (fun _ _ => rfl)) (pa_cons (pv 5) pa_nil))))))))) pss_never pss_nil)))
      (pss_one (ps_if (pt_cmpR op_gt (pv 5) (pe_glob (v := .int 24) (by rfl) gm ⟨_, rfl⟩) (nomark _)) pss_never pss_nil)))))))), ?_⟩
    have n24 := ok.n24
    have len := ok.en
    have c4 := ok.cs.few
    have tyF : TyX K H (.ref f) (.ref (Classical.choose F)) ∧ PySem.W.kitOne K (.ref (Classical.choose F)) (.ref (He.ga K "Field")) = some true := by
      obtain ⟨dx, fc, mc, e⟩ := Classical.choose_spec F
      exact ⟨.base (.ins e fc.cl mc.cl T.clS T.clT mc.ob), mc.isF⟩
    refine ⟨_, rfl, _, _, _, _, true, rfl, .own _, tyF.1, tyF.2, _, rfl, ifF rfl ?_⟩
    refine ⟨_, rfl, M.cs, rfl, cs_lt ok.cs, by omega, fun H1 s1 => ⟨_, rfl, ?_⟩⟩
    rw [decide_eq_true ok.cs]
    refine ifF rfl ?_
    refine ⟨_, rfl, _, rfl, f, a, M.p, M.st, rfl, F.same s1, ok.pm, s1 _ _ pt.a, ok.ist, n24, fun H2 s2 => ⟨_, rfl, ifF rfl ?_⟩⟩
    have s12 := s1.trans s2
    have p2 := pt.same s12
    refine ⟨_, rfl, a, _, rfl, .inl (SqL.of p2.a), ?_⟩
    refine ⟨_, rfl, _, rfl, f, b, M.p, M.en, rfl, F.same s12, ok.pm, p2.b, ok.ien, by omega, fun H3 s3 => ⟨_, rfl, ifF rfl ?_⟩⟩
    have s13 := s12.trans s3
    have p3 := pt.same s13
    refine ⟨_, rfl, b, _, rfl, .inl (SqL.of p3.b), _, rfl, rfl, _, rfl, ?_⟩
    rw [iEq, decide_eq_true (show ((nums M.en).length : Int) = ((nums M.st).length : Int) by rw [List.length_map, List.length_map, len])]
    refine ifF rfl ?_
    obtain ⟨ta, hd3, htb⟩ := p3.d
    have ld : (dAt M.cs ta).length = M.cs.length := List.length_map ..
    refine ⟨_, rfl, _, _, _, _, true, rfl, .ty "dict", .base (.dK hd3), kit_ty (by decide +kernel), _, rfl, ifF rfl ?_⟩
    refine ⟨_, rfl, d, _, rfl, hd3, _, rfl, _, rfl, by rw [S_len]; exact sl_of (by omega), rfl, _, rfl, ?_⟩
    rw [iEq, decide_eq_true (show ((dAt M.cs ta).length : Int) = ((S M.cs).length : Int) by rw [ld, S_len])]
    refine ifF rfl ?_
    refine ⟨_, rfl, S M.cs, rfl, for_it wk_str (fun j σ H' => ∃ v6 : Option V, σ = [some (.ref f), some (.str (S M.cs)), some (.ref a), some (.ref d), some (.ref b), some (.int ((nums M.st).length : Int)), v6] ∧ Same H3 H') ⟨none, rfl, Same.refl H3⟩ (fun _ _ _ _ _ => trivial) ?_ ?_⟩
    · rintro j x σ H4 H5 hj ⟨v6, rfl, s4⟩ ⟨rfl, c, hc, rfl⟩
      rw [← Array.getElem?_toList, chars_S] at hc
      have hm := List.mem_of_getElem? hc
      have hg := DGet.k (k := Sum.inr (S [c])) (s4 _ _ hd3)
      rw [valV_dAt ta hm] at hg
      refine ⟨_, rfl, _, rfl, d, _, rfl, hg, _, rfl, ifF rfl ?_⟩
      refine ⟨_, rfl, _, rfl, _, rfl, d, _, rfl, hg, _, rfl, f, ta c, M.p, M.tb c, M.st.length, ?_, F.same (s13.trans s4), ok.pm, (htb c hm).same s4, ok.sq c hm, ok.itb c hm, n24, fun H6 s6 => ⟨_, rfl, ifF rfl ⟨_, rfl, s4.trans s6⟩⟩⟩
      rw [List.length_map]
    · rintro σ H4 ⟨v6, rfl, s4⟩
      refine ⟨_, rfl, _, _, rfl, rfl, _, rfl, ?_⟩
      exact ifF (decide_eq_false (by rw [List.length_map]; omega)) (q H4 (s13.trans s4))
end
end K19

namespace K19
open PySem PySem.Spec PyProof.Rows L2 Ver Num SX
/-- all but one object stands, and that one is of another kind -/
theorem rd_off {o : Addr} {H H' : Hp} (s : SameX o H H') {a : Addr} {u : HO} (h : H a = some u) (n : H o ≠ some u) : H' a = some u := s _ _ (fun e => n (e ▸ h)) h
/-- the machine at m -/
structure MachAt (K : PySem.W.Frag) (H : Hp) (m : Addr) (M : Mac) : Prop where
  ex : ∃ (dx f a b dt ds : Addr) (sa : Nat → Addr), H m = some (.ins (MA K) dx [("_field", .ref f), ("_letters", .str (S M.cs)), ("_start", .ref a), ("_ends", .ref b), ("_tables", .ref dt), ("_steps", .ref ds)]) ∧ FieldC K H f (.md M.p) ∧
    H a = some (.tup (nums M.st)) ∧ H b = some (.tup (nums M.en)) ∧ H ds = some (.dK (dAt M.cs sa)) ∧ ∀ c ∈ M.cs, StepC H (sa c) (colsOf M.st.length (M.tb c))
  ok : MOk M
theorem StepC.same {H H' : Hp} {r : Addr} {cols : List (List Int)} (h : StepC H r cols) (s : Same H H') : StepC H' r cols := by
  obtain ⟨c, ds, h1, h2, h3, h4⟩ := h
  exact ⟨c, ds, s _ _ h1, s _ _ h2, h3, fun i d e => s _ _ (h4 i d e)⟩
theorem MachAt.same {K : PySem.W.Frag} {H H' : Hp} {m : Addr} {M : Mac} (h : MachAt K H m M) (s : Same H H') : MachAt K H' m M := by
  obtain ⟨dx, f, a, b, dt, ds, sa, h1, h2, h3, h4, h5, h6⟩ := h.ex
  exact ⟨⟨dx, f, a, b, dt, ds, sa, s _ _ h1, h2.same s, s _ _ h3, s _ _ h4, s _ _ h5, fun c hc => (h6 c hc).same s⟩, h.ok⟩
/-- a tuple of tuples, none of them at D -/
def TabX (D : Addr) (H : Hp) (t : Addr) (rows : List (List Int)) : Prop := t ≠ D ∧ ∃ ts : List Addr, H t = some (.tup (ts.map V.ref)) ∧ ts.length = rows.length ∧ ∀ i d, ts[i]? = some d → d ≠ D ∧ H d = some (.tup (nums (rows.getD i [])))
theorem TabX.sx {D : Addr} {H H' : Hp} {t : Addr} {rows : List (List Int)} (h : TabX D H t rows) (s : SameX D H H') : TabX D H' t rows := by
  obtain ⟨n, ts, h1, h2, h3⟩ := h
  exact ⟨n, ts, s _ _ n h1, h2, fun i d e => ⟨(h3 i d e).1, s _ _ (h3 i d e).1 (h3 i d e).2⟩⟩
theorem TabX.toA {K : PySem.W.Frag} {D : Addr} {H : Hp} {t : Addr} {rows : List (List Int)} (h : TabX D H t rows) : TabA K H t rows := by
  obtain ⟨n, ts, h1, h2, h3⟩ := h
  exact ⟨ts, .inl (.inl h1), h2, fun i d e => .inl (.inl (h3 i d e).2)⟩
def StepX (D : Addr) (H0 H : Hp) (s : Addr) (cols : List (List Int)) : Prop := s ≠ D ∧ ∃ (c : Addr) (ds : List Addr), c ≠ D ∧ Fr H0 H s (.tup [.ref c, .int 1]) ∧ Fr H0 H c (.lst (ds.map V.ref)) ∧ ds.length = cols.length ∧ ∀ i d, ds[i]? = some d → d ≠ D ∧ Fr H0 H d (.lst (nums (cols.getD i [])))
theorem StepX.sx {D : Addr} {H0 H H' : Hp} {t : Addr} {rows : List (List Int)} (h : StepX D H0 H t rows) (s : SameX D H H') : StepX D H0 H' t rows := by
  obtain ⟨n, c, ts, nc, h0, h1, h2, h3⟩ := h
  exact ⟨n, c, ts, nc, ⟨h0.1, s _ _ n h0.2⟩, ⟨h1.1, s _ _ nc h1.2⟩, h2, fun i d e => ⟨(h3 i d e).1, (h3 i d e).2.1, s _ _ (h3 i d e).1 (h3 i d e).2.2⟩⟩
theorem StepX.toF {D : Addr} {H0 H : Hp} {t : Addr} {rows : List (List Int)} (h : StepX D H0 H t rows) : StepF H0 H t rows := by
  obtain ⟨n, c, ts, nc, h0, h1, h2, h3⟩ := h
  exact ⟨c, ts, h0, h1, h2, fun i d e => (h3 i d e).2⟩
theorem StepF.x {D : Addr} {H0 H : Hp} {t : Addr} {rows : List (List Int)} (h : StepF H0 H t rows) {u : HO} (hD : H D = some u) (n1 : ∀ xs, u ≠ .tup xs) (n2 : ∀ xs, u ≠ .lst xs) : StepX D H0 H t rows := by
  obtain ⟨c, ts, h0, h1, h2, h3⟩ := h
  have k1 : ∀ {a xs}, H a = some (.tup xs) → a ≠ D := fun e z => n1 _ (Option.some.inj (hD.symm.trans (z ▸ e)))
  have k2 : ∀ {a xs}, H a = some (.lst xs) → a ≠ D := fun e z => n2 _ (Option.some.inj (hD.symm.trans (z ▸ e)))
  exact ⟨k1 h0.2, c, ts, k2 h1.2, h0, h1, h2, fun i d e => ⟨k2 (h3 i d e).2, h3 i d e⟩⟩
theorem StepF.off {o : Addr} {H0 H H' : Hp} (s : SameX o H H') {C dx : Addr} {fs : List (Str × V)} (ho : H o = some (.ins C dx fs)) {t : Addr} {rows : List (List Int)} (h : StepF H0 H t rows) : StepF H0 H' t rows :=
  ((h.x ho (fun _ z => by cases z) (fun _ z => by cases z)).sx s).toF
/-- .. the lists of its steps new since H0 -/
structure MachX (K : PySem.W.Frag) (H0 H : Hp) (m : Addr) (M : Mac) : Prop where
  ex : ∃ (dx f a b dt ds : Addr) (sa : Nat → Addr), H m = some (.ins (MA K) dx [("_field", .ref f), ("_letters", .str (S M.cs)), ("_start", .ref a), ("_ends", .ref b), ("_tables", .ref dt), ("_steps", .ref ds)]) ∧ FieldC K H f (.md M.p) ∧
    H a = some (.tup (nums M.st)) ∧ H b = some (.tup (nums M.en)) ∧ H ds = some (.dK (dAt M.cs sa)) ∧ ∀ c ∈ M.cs, StepF H0 H (sa c) (colsOf M.st.length (M.tb c))
  ok : MOk M
theorem MachX.at_ {K : PySem.W.Frag} {H0 H : Hp} {m : Addr} {M : Mac} (h : MachX K H0 H m M) : MachAt K H m M := by
  obtain ⟨dx, f, a, b, dt, ds, sa, h1, h2, h3, h4, h5, h6⟩ := h.ex
  exact ⟨⟨dx, f, a, b, dt, ds, sa, h1, h2, h3, h4, h5, fun c hc => (h6 c hc).toC⟩, h.ok⟩
theorem MachX.from {K : PySem.W.Frag} {H0 H1 H : Hp} {m : Addr} {M : Mac} (h : MachX K H1 H m M) (n : ∀ b, H1 b = none → H0 b = none) : MachX K H0 H m M := by
  obtain ⟨dx, f, a, b, dt, ds, sa, h1, h2, h3, h4, h5, h6⟩ := h.ex
  exact ⟨⟨dx, f, a, b, dt, ds, sa, h1, h2, h3, h4, h5, fun c hc => (h6 c hc).from n⟩, h.ok⟩
theorem MachX.same {K : PySem.W.Frag} {H0 H H' : Hp} {m : Addr} {M : Mac} (h : MachX K H0 H m M) (s : Same H H') : MachX K H0 H' m M := by
  obtain ⟨dx, f, a, b, dt, ds, sa, h1, h2, h3, h4, h5, h6⟩ := h.ex
  exact ⟨⟨dx, f, a, b, dt, ds, sa, s _ _ h1, h2.same s, s _ _ h3, s _ _ h4, s _ _ h5, fun c hc => (h6 c hc).same s⟩, h.ok⟩
/-- a list that was there is written -/
theorem MachX.up {K : PySem.W.Frag} {H0 H : Hp} {m D : Addr} {M : Mac} {xs ys : List V} (h : MachX K H0 H m M) (n : H0 D ≠ none) (hD : H D = some (.lst xs)) : MachX K H0 (upd H D (.lst ys)) m M := by
  obtain ⟨dx, f, a, b, dt, ds, sa, h1, ⟨C, fx, fc, mc, h2⟩, h3, h4, h5, h6⟩ := h.ex
  have k : ∀ {u : Addr} {o : HO}, H u = some o → (∀ l, o ≠ .lst l) → upd H D (.lst ys) u = some o := fun {u o} e ne => by
    have : u ≠ D := fun z => by
      rw [z, hD] at e
      exact ne _ (Option.some.inj e).symm
    rw [upd_ne this]
    exact e
  have sx : SameX D H (upd H D (.lst ys)) := sameX_upd
  refine ⟨⟨dx, f, a, b, dt, ds, sa, k h1 (fun _ z => by cases z), ⟨C, fx, fc, mc, k h2 (fun _ z => by cases z)⟩, k h3 (fun _ z => by cases z), k h4 (fun _ z => by cases z), k h5 (fun _ z => by cases z), fun c hc => ?_⟩, h.ok⟩
  obtain ⟨c2, ds2, g1, g2, g3, g4⟩ := h6 c hc
  exact ⟨c2, ds2, g1.off n sx, g2.off n sx, g3, fun i d e => (g4 i d e).off n sx⟩
/-- refs, letter by letter -/
theorem dAt_of {cs : List Nat} (nd : cs.Nodup) {vs : List V} {n : Nat} (hn : n = cs.length) (l : vs.length = n) (Zz : Nat → Addr → Prop) (hz : ∀ i v, vs[i]? = some v → ∃ d, v = .ref d ∧ Zz i d) :
    ∃ ta : Nat → Addr, List.zip ((List.range n).map fun i => (.inr (S [cs.getD i 0]) : Key)) vs = dAt cs ta ∧ ∀ i c, cs[i]? = some c → Zz i (ta c) := by
  subst hn
  let ta : Nat → Addr := fun c => match vs[cs.idxOf c]? with | some (.ref d) => d | _ => 0
  have key : ∀ i c, cs[i]? = some c → ∃ d, vs[i]? = some (.ref d) ∧ ta c = d ∧ Zz i d := fun i c h => by
    have hi := (List.getElem?_eq_some_iff.mp h).1
    have e : cs[i] = c := (List.getElem?_eq_some_iff.mp h).2
    have ix : cs.idxOf c = i := by rw [← e]; exact nd.idxOf_getElem i hi
    have hv : vs[i]? = some (vs[i]'(by omega)) := List.getElem?_eq_getElem _
    obtain ⟨d, ed, z⟩ := hz i _ hv
    rw [ed] at hv
    refine ⟨d, hv, ?_, z⟩
    show (match vs[cs.idxOf c]? with | some (.ref d) => d | _ => 0) = d
    rw [ix, hv]
  refine ⟨ta, List.ext_getElem? fun i => ?_, fun i c h => ?_⟩
  · unfold dAt
    rw [List.getElem?_map]
    by_cases hi : i < cs.length
    · have hc : cs[i]? = some cs[i] := List.getElem?_eq_getElem hi
      obtain ⟨d, hv, et, _⟩ := key i _ hc
      have hz2 : (List.zip ((List.range cs.length).map fun i => (.inr (S [cs.getD i 0]) : Key)) vs)[i]? = some ((.inr (S [cs.getD i 0]) : Key), V.ref d) := List.getElem?_zip_eq_some.mpr ⟨by rw [List.getElem?_map, List.getElem?_range hi]; rfl, hv⟩
      rw [hz2, hc, Option.map_some, et, List.getD_eq_getElem?_getD, hc]
      rfl
    · rw [List.getElem?_eq_none (by rw [List.length_zip]; simp; omega), List.getElem?_eq_none (by omega)]
      rfl
  · obtain ⟨d, hv, et, z⟩ := key i c h
    rw [et]
    exact z
end K19

namespace K19
open PySem PySem.Spec PyProof.Rows L2 Ver Num SX
def compScope : Expr → Scope
  | .DictComp _ _ _ sc _ => sc
  | .ListComp _ _ sc _ => sc
  | _ => defScope (.Pass ⟨0, 0, 0, 0⟩)
def asgVal : Stmt → Expr
  | .Assign _ e _ => e
  | _ => .Name "" ⟨0, 0, 0, 0⟩
def tabScope : Scope := { kind := .function, names := [((".0" : Str), .local), ("letter", .local), ("tuple", .globalImplicit), ("tables", .cell)], isGenerator := false, isCoroutine := false }
def rTup (K : PySem.W.Frag) : List V → Hp → VK → Prop := fun xs H Q => ∃ p ys, xs = [.ref p] ∧ ((SqL K H p ys ∧ ∀ l, H l = none → Q (.ref l) (upd H l (.tup ys))) ∨ (SqT K H p ys ∧ Q (.ref p) H))
def tvTab (K : PySem.W.Frag) : TE := tCB (rTup K) (tCons (tLc (iList K (tDGet (tVar 4) (tVar 7))) (gName 6) tYes (tCB (rTup K) (tCons (tVar 6) tNil)) [6]) tNil)
def teSt (K : PySem.W.Frag) : TE := fun σ H Q => tCons (tVar 1) (tCons (tDGet (tFld K (tVar 0) "_tables") (tVar 7)) tNil) σ H fun vs H1 => spStep K vs H1 Q E0
/-- refs, one by one -/
theorem refs_of {vs : List V} (Zz : Nat → Addr → Prop) (hz : ∀ i v, vs[i]? = some v → ∃ d, v = .ref d ∧ Zz i d) : ∃ ds : List Addr, vs = ds.map V.ref ∧ ∀ i d, ds[i]? = some d → Zz i d := by
  refine ⟨vs.map fun v => match v with | .ref d => d | _ => 0, ?_, fun i d e => ?_⟩
  · rw [List.map_map]
    refine (List.map_id _).symm.trans (List.map_congr_left fun v hv => ?_)
    obtain ⟨i, hi⟩ := List.mem_iff_getElem?.mp hv
    obtain ⟨d, rfl, _⟩ := hz i v hi
    rfl
  · rw [List.getElem?_map] at e
    cases hv : vs[i]? with
    | none => rw [hv] at e; cases e
    | some v =>
      obtain ⟨d', rfl, h⟩ := hz i v hv
      rw [hv] at e
      cases e
      exact h
theorem str_at {cs : List Nat} {i : Nat} {x : V} (hx : ∃ c, (S cs).cps[i]? = some c ∧ x = .str ⟨#[c]⟩) : ∃ c, cs[i]? = some c ∧ cs.getD i 0 = c ∧ c ∈ cs ∧ x = .str (S [c]) := by
  obtain ⟨c, hc, rfl⟩ := hx
  rw [← Array.getElem?_toList, chars_S] at hc
  exact ⟨c, hc, by rw [List.getD_eq_getElem?_getD, hc]; rfl, List.mem_of_getElem? hc, rfl⟩
theorem kf_inj {cs : List Nat} (nd : cs.Nodup) : ∀ a b, a < (S cs).cps.size → b < (S cs).cps.size → (Sum.inr (S [cs.getD a 0]) : Key) = .inr (S [cs.getD b 0]) → a = b := fun a b ha hb e => by
  have asz : (S cs).cps.size = cs.length := by simp
  rw [asz] at ha hb
  have e2 : cs.getD a 0 = cs.getD b 0 := (List.cons.inj (S_inj (Sum.inr.inj e))).1
  rw [List.getD_eq_getElem?_getD, List.getD_eq_getElem?_getD, List.getElem?_eq_getElem ha, List.getElem?_eq_getElem hb] at e2
  exact (List.getElem_inj nd).mp e2
section
variable {P : Program} {w : World} {K : PySem.W.Frag} {mg : Str → Option Value} {base : Heap}
def spInit (K : PySem.W.Frag) : Sp := fun vs H Q _ => ∃ (o dx f a d b : Addr) (M : Mac), vs = [.ref o, .ref f, .str (S M.cs), .ref a, .ref d, .ref b] ∧ FieldC K H f (.md M.p) ∧ MOk M ∧ PartsA H a d b M ∧ H o = some (.ins (MA K) dx []) ∧
  ∀ H', SameX o H H' → MachX K H H' o M → Q .non H'
theorem ok_init (T : Tx K mg) : FnG P w K mg base CX0 8 (He.ma K (He.ga K "Machine") "__init__") (spInit K) := by
  refine mk_Machine___init__ T.d (fun vs H Q E h => ?_) (fun cdv A outer s H vs Q E hg hr h => ?_)
  · obtain ⟨o, dx, f, a, d, b, M, rfl, _⟩ := h
    rfl
  · obtain ⟨o, dx, f, a, d, b, M, rfl, F, ok, pt, ho, q⟩ := h
    have nd := sc_Machine___init__.nd
    have hu : (A.deeper (envOfC "Machine.__init__" (defScope s_Machine___init__) s.heap.objs.size (He.ma K (He.ga K "Machine") "__init__") cdv)).units + 1 < cLine := by have := hr.units; omega
    have zt := T.z "tuple" (by decide +kernel)
    have bt : bootBuiltins "tuple" = some (.type "tuple") := by decide +kernel
    refine ⟨_, pss_cons (ps_if (pt_val (pe_callB call_isi (by rfl) (T.z "isinstance" (by decide +kernel)) (by decide +kernel) (pa_cons (pv 3) (pa_cons (pe_glob (v := .ref (He.ga K "Worked")) (by rfl) (T.g "Worked" (by decide +kernel)) rfl) pa_nil)))) pss_never
        (pss_one (ps_expr (pe_callG (ok_check T) hr hg (by rfl) (T.g "check_parts" (by decide +kernel)) (kp_check_parts T.d) pass0 (pa_cons (pv 1) (pa_cons (pv 2) (pa_cons (pv 3) (pa_cons (pv 4) (pa_cons (pv 5) pa_nil)))))))))
      (pss_cons (ps_fld (pv 0) (pv 1) rfl)
      (pss_cons (ps_fld (pv 0) (pv 2) rfl)
      (pss_cons (ps_fld (pv 0) (pe_callTy call_tuple_of (by rfl) zt bt (pa_cons (pv 3) pa_nil)) rfl)
      (pss_cons (ps_fld (pv 0) (pe_callTy call_tuple_of (by rfl) zt bt (pa_cons (pv 5) pa_nil)) rfl)
      (pss_cons (ps_fld (pv 0) (pe_dc (own := [("letter", 7)]) (g := gName 7) (tt := tYes) (tk := tVar 7) (tv := tvTab K) rfl nd (pi_str (pv 2)) (blkOk_by (N := n_Machine___init__) (sc := defScope s_Machine___init__) (by decide +kernel)) (fun _ _ _ _ _ => pg_name (i := 7) nd rfl (Or.inl rfl)) (fun _ _ _ _ _ => pts_nil)
          (fun _ _ _ _ _ => pv 7) (fun _ _ _ _ _ => pe_callTy call_tuple_of (by rfl) zt bt (pa_cons
            (pe_lc (own := [("row", 6)]) (g := gName 6) (tt := tYes) (wi := iList K (tDGet (tVar 4) (tVar 7))) (te := tCB (rTup K) (tCons (tVar 6) tNil)) rfl nd (pi_list (pe_dget hu (pv 4) (pv 7) (fun _ _ => rfl))) (blkOk_by (N := n_Machine___init__) (sc := tabScope) (by decide +kernel)) (fun _ _ _ _ _ => pg_name (i := 6) nd rfl (Or.inl rfl)) (fun _ _ _ _ _ => pts_nil)
              (fun _ _ _ _ _ => pe_callTy call_tuple_of (by rfl) zt bt (pa_cons (pv 6) pa_nil))) pa_nil))) rfl)
      (pss_one (ps_fld (pv 0) (pe_dc (own := [("letter", 7)]) (g := gName 7) (tt := tYes) (tk := tVar 7) (tv := teSt K) rfl nd (pi_str (pv 2)) (blkOk_by (N := n_Machine___init__) (sc := defScope s_Machine___init__) (by decide +kernel)) (fun _ _ _ _ _ => pg_name (i := 7) nd rfl (Or.inl rfl)) (fun _ _ _ _ _ => pts_nil)
          (fun _ _ _ _ _ => pv 7) (fun _ _ _ _ _ => pe_callG (ok_step T) (hr.mono (by decide)) hg (by rfl) (T.g "step_of" (by decide +kernel)) (kp_step_of T.d) pass0 (pa_cons (pv 1) (pa_cons (pe_dget hu (pe_fld (pv 0) rfl) (pv 7) (fun _ _ => rfl)) pa_nil)))) rfl))))))), ?_⟩
    have nf : ∀ f ∈ mfs, NoAttr K (MA K) f := T.o.na
    have n24 := ok.n24
    have c4 := ok.cs.few
    have asz : (S M.cs).cps.size = M.cs.length := by simp
    have ndc := asc_nodup ok.cs.asc
    refine ⟨_, rfl, _, _, _, _, false, rfl, .own _, .base (.lst pt.a), T.nW, _, rfl, ifF rfl ?_⟩
    refine ⟨_, rfl, _, rfl, _, rfl, _, rfl, _, rfl, f, a, d, b, M, rfl, F, ok, pt, fun H1 s1 => ?_⟩
    have ho1 := s1 _ _ ho
    -- _field
    refine ⟨_, rfl, _, rfl, o, _, dx, _, rfl, ho1, T.o.cl, nf _ (by decide +kernel), by show 0 < 1000; decide, ?_⟩
    generalize hH2 : upd H1 o (.ins (MA K) dx (putF "_field" (.ref f) [])) = H2 at *
    have x2 : SameX o H H2 := (Same.toX s1).trans (by rw [← hH2]; exact sameX_upd)
    have ho2 : H2 o = some (.ins (MA K) dx [("_field", .ref f)]) := by rw [← hH2, upd_same]; rfl
    -- _letters
    refine ⟨_, rfl, _, rfl, o, _, dx, _, rfl, ho2, T.o.cl, nf _ (by decide +kernel), by show 1 < 1000; decide, ?_⟩
    generalize hH3 : upd H2 o (.ins (MA K) dx (putF "_letters" (.str (S M.cs)) [("_field", .ref f)])) = H3 at *
    have x3 : SameX o H H3 := x2.trans (by rw [← hH3]; exact sameX_upd)
    have ho3 : H3 o = some (.ins (MA K) dx [("_field", .ref f), ("_letters", .str (S M.cs))]) := by rw [← hH3, upd_same]; rfl
    have off : ∀ {H' : Hp} {u : Addr} {y : HO}, SameX o H H' → H u = some y → (∀ C dx fs, y ≠ .ins C dx fs) → H' u = some y := fun x e n => x _ _ (fun z => n _ _ _ (Option.some.inj ((z ▸ e).symm.trans ho))) e
    -- _start
    refine ⟨_, rfl, a, _, rfl, .inl ⟨SqL.of (off x3 pt.a (fun _ _ _ z => by cases z)), fun ua nua => ?_⟩⟩
    have s4 := same_up (o := .tup (nums M.st)) nua
    refine ⟨_, rfl, o, _, dx, _, rfl, s4 _ _ ho3, T.o.cl, nf _ (by decide +kernel), by show 2 < 1000; decide, ?_⟩
    have oa : ua ≠ o := (ne_of_none ho3 nua).symm
    generalize hH4 : upd (upd H3 ua (.tup (nums M.st))) o (.ins (MA K) dx (putF "_start" (.ref ua) [("_field", .ref f), ("_letters", .str (S M.cs))])) = H4 at *
    have x4 : SameX o H H4 := (x3.trans (Same.toX s4)).trans (by rw [← hH4]; exact sameX_upd)
    have ho4 : H4 o = some (.ins (MA K) dx [("_field", .ref f), ("_letters", .str (S M.cs)), ("_start", .ref ua)]) := by rw [← hH4, upd_same]; rfl
    have ha4 : H4 ua = some (.tup (nums M.st)) := by rw [← hH4, upd_ne oa, upd_same]
    -- _ends
    refine ⟨_, rfl, b, _, rfl, .inl ⟨SqL.of (off x4 pt.b (fun _ _ _ z => by cases z)), fun ub nub => ?_⟩⟩
    have s5 := same_up (o := .tup (nums M.en)) nub
    refine ⟨_, rfl, o, _, dx, _, rfl, s5 _ _ ho4, T.o.cl, nf _ (by decide +kernel), by show 3 < 1000; decide, ?_⟩
    have ob : ub ≠ o := (ne_of_none ho4 nub).symm
    generalize hH5 : upd (upd H4 ub (.tup (nums M.en))) o (.ins (MA K) dx (putF "_ends" (.ref ub) [("_field", .ref f), ("_letters", .str (S M.cs)), ("_start", .ref ua)])) = H5 at *
    have y5 : SameX o H4 H5 := (Same.toX s5).trans (by rw [← hH5]; exact sameX_upd)
    have x5 : SameX o H H5 := x4.trans y5
    have ho5 : H5 o = some (.ins (MA K) dx [("_field", .ref f), ("_letters", .str (S M.cs)), ("_start", .ref ua), ("_ends", .ref ub)]) := by rw [← hH5, upd_same]; rfl
    have ha5 : H5 ua = some (.tup (nums M.st)) := y5 _ _ oa ha4
    have hb5 : H5 ub = some (.tup (nums M.en)) := by rw [← hH5, upd_ne ob, upd_same]
    -- _tables
    obtain ⟨ta, hd0, htb⟩ := pt.d
    have hd5 := off x5 hd0 (fun _ _ _ z => by cases z)
    have htb5 : ∀ c ∈ M.cs, TabL H5 (ta c) (M.tb c) := fun c hc => by
      obtain ⟨ts, h1, h2, h3⟩ := htb c hc
      exact ⟨ts, off x5 h1 (fun _ _ _ z => by cases z), h2, fun i d e => off x5 (h3 i d e) (fun _ _ _ z => by cases z)⟩
    refine ⟨_, rfl, S M.cs, rfl, fun D nD => dc_grow (tv := tvTab K) wk_str (fun i => .inr (S [M.cs.getD i 0])) (fun i v H => ∃ t, v = .ref t ∧ TabX D H t (M.tb (M.cs.getD i 0))) ?_ (kf_inj ndc) nD (by rw [asz]; omega) (fun _ _ => trivial) (fun i x H6 R hi s6 hx r => ?_) (fun i x H6 R hi s6 h6 hx r => ?_) fun H6 vs s6 h6 l6 hz => ?_⟩
    · rintro i v H H' sx ⟨t, rfl, h⟩
      exact ⟨t, rfl, h.sx sx⟩
    · obtain ⟨c, hc, e, hm, rfl⟩ := str_at hx
      rw [e] at r
      exact ⟨_, rfl, r⟩
    · obtain ⟨c, hc, e, hm, rfl⟩ := str_at hx
      rw [e] at r
      obtain ⟨kvs, h6⟩ := h6
      have hg := DGet.k (k := Sum.inr (S [c])) (s6 _ _ hd5)
      rw [valV_dAt ta hm] at hg
      obtain ⟨ts, h1, h2, h3⟩ := (htb5 c hm).same s6
      have sq := ok.sq c hm
      refine ⟨_, rfl, _, rfl, d, _, rfl, hg, ta c, rfl, ⟨_, SqL.of h1⟩, fun D2 nD2 => lc_grow (te := tCB (rTup K) (tCons (tVar 6) tNil)) (j := 6) wk_list (fun i v H => ∃ t, v = .ref t ∧ t ≠ D2 ∧ t ≠ D ∧ H t = some (.tup (nums ((M.tb c).getD i [])))) ?_ nD2 (by rw [List.length_map, h2, sq.l]; omega) (fun H s => SqL.of (s _ _ h1)) (fun i x H7 R7 hi7 s7 h7 hx7 r7 => ?_) fun H7 vs s7 h7 l7 hz => ?_⟩
      · rintro i v H H' sx ⟨t, rfl, n1, n2, h⟩
        exact ⟨t, rfl, n1, n2, sx _ _ n1 h⟩
      · obtain ⟨u, e7, rfl⟩ := ref_at hx7
        refine ⟨_, rfl, u, _, rfl, .inl ⟨SqL.of (s7 _ _ (h3 i u e7)), fun t nt => r7 _ _ (same_up nt) ⟨t, rfl, fun z => h7 (z ▸ nt), fun z => ?_, upd_same⟩⟩⟩
        have := s7 _ _ h6
        rw [z, this] at nt
        cases nt
      · obtain ⟨us, rfl, hus⟩ := refs_of _ hz
        refine ⟨D2, _, rfl, .inl ⟨SqL.of h7, fun t nt => r _ _ (s7.trans (same_up nt)) ⟨t, rfl, fun z => ?_, us, upd_same, ?_, fun i u e => ?_⟩⟩⟩
        · have := s7 _ _ h6
          rw [z, this] at nt
          cases nt
        · rw [List.length_map] at l7
          rw [l7, List.length_map, h2]
        · obtain ⟨n1, n2, h⟩ := hus i u e
          exact ⟨n2, (same_up nt) _ _ h⟩
    obtain ⟨tt, eD, htt⟩ := dAt_of ndc asz l6 (fun i t => TabX D H6 t (M.tb (M.cs.getD i 0))) hz
    rw [eD] at h6
    refine ⟨_, rfl, o, _, dx, _, rfl, s6 _ _ ho5, T.o.cl, nf _ (by decide +kernel), by show 4 < 1000; decide, ?_⟩
    have oD : D ≠ o := (ne_of_none ho5 nD).symm
    generalize hH7 : upd H6 o (.ins (MA K) dx (putF "_tables" (.ref D) [("_field", .ref f), ("_letters", .str (S M.cs)), ("_start", .ref ua), ("_ends", .ref ub)])) = H7 at *
    have y7 : SameX o H5 H7 := (Same.toX s6).trans (by rw [← hH7]; exact sameX_upd)
    have z7 : SameX o H6 H7 := by rw [← hH7]; exact sameX_upd
    have ho7 : H7 o = some (.ins (MA K) dx [("_field", .ref f), ("_letters", .str (S M.cs)), ("_start", .ref ua), ("_ends", .ref ub), ("_tables", .ref D)]) := by rw [← hH7, upd_same]; rfl
    have hD7 : H7 D = some (.dK (dAt M.cs tt)) := z7 _ _ oD h6
    have ho6 := s6 _ _ ho5
    have htt7 : ∀ c ∈ M.cs, TabA K H7 (tt c) (M.tb c) := fun c hc => by
      obtain ⟨i, hi⟩ := List.mem_iff_getElem?.mp hc
      have h := htt i c hi
      have e : M.cs.getD i 0 = c := by rw [List.getD_eq_getElem?_getD, hi]; rfl
      rw [e] at h
      obtain ⟨_, ts, h1, h2, h3⟩ := h
      have k : ∀ {u : Addr} {ys : List V}, H6 u = some (.tup ys) → H7 u = some (.tup ys) := fun e => z7 _ _ (fun z => by rw [z, ho6] at e; cases e) e
      exact ⟨ts, .inl (.inl (k h1)), h2, fun i d e => .inl (.inl (k (h3 i d e).2))⟩
    have F7 : FieldC K H7 f (.md M.p) := by
      obtain ⟨C, fdx, fc, mc, e⟩ := F
      have fo : f ≠ o := fun z => by
        rw [z, ho] at e
        cases e
      exact ⟨C, fdx, fc, mc, (x5.trans y7) _ _ fo e⟩
    obtain ⟨Hi, eHi⟩ : ∃ Hi, Hi = H := ⟨H, rfl⟩
    have back : ∀ c, H7 c = none → Hi c = none := fun c hc => by
      rw [eHi]
      cases e : H c with
      | none => rfl
      | some u =>
        have co : c ≠ o := fun z => by
          rw [z, ho7] at hc
          cases hc
        rw [(x5.trans y7) _ _ co e] at hc
        cases hc
    -- _steps
    refine ⟨_, rfl, S M.cs, rfl, fun D2 nD2 => dc_grow (tv := teSt K) wk_str (fun i => .inr (S [M.cs.getD i 0])) (fun i v H => ∃ t, v = .ref t ∧ StepX D2 Hi H t (colsOf M.st.length (M.tb (M.cs.getD i 0)))) ?_ (kf_inj ndc) nD2 (by rw [asz]; omega) (fun _ _ => trivial) (fun i x H8 R hi s8 hx r => ?_) (fun i x H8 R hi s8 h8 hx r => ?_) fun H8 vs s8 h8 l8 hz => ?_⟩
    · rintro i v H H' sx ⟨t, rfl, h⟩
      exact ⟨t, rfl, h.sx sx⟩
    · obtain ⟨c, hc, e, hm, rfl⟩ := str_at hx
      rw [e] at r
      exact ⟨_, rfl, r⟩
    · obtain ⟨c, hc, e, hm, rfl⟩ := str_at hx
      rw [e] at r
      obtain ⟨kvs, h8⟩ := h8
      have hg := DGet.k (k := Sum.inr (S [c])) (s8 _ _ hD7)
      rw [valV_dAt tt hm] at hg
      refine ⟨_, rfl, .ref o, rfl, o, _, dx, _, .ref D, rfl, s8 _ _ ho7, T.o.cl, nf _ (by decide +kernel), rfl, _, rfl, D, _, rfl, hg, f, tt c, M.p, M.tb c, M.st.length, rfl, F7.same s8, (htt7 c hm).same s8, ok.sq c hm, n24, fun s9 H9 t9 h9 => r _ _ t9 ⟨s9, rfl, (h9.from (fun b hb => back _ (none_of s8 hb))).x (t9 _ _ h8) (fun _ z => by cases z) (fun _ z => by cases z)⟩⟩
    obtain ⟨sa, eD2, hsa⟩ := dAt_of ndc asz l8 (fun i t => StepX D2 Hi H8 t (colsOf M.st.length (M.tb (M.cs.getD i 0)))) hz
    rw [eD2] at h8
    have ho8 := s8 _ _ ho7
    refine ⟨_, rfl, o, _, dx, _, rfl, ho8, T.o.cl, nf _ (by decide +kernel), by show 5 < 1000; decide, ?_⟩
    have oD2 : D2 ≠ o := (ne_of_none ho7 nD2).symm
    have z9 : SameX o H8 (upd H8 o (.ins (MA K) dx (putF "_steps" (.ref D2) [("_field", .ref f), ("_letters", .str (S M.cs)), ("_start", .ref ua), ("_ends", .ref ub), ("_tables", .ref D)]))) := sameX_upd
    have y9 := (y7.trans (Same.toX s8)).trans z9
    rw [← eHi] at q
    refine q _ (by rw [eHi]; exact x5.trans y9) ⟨⟨dx, f, ua, ub, D, D2, sa, ?_, ?_, y9 _ _ oa ha5, y9 _ _ ob hb5, z9 _ _ oD2 h8, fun c hc => ?_⟩, ok⟩
    · rw [upd_same]
      rfl
    · obtain ⟨C, fdx, fc, mc, e⟩ := F7.same s8
      have fo : f ≠ o := fun z => by
        rw [z, ho8] at e
        cases e
      exact ⟨C, fdx, fc, mc, z9 _ _ fo e⟩
    · obtain ⟨i, hi⟩ := List.mem_iff_getElem?.mp hc
      have h := hsa i c hi
      have e : M.cs.getD i 0 = c := by rw [List.getD_eq_getElem?_getD, hi]; rfl
      rw [e] at h
      exact h.toF.off z9 ho8
end
end K19

namespace Ver
open PySem PySem.Spec PyProof.Rows L2
theorem FnG.up {P : Program} {w : World} {K : PySem.W.Frag} {mg : Str → Option Value} {base : Heap} {CX : CXT} {k : Nat} {f : Addr} {sp : Sp} (F : FnG P w K mg base CX0 k f sp) : FnG P w K mg base CX k f sp :=
  fun A outer s H us vs Q E g hr e0 r q => codeAny_mono (F A outer s H us vs Q E g hr e0 r q) fun rs s' z => by
    match rs, z with
    | .error _, z => exact z.elim
    | .ok (.ret _), z => exact z
    | .ok .next, z => exact z.elim
    | .ok .brk, z => exact z.elim
    | .ok .cont, z => exact z.elim
end Ver
namespace K19
open PySem PySem.Spec PyProof.Rows L2 Ver Num SX
section
variable {P : Program} {w : World} {K : PySem.W.Frag} {mg : Str → Option Value} {base : Heap}
section
variable {k : Nat} {sp : Sp}
theorem mkX_value_of (S : He.SaysD fa fn K) (len : ∀ vs H Q E, sp vs H Q E → vs.length = 2)
    (hb : ∀ (cdv : Value) (A : Around) (outer : List Env) (s : Shared) (H : Hp) (vs : List V) (Q : VK) (E : XK), A.guards = some [] → Room k (A.deeper (envOfC "Machine.value_of" (defScope s_Machine_value_of) s.heap.objs.size (He.ma K (He.ga K "Machine") "value_of") cdv)) → sp vs H Q E →
      ∃ t, PSs (cxOf (L2.CX P w) P w K mg base n_Machine_value_of "Machine.value_of" (defScope s_Machine_value_of) (He.ma K (He.ga K "Machine") "value_of") cdv A outer s H E) (defBody s_Machine_value_of) t ∧ t { nx := fun _ H' => Q .non H', rt := Q } (start n_Machine_value_of vs) H) : FnG P w K mg base (L2.CX P w) (k + 1) (He.ma K (He.ga K "Machine") "value_of") sp := by
  obtain ⟨fd, F⟩ := S.def_ 23 (d := d_Machine_value_of) rfl
  exact okG F sc_Machine_value_of (F.bindsA fun _ _ _ _ _ _ us hl => match us, hl with | [_, _], _ => rfl) len hb
theorem mkX_state_after (S : He.SaysD fa fn K) (len : ∀ vs H Q E, sp vs H Q E → vs.length = 2)
    (hb : ∀ (cdv : Value) (A : Around) (outer : List Env) (s : Shared) (H : Hp) (vs : List V) (Q : VK) (E : XK), A.guards = some [] → Room k (A.deeper (envOfC "Machine.state_after" (defScope s_Machine_state_after) s.heap.objs.size (He.ma K (He.ga K "Machine") "state_after") cdv)) → sp vs H Q E →
      ∃ t, PSs (cxOf (L2.CX P w) P w K mg base n_Machine_state_after "Machine.state_after" (defScope s_Machine_state_after) (He.ma K (He.ga K "Machine") "state_after") cdv A outer s H E) (defBody s_Machine_state_after) t ∧ t { nx := fun _ H' => Q .non H', rt := Q } (start n_Machine_state_after vs) H) : FnG P w K mg base (L2.CX P w) (k + 1) (He.ma K (He.ga K "Machine") "state_after") sp := by
  obtain ⟨fd, F⟩ := S.def_ 24 (d := d_Machine_state_after) rfl
  exact okG F sc_Machine_state_after (F.bindsA fun _ _ _ _ _ _ us hl => match us, hl with | [_, _], _ => rfl) len hb
end
/-! ### reading a machine -/
theorem lk6 {m : Str} (h : m ∈ mms) {a b c d e f : V} : List.lookup m [(("_field" : Str), a), ("_letters", b), ("_start", c), ("_ends", d), ("_tables", e), ("_steps", f)] = none := by
  have : ∀ m ∈ mms, (m == ("_field" : Str)) = false ∧ (m == ("_letters" : Str)) = false ∧ (m == ("_start" : Str)) = false ∧ (m == ("_ends" : Str)) = false ∧ (m == ("_tables" : Str)) = false ∧ (m == ("_steps" : Str)) = false := by decide +kernel
  obtain ⟨h1, h2, h3, h4, h5, h6⟩ := this m h
  simp only [List.lookup, h1, h2, h3, h4, h5, h6]
theorem go_M {T : Tx K mg} {σ : L2.St} {H : Hp} {m : Addr} {M : Mac} {i : Nat} {Q : VK} {nm : Str} {sp : Sp} {E : XK} {t : TA} (h0 : σ[i]? = some (some (.ref m))) (A : MachAt K H m M) (hm : nm ∈ mms)
    (q : t σ H fun vs H2 => sp (.ref m :: vs) H2 Q E) : tMethG K nm (He.ma K (MA K) nm) sp E (tVar i) t σ H Q := by
  obtain ⟨dx, f, a, b, dt, ds, sa, e, _⟩ := A.ex
  exact ⟨.ref m, h0, m, MA K, dx, _, rfl, e, T.o.cl, T.o.me _ hm, lk6 hm, q⟩
/-- its field asked -/
theorem go_F {K : PySem.W.Frag} {σ : L2.St} {H : Hp} {f : Addr} {φ : Fk} {Q : VK} {m : Str} {sp : Sp} {E : XK} {t : TA} (F : FieldC K H f φ) (hm : m ∈ (fms : List Str)) (hn : (m == ("_prime" : Str)) = false)
    (q : t σ H fun vs H2 => sp (.ref f :: vs) H2 Q E) : ∃ a C dx fs, (V.ref f) = .ref a ∧ H a = some (.ins C dx fs) ∧ Cls K C ∧ Meth K C m (He.ma K (He.ga K "Field") m) ∧ fs.lookup m = none ∧ t σ H fun vs H2 => sp (.ref a :: vs) H2 Q E := by
  obtain ⟨C, dx, c, mm, e⟩ := F
  exact ⟨f, C, dx, _, rfl, e, c.cl, c.m m hm, pf_no _ hn, q⟩
/-! ### the words that are none -/
def spErr (C : Addr) (f : Str) : Sp := fun vs H Q _ => ∃ (a : Addr) (x : V), vs = [.ref a, x] ∧ H a = some (exo a C none) ∧ ∀ dx, H dx = none → dx ≠ a → Q .non (upd (upd H dx (exd dx [(f, x)])) a (exo a C (some dx)))
theorem ok_InvalidWord (T : Tx K mg) : ∃ fd, FnOk P w K mg base CX0 1 (He.ma K (He.ga K "InvalidWord") "__init__") fd ["self", "value"] (spErr (He.ga K "InvalidWord") "value") ∧ Binds K fd ["self", "value"] [] := by
  have EC := T.eW
  obtain ⟨fd, FD⟩ := T.d.def_ 4 (d := d_InvalidWord___init__) rfl
  have hb : Binds K fd ["self", "value"] [] := FD.bindsN fun _ _ _ _ _ _ us hl => match us, hl with | [_, _], _ => rfl
  obtain ⟨⟨oc, od, dV, kV, doc, pm, an, cdv, ct, osl, rfl, lk, hcd, _⟩, _⟩ := FD
  refine ⟨_, fn_of lk hcd sc_InvalidWord___init__ (fun vs H Q E h => ?_) (fun A outer s H vs Q E hr h => ?_), hb⟩
  · obtain ⟨a, x, rfl, _⟩ := h
    rfl
  · obtain ⟨a, x, rfl, ea, q⟩ := h
    refine ⟨_, PSs.nox (pss_cons (ps_expr (pe_veinit (by rfl) (T.z "ValueError" (by decide +kernel)) T.vV (pa_cons (pv 0) (pa_cons (pv 1) pa_nil)))) (pss_one (ps_ost (pv 0) (pv 1)))), ?_⟩
    exact ⟨_, rfl, _, rfl, a, He.ga K "InvalidWord", [x], rfl, by show 1 ≤ 1000; decide, EC.ox, ea, _, rfl, _, rfl, a, He.ga K "InvalidWord", rfl, EC.ox, EC.nf, .inl ⟨ea, q⟩⟩
theorem err_mk {C : Addr} {f : Str} {x : V} {H : Hp} {a : Addr} {Q : XK} (na : H a = none) (q : ∀ (dd : Addr) (H' : Hp), Same H H' → H' dd = some (.xd [(f, x)]) → Q (.ref C) (some dd) H') :
    spErr C f [.ref a, x] (upd H a (exo a C none)) (fun v H2 => v = .non ∧ ∃ (d : Addr) (fs : List (Str × V)), H2 a = some (exo a C (some d)) ∧ H2 d = some (exd d fs) ∧ H d = none ∧ Q (.ref C) (some d) (upd (del H2 a) d (.xd fs))) (fun _ _ _ => False) := by
  refine ⟨a, x, rfl, upd_same, fun dx hd ne => ⟨rfl, dx, [(f, x)], upd_same, by rw [upd_ne ne]; exact upd_same, ?_, q dx _ (fun b o e => ?_) upd_same⟩⟩
  · rw [upd_ne ne] at hd
    exact hd
  · have hdx : H dx = none := by
      rw [upd_ne ne] at hd
      exact hd
    rw [upd_ne (ne_of_none e hdx), del_ne (ne_of_none e na), upd_ne (ne_of_none e na), upd_ne (ne_of_none e hdx), upd_ne (ne_of_none e na)]
    exact e
/-- a word, or else its error -/
def CheckW (K : PySem.W.Frag) (M : Mac) (x : V) (d : PyData) (H : Hp) (ok : Hp → Prop) (E : XK) : Prop :=
  (isW M.cs d = true → ok H) ∧ (isW M.cs d = false → ∀ (dd : Addr) (H' : Hp), Same H H' → H' dd = some (.xd [(("value" : Str), x)]) → E (.ref (He.ga K "InvalidWord")) (some dd) H')
def spCWB (K : PySem.W.Frag) : Sp := fun vs H Q E => ∃ (m l : Addr) (M : Mac) (x : V) (d : PyData), vs = [.ref m, .ref l] ∧ MachAt K H m M ∧ H l = some (.tup [x]) ∧ Do K H x d ∧ smallD d ∧ CheckW K M x d H (fun H' => Q .non H') E
def spCW (K : PySem.W.Frag) : Sp := fun vs H Q E => ∃ (m : Addr) (M : Mac) (x : V) (d : PyData), vs = [.ref m, x] ∧ MachAt K H m M ∧ Do K H x d ∧ smallD d ∧
  (isW M.cs d = true → ∀ H', Same H H' → Q .non H') ∧ (isW M.cs d = false → ∀ (dd : Addr) (H' : Hp), Same H H' → H' dd = some (.xd [(("value" : Str), x)]) → E (.ref (He.ga K "InvalidWord")) (some dd) H')
theorem ok_cw (T : Tx K mg) : FnG P w K mg base (L2.CX P w) 3 (He.ma K (He.ga K "Machine") "_check_words") (spCW K) := by
  obtain ⟨fd, FD⟩ := T.d.def_ 25 (d := d_Machine__check_words) rfl
  obtain ⟨fe, F1, bd⟩ := ok_InvalidWord (P := P) (w := w) (base := base) T
  have star := okStarX (P := P) (w := w) (mg := mg) (base := base) (k := 2) (sp := spCWB K) (ps := ["self"]) (pr := "values") FD sc_Machine__check_words
    (fun kV doc pm an cdv ct us rest hl => by
      match us, hl with
      | [a], _ => cases rest <;> rfl) (fun cdv A outer s H vs Q E hg hr h => by
      obtain ⟨m, l, M, x, d, rfl, At, hl, hd, sm, qw, qe⟩ := h
      have nd := sc_Machine__check_words.nd
      refine ⟨_, pss_one (ps_for (passes_of rfl) rfl (pi_tup (pv 1)) (pg_name (i := 2) nd rfl (.inl rfl))
        (pss_one (ps_if (pt_not (pt_val (pe_callG (ok_is_word T) (hr.mono (by decide)) hg (by rfl) (T.g "is_word" (by decide +kernel)) (kp_is_word T.d) pass0 (pa_cons (pv 2) (pa_cons (pe_fld (pv 0) rfl) pa_nil)))))
          (pss_one (ps_raise rfl (takes_of rfl rfl rfl rfl) (pmk_oex T.eW.ox T.eW.iC T.eW.tI F1 (hr.mono (by decide)) bd .nil pass0 (by rfl) (T.g "InvalidWord" (by decide +kernel)) (pa_cons (pv 2) pa_nil)))) pss_nil))), ?_⟩
      obtain ⟨dx, f, a, b, dt, ds, sa, e, _⟩ := At.ex
      refine ⟨_, rfl, l, rfl, ⟨_, SqT.of hl⟩, for_it (wk_tup (K := K) (a := l) (xs := [x])) (fun i σ H' => ∃ v : Option V, σ = [some (.ref m), some (.ref l), v] ∧ H' = H ∧ (i = 1 → isW M.cs d = true)) ⟨none, rfl, rfl, fun z => by cases z⟩ (fun _ _ _ _ ⟨_, _, e, _⟩ => by rw [e]; exact SqT.of hl) ?_ ?_⟩
      · rintro i y σ H1 H2 hi ⟨v, rfl, rfl, hz⟩ ⟨rfl, hy⟩
        have i0 : i = 0 := by simp at hi; exact hi
        subst i0
        cases hy
        refine ⟨_, rfl, _, rfl, m, _, dx, _, _, rfl, e, T.o.cl, T.o.na _ (by decide +kernel), rfl, x, d, M.cs, rfl, hd, sm, _, rfl, ?_⟩
        cases hw : isW M.cs d with
        | true => exact ifF rfl ⟨_, rfl, rfl, fun _ => rfl⟩
        | false => exact ifT rfl ⟨_, rfl, by show 1 ≤ 1000; decide, fun a na => err_mk na fun dd H3 s3 hdd => qe hw dd H3 s3 hdd⟩
      · rintro σ H1 ⟨v, rfl, rfl, hz⟩
        exact qw (hz rfl))
  intro A outer s H us vs Q E hg hr e0 r h
  obtain ⟨m, M, x, d, rfl, At, hd, sm, qw, qe⟩ := h
  refine star A outer s H us _ Q E hg hr e0 r ⟨[.ref m], [x], rfl, rfl, (by show 1 ≤ sizeLine; decide), fun t nt => ?_⟩
  have s0 := same_up (o := .tup [x]) nt
  exact ⟨m, t, M, x, d, rfl, At.same s0, upd_same, Do.same s0 _ _ hd, sm, fun hw => qw hw _ s0, fun hw dd H' s' hdd => qe hw dd H' (s0.trans s') hdd⟩
end
end K19

namespace K19
open PySem PySem.Spec PyProof.Rows L2 Ver Num SX
/-! ### values and states -/
/-- the columns of a letter -/
def colM (M : Mac) (c : Nat) : List (List Int) := colsOf M.st.length (M.tb c)
/-- the row after a word -/
def stW (M : Mac) (xs : List Int) (u : Wd) : List Int := u.foldl (fun s c => goI M.p (colM M c) s) xs
def stM (M : Mac) (u : Wd) : List Int := stW M M.st u
def valM (M : Mac) (u : Wd) : Int := dotI (stM M u) M.en % M.p
theorem colsOf_len (n : Nat) (rows : List (List Int)) : (colsOf n rows).length = n := by simp [colsOf]
theorem colOf_len {n : Nat} : ∀ {rows : List (List Int)}, (∀ r ∈ rows, r.length = n) → ∀ {j : Nat}, j < n → (colOf rows j).length = rows.length
  | [], _, j, _ => rfl
  | r :: rows, h, j, hj => by
    have hr := h r List.mem_cons_self
    have ih := colOf_len (fun r' h' => h r' (List.mem_cons_of_mem _ h')) hj
    unfold colOf at ih ⊢
    rw [List.filterMap_cons, List.getElem?_eq_getElem (show j < r.length by omega)]
    show (_ :: _).length = _
    rw [List.length_cons, ih, List.length_cons]
theorem colOf_in {p : Int} {rows : List (List Int)} (h : ∀ r ∈ rows, InP p r) {j : Nat} : InP p (colOf rows j) := fun x hx => by
  unfold colOf at hx
  obtain ⟨r, hr, e⟩ := List.mem_filterMap.mp hx
  exact h r hr x (List.mem_of_getElem? e)
theorem cols_ok {M : Mac} (ok : MOk M) {c : Nat} (hc : c ∈ M.cs) : ∀ l ∈ colM M c, l.length = M.st.length ∧ InP M.p l := fun l hl => by
  obtain ⟨j, hj, rfl⟩ := List.mem_map.mp hl
  have sq := ok.sq c hc
  exact ⟨by rw [colOf_len sq.r (List.mem_range.mp hj), sq.l], colOf_in (ok.itb c hc)⟩
theorem goI_len (p : Int) (cols : List (List Int)) (xs : List Int) : (goI p cols xs).length = cols.length := by simp [goI]
theorem stW_cons (M : Mac) (xs : List Int) (c : Nat) (u : Wd) : stW M xs (c :: u) = stW M (goI M.p (colM M c) xs) u := rfl
theorem stW_next (M : Mac) (xs : List Int) {u : Wd} {j c : Nat} (h : u[j]? = some c) : stW M xs (u.take (j + 1)) = goI M.p (colM M c) (stW M xs (u.take j)) := by
  unfold stW
  rw [Ver.take_next h, List.foldl_append]
  rfl
theorem stW_ok {M : Mac} (ok : MOk M) : ∀ {u : Wd} {xs : List Int}, (∀ c ∈ u, c ∈ M.cs) → xs.length = M.st.length → InP M.p xs → (stW M xs u).length = M.st.length ∧ InP M.p (stW M xs u)
  | [], xs, _, l, i => ⟨l, i⟩
  | c :: u, xs, h, l, i => by
    rw [stW_cons]
    have lo := ok.pm.md.lo
    exact stW_ok ok (fun d hd => h d (List.mem_cons_of_mem _ hd)) (by rw [goI_len, colM, colsOf_len]) (inP_go (by omega) _ _)
theorem stM_ok {M : Mac} (ok : MOk M) {u : Wd} (h : ∀ c ∈ u, c ∈ M.cs) : (stM M u).length = M.st.length ∧ InP M.p (stM M u) := stW_ok ok h rfl ok.ist
section
variable {P : Program} {w : World} {K : PySem.W.Frag} {mg : Str → Option Value} {base : Heap}
def spRow (K : PySem.W.Frag) : Sp := fun vs H Q _ => ∃ (m r : Addr) (M : Mac) (xs : List Int) (u : Wd), vs = [.ref m, .ref r, vS u] ∧ MachAt K H m M ∧ RowA K H r xs ∧ xs.length = M.st.length ∧ InP M.p xs ∧ (∀ c ∈ u, c ∈ M.cs) ∧ ∀ t H', Same H H' → RowA K H' t (stW M xs u) → Q (.ref t) H'
theorem ok_row (T : Tx K mg) : FnG P w K mg base CX0 4 (He.ma K (He.ga K "Machine") "_row_after") (spRow K) := by
  refine mk_Machine__row_after T.d (fun vs H Q E h => ?_) (fun cdv A outer s H vs Q E hg hr h => ?_)
  · obtain ⟨m, r, M, xs, u, rfl, _⟩ := h
    rfl
  · obtain ⟨m, r, M, xs, u, rfl, At, hr1, lx, ix, hu0, q⟩ := h
    have nd := sc_Machine__row_after.nd
    have hu : (A.deeper (envOfC "Machine._row_after" (defScope s_Machine__row_after) s.heap.objs.size (He.ma K (He.ga K "Machine") "_row_after") cdv)).units + 1 < cLine := by have := hr.units; omega
    refine ⟨_, pss_cons (ps_for PassesOwn.never rfl (pi_str (pv 2)) (pg_name (i := 3) nd rfl (.inl rfl))
        (pss_one (ps_set (i := 1) nd rfl (Or.inl rfl) (pe_callG (ok_ra T) hr hg (by rfl) (T.g "row_after" (by decide +kernel)) (kp_row_after T.d) pass0 (pa_cons (pe_fld (pv 0) rfl) (pa_cons (pv 1) (pa_cons (pe_dget hu (pe_fld (pv 0) rfl) (pv 3) (fun _ _ => rfl)) pa_nil)))))))
      (pss_one (ps_ret (pv 1))), ?_⟩
    have ok := At.ok
    have lo := ok.pm.md.lo
    have hi9 := ok.pm.md.hi
    have n24 := ok.n24
    refine ⟨_, rfl, S u, rfl, for_it wk_str (fun j σ H' => ∃ (t : Addr) (v : Option V), σ = [some (.ref m), some (.ref t), some (vS u), v] ∧ Same H H' ∧ RowA K H' t (stW M xs (u.take j))) ⟨r, none, rfl, Same.refl H, hr1⟩ (fun _ _ _ _ _ => trivial) ?_ ?_⟩
    · rintro j x σ H1 H2 hj ⟨t, v, rfl, s1, ht⟩ ⟨rfl, c, hc, rfl⟩
      rw [← Array.getElem?_toList, chars_S] at hc
      have hm := hu0 c (List.mem_of_getElem? hc)
      obtain ⟨dx, f, a, b, dt, ds, sa, e, F, ha, hb, hd, hs⟩ := (At.same s1).ex
      have hg2 := DGet.k (k := Sum.inr (S [c])) hd
      rw [valV_dAt sa hm] at hg2
      obtain ⟨l1, i1⟩ := stW_ok ok (u := u.take j) (fun c h => hu0 c (List.mem_of_mem_take h)) lx ix
      refine ⟨_, rfl, m, _, dx, _, _, rfl, e, T.o.cl, T.o.na _ (by decide +kernel), rfl, _, rfl, _, rfl, m, _, dx, _, _, rfl, e, T.o.cl, T.o.na _ (by decide +kernel), rfl, _, rfl, ds, _, rfl, hg2, ?_⟩
      refine ⟨f, t, sa c, M.p, _, colM M c, rfl, F, by omega, hi9, ht, (hs c hm).toA, i1, fun l hl => ?_, by rw [colM, colsOf_len]; exact n24, by omega, fun t2 H3 s3 h3 => ⟨t2, _, rfl, s1.trans s3, ?_⟩⟩
      · obtain ⟨e1, e2⟩ := cols_ok ok hm l hl
        exact ⟨by rw [e1, l1], e2⟩
      · rw [stW_next M xs hc]
        exact h3
    · rintro σ H1 ⟨t, v, rfl, s1, ht⟩
      have el : (S u).cps.size = u.length := by simp
      rw [el, List.take_length] at ht
      exact ⟨_, rfl, q t H1 s1 ht⟩
def spBehind (K : PySem.W.Frag) : Sp := fun vs H Q _ => ∃ (m : Addr) (M : Mac) (u : Wd), vs = [.ref m, vS u] ∧ MachAt K H m M ∧ (∀ c ∈ u, c ∈ M.cs) ∧ ∀ t H', Same H H' → RowA K H' t (stM M u) → Q (.ref t) H'
theorem ok_behind (T : Tx K mg) : FnG P w K mg base CX0 5 (He.ma K (He.ga K "Machine") "_row_behind") (spBehind K) := by
  refine mk_Machine__row_behind T.d (fun vs H Q E h => ?_) (fun cdv A outer s H vs Q E hg hr h => ?_)
  · obtain ⟨m, M, u, rfl, _⟩ := h
    rfl
  · obtain ⟨m, M, u, rfl, At, hu0, q⟩ := h
    have nd := sc_Machine__row_behind.nd
    refine ⟨_, pss_one (ps_ret (pe_methG (pv 0) (kp_Machine__row_after T.d) (ok_row T) hr hg pass0 (pa_cons (pe_methG (pe_fld (pv 0) rfl) (kp_Field_common T.d) (ok_common T) (hr.mono (by decide)) hg pass0 (pa_cons (pe_fld (pv 0) rfl) pa_nil)) (pa_cons (pv 1) pa_nil)))), ?_⟩
    obtain ⟨dx, f, a, b, dt, ds, sa, e, F, ha, hb, hd, hs⟩ := id At.ex
    refine go_M (T := T) rfl At (by decide +kernel) ⟨_, rfl, m, _, dx, _, _, rfl, e, T.o.cl, T.o.na _ (by decide +kernel), rfl, go_F F (by decide +kernel) (by decide +kernel) ?_⟩
    refine ⟨_, rfl, m, _, dx, _, _, rfl, e, T.o.cl, T.o.na _ (by decide +kernel), rfl, f, M.p, _, rfl, F, fun t H1 s1 ht => ?_⟩
    exact ⟨_, rfl, m, t, M, M.st, u, rfl, At.same s1, ⟨a, true, .inl (.inl ht), .inl (.inl (s1 _ _ ha))⟩, rfl, At.ok.ist, hu0, fun t2 H2 s2 h2 => q t2 H2 (s1.trans s2) h2⟩
def spAt (K : PySem.W.Frag) : Sp := fun vs H Q _ => ∃ (m r : Addr) (M : Mac) (xs : List Int), vs = [.ref m, .ref r] ∧ MachAt K H m M ∧ RowA K H r xs ∧ xs.length = M.st.length ∧ InP M.p xs ∧ ∀ H', Same H H' → Q (.int (dotI xs M.en % M.p)) H'
theorem ok_at (T : Tx K mg) : FnG P w K mg base CX0 4 (He.ma K (He.ga K "Machine") "_value_at") (spAt K) := by
  refine mk_Machine__value_at T.d (fun vs H Q E h => ?_) (fun cdv A outer s H vs Q E hg hr h => ?_)
  · obtain ⟨m, r, M, xs, rfl, _⟩ := h
    rfl
  · obtain ⟨m, r, M, xs, rfl, At, hr1, lx, ix, q⟩ := h
    have nd := sc_Machine__value_at.nd
    refine ⟨_, pss_one (ps_ret (pe_callG (ok_rdot T) hr hg (by rfl) (T.g "row_dot" (by decide +kernel)) (kp_row_dot T.d) pass0 (pa_cons (pe_fld (pv 0) rfl) (pa_cons (pv 1) (pa_cons (pe_methG (pe_fld (pv 0) rfl) (kp_Field_common T.d) (ok_common T) (hr.mono (by decide)) hg pass0 (pa_cons (pe_fld (pv 0) rfl) pa_nil)) pa_nil))))), ?_⟩
    obtain ⟨dx, f, a, b, dt, ds, sa, e, F, ha, hb, hd, hs⟩ := id At.ex
    have ok := At.ok
    have lo := ok.pm.md.lo
    have hi9 := ok.pm.md.hi
    have n24 := ok.n24
    have le := ok.en
    refine ⟨_, rfl, m, _, dx, _, _, rfl, e, T.o.cl, T.o.na _ (by decide +kernel), rfl, _, rfl, _, rfl, m, _, dx, _, _, rfl, e, T.o.cl, T.o.na _ (by decide +kernel), rfl, go_F F (by decide +kernel) (by decide +kernel) ?_⟩
    refine ⟨_, rfl, m, _, dx, _, _, rfl, e, T.o.cl, T.o.na _ (by decide +kernel), rfl, f, M.p, _, rfl, F, fun t H1 s1 ht => ?_⟩
    exact ⟨f, r, t, M.p, xs, M.en, rfl, F.same s1, by omega, hi9, hr1.same s1, ⟨b, true, .inl (.inl ht), .inl (.inl (s1 _ _ hb))⟩, ix, ok.ien, by omega, by omega, fun H2 s2 => q H2 (s1.trans s2)⟩
/-! ### asked -/
def spVal (K : PySem.W.Frag) : Sp := fun vs H Q E => ∃ (m : Addr) (M : Mac) (x : V) (d : PyData), vs = [.ref m, x] ∧ MachAt K H m M ∧ Do K H x d ∧ smallD d ∧
  (∀ u, d = .str (S u) → u.length ≤ 160 → (∀ c ∈ u, c ∈ M.cs) → ∀ H', Same H H' → Q (.int (valM M u)) H') ∧ (isW M.cs d = false → ∀ (dd : Addr) (H' : Hp), Same H H' → H' dd = some (.xd [(("value" : Str), x)]) → E (.ref (He.ga K "InvalidWord")) (some dd) H')
theorem isW_true {cs : Wd} {K : PySem.W.Frag} {H : Hp} {x : V} {d : PyData} (h : isW cs d = true) (hd : Do K H x d) : ∃ u, d = .str (S u) ∧ x = vS u ∧ u.length ≤ 160 ∧ ∀ c ∈ u, c ∈ cs := by
  obtain ⟨s', rfl⟩ : ∃ s', d = .str s' := by
    cases d with
    | str s' => exact ⟨s', rfl⟩
    | _ => cases h
  obtain ⟨u, rfl⟩ : ∃ u, s' = S u := ⟨TL.tl s', (S_tl s').symm⟩
  cases hd
  obtain ⟨h1, h2⟩ := isW_S.mp h
  exact ⟨u, rfl, rfl, h1, h2⟩
theorem ok_val (T : Tx K mg) : FnG P w K mg base (L2.CX P w) 6 (He.ma K (He.ga K "Machine") "value_of") (spVal K) := by
  refine mkX_value_of T.d (fun vs H Q E h => ?_) (fun cdv A outer s H vs Q E hg hr h => ?_)
  · obtain ⟨m, M, x, d, rfl, _⟩ := h
    rfl
  · obtain ⟨m, M, x, d, rfl, At, hd, sm, qw, qe⟩ := h
    have nd := sc_Machine_value_of.nd
    refine ⟨_, pss_cons (ps_expr (pe_methG (pv 0) (kp_Machine__check_words T.d) (ok_cw T) (hr.mono (by decide)) hg (passes_call (takes_of rfl rfl rfl rfl) fun _ _ _ _ z => z) (pa_cons (pv 1) pa_nil)))
      (pss_one (ps_ret (pe_methG (pv 0) (kp_Machine__value_at T.d) (ok_at T) (hr.mono (by decide)) hg pass0 (pa_cons (pe_methG (pv 0) (kp_Machine__row_behind T.d) (ok_behind T) hr hg pass0 (pa_cons (pv 1) pa_nil)) pa_nil)))), ?_⟩
    refine go_M (T := T) rfl At (by decide +kernel) ⟨_, rfl, m, M, x, d, rfl, At, hd, sm, fun hw H1 s1 => ?_, qe⟩
    obtain ⟨u, rfl, rfl, l160, hu0⟩ := isW_true hw hd
    have At1 := At.same s1
    obtain ⟨l1, i1⟩ := stM_ok At.ok hu0
    refine go_M (T := T) rfl At1 (by decide +kernel) (go_M (T := T) rfl At1 (by decide +kernel) ⟨_, rfl, m, M, u, rfl, At1, hu0, fun t H2 s2 h2 => ?_⟩)
    exact ⟨m, t, M, _, rfl, At1.same s2, h2, l1, i1, fun H3 s3 => qw u rfl l160 hu0 H3 ((s1.trans s2).trans s3)⟩
def spSt (K : PySem.W.Frag) : Sp := fun vs H Q E => ∃ (m : Addr) (M : Mac) (x : V) (d : PyData), vs = [.ref m, x] ∧ MachAt K H m M ∧ Do K H x d ∧ smallD d ∧
  (∀ u, d = .str (S u) → u.length ≤ 160 → (∀ c ∈ u, c ∈ M.cs) → ∀ t H', Same H H' → H' t = some (.tup (nums (stM M u))) → Q (.ref t) H') ∧ (isW M.cs d = false → ∀ (dd : Addr) (H' : Hp), Same H H' → H' dd = some (.xd [(("value" : Str), x)]) → E (.ref (He.ga K "InvalidWord")) (some dd) H')
theorem ok_st (T : Tx K mg) : FnG P w K mg base (L2.CX P w) 6 (He.ma K (He.ga K "Machine") "state_after") (spSt K) := by
  refine mkX_state_after T.d (fun vs H Q E h => ?_) (fun cdv A outer s H vs Q E hg hr h => ?_)
  · obtain ⟨m, M, x, d, rfl, _⟩ := h
    rfl
  · obtain ⟨m, M, x, d, rfl, At, hd, sm, qw, qe⟩ := h
    have nd := sc_Machine_state_after.nd
    refine ⟨_, pss_cons (ps_expr (pe_methG (pv 0) (kp_Machine__check_words T.d) (ok_cw T) (hr.mono (by decide)) hg (passes_call (takes_of rfl rfl rfl rfl) fun _ _ _ _ z => z) (pa_cons (pv 1) pa_nil)))
      (pss_one (ps_ret (pe_callTy call_tuple_of (by rfl) (T.z "tuple" (by decide +kernel)) (by decide +kernel) (pa_cons (pe_callG (ok_no T) (hr.mono (by decide)) hg (by rfl) (T.g "numbers_of" (by decide +kernel)) (kp_numbers_of T.d) pass0
        (pa_cons (pe_fld (pv 0) rfl) (pa_cons (pe_methG (pv 0) (kp_Machine__row_behind T.d) (ok_behind T) hr hg pass0 (pa_cons (pv 1) pa_nil)) pa_nil))) pa_nil)))), ?_⟩
    refine go_M (T := T) rfl At (by decide +kernel) ⟨_, rfl, m, M, x, d, rfl, At, hd, sm, fun hw H1 s1 => ?_, qe⟩
    obtain ⟨u, rfl, rfl, l160, hu0⟩ := isW_true hw hd
    have At1 := At.same s1
    obtain ⟨l1, i1⟩ := stM_ok At.ok hu0
    obtain ⟨dx, f, a, b, dt, ds, sa, e, F, ha, hb, hd2, hs⟩ := id At1.ex
    have n24 := At.ok.n24
    have lo := At.ok.pm.md.lo
    refine ⟨_, rfl, m, _, dx, _, _, rfl, e, T.o.cl, T.o.na _ (by decide +kernel), rfl, go_M (T := T) rfl At1 (by decide +kernel) ⟨_, rfl, m, M, u, rfl, At1, hu0, fun t H2 s2 h2 => ?_⟩⟩
    refine ⟨f, t, M.p, _, rfl, F.same s2, by omega, h2, i1, by omega, fun l H3 s3 h3 => ⟨l, _, rfl, .inl ⟨SqL.of h3, fun t3 nt3 => ?_⟩⟩⟩
    exact qw u rfl l160 hu0 t3 _ (((s1.trans s2).trans s3).trans (same_up nt3)) upd_same
end
end K19

namespace K19.F
open PySem PySem.Spec PyProof.Rows L2 Ver Num SX
/-! ### over the fractions -/
section
variable {P : Program} {w : World} {K : PySem.W.Frag} {mg : Str → Option Value} {base : Heap}
/-! ### shortened, ratio -/
def spShort : Sp := fun vs H Q _ => ∃ (t b : Int), vs = [.int t, .int b] ∧ b ≠ 0 ∧ b.natAbs < 2 ^ 4000 ∧ ∀ (x : V) (H' : Hp), Same H H' → NumQ H' x (Rat.divInt t b) → Q x H'
theorem ok_shortened (T : Tx K mg) : FnG P w K mg base CX0 1 (He.ga K "shortened") spShort := by
  refine mk_shortened T.d (fun vs H Q E h => ?_) (fun cdv A outer s H vs Q E hg hr h => ?_)
  · obtain ⟨t, b, rfl, _⟩ := h
    rfl
  · obtain ⟨t, b, rfl, b0, bb, q⟩ := h
    have nd := sc_shortened.nd
    refine ⟨_, pss_cons (ps_if (pt_cmpR op_eq (pv 1) pe_int (nomark _)) (pss_one (ps_ret (pv 0))) pss_nil)
      (pss_cons (ps_set (i := 2) nd rfl (Or.inl rfl) (pe_callBfun cr_gcd (by rfl) T.gcd (pa_cons (pv 0) (pa_cons (pv 1) pa_nil))))
      (pss_cons (ps_if (pt_cmpR op_lt (pv 1) pe_int (nomark _)) (pss_one (ps_set (i := 2) nd rfl (Or.inl rfl) (pe_un un_neg (pv 2)))) pss_nil)
      (pss_cons (ps_if (pt_cmpR op_eq (pv 1) (pv 2) (nomark _)) (pss_one (ps_ret (pe_op op_fdivZ (pv 0) (pv 2)))) pss_nil)
      (pss_one (ps_ret (pe_tup (pa_cons (pe_op op_fdivZ (pv 0) (pv 2)) (pa_cons (pe_op op_fdivZ (pv 1) (pv 2)) pa_nil)))))))), ?_⟩
    refine ⟨_, rfl, rfl, _, rfl, ?_⟩
    rw [iEq]
    by_cases b1 : b = 1
    · subst b1
      obtain ⟨o1, o2⟩ := dvs_one t
      exact ifT (decide_eq_true rfl) ⟨_, rfl, q _ H (Same.refl H) (NumQ.int o1 o2 rfl)⟩
    · refine ifF (decide_eq_false b1) ?_
      refine ⟨_, rfl, _, rfl, t, b, rfl, ?_⟩
      obtain ⟨o1, o2, o3, o4, _, _⟩ := dvs_out (t := t) b0
      have o5 := dvs_log (t := t) b0 bb (by decide) (by decide)
      refine ⟨_, rfl, _, _, rfl, rfl, _, rfl, ?_⟩
      by_cases hn : b < 0
      all_goals
        first
        | (rw [dvs_neg hn] at o1 o2 o3 o4 o5
           refine ifT (decide_eq_true hn) ⟨_, rfl, _, rfl, ?_⟩)
        | (rw [dvs_nn hn] at o1 o2 o3 o4 o5
           refine ifF (decide_eq_false hn) ?_)
        refine ⟨_, rfl, _, rfl, rfl, _, rfl, ?_⟩
        rw [iEq]
      · by_cases e : b = -((Nat.gcd t.natAbs b.natAbs : Nat) : Int)
        · exact ifT (decide_eq_true e) ⟨_, rfl, _, rfl, _, _, rfl, rfl, ⟨o1, o5⟩, q _ H (Same.refl H) (NumQ.int o2.symm (o4.mp e) rfl)⟩
        · refine ifF (decide_eq_false e) ⟨_, rfl, _, rfl, _, _, rfl, rfl, ⟨o1, o5⟩, _, rfl, _, rfl, _, _, rfl, rfl, ⟨o1, o5⟩, by show 2 ≤ sizeLine; decide, fun p np => q _ _ (same_up np) (.inr ⟨fun z => e (o4.mpr z), p, rfl, ?_⟩)⟩
          rw [← o2, ← o3]
          exact upd_same
      · by_cases e : b = ((Nat.gcd t.natAbs b.natAbs : Nat) : Int)
        · exact ifT (decide_eq_true e) ⟨_, rfl, _, rfl, _, _, rfl, rfl, ⟨o1, o5⟩, q _ H (Same.refl H) (NumQ.int o2.symm (o4.mp e) rfl)⟩
        · refine ifF (decide_eq_false e) ⟨_, rfl, _, rfl, _, _, rfl, rfl, ⟨o1, o5⟩, _, rfl, _, rfl, _, _, rfl, rfl, ⟨o1, o5⟩, by show 2 ≤ sizeLine; decide, fun p np => q _ _ (same_up np) (.inr ⟨fun z => e (o4.mpr z), p, rfl, ?_⟩)⟩
          rw [← o2, ← o3]
          exact upd_same
def spRatio (K : PySem.W.Frag) : Sp := fun vs H Q _ => ∃ (f : Addr) (t b : Int), vs = [.ref f, .int t, .int b] ∧ FieldC K H f .fr ∧ b ≠ 0 ∧ b.natAbs < 2 ^ 4000 ∧ ∀ (x : V) (H' : Hp), Same H H' → NumQ H' x (Rat.divInt t b) → Q x H'
theorem ok_ratio (T : Tx K mg) : FnG P w K mg base CX0 2 (He.ma K (He.ga K "Field") "ratio") (spRatio K) := by
  refine mk_Field_ratio T.d (fun vs H Q E h => ?_) (fun cdv A outer s H vs Q E hg hr h => ?_)
  · obtain ⟨f, t, b, rfl, _⟩ := h
    rfl
  · obtain ⟨f, t, b, rfl, F, b0, bb, q⟩ := h
    refine ⟨_, pss_cons (ps_if (pt_cmp (pc_isN (pe_fld (pv 0) rfl))) (pss_one (ps_ret (pe_callG (ok_shortened T) hr hg (by rfl) (T.g "shortened" (by decide +kernel)) (kp_shortened T.d) pass0 (pa_cons (pv 1) (pa_cons (pv 2) pa_nil))))) pss_nil) pss_never, ?_⟩
    exact rd_prime rfl F ⟨_, rfl, ifT rfl ⟨_, rfl, _, rfl, t, b, rfl, b0, bb, q⟩⟩
def spFInit (K : PySem.W.Frag) : Sp := fun vs H Q _ => ∃ (f C dx : Addr), vs = [.ref f, .non] ∧ FC K C ∧ H f = some (.ins C dx []) ∧ Q .non (upd H f (.ins C dx [(("_prime" : Str), V.non)]))
theorem ok_finit (T : Tx K mg) : FnG P w K mg base CX0 1 (He.ma K (He.ga K "Field") "__init__") (spFInit K) := by
  refine mk_Field___init__ T.d (fun vs H Q E h => ?_) (fun cdv A outer s H vs Q E hg hr h => ?_)
  · obtain ⟨f, C, dx, rfl, _⟩ := h
    rfl
  · obtain ⟨f, C, dx, rfl, c, hf, q⟩ := h
    exact ⟨_, pss_one (ps_fld (pv 0) (pv 1) rfl), ⟨_, rfl, _, rfl, f, C, dx, [], rfl, hf, c.cl, c.np, (by show 0 < 1000; decide), q⟩⟩
/-! ### Fractions() -/
def spFracInit (K : PySem.W.Frag) : Sp := fun vs H Q _ => ∃ (f dx : Addr), vs = [.ref f] ∧ H f = some (.ins (He.ga K "Fractions") dx []) ∧ Q .non (upd H f (.ins (He.ga K "Fractions") dx [(("_prime" : Str), V.non)]))
theorem ok_fracinit (T : Tx K mg) : FnG P w K mg base CX0 2 (He.ma K (He.ga K "Fractions") "__init__") (spFracInit K) := by
  refine mk_Fractions___init__ T.d (fun vs H Q E h => ?_) (fun cdv A outer s H vs Q E hg hr h => ?_)
  · obtain ⟨f, dx, rfl, _⟩ := h
    rfl
  · obtain ⟨f, dx, rfl, hf, q⟩ := h
    refine ⟨_, pss_one (ps_expr (pe_clsG (by rfl) (T.g "Field" (by decide +kernel)) T.rdF T.gaF T.fiF (kp_Field___init__ T.d) (ok_finit T) hr hg pass0 (pa_cons (pv 0) (pa_cons pe_non pa_nil)))), ?_⟩
    exact ⟨_, rfl, f, _, dx, rfl, T.fcF, hf, q⟩
end
end K19.F

/-! lc_grow, its own list told. -/
namespace Ver
open PySem PySem.Spec PyProof.Rows L2
section
variable {J : It} {n : Nat} {G : Hp → Prop} {Y : Nat → V → Prop}
/-- [e for x in ..]: x in slot j; of the i-th result Z i holds -/
theorem lc_growL (w : Walk J n G (fun i H x H' => H' = H ∧ Y i x)) {te : TE} {j : Nat} {σ : L2.St} {Hb : Hp} {D : Addr} {Qd : Hp → Prop} (Z : Nat → V → Hp → Prop)
    (zs : ∀ i v H H', SameX D H H' → Z i v H → Z i v H') (nD : Hb D = none) (few : n ≤ 20000) (hG : ∀ H, Same Hb H → G H)
    (hs : ∀ i x H (R : V → Hp → Prop), i < n → Same Hb H → (∃ l, H D = some (.lst l)) → Y i x → (∀ v H', Same H H' → Z i v H' → R v H') → te ((wipe σ [j]).set j (some x)) H R)
    (hd : ∀ H vs, Same Hb H → H D = some (.lst vs) → vs.length = n → (∀ i v, vs[i]? = some v → Z i v H) → Qd H) (hw : ∀ x : V, wipe ((wipe σ [j]).set j (some x)) [j] = wipe σ [j] := by intro _; rfl) :
    ∃ W : Nat → Nat → Hp → Prop, (∃ m, W 0 m (upd Hb D (.lst []))) ∧ ∀ i m H, W i m H →
      (J.stop i H ∧ Qd H) ∨ (J.go i H ∧ ∃ Nx : Hp → Prop, (∀ H', Nx H' → ∃ m', m' < m ∧ W (i + 1) m' H') ∧ ∀ x H', J.yld i H x H' → gName j x (wipe σ [j]) H' fun σ2 H2 => wipe σ2 [j] = wipe σ [j] ∧ tYes σ2 H2 fun b H3 =>
        if b = true then te σ2 H3 fun y H4 => ∃ acc, H4 D = some (.lst acc) ∧ acc.length < sizeLine ∧ Nx (upd H4 D (.lst (acc ++ [y]))) else Nx H3) := by
  refine lc_it w (fun i H => Same Hb H ∧ ∃ vs, H D = some (.lst vs) ∧ vs.length = i ∧ ∀ i v, vs[i]? = some v → Z i v H) ⟨same_new nD (fun _ _ e => e), [], upd_same, rfl, fun i v h => by simp at h⟩ (fun i H _ p => hG H p.1) (fun i x H H' hi p hy => ?_) fun H ⟨p, vs, h1, h2, h3⟩ => hd H vs p h1 h2 h3
  obtain ⟨rfl, hy⟩ := hy
  obtain ⟨p, vs, h1, h2, h3⟩ := p
  refine ⟨hw x, ?_⟩
  unfold tYes
  dsimp only
  rw [if_pos rfl]
  refine hs i x _ _ hi p ⟨_, h1⟩ hy fun v H2 s2 hz => ⟨vs, s2 _ _ h1, ?_, same_new nD (p.trans s2), vs ++ [v], upd_same, ?_, fun k u hk => ?_⟩
  · rw [h2, sizeLine_eq]
    omega
  · rw [List.length_append, h2]
    rfl
  · by_cases hkl : k < vs.length
    · rw [List.getElem?_append_left hkl] at hk
      exact zs _ _ _ _ ((Same.toX s2).trans sameX_upd) (h3 k u hk)
    · have hk2 : k = vs.length := by
        have := (List.getElem?_eq_some_iff.mp hk).1
        rw [List.length_append] at this
        simp at this
        omega
      subst hk2
      rw [List.getElem?_append_right (by omega), Nat.sub_self] at hk
      cases hk
      rw [h2]
      exact zs _ _ _ _ sameX_upd hz
end
theorem sqt_x {K : PySem.W.Frag} {D : Addr} {H H' : Hp} {p : Addr} {xs l : List V} (s : SameX D H H') (hD : H D = some (.lst l)) (h : SqT K H p xs) : SqT K H' p xs := by
  rcases h with (h | ⟨o, h⟩) | h
  · exact .inl (.inl (s _ _ (fun z => by rw [z, hD] at h; cases h) h))
  · exact .inl (.inr ⟨o, s _ _ (fun z => by rw [z, hD] at h; cases h) h⟩)
  · exact .inr h
/-- a tuple, not at D or of the written part -/
def SqTX (K : PySem.W.Frag) (D : Addr) (H : Hp) (p : Addr) (xs : List V) : Prop := (p ≠ D ∧ Rd H p (.tup xs)) ∨ ∃ (o : Obj) (its : Array Value) (n : Nat), K.lookup p = some o ∧ o.cls = .type "tuple" ∧ o.data = .seq its n ∧ its.size ≤ sizeLine ∧ Vals xs its.toList
theorem SqTX.sx {K : PySem.W.Frag} {D : Addr} {H H' : Hp} {p : Addr} {xs : List V} (h : SqTX K D H p xs) (s : SameX D H H') : SqTX K D H' p xs := by
  rcases h with ⟨n, h | ⟨o, h⟩⟩ | h
  · exact .inl ⟨n, .inl (s _ _ n h)⟩
  · exact .inl ⟨n, .inr ⟨o, s _ _ n h⟩⟩
  · exact .inr h
theorem SqTX.t {K : PySem.W.Frag} {D : Addr} {H : Hp} {p : Addr} {xs : List V} (h : SqTX K D H p xs) : SqT K H p xs := by
  rcases h with ⟨_, h⟩ | h
  · exact .inl h
  · exact .inr h
theorem sqtx_of {K : PySem.W.Frag} {D : Addr} {H : Hp} {p : Addr} {xs l : List V} (h : SqT K H p xs) (hD : H D = some (.lst l)) : SqTX K D H p xs := by
  rcases h with h | h
  · refine .inl ⟨fun z => ?_, h⟩
    rcases h with h | ⟨o, h⟩
    · rw [z, hD] at h; cases h
    · rw [z, hD] at h; cases h
  · exact .inr h
end Ver

namespace K19.F
open PySem PySem.Spec PyProof.Rows L2 Ver Num SX
/-! ### a common bottom -/
def NumsQ (H : Hp) (xs : List V) (qs : List Rat) : Prop := xs.length = qs.length ∧ ∀ (i : Nat) (x : V) (q : Rat), xs[i]? = some x → qs[i]? = some q → NumQ H x q
theorem NumsQ.same {H H' : Hp} {xs : List V} {qs : List Rat} (h : NumsQ H xs qs) (s : Same H H') : NumsQ H' xs qs := ⟨h.1, fun i x q a b => (h.2 i x q a b).same s⟩
theorem NumsQ.get {H : Hp} {xs : List V} {qs : List Rat} (h : NumsQ H xs qs) {i : Nat} {x : V} (e : xs[i]? = some x) : ∃ q, qs[i]? = some q ∧ NumQ H x q := by
  have li := (List.getElem?_eq_some_iff.mp e).1
  rw [h.1] at li
  exact ⟨_, List.getElem?_eq_getElem li, h.2 i x _ e (List.getElem?_eq_getElem li)⟩
/-- the tops over a common bottom -/
def tops (L : Int) (qs : List Rat) : List Int := qs.map fun q => q.num * (L / (q.den : Int))
/-- small numbers whose bottoms divide B -/
def SmQ (B : Nat) (q : Rat) : Prop := q.den ∣ B ∧ q.num.natAbs ≤ 1000
theorem tops_one {H : Hp} {xs : List V} {qs : List Rat} (h : NumsQ H xs qs) (hd : ∀ q ∈ qs, q.den = 1) : xs = (tops 1 qs).map V.int := by
  apply List.ext_getElem?
  intro i
  unfold tops
  rw [List.getElem?_map, List.getElem?_map]
  cases e : xs[i]? with
  | none =>
    have : qs[i]? = none := by
      rw [List.getElem?_eq_none_iff] at e ⊢
      rw [← h.1]
      exact e
    rw [this]
    rfl
  | some x =>
    obtain ⟨q, e2, n⟩ := h.get e
    have d := hd q (List.mem_of_getElem? e2)
    rw [e2]
    rcases n with ⟨_, ex⟩ | ⟨z, _⟩
    · show some x = some (V.int (q.num * (1 / (q.den : Int))))
      rw [ex, d]
      simp
    · exact absurd d z
theorem doQ {K : PySem.W.Frag} {H : Hp} {x : V} {q : Rat} (h : NumQ H x q) : Do K H x (dq q) ∧ two (dq q) = some (q.num, (q.den : Int)) := by
  refine ⟨do_q h, ?_⟩
  by_cases d : q.den = 1
  · rw [dq_int d, d]
    rfl
  · rw [dq_tup d]
    rfl
section
variable {P : Program} {w : World} {K : PySem.W.Frag} {mg : Str → Option Value} {base : Heap}
def tePt (K : PySem.W.Frag) : TE := fun σ H Q => tCons (tVar 4) tNil σ H fun vs H1 => spParts K vs H1 Q E0
def spCommon (K : PySem.W.Frag) : Sp := fun vs H Q _ => ∃ (f l : Addr) (k : Bool) (xs : List V) (qs : List Rat) (B : Nat), vs = [.ref f, .ref l] ∧ FieldC K H f .fr ∧ SqB K H k l xs ∧ NumsQ H xs qs ∧ qs.length ≤ 1000 ∧ 0 < B ∧ B ≤ 1000 ∧ (∀ q ∈ qs, SmQ B q) ∧
  ∀ (t l' : Addr) (k' : Bool) (L : Nat) (H' : Hp), Same H H' → H' t = some (.tup [.ref l', .int (L : Int)]) → SqB K H' k' l' ((tops L qs).map V.int) → 0 < L → L ∣ B → (∀ q ∈ qs, q.den ∣ L) → (k = false → k' = false) → Q (.ref t) H'
theorem ok_common (T : Tx K mg) : FnG P w K mg base CX0 2 (He.ma K (He.ga K "Field") "common") (spCommon K) := by
  refine mk_Field_common T.d (fun vs H Q E h => ?_) (fun cdv A outer s H vs Q E hg hr h => ?_)
  · obtain ⟨f, l, k, xs, qs, B, rfl, _⟩ := h
    rfl
  · obtain ⟨f, l, k, xs, qs, B, rfl, F, hl, hn, hz, B0, B9, ho, q⟩ := h
    have nd := sc_Field_common.nd
    refine ⟨_, pss_cons (ps_if (pt_cmp (pc_notN (pe_fld (pv 0) rfl))) pss_never pss_nil)
      (pss_cons (ps_set (i := 2) nd rfl (Or.inr rfl) pe_int)
      (pss_cons (ps_for PassesOwn.never rfl (pi_sq (pv 1)) (pg_name (i := 3) nd rfl (.inl rfl))
        (pss_one (ps_if (pt_val (pe_callB call_isi (by rfl) (T.z "isinstance" (by decide +kernel)) (by decide +kernel) (pa_cons (pv 3) (pa_cons (pe_bltn (v := .ty "tuple") (by rfl) (T.z "tuple" (by decide +kernel)) (by decide +kernel) rfl) pa_nil))))
          (pss_one (ps_set (i := 2) nd rfl (Or.inr rfl) (pe_callBfun cr_lcm (by rfl) T.lcm (pa_cons (pv 2) (pa_cons (pe_ix ix_tup (pv 3) pe_int (fun _ _ => rfl)) pa_nil))))) pss_nil)))
      (pss_cons (ps_if (pt_cmpR op_eq (pv 2) pe_int (nomark _)) (pss_one (ps_ret (pe_tup (pa_cons (pv 1) (pa_cons pe_int pa_nil))))) pss_nil)
      (pss_one (ps_ret (pe_tup (pa_cons
        (pe_lc (own := [("above", 5), ("below", 6)]) (g := gTup K 2 (gCons (gName 5) (gCons (gName 6) gNil))) (tt := tYes) rfl nd
          (pi_list (pe_lc (own := [("each", 4)]) (g := gName 4) (tt := tYes) (te := tePt K) rfl nd (pi_sq (pv 1)) (blkOk_by (N := n_Field_common) (sc := defScope s_Field_common) (by decide +kernel)) (fun _ _ _ _ _ => pg_name (i := 4) nd rfl (Or.inl rfl)) (fun _ _ _ _ _ => pts_nil)
            (fun _ _ _ _ _ => pe_callG (ok_parts T) hr hg (by rfl) (T.g "parts" (by decide +kernel)) (kp_parts T.d) pass0 (pa_cons (pv 4) pa_nil))))
          (blkOk_by (N := n_Field_common) (sc := defScope s_Field_common) (by decide +kernel)) (fun _ _ _ _ _ => pg_tup rfl (pgs_cons (pg_name (i := 5) nd rfl (Or.inl rfl)) (pgs_cons (pg_name (i := 6) nd rfl (Or.inl rfl)) pgs_nil))) (fun _ _ _ _ _ => pts_nil)
          (fun _ _ _ _ _ => pe_op op_mul (pv 5) (pe_op op_fdiv (pv 2) (pv 6)))) (pa_cons (pv 2) pa_nil)))))))), ?_⟩
    refine rd_prime rfl F ⟨_, rfl, ifF rfl ?_⟩
    refine ⟨_, rfl, k, l, rfl, ⟨_, hl⟩, for_it (walk_sq (K := K) (k := k) (a := l) (xs := xs)) (fun i σ H' => ∃ (L : Nat) (v : Option V), σ = [some (.ref f), some (.ref l), some (.int (L : Int)), v, none, none, none] ∧ 0 < L ∧ L ∣ B ∧ (∀ q ∈ qs.take i, q.den ∣ L) ∧ H' = H)
      ⟨1, none, rfl, by decide, Nat.one_dvd B, (fun q hq => by rw [List.take_zero] at hq; cases hq), rfl⟩ (fun i σ H' _ ⟨_, _, _, _, _, _, e⟩ => e ▸ hl) ?_ ?_⟩
    · rintro i x σ H' H2 hi ⟨L, v, rfl, L0, LB, Ld, rfl⟩ ⟨rfl, hx⟩
      obtain ⟨r, hr2, n⟩ := hn.get hx
      have tk : qs.take (i + 1) = qs.take i ++ [r] := by rw [List.take_add_one, hr2]; rfl
      obtain ⟨rd, rn⟩ := ho r (List.mem_of_getElem? hr2)
      rcases n with ⟨d1, rfl⟩ | ⟨d1, a, rfl, ha⟩
      · refine ⟨_, rfl, _, _, _, _, false, rfl, .ty "tuple", .base (.int _), kit_ty (by decide +kernel), _, rfl, ifF rfl ?_⟩
        refine ⟨L, _, rfl, L0, LB, fun q hq => ?_, rfl⟩
        rw [tk] at hq
        rcases List.mem_append.mp hq with hq | hq
        · exact Ld q hq
        · rw [List.mem_singleton.mp hq, d1]
          exact Nat.one_dvd L
      · refine ⟨_, rfl, _, _, _, _, true, rfl, .ty "tuple", .base (.tup ha), kit_ty (by decide +kernel), _, rfl, ifT rfl ?_⟩
        have p8 : (1000 : Nat) < 2 ^ 8000 := Nat.lt_of_lt_of_le (show 1000 < 2 ^ 10 by decide) (Nat.pow_le_pow_right (by decide) (by decide))
        have Lle : L ≤ 1000 := Nat.le_trans (Nat.le_of_dvd B0 LB) B9
        have rle : r.den ≤ 1000 := Nat.le_trans (Nat.le_of_dvd B0 rd) B9
        refine ⟨_, rfl, _, rfl, a, _, _, _, rfl, rfl, .inl (.inl ha), (by rfl : atI [V.int r.num, V.int (r.den : Int)] 1 = some (V.int (r.den : Int))), (L : Int), (r.den : Int), rfl, Nat.lt_of_le_of_lt Lle p8, Nat.lt_of_le_of_lt rle p8, ?_⟩
        refine ⟨Nat.lcm L r.den, _, rfl, Nat.lcm_pos L0 r.den_pos, Nat.lcm_dvd LB rd, fun q hq => ?_, rfl⟩
        rw [tk] at hq
        rcases List.mem_append.mp hq with hq | hq
        · exact Nat.dvd_trans (Ld q hq) (Nat.dvd_lcm_left _ _)
        · rw [List.mem_singleton.mp hq]
          exact Nat.dvd_lcm_right _ _
    · rintro σ H' ⟨L, v, rfl, L0, LB, Ld, rfl⟩
      have tk : qs.take xs.length = qs := by rw [hn.1, List.take_length]
      rw [tk] at Ld
      have Lle : L ≤ 1000 := Nat.le_trans (Nat.le_of_dvd B0 LB) B9
      refine ⟨_, rfl, rfl, _, rfl, ?_⟩
      rw [iEq]
      by_cases e : L = 1
      · subst e
        refine ifT (decide_eq_true rfl) ⟨_, rfl, by show 2 ≤ sizeLine; decide, fun t nt => ?_⟩
        have s1 := same_up (o := .tup [V.ref l, V.int 1]) nt
        have d1 : ∀ q ∈ qs, q.den = 1 := fun q hq => Nat.dvd_one.mp (Ld q hq)
        exact q t l k 1 _ s1 upd_same (by have h := tops_one hn d1; have h2 := hl.same s1; rw [h] at h2; exact h2) (by decide) (Nat.one_dvd B) Ld (fun e => e)
      · refine ifF (decide_eq_false (by omega)) ?_
        refine ⟨_, rfl, k, l, rfl, ⟨_, hl⟩, fun D1 n1 => ?_⟩
        refine lc_growL (te := tePt K) (j := 4) walk_sq (fun i v H => ∃ (p : Addr) (r : Rat), v = .ref p ∧ qs[i]? = some r ∧ SqTX K D1 H p [.int r.num, .int (r.den : Int)]) ?_ n1 (by rw [hn.1]; omega) (fun H s => hl.same s) (fun i x H2 R hi s2 hD hx r => ?_) fun H2 vs s2 h2 l2 hz2 => ?_
        · rintro i v H H' sx ⟨p, r, rfl, e1, h⟩
          exact ⟨p, r, rfl, e1, h.sx sx⟩
        · obtain ⟨lD, hD⟩ := hD
          obtain ⟨r0, hr2, n⟩ := (hn.same s2).get hx
          obtain ⟨d1, d2⟩ := doQ (K := K) n
          refine ⟨_, rfl, x, _, _, _, rfl, d1, d2, fun p H4 s4 hp => r _ _ s4 ⟨p, r0, rfl, hr2, sqtx_of hp (s4 _ _ hD)⟩⟩
        · refine ⟨D1, rfl, ⟨_, SqL.of h2⟩, fun D2 n2 => ?_⟩
          refine lc_it (wk_list (K := K) (a := D1) (xs := vs)) (fun i H3 => Same H2 H3 ∧ H3 D2 = some (.lst ((tops L (qs.take i)).map V.int))) ⟨same_up n2, by rw [List.take_zero]; exact upd_same⟩ (fun i H3 _ p => SqL.of (p.1 _ _ h2)) ?_ ?_
          · rintro i x H3 H3' hi ⟨s3, h3⟩ ⟨rfl, hx⟩
            obtain ⟨p, r0, rfl, hr2, hp⟩ := hz2 i x hx
            have hp3 := sqt_same s3 hp.t
            obtain ⟨rd, rn⟩ := ho r0 (List.mem_of_getElem? hr2)
            have rle : r0.den ≤ 1000 := Nat.le_trans (Nat.le_of_dvd B0 rd) B9
            have rp := r0.den_pos
            refine ⟨p, _, rfl, hp3, rfl, _, _, rfl, _, _, rfl, rfl, rfl, ?_⟩
            unfold tYes
            dsimp only
            rw [if_pos rfl]
            refine ⟨_, rfl, _, rfl, _, rfl, _, _, rfl, rfl, ⟨by show (0 : Int) < (r0.den : Int); omega, by show (r0.den : Int) < 1073741824; omega⟩, _, _, rfl, rfl, .inl ⟨by show -(2 ^ 64) < r0.num; omega, by show r0.num < 2 ^ 64; omega⟩, ?_⟩
            refine ⟨_, h3, ?_, same_new n2 s3, ?_⟩
            · unfold tops
              rw [List.length_map, List.length_map, List.length_take, sizeLine_eq]
              omega
            · have tk2 : qs.take (i + 1) = qs.take i ++ [r0] := by rw [List.take_add_one, hr2]; rfl
              rw [upd_same, tk2]
              unfold tops
              rw [List.map_append, List.map_append]
              rfl
          · rintro H3 ⟨s3, h3⟩
            rw [l2, tk] at h3
            refine ⟨_, rfl, by show 2 ≤ sizeLine; decide, fun t nt => ?_⟩
            have s4 := same_up (o := .tup [V.ref D2, V.int (L : Int)]) nt
            exact q t D2 false L _ ((s2.trans s3).trans s4) upd_same (SqL.of (s4 _ _ h3)) L0 LB Ld (fun _ => rfl)
end
end K19.F

namespace K19.F
open PySem PySem.Spec PyProof.Rows L2 Ver Num SX
/-! ### rows over the fractions: tops over a bottom -/
/-- ints that one product may take -/
def InB (xs : List Int) : Prop := ∀ x ∈ xs, -(2 ^ 62) ≤ x ∧ x ≤ 2 ^ 62
theorem inB_at {xs : List Int} (h : InB xs) {m : Nat} {x : V} (e : (nums xs)[m]? = some x) : ∃ i, xs[m]? = some i ∧ x = .int i ∧ -(2 ^ 62) ≤ i ∧ i ≤ 2 ^ 62 := by
  rw [List.getElem?_map] at e
  cases hx : xs[m]? with
  | none => rw [hx] at e; cases e
  | some i =>
    rw [hx] at e
    cases e
    have := h i (List.mem_of_getElem? hx)
    exact ⟨i, rfl, rfl, this.1, this.2⟩
theorem numQ_one {H : Hp} {x : V} {t : Int} (h : NumQ H x (Rat.divInt t 1)) : x = .int t := by
  obtain ⟨o1, o2⟩ := dvs_one t
  rcases h with ⟨_, h⟩ | ⟨h, _⟩
  · rw [o1] at h
    exact h
  · exact absurd o2 h
section
variable {P : Program} {w : World} {K : PySem.W.Frag} {mg : Str → Option Value} {base : Heap}
def spWD (K : PySem.W.Frag) : Sp := fun vs H Q _ => ∃ (f a b : Addr) (k1 k2 : Bool) (xs ys : List Int) (n : Nat), vs = [.ref f, .ref a, .ref b] ∧ FieldC K H f .fr ∧
  SqB K H k1 a (nums xs) ∧ SqB K H k2 b (nums ys) ∧ xs.length = n ∧ ys.length = n ∧ n ≤ 20000 ∧ InB xs ∧ InB ys ∧ ∀ H', Same H H' → Q (.int (dotI xs ys)) H'
theorem ok_wd (T : Tx K mg) : FnG P w K mg base CX0 3 (He.ga K "whole_dot") (spWD K) := by
  refine mk_whole_dot T.d (fun vs H Q E h => ?_) (fun cdv A outer s H vs Q E hg hr h => ?_)
  · obtain ⟨f, a, b, k1, k2, xs, ys, n, rfl, _⟩ := h
    rfl
  · obtain ⟨f, a, b, k1, k2, xs, ys, n, rfl, F, hx, hy, lx, ly, few, ix, iy, q⟩ := h
    have nd := sc_whole_dot.nd
    refine ⟨_, pss_one (ps_ret (pe_methG (pv 0) (kp_Field_ratio T.d) (ok_ratio T) hr hg pass0 (pa_cons (pe_callB (cr_sum rfl) (by rfl) (T.z "sum" (by decide +kernel)) (by decide +kernel) (pa_cons
        (pe_lc (own := [("x", 3), ("y", 4)]) (g := gTup K 2 (gCons (gName 3) (gCons (gName 4) gNil))) (tt := tYes) rfl nd (pi_zipB (by rfl) (T.z "zip" (by decide +kernel)) (pa_cons (pv 1) (pa_cons (pv 2) pa_nil))) (blkOk_by (N := n_whole_dot) (sc := defScope s_whole_dot) (by decide +kernel))
          (fun _ _ _ _ _ => pg_tup rfl (pgs_cons (pg_name (i := 3) nd rfl (Or.inl rfl)) (pgs_cons (pg_name (i := 4) nd rfl (Or.inl rfl)) pgs_nil))) (fun _ _ _ _ _ => pts_nil)
          (fun _ _ _ _ _ => pe_op op_mul (pv 3) (pv 4))) pa_nil)) (pa_cons pe_int pa_nil)))), ?_⟩
    refine go_methG rfl F (by decide +kernel) (by decide +kernel) ⟨_, rfl, _, rfl, k1, k2, a, b, _, _, rfl, hx, hy, fun D nD => ?_⟩
    refine lc_zip (n := n) (by simp [lx]) (by simp [ly]) (fun m => V.int ((List.zipWith (· * ·) xs ys).getD m 0)) nD few hx hy (fun m x y H2 R hm sm ex ey r => ?_) fun H2 s2 hD => ?_
    · obtain ⟨i, e1, rfl, i0, i1⟩ := inB_at ix ex
      obtain ⟨j, e2, rfl, j0, j1⟩ := inB_at iy ey
      rw [zw_at e1 e2] at r
      exact ⟨_, rfl, _, rfl, _, _, rfl, rfl, .inl ⟨by show -(2 ^ 64) < i; omega, by show i < 2 ^ 64; omega⟩, r⟩
    · rw [zw_list lx ly] at hD
      exact ⟨D, _, rfl, .of hD, f, _, 1, rfl, F.same s2, by decide, by show (1 : Nat) < 2 ^ 4000; exact Nat.one_lt_two_pow (by decide), fun x H3 s3 nx => by
        rw [numQ_one nx]
        exact q H3 (s2.trans s3)⟩
end
end K19.F

namespace K19.F
open PySem PySem.Spec PyProof.Rows L2 Ver Num SX
/-- a row: tops over a bottom -/
def RowF (K : PySem.W.Frag) (H : Hp) (r : Addr) (L : Int) (xs : List Int) : Prop := ∃ a k, SqT K H r [.ref a, .int L] ∧ SqB K H k a (nums xs)
/-- a step: its columns over a bottom -/
def StepG (K : PySem.W.Frag) (H : Hp) (s : Addr) (L : Int) (cols : List (List Int)) : Prop := ∃ (c : Addr) (ds : List Addr), SqT K H s [.ref c, .int L] ∧ SqL K H c (ds.map V.ref) ∧ ds.length = cols.length ∧ ∀ i d, ds[i]? = some d → SqL K H d (nums (cols.getD i []))
theorem RowF.same {K : PySem.W.Frag} {H H' : Hp} {r : Addr} {L : Int} {xs : List Int} (h : RowF K H r L xs) (s : Same H H') : RowF K H' r L xs := by
  obtain ⟨a, k, h1, h2⟩ := h
  exact ⟨a, k, sqt_same s h1, h2.same s⟩
theorem StepG.same {K : PySem.W.Frag} {H H' : Hp} {r : Addr} {L : Int} {cols : List (List Int)} (h : StepG K H r L cols) (s : Same H H') : StepG K H' r L cols := by
  obtain ⟨c, ds, h1, h2, h3, h4⟩ := h
  exact ⟨c, ds, sqt_same s h1, s.seq h2, h3, fun i d e => s.seq (h4 i d e)⟩
/-- what a step makes of the tops -/
def goF (cols : List (List Int)) (xs : List Int) : List Int := cols.map fun c => dotI xs c
def SmL (L : Int) : Prop := 0 < L ∧ L ≤ 2 ^ 62
def teCol (K : PySem.W.Frag) : TE := fun σ H Q => tCons (tVar 0) (tCons (tVar 3) (tCons (tVar 7) tNil)) σ H fun vs H1 => spWD K vs H1 Q E0
section
variable {P : Program} {w : World} {K : PySem.W.Frag} {mg : Str → Option Value} {base : Heap}
def spRA (K : PySem.W.Frag) : Sp := fun vs H Q _ => ∃ (f r s : Addr) (L B : Int) (xs : List Int) (cols : List (List Int)), vs = [.ref f, .ref r, .ref s] ∧ FieldC K H f .fr ∧ SmL L ∧ SmL B ∧
  RowF K H r L xs ∧ StepG K H s B cols ∧ InB xs ∧ (∀ c ∈ cols, c.length = xs.length ∧ InB c) ∧ cols.length ≤ 24 ∧ xs.length ≤ 24 ∧ ∀ t H', Same H H' → RowF K H' t (L * B) (goF cols xs) → Q (.ref t) H'
theorem ok_ra (T : Tx K mg) : FnG P w K mg base CX0 4 (He.ga K "row_after") (spRA K) := by
  refine mk_row_after T.d (fun vs H Q E h => ?_) (fun cdv A outer s H vs Q E hg hr h => ?_)
  · obtain ⟨f, r, s, L, B, xs, cols, rfl, _⟩ := h
    rfl
  · obtain ⟨f, r, s', L, B, xs, cols, rfl, F, sL, sB, ⟨a, k, hr1, ha⟩, ⟨c, ds, hs1, hc, ld, hd⟩, ix, ic, l24, x24, q⟩ := h
    have nd := sc_row_after.nd
    refine ⟨_, pss_cons (ps_asg (pv 1) (pg_tup rfl (pgs_cons (pg_name (i := 3) nd rfl (.inr rfl)) (pgs_cons (pg_name (i := 4) nd rfl (.inl rfl)) pgs_nil))))
      (pss_cons (ps_asg (pv 2) (pg_tup rfl (pgs_cons (pg_name (i := 5) nd rfl (.inl rfl)) (pgs_cons (pg_name (i := 6) nd rfl (.inl rfl)) pgs_nil))))
      (pss_one (ps_ret (pe_tup (pa_cons
        (pe_lc (own := [("column", 7)]) (g := gName 7) (tt := tYes) (te := teCol K) rfl nd (pi_list (pv 5)) (blkOk_by (N := n_row_after) (sc := defScope s_row_after) (by decide +kernel))
          (fun _ _ _ _ _ => pg_name (i := 7) nd rfl (Or.inl rfl)) (fun _ _ _ _ _ => pts_nil)
          (fun _ _ _ _ _ => pe_callG (ok_wd T) hr hg (by rfl) (T.g "whole_dot" (by decide +kernel)) (kp_whole_dot T.d) pass0 (pa_cons (pv 0) (pa_cons (pv 3) (pa_cons (pv 7) pa_nil)))))
        (pa_cons (pe_op op_mul (pv 4) (pv 6)) pa_nil)))))), ?_⟩
    refine ⟨_, rfl, r, _, rfl, hr1, rfl, _, _, rfl, _, _, rfl, rfl, ?_⟩
    refine ⟨_, rfl, s', _, rfl, hs1, rfl, _, _, rfl, _, _, rfl, rfl, ?_⟩
    refine ⟨_, rfl, c, rfl, ⟨_, hc⟩, fun D nD => ?_⟩
    refine lc_oneS (te := teCol K) (j := 7) walk_list (fun i => V.int (dotI xs (cols.getD i []))) nD (by simp; omega) (fun H s => s.seq hc) (fun i x H2 R hi s2 hx r => ?_) fun H2 s2 hD => ?_
    · obtain ⟨d, e, rfl⟩ := ref_at hx
      have hl : i < cols.length := by simp at hi; omega
      have hm : cols.getD i [] ∈ cols := by
        rw [List.getD_eq_getElem?_getD, List.getElem?_eq_getElem hl]
        exact List.getElem_mem _
      obtain ⟨lc, icc⟩ := ic _ hm
      exact ⟨_, rfl, _, rfl, _, rfl, f, a, d, k, false, xs, _, xs.length, rfl, F.same s2, ha.same s2, s2.seq (hd i d e), rfl, lc, by omega, ix, icc, fun H' s' => r H' s'⟩
    · refine ⟨_, rfl, _, rfl, _, _, rfl, rfl, .inl ⟨by show -(2 ^ 64) < L; have := sL.1; omega, by show L < 2 ^ 64; have := sL.2; omega⟩, by show 2 ≤ sizeLine; decide, fun t nt => q t _ (s2.trans (same_up nt)) ⟨D, false, .inl (.inl upd_same), ?_⟩⟩
      rw [show (ds.map V.ref).length = cols.length by simp [ld]] at hD
      rw [map_range [] rfl (fun c => V.int (dotI xs c))] at hD
      have : nums (goF cols xs) = cols.map fun c => V.int (dotI xs c) := by simp [goF, nums, Function.comp_def]
      rw [this]
      exact SqL.of ((same_up nt) _ _ hD)
def spRD (K : PySem.W.Frag) : Sp := fun vs H Q _ => ∃ (f r s : Addr) (L B : Int) (xs ys : List Int), vs = [.ref f, .ref r, .ref s] ∧ FieldC K H f .fr ∧ SmL L ∧ SmL B ∧
  RowF K H r L xs ∧ RowF K H s B ys ∧ InB xs ∧ InB ys ∧ xs.length = ys.length ∧ ys.length ≤ 24 ∧ ∀ (x : V) (H' : Hp), Same H H' → NumQ H' x (Rat.divInt (dotI xs ys) (L * B)) → Q x H'
theorem ok_rdot (T : Tx K mg) : FnG P w K mg base CX0 4 (He.ga K "row_dot") (spRD K) := by
  refine mk_row_dot T.d (fun vs H Q E h => ?_) (fun cdv A outer s H vs Q E hg hr h => ?_)
  · obtain ⟨f, r, s, L, B, xs, ys, rfl, _⟩ := h
    rfl
  · obtain ⟨f, r, s', L, B, xs, ys, rfl, F, sL, sB, ⟨a, k, hr1, ha⟩, ⟨b, k2, hs1, hb⟩, ix, iy, lxy, l24, q⟩ := h
    have nd := sc_row_dot.nd
    refine ⟨_, pss_cons (ps_asg (pv 1) (pg_tup rfl (pgs_cons (pg_name (i := 3) nd rfl (.inl rfl)) (pgs_cons (pg_name (i := 4) nd rfl (.inl rfl)) pgs_nil))))
      (pss_cons (ps_asg (pv 2) (pg_tup rfl (pgs_cons (pg_name (i := 5) nd rfl (.inl rfl)) (pgs_cons (pg_name (i := 6) nd rfl (.inl rfl)) pgs_nil))))
      (pss_one (ps_ret (pe_methG (pv 0) (kp_Field_ratio T.d) (ok_ratio T) (hr.mono (by decide)) hg pass0 (pa_cons
        (pe_callG (ok_wd T) hr hg (by rfl) (T.g "whole_dot" (by decide +kernel)) (kp_whole_dot T.d) pass0 (pa_cons (pv 0) (pa_cons (pv 3) (pa_cons (pv 5) pa_nil))))
        (pa_cons (pe_op op_mul (pv 4) (pv 6)) pa_nil)))))), ?_⟩
    refine ⟨_, rfl, r, _, rfl, hr1, rfl, _, _, rfl, _, _, rfl, rfl, ?_⟩
    refine ⟨_, rfl, s', _, rfl, hs1, rfl, _, _, rfl, _, _, rfl, rfl, ?_⟩
    refine go_methG rfl F (by decide +kernel) (by decide +kernel) ⟨_, rfl, _, rfl, _, rfl, f, a, b, k, k2, xs, ys, _, rfl, F, ha, hb, rfl, lxy.symm, by omega, ix, iy, fun H' s' => ?_⟩
    have lb : 0 < L * B := Int.mul_pos sL.1 sB.1
    have l1 := sL.1
    have l2 := sL.2
    have b1 := sB.1
    have b2 := sB.2
    have lb2 : L * B ≤ 2 ^ 62 * 2 ^ 62 := Int.mul_le_mul l2 b2 (by omega) (by decide)
    refine ⟨_, rfl, _, rfl, _, _, rfl, rfl, .inl ⟨by show -(2 ^ 64) < L; omega, by show L < 2 ^ 64; omega⟩, f, _, _, rfl, F.same s', by omega, ?_, fun x H3 s3 nx => q x H3 (s'.trans s3) nx⟩
    have p4 : (2 : Nat) ^ 125 ≤ 2 ^ 4000 := Nat.pow_le_pow_right (by decide) (by decide)
    have e5 : (2 : Nat) ^ 125 = 42535295865117307932921825928971026432 := by decide
    have e6 : (2 : Int) ^ 62 * 2 ^ 62 = 21267647932558653966460912964485513216 := by decide
    rw [e6] at lb2
    rw [e5] at p4
    generalize (2 : Nat) ^ 4000 = N at p4 ⊢
    omega
end
end K19.F

namespace K19.F
open PySem PySem.Spec PyProof.Rows L2 Ver Num SX
/-- a number, its pair not at D -/
def NumX (D : Addr) (H : Hp) (x : V) (q : Rat) : Prop := (q.den = 1 ∧ x = .int q.num) ∨ (q.den ≠ 1 ∧ ∃ a, x = .ref a ∧ a ≠ D ∧ H a = some (.tup [.int q.num, .int (q.den : Int)]))
theorem NumX.sx {D : Addr} {H H' : Hp} {x : V} {q : Rat} (h : NumX D H x q) (s : SameX D H H') : NumX D H' x q := by
  rcases h with h | ⟨d, a, e, n, h⟩
  · exact .inl h
  · exact .inr ⟨d, a, e, n, s _ _ n h⟩
theorem NumX.q {D : Addr} {H : Hp} {x : V} {q : Rat} (h : NumX D H x q) : NumQ H x q := by
  rcases h with h | ⟨d, a, e, n, h⟩
  · exact .inl h
  · exact .inr ⟨d, a, e, h⟩
theorem numX_of {D : Addr} {H : Hp} {x : V} {q : Rat} {l : List V} (h : NumQ H x q) (hD : H D = some (.lst l)) : NumX D H x q := by
  rcases h with h | ⟨d, a, e, h⟩
  · exact .inl h
  · refine .inr ⟨d, a, e, fun z => ?_, h⟩
    rw [z, hD] at h
    cases h
/-- the numbers of a row -/
def ratsOf (L : Int) (xs : List Int) : List Rat := xs.map fun t => Rat.divInt t L
def teRt (K : PySem.W.Frag) : TE := tMethG K "ratio" (He.ma K (He.ga K "Field") "ratio") (spRatio K) E0 (tVar 0) (tCons (tVar 4) (tCons (tVar 3) tNil))
section
variable {P : Program} {w : World} {K : PySem.W.Frag} {mg : Str → Option Value} {base : Heap}
def spNO (K : PySem.W.Frag) : Sp := fun vs H Q _ => ∃ (f r : Addr) (L : Int) (xs : List Int), vs = [.ref f, .ref r] ∧ FieldC K H f .fr ∧ SmL L ∧ RowF K H r L xs ∧ xs.length ≤ 24 ∧ ∀ (l : Addr) (zs : List V) (H' : Hp), Same H H' → H' l = some (.lst zs) → NumsQ H' zs (ratsOf L xs) → Q (.ref l) H'
theorem ok_no (T : Tx K mg) : FnG P w K mg base CX0 3 (He.ga K "numbers_of") (spNO K) := by
  refine mk_numbers_of T.d (fun vs H Q E h => ?_) (fun cdv A outer s H vs Q E hg hr h => ?_)
  · obtain ⟨f, r, L, xs, rfl, _⟩ := h
    rfl
  · obtain ⟨f, r, L, xs, rfl, F, sL, ⟨a, k, hr1, ha⟩, x24, q⟩ := h
    have nd := sc_numbers_of.nd
    refine ⟨_, pss_cons (ps_asg (pv 1) (pg_tup rfl (pgs_cons (pg_name (i := 2) nd rfl (.inl rfl)) (pgs_cons (pg_name (i := 3) nd rfl (.inr rfl)) pgs_nil))))
      (pss_one (ps_ret (pe_lc (own := [("top", 4)]) (g := gName 4) (tt := tYes) (te := teRt K) rfl nd (pi_sq (pv 2)) (blkOk_by (N := n_numbers_of) (sc := defScope s_numbers_of) (by decide +kernel))
          (fun _ _ _ _ _ => pg_name (i := 4) nd rfl (Or.inl rfl)) (fun _ _ _ _ _ => pts_nil)
          (fun _ _ _ _ _ => pe_methG (pv 0) (kp_Field_ratio T.d) (ok_ratio T) hr hg pass0 (pa_cons (pv 4) (pa_cons (pv 3) pa_nil)))))), ?_⟩
    refine ⟨_, rfl, r, _, rfl, hr1, rfl, _, _, rfl, _, _, rfl, rfl, ?_⟩
    refine ⟨_, rfl, k, a, rfl, ⟨_, ha⟩, fun D nD => ?_⟩
    have l1 := sL.1
    have l2 := sL.2
    refine lc_growL (te := teRt K) (j := 4) walk_sq (fun i v H => NumX D H v (Rat.divInt (xs.getD i 0) L)) (fun i v H H' sx h => h.sx sx) nD (by simp; omega) (fun H s => ha.same s) (fun i x H2 R hi s2 hD hx r => ?_) fun H2 zs s2 hD lz hz => ?_
    · obtain ⟨lD, hD⟩ := hD
      have hi2 : i < xs.length := by simpa using hi
      have ex : x = .int (xs.getD i 0) := by
        rw [List.getElem?_map, List.getElem?_eq_getElem hi2] at hx
        rw [List.getD_eq_getElem?_getD, List.getElem?_eq_getElem hi2]
        exact (Option.some.inj hx).symm
      subst ex
      refine go_methG rfl (F.same s2) (by decide +kernel) (by decide +kernel) ⟨_, rfl, _, rfl, f, _, L, rfl, F.same s2, by omega, ?_, fun x H3 s3 nx => r _ _ s3 (numX_of nx (s3 _ _ hD))⟩
      have p4 : (2 : Nat) ^ 63 ≤ 2 ^ 4000 := Nat.pow_le_pow_right (by decide) (by decide)
      generalize (2 : Nat) ^ 4000 = N at p4 ⊢
      omega
    · refine q D zs H2 s2 hD ⟨?_, fun i x r h1 h2 => ?_⟩
      · rw [lz]
        simp [ratsOf]
      · have h3 := (hz i x h1).q
        unfold ratsOf at h2
        rw [List.getElem?_map] at h2
        cases hx : xs[i]? with
        | none => rw [hx] at h2; cases h2
        | some t =>
          rw [hx] at h2
          cases h2
          rw [List.getD_eq_getElem?_getD, hx] at h3
          exact h3
end
end K19.F

namespace K19.F
open PySem PySem.Spec PyProof.Rows L2 Ver Num SX
theorem NumsQ.app {H : Hp} {xs ys : List V} {ps qs : List Rat} (h : NumsQ H xs ps) (g : NumsQ H ys qs) : NumsQ H (xs ++ ys) (ps ++ qs) := by
  refine ⟨by rw [List.length_append, List.length_append, h.1, g.1], fun i x q e1 e2 => ?_⟩
  by_cases hi : i < xs.length
  · rw [List.getElem?_append_left hi] at e1
    rw [List.getElem?_append_left (by rw [← h.1]; exact hi)] at e2
    exact h.2 i x q e1 e2
  · rw [List.getElem?_append_right (by omega)] at e1
    rw [List.getElem?_append_right (by rw [← h.1]; omega), ← h.1] at e2
    exact g.2 _ x q e1 e2
theorem numsQ_flat {H : Hp} : ∀ {vr : List (List V)} {qr : List (List Rat)}, Paired (NumsQ H) vr qr → NumsQ H vr.flatten qr.flatten
  | _, _, .nil => ⟨rfl, fun i x q h => by simp at h⟩
  | _, _, .cons h t => by
    rw [List.flatten_cons, List.flatten_cons]
    exact h.app (numsQ_flat t)
theorem paired_len {α β : Type} {R : α → β → Prop} : ∀ {xs : List α} {ys : List β}, Paired R xs ys → xs.length = ys.length
  | _, _, .nil => rfl
  | _, _, .cons _ t => by rw [List.length_cons, List.length_cons, paired_len t]
theorem paired_row {H : Hp} {n : Nat} : ∀ {vr : List (List V)} {qr : List (List Rat)}, Paired (NumsQ H) vr qr → (∀ r ∈ qr, r.length = n) → ∀ r ∈ vr, r.length = n
  | _, _, .nil, _, r, hr => by cases hr
  | _, _, .cons h t, g, r, hr => by
    rcases List.mem_cons.mp hr with rfl | hr
    · rw [h.1]
      exact g _ List.mem_cons_self
    · exact paired_row t (fun r' h' => g r' (List.mem_cons_of_mem _ h')) r hr
/-- a tuple of tuples of fractions -/
def TabQ (K : PySem.W.Frag) (H : Hp) (t : Addr) (qr : List (List Rat)) : Prop := ∃ (ts : List Addr) (vr : List (List V)), SqT K H t (ts.map V.ref) ∧ ts.length = vr.length ∧ (∀ i d, ts[i]? = some d → SqT K H d (vr.getD i [])) ∧ Paired (NumsQ H) vr qr
/-- a square table of fractions -/
structure SqQ (n : Nat) (qr : List (List Rat)) : Prop where
  l : qr.length = n
  r : ∀ r ∈ qr, r.length = n
theorem tops_flat (L : Int) (qr : List (List Rat)) : tops L qr.flatten = (qr.map (tops L)).flatten := by
  unfold tops
  rw [List.map_flatten]
def StepH (H0 H : Hp) (s : Addr) (L : Int) (cols : List (List Int)) : Prop := ∃ (c : Addr) (ds : List Addr), Fr H0 H s (.tup [.ref c, .int L]) ∧ Fr H0 H c (.lst (ds.map V.ref)) ∧ ds.length = cols.length ∧ ∀ i d, ds[i]? = some d → Fr H0 H d (.lst (nums (cols.getD i [])))
theorem StepH.toG {K : PySem.W.Frag} {H0 H : Hp} {s : Addr} {L : Int} {cols : List (List Int)} (h : StepH H0 H s L cols) : StepG K H s L cols := by
  obtain ⟨c, ds, h1, h2, h3, h4⟩ := h
  exact ⟨c, ds, .inl (.inl h1.2), SqL.of h2.2, h3, fun i d e => SqL.of (h4 i d e).2⟩
section
variable {P : Program} {w : World} {K : PySem.W.Frag} {mg : Str → Option Value} {base : Heap}
def spStep (K : PySem.W.Frag) : Sp := fun vs H Q _ => ∃ (f t : Addr) (qr : List (List Rat)) (n B : Nat), vs = [.ref f, .ref t] ∧ FieldC K H f .fr ∧ TabQ K H t qr ∧ SqQ n qr ∧ n ≤ 24 ∧ 0 < B ∧ B ≤ 1000 ∧ (∀ r ∈ qr, ∀ q ∈ r, SmQ B q) ∧
  ∀ (s : Addr) (L : Nat) (H' : Hp), Same H H' → 0 < L → L ∣ B → (∀ r ∈ qr, ∀ q ∈ r, q.den ∣ L) → StepH H H' s (L : Int) (colsOf n (qr.map (tops L))) → Q (.ref s) H'
theorem ok_step (T : Tx K mg) : FnG P w K mg base CX0 3 (He.ga K "step_of") (spStep K) := by
  refine mk_step_of T.d (fun vs H Q E h => ?_) (fun cdv A outer s H0 vs Q E hg hr h => ?_)
  · obtain ⟨f, t, qr, n, B, rfl, _⟩ := h
    rfl
  · obtain ⟨f, t, qr, n, B, rfl, F, ⟨ts, vr, ht, lt, hd, hpr⟩, sq, n24, B0, B9, sm, q⟩ := h
    have nd := sc_step_of.nd
    refine ⟨_, pss_cons (ps_set (i := 2) nd rfl (Or.inr rfl) (pe_callB call_len_seq (by rfl) (T.z "len" (by decide +kernel)) (by decide +kernel) (pa_cons (pv 1) pa_nil)))
      (pss_cons (ps_asg (pe_methG (pv 0) (kp_Field_common T.d) (ok_common T) hr hg pass0 (pa_cons
          (pe_lc2 (own := [("row", 5), ("number", 6)]) (vs1 := [6]) (g := gName 5) (g1 := gName 6) (wi1 := iTup K (tVar 5)) (tt := tYes) (tt1 := tYes) (te := tVar 6) rfl nd (pi_tup (pv 1)) (blkOk_by (N := n_step_of) (sc := defScope s_step_of) (by decide +kernel)) (by decide)
            (fun _ _ _ _ _ => pg_name (i := 5) nd rfl (Or.inl rfl)) (fun _ _ _ _ _ => pts_nil) (fun _ _ _ _ _ => pi_tup (pv 5)) (fun _ _ _ _ _ => pg_name (i := 6) nd rfl (Or.inl rfl)) (fun _ _ _ _ _ => pts_nil) (fun _ _ _ _ _ => pv 6)) pa_nil))
        (pg_tup rfl (pgs_cons (pg_name (i := 3) nd rfl (.inr rfl)) (pgs_cons (pg_name (i := 4) nd rfl (.inl rfl)) pgs_nil))))
      (pss_one (ps_ret (pe_tup (pa_cons
        (pe_lc (own := [("at", 7)]) (g := gName 7) (tt := tYes) (te := teCut K) rfl nd (pi_range1 (by rfl) (T.z "range" (by decide +kernel)) (pa_cons (pv 2) pa_nil)) (blkOk_by (N := n_step_of) (sc := defScope s_step_of) (by decide +kernel))
          (fun _ _ _ _ _ => pg_name (i := 7) nd rfl (Or.inl rfl)) (fun _ _ _ _ _ => pts_nil)
          (fun _ _ _ _ _ => pe_stepL (pv 3) (po_some (pv 7)) (po_some (pv 2))))
        (pa_cons (pv 4) pa_nil)))))), ?_⟩
    refine ⟨_, rfl, t, _, rfl, .inr ht, ?_⟩
    have lv := paired_len hpr
    have sqv := paired_row hpr sq.r
    have lf : vr.flatten.length = n * n := by
      rw [flat_len sqv, lv, sq.l]
    have nn : n * n ≤ 576 := Nat.mul_le_mul n24 n24
    refine go_methG rfl F (by decide +kernel) (by decide +kernel) ⟨_, rfl, t, rfl, ⟨_, ht⟩, fun D nD => ?_⟩
    refine lc2_flat (rows := vr) nD ht lt hd (by omega) fun H1 s1 hD => ?_
    have nq := (numsQ_flat hpr).same s1
    have lq : qr.flatten.length = n * n := by rw [← nq.1, lf]
    refine ⟨f, D, false, _, _, B, rfl, F.same s1, SqL.of hD, nq, by omega, B0, B9, fun r hr => ?_, fun u l' k' L H2 s2 hu hl' L0 LB Ld hk => ?_⟩
    · obtain ⟨r1, h1, h2⟩ := List.mem_flatten.mp hr
      exact sm r1 h1 r h2
    obtain rfl := hk rfl
    have hl2 : SqL K H2 l' (((qr.map (tops L)).map nums).flatten) := by
      rw [flat_nums, ← tops_flat]
      exact hl'
    have sq2 : ∀ r ∈ (qr.map (tops L)).map nums, r.length = n := fun r hr => by
      obtain ⟨r1, h1, rfl⟩ := List.mem_map.mp hr
      obtain ⟨r0, h0, rfl⟩ := List.mem_map.mp h1
      unfold tops
      rw [List.length_map, List.length_map]
      exact sq.r r0 h0
    have lr : ((qr.map (tops L)).map nums).length = n := by rw [List.length_map, List.length_map, sq.l]
    have lf2 : (((qr.map (tops L)).map nums).flatten).length = n * n := by rw [flat_len sq2, lr]
    refine ⟨u, _, rfl, .inl (.inl hu), rfl, _, _, rfl, _, _, rfl, rfl, ?_⟩
    have s12 := s1.trans s2
    refine ⟨_, rfl, _, rfl, by show -(2 ^ 62 : Int) ≤ _; omega, by show ((ts.map V.ref).length : Int) < 2 ^ 62; rw [List.length_map, lt, lv, sq.l]; omega, fun D3 nD3 => ?_⟩
    have en : ((ts.map V.ref).length : Int).toNat = n := by rw [Int.toNat_natCast, List.length_map, lt, lv, sq.l]
    have en2 : ((ts.map V.ref).length : Int) = (n : Int) := by rw [List.length_map, lt, lv, sq.l]
    rw [en]
    refine lc_grow (te := teCut K) (j := 7) walk_range (fun i v H => ∃ d, v = .ref d ∧ d ≠ D3 ∧ H0 d = none ∧ H d = some (.lst (nums (colOf (qr.map (tops L)) i)))) ?_ nD3 (by omega) (fun _ _ => trivial) (fun i x H3 R hi s3 h3 hx r => ?_) fun H3 vs s3 h3 l3 hz => ?_
    · rintro i v H H' sx ⟨d, rfl, nd, n0, e⟩
      exact ⟨d, rfl, nd, n0, sx _ _ nd e⟩
    · subst hx
      refine ⟨_, rfl, _, rfl, _, rfl, _, rfl, _, rfl, l', _, _, _, rfl, rfl, rfl, s3.seq hl2, ?_, ?_, fun d nd3 => ?_⟩
      · rw [en2]
        omega
      · show (stepIx (0 + (i : Int)) _ _).length ≤ _
        rw [en2, lf2, Int.zero_add, stepIx_col hi, List.length_map, List.length_range, sizeLine_eq]
        omega
      · have e1 : stepV ((qr.map (tops L)).map nums).flatten (0 + (i : Int)) ((ts.map V.ref).length : Int) = nums (colOf (qr.map (tops L)) i) := by
          rw [en2, Int.zero_add, step_col sq2 hi, col_nums]
        rw [e1]
        exact r (.ref d) _ (same_up nd3) ⟨d, rfl, fun z => h3 (z ▸ nd3), none_of (s12.trans s3) nd3, upd_same⟩
    · refine ⟨_, rfl, by show 2 ≤ sizeLine; decide, fun v nv => q v L _ ((s12.trans s3).trans (same_up nv)) L0 LB (fun r hr x hx => Ld x (List.mem_flatten.mpr ⟨r, hr, hx⟩)) ?_⟩
      have zs : ∃ ds : List Addr, vs = ds.map V.ref ∧ ∀ i d, ds[i]? = some d → H0 d = none ∧ H3 d = some (.lst (nums (colOf (qr.map (tops L)) i))) := by
        clear l3 h3
        refine ⟨vs.map fun v => match v with | .ref d => d | _ => 0, ?_, fun i d e => ?_⟩
        · rw [List.map_map]
          refine (List.map_id _).symm.trans (List.map_congr_left fun v hv => ?_)
          obtain ⟨i, hi⟩ := List.mem_iff_getElem?.mp hv
          obtain ⟨d, rfl, _⟩ := hz i v hi
          rfl
        · rw [List.getElem?_map] at e
          cases hv : vs[i]? with
          | none => rw [hv] at e; cases e
          | some v =>
            obtain ⟨d', rfl, _, h⟩ := hz i v hv
            rw [hv] at e
            cases e
            exact h
      obtain ⟨ds, rfl, hds⟩ := zs
      have snv := same_up (o := .tup [V.ref D3, V.int (L : Int)]) nv
      refine ⟨D3, ds, ⟨none_of (s12.trans s3) nv, upd_same⟩, ⟨none_of s12 nD3, snv _ _ h3⟩, by simpa [colsOf] using l3, fun i d e => ?_⟩
      have hi : i < n := by
        have := (List.getElem?_eq_some_iff.mp e).1
        simp at l3
        omega
      have e2 : (colsOf n (qr.map (tops L))).getD i [] = colOf (qr.map (tops L)) i := by
        unfold colsOf
        rw [List.getD_eq_getElem?_getD, List.getElem?_map, List.getElem?_range hi]
        rfl
      rw [e2]
      exact ⟨(hds i d e).1, snv _ _ (hds i d e).2⟩
end
end K19.F

namespace K19.F
open PySem PySem.Spec PyProof.Rows L2 Ver Num SX
/-! ### is_row, is_table over the fractions -/
theorem numB_sm {B : Nat} {q : Rat} (B0 : 0 < B) (B9 : B ≤ 1000) (s : SmQ B q) : numB .fr (dq q) = true := by
  have d9 : q.den ≤ 1000 := Nat.le_trans (Nat.le_of_dvd B0 s.1) B9
  have n9 := s.2
  have d0 := q.den_pos
  have f9 : (100000 : Int) < FL := by unfold FL; decide
  have a9 : absI q.num < FL := by unfold absI; split <;> omega
  have h2 : two (dq q) = some (q.num, (q.den : Int)) := by
    by_cases d : q.den = 1
    · rw [dq_int d, d]
      rfl
    · rw [dq_tup d]
      rfl
  have e1 : holdsB .fr (dq q) = true := by
    by_cases e : q.den = 1
    · rw [dq_int e]
      rfl
    · rw [dq_tup e]
      show (false || (decide ((2 : Int) ≤ (q.den : Int)) && decide (Nat.gcd q.num.natAbs (q.den : Int).natAbs = 1))) = true
      rw [decide_eq_true (show (2 : Int) ≤ (q.den : Int) by omega), Int.natAbs_natCast, decide_eq_true (show Nat.gcd q.num.natAbs q.den = 1 from q.reduced)]
      rfl
  unfold numB
  rw [e1, longB_two h2, decide_eq_false (by omega), decide_eq_false (by omega)]
  rfl
theorem paired_at {α β : Type} {R : List α → β → Prop} : ∀ {xs : List (List α)} {ys : List β}, Paired R xs ys → ∀ {i : Nat}, i < xs.length → ∃ r, ys[i]? = some r ∧ R (xs.getD i []) r
  | _, _, .nil, i, h => by cases h
  | x :: xs, y :: ys, .cons h t, 0, _ => ⟨y, rfl, h⟩
  | x :: xs, y :: ys, .cons h t, i + 1, hi => by
    obtain ⟨r, h1, h2⟩ := paired_at t (i := i) (by rw [List.length_cons] at hi; omega)
    exact ⟨r, by rw [List.getElem?_cons_succ]; exact h1, by rw [List.getD_cons_succ]; exact h2⟩
/-- a list of lists of values -/
def TabV (H : Hp) (t : Addr) (rows : List (List V)) : Prop := ∃ ts : List Addr, H t = some (.lst (ts.map V.ref)) ∧ ts.length = rows.length ∧ ∀ i d, ts[i]? = some d → H d = some (.lst (rows.getD i []))
theorem TabV.same {H H' : Hp} {t : Addr} {rows : List (List V)} (h : TabV H t rows) (s : Same H H') : TabV H' t rows := by
  obtain ⟨ts, h1, h2, h3⟩ := h
  exact ⟨ts, s _ _ h1, h2, fun i d e => s _ _ (h3 i d e)⟩
section
variable {P : Program} {w : World} {K : PySem.W.Frag} {mg : Str → Option Value} {base : Heap}
def spIsRow (K : PySem.W.Frag) : Sp := fun vs H Q _ => ∃ (f l : Addr) (xs : List V) (qs : List Rat) (B : Nat), vs = [.ref f, .ref l] ∧ FieldC K H f .fr ∧ H l = some (.lst xs) ∧ NumsQ H xs qs ∧ 0 < B ∧ B ≤ 1000 ∧ (∀ q ∈ qs, SmQ B q) ∧ qs.length ≤ 24 ∧ ∀ H', Same H H' → Q (.bl true) H'
theorem ok_is_row (T : Tx K mg) : FnG P w K mg base CX0 5 (He.ga K "is_row") (spIsRow K) := by
  refine mk_is_row T.d (fun vs H Q E h => ?_) (fun cdv A outer s H vs Q E hg hr h => ?_)
  · obtain ⟨f, l, xs, qs, B, rfl, _⟩ := h
    rfl
  · obtain ⟨f, l, xs, qs, B, rfl, F, hl, nq, B0, B9, sm, x24, q⟩ := h
    have nd := sc_is_row.nd
    refine ⟨_, pss_one (ps_ret (pe_and (pe_callB call_isiT (by rfl) (T.z "isinstance" (by decide +kernel)) (by decide +kernel) (pa_cons (pv 1) (pa_cons (pe_tup (pa_cons
          (pe_bltn (v := .ty "list") (by rfl) (T.z "list" (by decide +kernel)) (by decide +kernel) rfl) (pa_cons (pe_bltn (v := .ty "tuple") (by rfl) (T.z "tuple" (by decide +kernel)) (by decide +kernel) rfl) pa_nil))) pa_nil)))
      (pe_one (pe_callB (cr_all rfl) (by rfl) (T.z "all" (by decide +kernel)) (by decide +kernel) (pa_cons
          (pe_lc (own := [("number", 2)]) (g := gName 2) (tt := tYes) (te := teNum K) rfl nd (pi_list (pv 1)) (blkOk_by (N := n_is_row) (sc := defScope s_is_row) (by decide +kernel)) (fun _ _ _ _ _ => pg_name (i := 2) nd rfl (Or.inl rfl)) (fun _ _ _ _ _ => pts_nil)
            (fun _ _ _ _ _ => pe_methG (pv 0) (kp_Field_is_number T.d) (ok_is_number T) hr hg pass0 (pa_cons (pv 2) pa_nil))) pa_nil))))), ?_⟩
    refine ⟨_, rfl, by show 2 ≤ sizeLine; decide, fun t nt => ?_⟩
    have s1 := same_up (o := .tup [V.ty "list", V.ty "tuple"]) nt
    refine ⟨.ref l, t, _, _, _, true, rfl, upd_same, pair_lt, .base (.lst (s1 _ _ hl)), kit_lt K, _, rfl, ifT rfl ?_⟩
    refine ⟨_, rfl, l, rfl, ⟨_, SqL.of (s1 _ _ hl)⟩, fun D nD => ?_⟩
    refine lc_oneS (te := teNum K) (j := 2) wk_list (fun _ => V.bl true) nD (by rw [nq.1]; omega) (fun H s => SqL.of (s _ _ (s1 _ _ hl))) (fun i x H2 R hi s2 hx r => ?_) fun H2 s2 hD => ?_
    · obtain ⟨q0, e0, n0⟩ := (nq.same (s1.trans s2)).get hx
      refine go_methG rfl (F.same (s1.trans s2)) (by decide +kernel) (by decide +kernel) ⟨_, rfl, f, x, dq q0, .fr, rfl, F.same (s1.trans s2), do_q n0, trivial, fun H' s' => ?_⟩
      rw [numB_sm B0 B9 (sm q0 (List.mem_of_getElem? e0))]
      exact r H' s'
    · rw [all_true] at hD
      refine ⟨D, _, rfl, SqL.of hD, ?_⟩
      rw [all_rep]
      exact q H2 (s1.trans s2)
def spIsTab (K : PySem.W.Frag) : Sp := fun vs H Q _ => ∃ (f t : Addr) (rows : List (List V)) (qr : List (List Rat)) (n B : Nat), vs = [.ref f, .ref t, .int n] ∧ FieldC K H f .fr ∧ TabV H t rows ∧ Paired (NumsQ H) rows qr ∧ 0 < B ∧ B ≤ 1000 ∧ SqQ n qr ∧ (∀ r ∈ qr, ∀ q ∈ r, SmQ B q) ∧ n ≤ 24 ∧ ∀ H', Same H H' → Q (.bl true) H'
def teTab (K : PySem.W.Frag) : TE := tAndV (fun σ H Q => tCons (tVar 0) (tCons (tVar 3) tNil) σ H fun vs H1 => spIsRow K vs H1 Q E0) (tOp rEq (tCB (fun xs H Q => ∃ p ys, xs = [.ref p] ∧ (SqL K H p ys ∨ SqT K H p ys) ∧ Q (.int ys.length) H) (tCons (tVar 3) tNil)) (tVar 2))
theorem ok_is_table (T : Tx K mg) : FnG P w K mg base CX0 6 (He.ga K "is_table") (spIsTab K) := by
  refine mk_is_table T.d (fun vs H Q E h => ?_) (fun cdv A outer s H vs Q E hg hr h => ?_)
  · obtain ⟨f, t, rows, qr, n, B, rfl, _⟩ := h
    rfl
  · obtain ⟨f, t, rows, qr, n, B, rfl, F, ⟨ts, ht, lt, hd⟩, pr, B0, B9, sq, ir, n24, q⟩ := h
    have lq := paired_len pr
    have sl := sq.l
    have nd := sc_is_table.nd
    refine ⟨_, pss_cons (ps_if (PW.pt (pw_or (pt_not (pt_val (pe_callB call_isiT (by rfl) (T.z "isinstance" (by decide +kernel)) (by decide +kernel) (pa_cons (pv 1) (pa_cons (pe_tup (pa_cons
          (pe_bltn (v := .ty "list") (by rfl) (T.z "list" (by decide +kernel)) (by decide +kernel) rfl) (pa_cons (pe_bltn (v := .ty "tuple") (by rfl) (T.z "tuple" (by decide +kernel)) (by decide +kernel) rfl) pa_nil))) pa_nil)))))
          (pw_or1 (pt_cmpR op_ne (pe_callB call_len_seq (by rfl) (T.z "len" (by decide +kernel)) (by decide +kernel) (pa_cons (pv 1) pa_nil)) (pv 2) (nomark _))))) pss_never pss_nil)
      (pss_one (ps_ret (pe_callB (cr_all rfl) (by rfl) (T.z "all" (by decide +kernel)) (by decide +kernel) (pa_cons
          (pe_lc (own := [("row", 3)]) (g := gName 3) (tt := tYes) (te := teTab K) rfl nd (pi_list (pv 1)) (blkOk_by (N := n_is_table) (sc := defScope s_is_table) (by decide +kernel)) (fun _ _ _ _ _ => pg_name (i := 3) nd rfl (Or.inl rfl)) (fun _ _ _ _ _ => pts_nil)
            (fun _ _ _ _ _ => pe_and (pe_callG (ok_is_row T) hr hg (by rfl) (T.g "is_row" (by decide +kernel)) (kp_is_row T.d) pass0 (pa_cons (pv 0) (pa_cons (pv 3) pa_nil)))
              (pe_one (pe_cmpR op_eq (pe_callB call_len_seq (by rfl) (T.z "len" (by decide +kernel)) (by decide +kernel) (pa_cons (pv 3) pa_nil)) (pv 2) (nomark _))))) pa_nil)))), ?_⟩
    refine ⟨_, rfl, by show 2 ≤ sizeLine; decide, fun u nu => ?_⟩
    have s1 := same_up (o := .tup [V.ty "list", V.ty "tuple"]) nu
    refine ⟨.ref t, u, _, _, _, true, rfl, upd_same, pair_lt, .base (.lst (s1 _ _ ht)), kit_lt K, _, rfl, ifF rfl ?_⟩
    refine ⟨_, rfl, t, _, rfl, .inl (SqL.of (s1 _ _ ht)), _, rfl, rfl, _, rfl, ?_⟩
    rw [iEq, decide_eq_true (show ((ts.map V.ref).length : Int) = (n : Int) by rw [List.length_map, lt, lq, sl])]
    refine ifF rfl ⟨_, rfl, t, rfl, ⟨_, SqL.of (s1 _ _ ht)⟩, fun D nD => ?_⟩
    refine lc_oneS (te := teTab K) (j := 3) wk_list (fun _ => V.bl true) nD (by rw [List.length_map, lt, lq, sl]; omega) (fun H s => SqL.of (s _ _ (s1 _ _ ht))) (fun i x H2 R hi s2 hx r => ?_) fun H2 s2 hD => ?_
    · obtain ⟨d, e, rfl⟩ := ref_at hx
      have hl : i < rows.length := by rw [List.length_map, lt] at hi; exact hi
      obtain ⟨r0, hr0, nr0⟩ := paired_at pr hl
      have hm := List.mem_of_getElem? hr0
      have s12 := s1.trans s2
      have hd2 := s12 _ _ (hd i d e)
      have lr := sq.r _ hm
      refine ⟨_, rfl, _, rfl, f, d, _, r0, B, rfl, F.same s12, hd2, nr0.same s12, B0, B9, ir _ hm, by omega, fun H' s' => ⟨_, rfl, ifT rfl ?_⟩⟩
      refine ⟨_, rfl, d, _, rfl, .inl (SqL.of (s' _ _ hd2)), _, rfl, rfl, ?_⟩
      rw [iEq, decide_eq_true (show ((rows.getD i []).length : Int) = (n : Int) by rw [nr0.1, lr])]
      exact r H' s'
    · rw [all_true] at hD
      refine ⟨D, _, rfl, SqL.of hD, ?_⟩
      rw [all_rep]
      exact q H2 (s1.trans s2)
end
end K19.F

namespace K19.F
open PySem PySem.Spec PyProof.Rows L2 Ver Num SX
/-- a number whose top over B is at most t -/
def Top (t B : Nat) (q : Rat) : Prop := q.den ∣ B ∧ q.num.natAbs * (B / q.den) ≤ t
/-- a machine over the fractions: its values as they lie there, and the numbers; bottoms divide B, tops over B are at most t, words have at most w letters -/
structure MacQ where
  B : Nat
  t : Nat
  w : Nat
  cs : List Nat
  st : List Rat
  tb : Nat → List (List Rat)
  en : List Rat
  vst : List V
  vtb : Nat → List (List V)
  ven : List V
structure MOkQ (M : MacQ) : Prop where
  B0 : 0 < M.B
  B9 : M.B ≤ 1000
  t9 : M.t ≤ 1000
  cs : CsOk M.cs
  n24 : M.st.length ≤ 24
  en : M.en.length = M.st.length
  ist : ∀ q ∈ M.st, Top M.t M.B q
  ien : ∀ q ∈ M.en, Top M.t M.B q
  sq : ∀ c ∈ M.cs, SqQ M.st.length (M.tb c)
  itb : ∀ c ∈ M.cs, ∀ r ∈ M.tb c, ∀ q ∈ r, Top M.t M.B q
  big : ∀ j ≤ M.w, M.t * (M.st.length * M.t) ^ j ≤ 2 ^ 62
  bot : ∀ j ≤ M.w, M.B * M.B ^ j ≤ 2 ^ 62
theorem Top.sm {t B : Nat} {q : Rat} (h : Top t B q) (B0 : 0 < B) (t9 : t ≤ 1000) : SmQ B q := by
  refine ⟨h.1, Nat.le_trans ?_ (Nat.le_trans h.2 t9)⟩
  exact Nat.le_mul_of_pos_right _ (Nat.div_pos (Nat.le_of_dvd B0 h.1) q.den_pos)
theorem MOkQ.sm {M : MacQ} (ok : MOkQ M) (q : Rat) (h : Top M.t M.B q) : SmQ M.B q := h.sm ok.B0 ok.t9
theorem paired_mono {α β : Type} {R R' : α → β → Prop} (f : ∀ x y, R x y → R' x y) : ∀ {xs : List α} {ys : List β}, Paired R xs ys → Paired R' xs ys
  | _, _, .nil => .nil
  | _, _, .cons h t => .cons (f _ _ h) (paired_mono f t)
/-- its numbers are what lies there -/
structure NumsM (H : Hp) (M : MacQ) : Prop where
  st : NumsQ H M.vst M.st
  en : NumsQ H M.ven M.en
  tb : ∀ c ∈ M.cs, Paired (NumsQ H) (M.vtb c) (M.tb c)
/-- tuples stay -/
def KeepT (H H' : Hp) : Prop := ∀ a xs, H a = some (.tup xs) → H' a = some (.tup xs)
theorem Same.keep {H H' : Hp} (s : Same H H') : KeepT H H' := fun a xs h => s _ _ h
theorem KeepT.trans {H H1 H2 : Hp} (h : KeepT H H1) (g : KeepT H1 H2) : KeepT H H2 := fun a xs e => g _ _ (h _ _ e)
theorem SameX.keep {o : Addr} {H H' : Hp} (s : SameX o H H') {u : HO} (ho : H o = some u) (n : ∀ xs, u ≠ .tup xs) : KeepT H H' := fun a xs h => s _ _ (fun z => n xs (Option.some.inj (ho.symm.trans (z ▸ h)))) h
theorem NumQ.keep {H H' : Hp} {x : V} {q : Rat} (h : NumQ H x q) (s : KeepT H H') : NumQ H' x q := by
  rcases h with h | ⟨d, a, e, h⟩
  · exact .inl h
  · exact .inr ⟨d, a, e, s _ _ h⟩
theorem NumsQ.keep {H H' : Hp} {xs : List V} {qs : List Rat} (h : NumsQ H xs qs) (s : KeepT H H') : NumsQ H' xs qs := ⟨h.1, fun i x q a b => NumQ.keep (h.2 i x q a b) s⟩
theorem NumsM.keep {H H' : Hp} {M : MacQ} (h : NumsM H M) (s : KeepT H H') : NumsM H' M := ⟨h.st.keep s, h.en.keep s, fun c hc => paired_mono (fun _ _ g => g.keep s) (h.tb c hc)⟩
/-- its parts, just laid -/
structure PartsV (H : Hp) (a d b : Addr) (M : MacQ) : Prop where
  a : H a = some (.lst M.vst)
  b : H b = some (.lst M.ven)
  d : ∃ ta, H d = some (.dK (dAt M.cs ta)) ∧ ∀ c ∈ M.cs, TabV H (ta c) (M.vtb c)
  n : NumsM H M
theorem PartsV.same {H H' : Hp} {a d b : Addr} {M : MacQ} (h : PartsV H a d b M) (s : Same H H') : PartsV H' a d b M := by
  obtain ⟨ta, h1, h2⟩ := h.d
  exact ⟨s _ _ h.a, s _ _ h.b, ⟨ta, s _ _ h1, fun c hc => (h2 c hc).same s⟩, h.n.keep (Same.keep s)⟩
section
variable {P : Program} {w : World} {K : PySem.W.Frag} {mg : Str → Option Value} {base : Heap}
def spCheck (K : PySem.W.Frag) : Sp := fun vs H Q _ => ∃ (f a d b : Addr) (M : MacQ), vs = [.ref f, .str (S M.cs), .ref a, .ref d, .ref b] ∧ FieldC K H f .fr ∧ MOkQ M ∧ PartsV H a d b M ∧ ∀ H', Same H H' → Q .non H'
theorem ok_check (T : Tx K mg) : FnG P w K mg base CX0 7 (He.ga K "check_parts") (spCheck K) := by
  refine mk_check_parts T.d (fun vs H Q E h => ?_) (fun cdv A outer s H vs Q E hg hr h => ?_)
  · obtain ⟨f, a, d, b, M, rfl, _⟩ := h
    rfl
  · obtain ⟨f, a, d, b, M, rfl, F, ok, pt, q⟩ := h
    have nd := sc_check_parts.nd
    have hu : (A.deeper (envOfC "check_parts" (defScope s_check_parts) s.heap.objs.size (He.ga K "check_parts") cdv)).units + 1 < cLine := by have := hr.units; omega
    obtain ⟨tm, gm⟩ := T.ms
    have zi := T.z "isinstance" (by decide +kernel)
    have bi : bootBuiltins "isinstance" = some (.builtin "isinstance") := by decide +kernel
    have zl := T.z "len" (by decide +kernel)
    have bl : bootBuiltins "len" = some (.builtin "len") := by decide +kernel
    refine ⟨_, pss_cons (ps_if (pt_not (pt_val (pe_callB call_isi (by rfl) zi bi (pa_cons (pv 0) (pa_cons (pe_glob (v := .ref (He.ga K "Field")) (by rfl) (T.g "Field" (by decide +kernel)) rfl) pa_nil))))) pss_never pss_nil)
      (pss_cons (ps_if (pt_not (pt_val (pe_callG (ok_is_lettersB T) (hr.mono (by decide)) hg (by rfl) (T.g "is_letters" (by decide +kernel)) (kp_is_letters T.d) pass0 (pa_cons (pv 1) pa_nil)))) pss_never pss_nil)
      (pss_cons (ps_if (pt_not (pt_val (pe_callG (ok_is_row T) (hr.mono (by decide)) hg (by rfl) (T.g "is_row" (by decide +kernel)) (kp_is_row T.d) pass0 (pa_cons (pv 0) (pa_cons (pv 2) pa_nil))))) pss_never pss_nil)
      (pss_cons (ps_set (i := 5) nd rfl (Or.inl rfl) (pe_callB call_len_seq (by rfl) zl bl (pa_cons (pv 2) pa_nil)))
      (pss_cons (ps_if (PW.pt (pw_or (pt_not (pt_val (pe_callG (ok_is_row T) (hr.mono (by decide)) hg (by rfl) (T.g "is_row" (by decide +kernel)) (kp_is_row T.d) pass0 (pa_cons (pv 0) (pa_cons (pv 4) pa_nil)))))
          (pw_or1 (pt_cmpR op_ne (pe_callB call_len_seq (by rfl) zl bl (pa_cons (pv 4) pa_nil)) (pv 5) (nomark _))))) pss_never pss_nil)
      (pss_cons (ps_if (PW.pt (pw_or (pt_not (pt_val (pe_callB call_isi (by rfl) zi bi (pa_cons (pv 3) (pa_cons (pe_bltn (v := .ty "dict") (by rfl) (T.z "dict" (by decide +kernel)) (by decide +kernel) rfl) pa_nil)))))
          (pw_or1 (pt_cmpR op_ne (pe_callB call_lenD (by rfl) zl bl (pa_cons (pv 3) pa_nil)) (pe_callB call_len_str (by rfl) zl bl (pa_cons (pv 1) pa_nil)) (nomark _))))) pss_never pss_nil)
      (pss_cons (ps_for PassesOwn.never rfl (pi_str (pv 1)) (pg_name (i := 6) nd rfl (.inl rfl))
        (pss_one (ps_if (PW.pt (pw_or (pt_cmp (pc_dnotin hu (pv 6) (pv 3)))
          (pw_or1 (pt_not (pt_val (pe_callG (ok_is_table T) hr hg (by rfl) (T.g "is_table" (by decide +kernel)) (kp_is_table T.d) pass0 (pa_cons (pv 0) (pa_cons (pe_dget hu (pv 3) (pv 6) (fun _ _ => rfl)) (pa_cons (pv 5) pa_nil))))))))) pss_never pss_nil)))
      (pss_one (ps_if (pt_cmpR op_gt (pv 5) (pe_glob (v := .int 24) (by rfl) gm ⟨_, rfl⟩) (nomark _)) pss_never pss_nil)))))))), ?_⟩
    have n24 := ok.n24
    have len := ok.en
    have lst := pt.n.st.1
    have len2 := pt.n.en.1
    have c4 := ok.cs.few
    have tyF : TyX K H (.ref f) (.ref (Classical.choose F)) ∧ PySem.W.kitOne K (.ref (Classical.choose F)) (.ref (He.ga K "Field")) = some true := by
      obtain ⟨dx, fc, mc, e⟩ := Classical.choose_spec F
      exact ⟨.base (.ins e fc.cl mc.cl T.clS T.clT mc.ob), mc.isF⟩
    refine ⟨_, rfl, _, _, _, _, true, rfl, .own _, tyF.1, tyF.2, _, rfl, ifF rfl ?_⟩
    refine ⟨_, rfl, M.cs, rfl, cs_lt ok.cs, by omega, fun H1 s1 => ⟨_, rfl, ?_⟩⟩
    rw [decide_eq_true ok.cs]
    refine ifF rfl ?_
    refine ⟨_, rfl, _, rfl, f, a, M.vst, M.st, M.B, rfl, F.same s1, s1 _ _ pt.a, pt.n.st.same s1, ok.B0, ok.B9, fun q hq => ok.sm q (ok.ist q hq), n24, fun H2 s2 => ⟨_, rfl, ifF rfl ?_⟩⟩
    have s12 := s1.trans s2
    have p2 := pt.same s12
    refine ⟨_, rfl, a, _, rfl, .inl (SqL.of p2.a), ?_⟩
    refine ⟨_, rfl, _, rfl, f, b, M.ven, M.en, M.B, rfl, F.same s12, p2.b, p2.n.en, ok.B0, ok.B9, fun q hq => ok.sm q (ok.ien q hq), by omega, fun H3 s3 => ⟨_, rfl, ifF rfl ?_⟩⟩
    have s13 := s12.trans s3
    have p3 := pt.same s13
    refine ⟨_, rfl, b, _, rfl, .inl (SqL.of p3.b), _, rfl, rfl, _, rfl, ?_⟩
    rw [iEq, decide_eq_true (show (M.ven.length : Int) = (M.vst.length : Int) by rw [len2, lst, len])]
    refine ifF rfl ?_
    obtain ⟨ta, hd3, htb⟩ := p3.d
    have ld : (dAt M.cs ta).length = M.cs.length := List.length_map ..
    refine ⟨_, rfl, _, _, _, _, true, rfl, .ty "dict", .base (.dK hd3), kit_ty (by decide +kernel), _, rfl, ifF rfl ?_⟩
    refine ⟨_, rfl, d, _, rfl, hd3, _, rfl, _, rfl, by rw [S_len]; exact sl_of (by omega), rfl, _, rfl, ?_⟩
    rw [iEq, decide_eq_true (show ((dAt M.cs ta).length : Int) = ((S M.cs).length : Int) by rw [ld, S_len])]
    refine ifF rfl ?_
    refine ⟨_, rfl, S M.cs, rfl, for_it wk_str (fun j σ H' => ∃ v6 : Option V, σ = [some (.ref f), some (.str (S M.cs)), some (.ref a), some (.ref d), some (.ref b), some (.int (M.vst.length : Int)), v6] ∧ Same H3 H') ⟨none, rfl, Same.refl H3⟩ (fun _ _ _ _ _ => trivial) ?_ ?_⟩
    · rintro j x σ H4 H5 hj ⟨v6, rfl, s4⟩ ⟨rfl, c, hc, rfl⟩
      rw [← Array.getElem?_toList, chars_S] at hc
      have hm := List.mem_of_getElem? hc
      have hg := DGet.k (k := Sum.inr (S [c])) (s4 _ _ hd3)
      rw [valV_dAt ta hm] at hg
      refine ⟨_, rfl, _, rfl, d, _, rfl, hg, _, rfl, ifF rfl ?_⟩
      refine ⟨_, rfl, _, rfl, _, rfl, d, _, rfl, hg, _, rfl, f, ta c, M.vtb c, M.tb c, M.st.length, M.B, ?_, F.same (s13.trans s4), (htb c hm).same s4, paired_mono (fun _ _ h => h.same s4) (p3.n.tb c hm), ok.B0, ok.B9, ok.sq c hm, fun r hr q hq => ok.sm q (ok.itb c hm r hr q hq), n24, fun H6 s6 => ⟨_, rfl, ifF rfl ⟨_, rfl, s4.trans s6⟩⟩⟩
      rw [lst]
    · rintro σ H4 ⟨v6, rfl, s4⟩
      refine ⟨_, rfl, _, _, rfl, rfl, _, rfl, ?_⟩
      exact ifF (decide_eq_false (by omega)) (q H4 (s13.trans s4))
end
end K19.F

namespace K19.F
open PySem PySem.Spec PyProof.Rows L2 Ver Num SX
/-- a step just made -/
def StepD (H : Hp) (s : Addr) (L : Int) (cols : List (List Int)) : Prop := ∃ (c : Addr) (ds : List Addr), H s = some (.tup [.ref c, .int L]) ∧ H c = some (.lst (ds.map V.ref)) ∧ ds.length = cols.length ∧ ∀ i d, ds[i]? = some d → H d = some (.lst (nums (cols.getD i [])))
theorem StepD.toG {K : PySem.W.Frag} {H : Hp} {s : Addr} {L : Int} {cols : List (List Int)} (h : StepD H s L cols) : StepG K H s L cols := by
  obtain ⟨c, ds, h1, h2, h3, h4⟩ := h
  exact ⟨c, ds, .inl (.inl h1), SqL.of h2, h3, fun i d e => SqL.of (h4 i d e)⟩
theorem StepD.same {H H' : Hp} {r : Addr} {L : Int} {cols : List (List Int)} (h : StepD H r L cols) (s : Same H H') : StepD H' r L cols := by
  obtain ⟨c, ds, h1, h2, h3, h4⟩ := h
  exact ⟨c, ds, s _ _ h1, s _ _ h2, h3, fun i d e => s _ _ (h4 i d e)⟩
theorem StepH.toD {H0 H : Hp} {s : Addr} {L : Int} {cols : List (List Int)} (h : StepH H0 H s L cols) : StepD H s L cols := by
  obtain ⟨c, ds, h1, h2, h3, h4⟩ := h
  exact ⟨c, ds, h1.2, h2.2, h3, fun i d e => (h4 i d e).2⟩
theorem StepH.same {H0 H H' : Hp} {s : Addr} {L : Int} {cols : List (List Int)} (h : StepH H0 H s L cols) (sm : Same H H') : StepH H0 H' s L cols := by
  obtain ⟨c, ds, h1, h2, h3, h4⟩ := h
  exact ⟨c, ds, h1.same sm, h2.same sm, h3, fun i d e => (h4 i d e).same sm⟩
theorem StepH.from {H0 H1 H : Hp} {s : Addr} {L : Int} {cols : List (List Int)} (h : StepH H1 H s L cols) (n : ∀ b, H1 b = none → H0 b = none) : StepH H0 H s L cols := by
  obtain ⟨c, ds, h1, h2, h3, h4⟩ := h
  exact ⟨c, ds, ⟨n _ h1.1, h1.2⟩, ⟨n _ h2.1, h2.2⟩, h3, fun i d e => ⟨n _ (h4 i d e).1, (h4 i d e).2⟩⟩
/-- a tuple of tuples, none of them at D -/
def TabW (D : Addr) (H : Hp) (t : Addr) (rows : List (List V)) : Prop := t ≠ D ∧ ∃ ts : List Addr, H t = some (.tup (ts.map V.ref)) ∧ ts.length = rows.length ∧ ∀ i d, ts[i]? = some d → d ≠ D ∧ H d = some (.tup (rows.getD i []))
theorem TabW.sx {D : Addr} {H H' : Hp} {t : Addr} {rows : List (List V)} (h : TabW D H t rows) (s : SameX D H H') : TabW D H' t rows := by
  obtain ⟨n, ts, h1, h2, h3⟩ := h
  exact ⟨n, ts, s _ _ n h1, h2, fun i d e => ⟨(h3 i d e).1, s _ _ (h3 i d e).1 (h3 i d e).2⟩⟩
def StepY (D : Addr) (H0 H : Hp) (s : Addr) (L : Int) (cols : List (List Int)) : Prop := s ≠ D ∧ ∃ (c : Addr) (ds : List Addr), c ≠ D ∧ Fr H0 H s (.tup [.ref c, .int L]) ∧ Fr H0 H c (.lst (ds.map V.ref)) ∧ ds.length = cols.length ∧ ∀ i d, ds[i]? = some d → d ≠ D ∧ Fr H0 H d (.lst (nums (cols.getD i [])))
theorem StepY.sx {D : Addr} {H0 H H' : Hp} {t : Addr} {L : Int} {rows : List (List Int)} (h : StepY D H0 H t L rows) (s : SameX D H H') : StepY D H0 H' t L rows := by
  obtain ⟨n, c, ts, nc, h0, h1, h2, h3⟩ := h
  exact ⟨n, c, ts, nc, ⟨h0.1, s _ _ n h0.2⟩, ⟨h1.1, s _ _ nc h1.2⟩, h2, fun i d e => ⟨(h3 i d e).1, (h3 i d e).2.1, s _ _ (h3 i d e).1 (h3 i d e).2.2⟩⟩
theorem StepY.toH {D : Addr} {H0 H : Hp} {t : Addr} {L : Int} {rows : List (List Int)} (h : StepY D H0 H t L rows) : StepH H0 H t L rows := by
  obtain ⟨n, c, ts, nc, h0, h1, h2, h3⟩ := h
  exact ⟨c, ts, h0, h1, h2, fun i d e => (h3 i d e).2⟩
theorem StepH.y {D : Addr} {H0 H : Hp} {t : Addr} {L : Int} {rows : List (List Int)} (h : StepH H0 H t L rows) {u : HO} (hD : H D = some u) (n1 : ∀ xs, u ≠ .tup xs) (n2 : ∀ xs, u ≠ .lst xs) : StepY D H0 H t L rows := by
  obtain ⟨c, ts, h0, h1, h2, h3⟩ := h
  have k1 : ∀ {a xs}, H a = some (.tup xs) → a ≠ D := fun e z => n1 _ (Option.some.inj (hD.symm.trans (z ▸ e)))
  have k2 : ∀ {a xs}, H a = some (.lst xs) → a ≠ D := fun e z => n2 _ (Option.some.inj (hD.symm.trans (z ▸ e)))
  exact ⟨k1 h0.2, c, ts, k2 h1.2, h0, h1, h2, fun i d e => ⟨k2 (h3 i d e).2, h3 i d e⟩⟩
theorem StepH.off {o : Addr} {H0 H H' : Hp} (s : SameX o H H') {C dx : Addr} {fs : List (Str × V)} (ho : H o = some (.ins C dx fs)) {t : Addr} {L : Int} {rows : List (List Int)} (h : StepH H0 H t L rows) : StepH H0 H' t L rows :=
  ((h.y ho (fun _ z => by cases z) (fun _ z => by cases z)).sx s).toH
/-- a bottom of a letter's step -/
structure BotOk (M : MacQ) (c : Nat) (L : Nat) : Prop where
  l0 : 0 < L
  lB : L ∣ M.B
  d : ∀ r ∈ M.tb c, ∀ q ∈ r, q.den ∣ L
/-- the columns of a letter over a bottom -/
def colL (M : MacQ) (c L : Nat) : List (List Int) := colsOf M.st.length ((M.tb c).map (tops L))
def mfl (f a b dt ds : Addr) (M : MacQ) : List (Str × V) := [("_field", .ref f), ("_letters", .str (S M.cs)), ("_start", .ref a), ("_ends", .ref b), ("_tables", .ref dt), ("_steps", .ref ds)]
/-- the machine at m -/
structure MachF (K : PySem.W.Frag) (H : Hp) (m : Addr) (M : MacQ) : Prop where
  ex : ∃ (dx f a b dt ds : Addr) (sa : Nat → Addr), H m = some (.ins (MA K) dx [("_field", .ref f), ("_letters", .str (S M.cs)), ("_start", .ref a), ("_ends", .ref b), ("_tables", .ref dt), ("_steps", .ref ds)]) ∧ FieldC K H f .fr ∧
    H a = some (.tup M.vst) ∧ H b = some (.tup M.ven) ∧ H ds = some (.dK (dAt M.cs sa)) ∧ ∀ c ∈ M.cs, ∃ L, BotOk M c L ∧ StepD H (sa c) (L : Int) (colL M c L)
  n : NumsM H M
  ok : MOkQ M
theorem MachF.same {K : PySem.W.Frag} {H H' : Hp} {m : Addr} {M : MacQ} (h : MachF K H m M) (s : Same H H') : MachF K H' m M := by
  obtain ⟨dx, f, a, b, dt, ds, sa, h1, h2, h3, h4, h5, h6⟩ := h.ex
  refine ⟨⟨dx, f, a, b, dt, ds, sa, s _ _ h1, h2.same s, s _ _ h3, s _ _ h4, s _ _ h5, fun c hc => ?_⟩, h.n.keep (Same.keep s), h.ok⟩
  obtain ⟨L, b, g⟩ := h6 c hc
  exact ⟨L, b, g.same s⟩
/-- .. the lists of its steps new since H0 -/
structure MachY (K : PySem.W.Frag) (H0 H : Hp) (m : Addr) (M : MacQ) : Prop where
  ex : ∃ (dx f a b dt ds : Addr) (sa : Nat → Addr), H m = some (.ins (MA K) dx [("_field", .ref f), ("_letters", .str (S M.cs)), ("_start", .ref a), ("_ends", .ref b), ("_tables", .ref dt), ("_steps", .ref ds)]) ∧ FieldC K H f .fr ∧
    H a = some (.tup M.vst) ∧ H b = some (.tup M.ven) ∧ H ds = some (.dK (dAt M.cs sa)) ∧ ∀ c ∈ M.cs, ∃ L, BotOk M c L ∧ StepH H0 H (sa c) (L : Int) (colL M c L)
  n : NumsM H M
  ok : MOkQ M
theorem MachY.at_ {K : PySem.W.Frag} {H0 H : Hp} {m : Addr} {M : MacQ} (h : MachY K H0 H m M) : MachF K H m M := by
  obtain ⟨dx, f, a, b, dt, ds, sa, h1, h2, h3, h4, h5, h6⟩ := h.ex
  refine ⟨⟨dx, f, a, b, dt, ds, sa, h1, h2, h3, h4, h5, fun c hc => ?_⟩, h.n, h.ok⟩
  obtain ⟨L, b, g⟩ := h6 c hc
  exact ⟨L, b, g.toD⟩
theorem MachY.from {K : PySem.W.Frag} {H0 H1 H : Hp} {m : Addr} {M : MacQ} (h : MachY K H1 H m M) (n : ∀ b, H1 b = none → H0 b = none) : MachY K H0 H m M := by
  obtain ⟨dx, f, a, b, dt, ds, sa, h1, h2, h3, h4, h5, h6⟩ := h.ex
  refine ⟨⟨dx, f, a, b, dt, ds, sa, h1, h2, h3, h4, h5, fun c hc => ?_⟩, h.n, h.ok⟩
  obtain ⟨L, b, g⟩ := h6 c hc
  exact ⟨L, b, g.from n⟩
theorem MachY.same {K : PySem.W.Frag} {H0 H H' : Hp} {m : Addr} {M : MacQ} (h : MachY K H0 H m M) (s : Same H H') : MachY K H0 H' m M := by
  obtain ⟨dx, f, a, b, dt, ds, sa, h1, h2, h3, h4, h5, h6⟩ := h.ex
  refine ⟨⟨dx, f, a, b, dt, ds, sa, s _ _ h1, h2.same s, s _ _ h3, s _ _ h4, s _ _ h5, fun c hc => ?_⟩, h.n.keep (Same.keep s), h.ok⟩
  obtain ⟨L, b, g⟩ := h6 c hc
  exact ⟨L, b, g.same s⟩
/-- a list that was there is written -/
theorem MachY.up {K : PySem.W.Frag} {H0 H : Hp} {m D : Addr} {M : MacQ} {xs ys : List V} (h : MachY K H0 H m M) (n : H0 D ≠ none) (hD : H D = some (.lst xs)) : MachY K H0 (upd H D (.lst ys)) m M := by
  obtain ⟨dx, f, a, b, dt, ds, sa, h1, ⟨C, fx, fc, mc, h2⟩, h3, h4, h5, h6⟩ := h.ex
  have k : ∀ {u : Addr} {o : HO}, H u = some o → (∀ l, o ≠ .lst l) → upd H D (.lst ys) u = some o := fun {u o} e ne => by
    have : u ≠ D := fun z => by
      rw [z, hD] at e
      exact ne _ (Option.some.inj e).symm
    rw [upd_ne this]
    exact e
  have sx : SameX D H (upd H D (.lst ys)) := sameX_upd
  refine ⟨⟨dx, f, a, b, dt, ds, sa, k h1 (fun _ z => by cases z), ⟨C, fx, fc, mc, k h2 (fun _ z => by cases z)⟩, k h3 (fun _ z => by cases z), k h4 (fun _ z => by cases z), k h5 (fun _ z => by cases z), fun c hc => ?_⟩, h.n.keep (SameX.keep sx hD fun _ z => by cases z), h.ok⟩
  obtain ⟨L, bo, c2, ds2, g1, g2, g3, g4⟩ := h6 c hc
  exact ⟨L, bo, c2, ds2, g1.off n sx, g2.off n sx, g3, fun i d e => (g4 i d e).off n sx⟩
end K19.F

namespace K19.F
open PySem PySem.Spec PyProof.Rows L2 Ver Num SX
theorem TabQ.same {K : PySem.W.Frag} {H H' : Hp} {t : Addr} {qr : List (List Rat)} (h : TabQ K H t qr) (s : Same H H') : TabQ K H' t qr := by
  obtain ⟨ts, vr, h1, h2, h3, h4⟩ := h
  exact ⟨ts, vr, sqt_same s h1, h2, fun i d e => sqt_same s (h3 i d e), paired_mono (fun _ _ g => g.same s) h4⟩
def teStF (K : PySem.W.Frag) : TE := fun σ H Q => tCons (tVar 1) (tCons (tDGet (tFld K (tVar 0) "_tables") (tVar 7)) tNil) σ H fun vs H1 => spStep K vs H1 Q E0
section
variable {P : Program} {w : World} {K : PySem.W.Frag} {mg : Str → Option Value} {base : Heap}
def spInit (K : PySem.W.Frag) : Sp := fun vs H Q _ => ∃ (o dx f a d b : Addr) (M : MacQ), vs = [.ref o, .ref f, .str (S M.cs), .ref a, .ref d, .ref b] ∧ FieldC K H f .fr ∧ MOkQ M ∧ PartsV H a d b M ∧ H o = some (.ins (MA K) dx []) ∧
  ∀ H', SameX o H H' → MachY K H H' o M → Q .non H'
theorem ok_init (T : Tx K mg) : FnG P w K mg base CX0 8 (He.ma K (He.ga K "Machine") "__init__") (spInit K) := by
  refine mk_Machine___init__ T.d (fun vs H Q E h => ?_) (fun cdv A outer s H vs Q E hg hr h => ?_)
  · obtain ⟨o, dx, f, a, d, b, M, rfl, _⟩ := h
    rfl
  · obtain ⟨o, dx, f, a, d, b, M, rfl, F, ok, pt, ho, q⟩ := h
    have nd := sc_Machine___init__.nd
    have hu : (A.deeper (envOfC "Machine.__init__" (defScope s_Machine___init__) s.heap.objs.size (He.ma K (He.ga K "Machine") "__init__") cdv)).units + 1 < cLine := by have := hr.units; omega
    have zt := T.z "tuple" (by decide +kernel)
    have bt : bootBuiltins "tuple" = some (.type "tuple") := by decide +kernel
    refine ⟨_, pss_cons (ps_if (pt_val (pe_callB call_isi (by rfl) (T.z "isinstance" (by decide +kernel)) (by decide +kernel) (pa_cons (pv 3) (pa_cons (pe_glob (v := .ref (He.ga K "Worked")) (by rfl) (T.g "Worked" (by decide +kernel)) rfl) pa_nil)))) pss_never
        (pss_one (ps_expr (pe_callG (ok_check T) hr hg (by rfl) (T.g "check_parts" (by decide +kernel)) (kp_check_parts T.d) pass0 (pa_cons (pv 1) (pa_cons (pv 2) (pa_cons (pv 3) (pa_cons (pv 4) (pa_cons (pv 5) pa_nil)))))))))
      (pss_cons (ps_fld (pv 0) (pv 1) rfl)
      (pss_cons (ps_fld (pv 0) (pv 2) rfl)
      (pss_cons (ps_fld (pv 0) (pe_callTy call_tuple_of (by rfl) zt bt (pa_cons (pv 3) pa_nil)) rfl)
      (pss_cons (ps_fld (pv 0) (pe_callTy call_tuple_of (by rfl) zt bt (pa_cons (pv 5) pa_nil)) rfl)
      (pss_cons (ps_fld (pv 0) (pe_dc (own := [("letter", 7)]) (g := gName 7) (tt := tYes) (tk := tVar 7) (tv := tvTab K) rfl nd (pi_str (pv 2)) (blkOk_by (N := n_Machine___init__) (sc := defScope s_Machine___init__) (by decide +kernel)) (fun _ _ _ _ _ => pg_name (i := 7) nd rfl (Or.inl rfl)) (fun _ _ _ _ _ => pts_nil)
          (fun _ _ _ _ _ => pv 7) (fun _ _ _ _ _ => pe_callTy call_tuple_of (by rfl) zt bt (pa_cons
            (pe_lc (own := [("row", 6)]) (g := gName 6) (tt := tYes) (wi := iList K (tDGet (tVar 4) (tVar 7))) (te := tCB (rTup K) (tCons (tVar 6) tNil)) rfl nd (pi_list (pe_dget hu (pv 4) (pv 7) (fun _ _ => rfl))) (blkOk_by (N := n_Machine___init__) (sc := tabScope) (by decide +kernel)) (fun _ _ _ _ _ => pg_name (i := 6) nd rfl (Or.inl rfl)) (fun _ _ _ _ _ => pts_nil)
              (fun _ _ _ _ _ => pe_callTy call_tuple_of (by rfl) zt bt (pa_cons (pv 6) pa_nil))) pa_nil))) rfl)
      (pss_one (ps_fld (pv 0) (pe_dc (own := [("letter", 7)]) (g := gName 7) (tt := tYes) (tk := tVar 7) (tv := teStF K) rfl nd (pi_str (pv 2)) (blkOk_by (N := n_Machine___init__) (sc := defScope s_Machine___init__) (by decide +kernel)) (fun _ _ _ _ _ => pg_name (i := 7) nd rfl (Or.inl rfl)) (fun _ _ _ _ _ => pts_nil)
          (fun _ _ _ _ _ => pv 7) (fun _ _ _ _ _ => pe_callG (ok_step T) (hr.mono (by decide)) hg (by rfl) (T.g "step_of" (by decide +kernel)) (kp_step_of T.d) pass0 (pa_cons (pv 1) (pa_cons (pe_dget hu (pe_fld (pv 0) rfl) (pv 7) (fun _ _ => rfl)) pa_nil)))) rfl))))))), ?_⟩
    have nf : ∀ f ∈ mfs, NoAttr K (MA K) f := T.o.na
    have n24 := ok.n24
    have c4 := ok.cs.few
    have asz : (S M.cs).cps.size = M.cs.length := by simp
    have ndc := asc_nodup ok.cs.asc
    refine ⟨_, rfl, _, _, _, _, false, rfl, .own _, .base (.lst pt.a), T.nW, _, rfl, ifF rfl ?_⟩
    refine ⟨_, rfl, _, rfl, _, rfl, _, rfl, _, rfl, f, a, d, b, M, rfl, F, ok, pt, fun H1 s1 => ?_⟩
    have ho1 := s1 _ _ ho
    -- _field
    refine ⟨_, rfl, _, rfl, o, _, dx, _, rfl, ho1, T.o.cl, nf _ (by decide +kernel), by show 0 < 1000; decide, ?_⟩
    generalize hH2 : upd H1 o (.ins (MA K) dx (putF "_field" (.ref f) [])) = H2 at *
    have x2 : SameX o H H2 := (Same.toX s1).trans (by rw [← hH2]; exact sameX_upd)
    have ho2 : H2 o = some (.ins (MA K) dx [("_field", .ref f)]) := by rw [← hH2, upd_same]; rfl
    -- _letters
    refine ⟨_, rfl, _, rfl, o, _, dx, _, rfl, ho2, T.o.cl, nf _ (by decide +kernel), by show 1 < 1000; decide, ?_⟩
    generalize hH3 : upd H2 o (.ins (MA K) dx (putF "_letters" (.str (S M.cs)) [("_field", .ref f)])) = H3 at *
    have x3 : SameX o H H3 := x2.trans (by rw [← hH3]; exact sameX_upd)
    have ho3 : H3 o = some (.ins (MA K) dx [("_field", .ref f), ("_letters", .str (S M.cs))]) := by rw [← hH3, upd_same]; rfl
    have off : ∀ {H' : Hp} {u : Addr} {y : HO}, SameX o H H' → H u = some y → (∀ C dx fs, y ≠ .ins C dx fs) → H' u = some y := fun x e n => x _ _ (fun z => n _ _ _ (Option.some.inj ((z ▸ e).symm.trans ho))) e
    -- _start
    refine ⟨_, rfl, a, _, rfl, .inl ⟨SqL.of (off x3 pt.a (fun _ _ _ z => by cases z)), fun ua nua => ?_⟩⟩
    have s4 := same_up (o := .tup M.vst) nua
    refine ⟨_, rfl, o, _, dx, _, rfl, s4 _ _ ho3, T.o.cl, nf _ (by decide +kernel), by show 2 < 1000; decide, ?_⟩
    have oa : ua ≠ o := (ne_of_none ho3 nua).symm
    generalize hH4 : upd (upd H3 ua (.tup M.vst)) o (.ins (MA K) dx (putF "_start" (.ref ua) [("_field", .ref f), ("_letters", .str (S M.cs))])) = H4 at *
    have x4 : SameX o H H4 := (x3.trans (Same.toX s4)).trans (by rw [← hH4]; exact sameX_upd)
    have ho4 : H4 o = some (.ins (MA K) dx [("_field", .ref f), ("_letters", .str (S M.cs)), ("_start", .ref ua)]) := by rw [← hH4, upd_same]; rfl
    have ha4 : H4 ua = some (.tup M.vst) := by rw [← hH4, upd_ne oa, upd_same]
    -- _ends
    refine ⟨_, rfl, b, _, rfl, .inl ⟨SqL.of (off x4 pt.b (fun _ _ _ z => by cases z)), fun ub nub => ?_⟩⟩
    have s5 := same_up (o := .tup M.ven) nub
    refine ⟨_, rfl, o, _, dx, _, rfl, s5 _ _ ho4, T.o.cl, nf _ (by decide +kernel), by show 3 < 1000; decide, ?_⟩
    have ob : ub ≠ o := (ne_of_none ho4 nub).symm
    generalize hH5 : upd (upd H4 ub (.tup M.ven)) o (.ins (MA K) dx (putF "_ends" (.ref ub) [("_field", .ref f), ("_letters", .str (S M.cs)), ("_start", .ref ua)])) = H5 at *
    have y5 : SameX o H4 H5 := (Same.toX s5).trans (by rw [← hH5]; exact sameX_upd)
    have x5 : SameX o H H5 := x4.trans y5
    have ho5 : H5 o = some (.ins (MA K) dx [("_field", .ref f), ("_letters", .str (S M.cs)), ("_start", .ref ua), ("_ends", .ref ub)]) := by rw [← hH5, upd_same]; rfl
    have ha5 : H5 ua = some (.tup M.vst) := y5 _ _ oa ha4
    have hb5 : H5 ub = some (.tup M.ven) := by rw [← hH5, upd_ne ob, upd_same]
    -- _tables
    obtain ⟨ta, hd0, htb⟩ := pt.d
    have hd5 := off x5 hd0 (fun _ _ _ z => by cases z)
    have htb5 : ∀ c ∈ M.cs, TabV H5 (ta c) (M.vtb c) := fun c hc => by
      obtain ⟨ts, h1, h2, h3⟩ := htb c hc
      exact ⟨ts, off x5 h1 (fun _ _ _ z => by cases z), h2, fun i d e => off x5 (h3 i d e) (fun _ _ _ z => by cases z)⟩
    refine ⟨_, rfl, S M.cs, rfl, fun D nD => dc_grow (tv := tvTab K) wk_str (fun i => .inr (S [M.cs.getD i 0])) (fun i v H => ∃ t, v = .ref t ∧ TabW D H t (M.vtb (M.cs.getD i 0))) ?_ (kf_inj ndc) nD (by rw [asz]; omega) (fun _ _ => trivial) (fun i x H6 R hi s6 hx r => ?_) (fun i x H6 R hi s6 h6 hx r => ?_) fun H6 vs s6 h6 l6 hz => ?_⟩
    · rintro i v H H' sx ⟨t, rfl, h⟩
      exact ⟨t, rfl, h.sx sx⟩
    · obtain ⟨c, hc, e, hm, rfl⟩ := str_at hx
      rw [e] at r
      exact ⟨_, rfl, r⟩
    · obtain ⟨c, hc, e, hm, rfl⟩ := str_at hx
      rw [e] at r
      obtain ⟨kvs, h6⟩ := h6
      have hg := DGet.k (k := Sum.inr (S [c])) (s6 _ _ hd5)
      rw [valV_dAt ta hm] at hg
      obtain ⟨ts, h1, h2, h3⟩ := (htb5 c hm).same s6
      have sq := ok.sq c hm
      have lv := paired_len (pt.n.tb c hm)
      refine ⟨_, rfl, _, rfl, d, _, rfl, hg, ta c, rfl, ⟨_, SqL.of h1⟩, fun D2 nD2 => lc_grow (te := tCB (rTup K) (tCons (tVar 6) tNil)) (j := 6) wk_list (fun i v H => ∃ t, v = .ref t ∧ t ≠ D2 ∧ t ≠ D ∧ H t = some (.tup ((M.vtb c).getD i []))) ?_ nD2 (by rw [List.length_map, h2, lv, sq.l]; omega) (fun H s => SqL.of (s _ _ h1)) (fun i x H7 R7 hi7 s7 h7 hx7 r7 => ?_) fun H7 vs s7 h7 l7 hz => ?_⟩
      · rintro i v H H' sx ⟨t, rfl, n1, n2, h⟩
        exact ⟨t, rfl, n1, n2, sx _ _ n1 h⟩
      · obtain ⟨u, e7, rfl⟩ := ref_at hx7
        refine ⟨_, rfl, u, _, rfl, .inl ⟨SqL.of (s7 _ _ (h3 i u e7)), fun t nt => r7 _ _ (same_up nt) ⟨t, rfl, fun z => h7 (z ▸ nt), fun z => ?_, upd_same⟩⟩⟩
        have := s7 _ _ h6
        rw [z, this] at nt
        cases nt
      · obtain ⟨us, rfl, hus⟩ := refs_of _ hz
        refine ⟨D2, _, rfl, .inl ⟨SqL.of h7, fun t nt => r _ _ (s7.trans (same_up nt)) ⟨t, rfl, fun z => ?_, us, upd_same, ?_, fun i u e => ?_⟩⟩⟩
        · have := s7 _ _ h6
          rw [z, this] at nt
          cases nt
        · rw [List.length_map] at l7
          rw [l7, List.length_map, h2]
        · obtain ⟨n1, n2, h⟩ := hus i u e
          exact ⟨n2, (same_up nt) _ _ h⟩
    obtain ⟨tt, eD, htt⟩ := dAt_of ndc asz l6 (fun i t => TabW D H6 t (M.vtb (M.cs.getD i 0))) hz
    rw [eD] at h6
    refine ⟨_, rfl, o, _, dx, _, rfl, s6 _ _ ho5, T.o.cl, nf _ (by decide +kernel), by show 4 < 1000; decide, ?_⟩
    have oD : D ≠ o := (ne_of_none ho5 nD).symm
    generalize hH7 : upd H6 o (.ins (MA K) dx (putF "_tables" (.ref D) [("_field", .ref f), ("_letters", .str (S M.cs)), ("_start", .ref ua), ("_ends", .ref ub)])) = H7 at *
    have y7 : SameX o H5 H7 := (Same.toX s6).trans (by rw [← hH7]; exact sameX_upd)
    have z7 : SameX o H6 H7 := by rw [← hH7]; exact sameX_upd
    have ho7 : H7 o = some (.ins (MA K) dx [("_field", .ref f), ("_letters", .str (S M.cs)), ("_start", .ref ua), ("_ends", .ref ub), ("_tables", .ref D)]) := by rw [← hH7, upd_same]; rfl
    have hD7 : H7 D = some (.dK (dAt M.cs tt)) := z7 _ _ oD h6
    have ho6 := s6 _ _ ho5
    have kp7 : KeepT H H7 := SameX.keep (x5.trans y7) ho fun _ z => by cases z
    have htt7 : ∀ c ∈ M.cs, TabQ K H7 (tt c) (M.tb c) := fun c hc => by
      obtain ⟨i, hi⟩ := List.mem_iff_getElem?.mp hc
      have h := htt i c hi
      have e : M.cs.getD i 0 = c := by rw [List.getD_eq_getElem?_getD, hi]; rfl
      rw [e] at h
      obtain ⟨_, ts, h1, h2, h3⟩ := h
      have k : ∀ {u : Addr} {ys : List V}, H6 u = some (.tup ys) → H7 u = some (.tup ys) := fun e => z7 _ _ (fun z => by rw [z, ho6] at e; cases e) e
      exact ⟨ts, M.vtb c, .inl (.inl (k h1)), h2, fun i d e => .inl (.inl (k (h3 i d e).2)), paired_mono (fun _ _ g => g.keep kp7) (pt.n.tb c hc)⟩
    have F7 : FieldC K H7 f .fr := by
      obtain ⟨C, fdx, fc, mc, e⟩ := F
      have fo : f ≠ o := fun z => by
        rw [z, ho] at e
        cases e
      exact ⟨C, fdx, fc, mc, (x5.trans y7) _ _ fo e⟩
    obtain ⟨Hi, eHi⟩ : ∃ Hi, Hi = H := ⟨H, rfl⟩
    have back : ∀ c, H7 c = none → Hi c = none := fun c hc => by
      rw [eHi]
      cases e : H c with
      | none => rfl
      | some u =>
        have co : c ≠ o := fun z => by
          rw [z, ho7] at hc
          cases hc
        rw [(x5.trans y7) _ _ co e] at hc
        cases hc
    -- _steps
    refine ⟨_, rfl, S M.cs, rfl, fun D2 nD2 => dc_grow (tv := teStF K) wk_str (fun i => .inr (S [M.cs.getD i 0])) (fun i v H => ∃ t, v = .ref t ∧ ∃ L, BotOk M (M.cs.getD i 0) L ∧ StepY D2 Hi H t (L : Int) (colL M (M.cs.getD i 0) L)) ?_ (kf_inj ndc) nD2 (by rw [asz]; omega) (fun _ _ => trivial) (fun i x H8 R hi s8 hx r => ?_) (fun i x H8 R hi s8 h8 hx r => ?_) fun H8 vs s8 h8 l8 hz => ?_⟩
    · rintro i v H H' sx ⟨t, rfl, L, bo, h⟩
      exact ⟨t, rfl, L, bo, h.sx sx⟩
    · obtain ⟨c, hc, e, hm, rfl⟩ := str_at hx
      rw [e] at r
      exact ⟨_, rfl, r⟩
    · obtain ⟨c, hc, e, hm, rfl⟩ := str_at hx
      rw [e] at r
      obtain ⟨kvs, h8⟩ := h8
      have hg := DGet.k (k := Sum.inr (S [c])) (s8 _ _ hD7)
      rw [valV_dAt tt hm] at hg
      refine ⟨_, rfl, .ref o, rfl, o, _, dx, _, .ref D, rfl, s8 _ _ ho7, T.o.cl, nf _ (by decide +kernel), rfl, _, rfl, D, _, rfl, hg, f, tt c, M.tb c, M.st.length, M.B, rfl, F7.same s8, TabQ.same (htt7 c hm) s8, ok.sq c hm, n24, ok.B0, ok.B9, fun r hr q hq => ok.sm q (ok.itb c hm r hr q hq), fun s9 L H9 t9 L0 LB Ld h9 => r _ _ t9 ⟨s9, rfl, L, ⟨L0, LB, Ld⟩, (h9.from (fun b hb => back _ (none_of s8 hb))).y (t9 _ _ h8) (fun _ z => by cases z) (fun _ z => by cases z)⟩⟩
    obtain ⟨sa, eD2, hsa⟩ := dAt_of ndc asz l8 (fun i t => ∃ L, BotOk M (M.cs.getD i 0) L ∧ StepY D2 Hi H8 t (L : Int) (colL M (M.cs.getD i 0) L)) hz
    rw [eD2] at h8
    have ho8 := s8 _ _ ho7
    refine ⟨_, rfl, o, _, dx, _, rfl, ho8, T.o.cl, nf _ (by decide +kernel), by show 5 < 1000; decide, ?_⟩
    have oD2 : D2 ≠ o := (ne_of_none ho7 nD2).symm
    have z9 : SameX o H8 (upd H8 o (.ins (MA K) dx (putF "_steps" (.ref D2) [("_field", .ref f), ("_letters", .str (S M.cs)), ("_start", .ref ua), ("_ends", .ref ub), ("_tables", .ref D)]))) := sameX_upd
    have y9 := (y7.trans (Same.toX s8)).trans z9
    rw [← eHi] at q
    refine q _ (by rw [eHi]; exact x5.trans y9) ⟨⟨dx, f, ua, ub, D, D2, sa, ?_, ?_, y9 _ _ oa ha5, y9 _ _ ob hb5, z9 _ _ oD2 h8, fun c hc => ?_⟩, pt.n.keep (SameX.keep (x5.trans y9) ho fun _ z => by cases z), ok⟩
    · rw [upd_same]
      rfl
    · obtain ⟨C, fdx, fc, mc, e⟩ := F7.same s8
      have fo : f ≠ o := fun z => by
        rw [z, ho8] at e
        cases e
      exact ⟨C, fdx, fc, mc, z9 _ _ fo e⟩
    · obtain ⟨i, hi⟩ := List.mem_iff_getElem?.mp hc
      have h := hsa i c hi
      have e : M.cs.getD i 0 = c := by rw [List.getD_eq_getElem?_getD, hi]; rfl
      rw [e] at h
      obtain ⟨L, bo, h⟩ := h
      exact ⟨L, bo, h.toH.off z9 ho8⟩
end
end K19.F

namespace K19.F
open PySem PySem.Spec PyProof.Rows L2 Ver Num SX
/-! ### what a machine over the fractions tells -/
def dotQ (xs ys : List Rat) : Rat := (List.zipWith (· * ·) xs ys).sum
theorem add_div (a b : Int) {d : Int} (h : d ≠ 0) : Rat.divInt a d + Rat.divInt b d = Rat.divInt (a + b) d := by
  rw [Rat.divInt_add_divInt a b h h, ← Int.add_mul, Rat.divInt_mul_right h]
theorem dot_val {L B : Int} (hL : L ≠ 0) (hB : B ≠ 0) : ∀ (xs ys : List Int), Rat.divInt (dotI xs ys) (L * B) = dotQ (ratsOf L xs) (ratsOf B ys)
  | [], ys => by
    have : dotI [] ys = 0 := by unfold dotI; rw [List.zipWith_nil_left]; rfl
    rw [this, Rat.zero_divInt]
    unfold dotQ ratsOf
    rw [List.map_nil, List.zipWith_nil_left]
    rfl
  | x :: xs, [] => by
    have : dotI (x :: xs) [] = 0 := by unfold dotI; rw [List.zipWith_nil_right]; rfl
    rw [this, Rat.zero_divInt]
    unfold dotQ ratsOf
    rw [List.map_nil, List.zipWith_nil_right]
    rfl
  | x :: xs, y :: ys => by
    have e1 : dotI (x :: xs) (y :: ys) = x * y + dotI xs ys := by unfold dotI; rw [List.zipWith_cons_cons, List.sum_cons]
    have e2 : dotQ (ratsOf L (x :: xs)) (ratsOf B (y :: ys)) = Rat.divInt x L * Rat.divInt y B + dotQ (ratsOf L xs) (ratsOf B ys) := by
      unfold dotQ ratsOf
      rw [List.map_cons, List.map_cons, List.zipWith_cons_cons, List.sum_cons]
    rw [e1, e2, ← dot_val hL hB xs ys, Rat.divInt_mul_divInt, add_div _ _ (Int.mul_ne_zero hL hB)]
/-- the number of a top -/
theorem top_val {L : Nat} {q : Rat} (h : q.den ∣ L) (L0 : 0 < L) : Rat.divInt (q.num * ((L : Int) / (q.den : Int))) (L : Int) = q := by
  obtain ⟨k, rfl⟩ := h
  have d0 := q.den_pos
  have k0 : 0 < k := Nat.pos_of_mul_pos_left L0
  have dz : (q.den : Int) ≠ 0 := by omega
  rw [Int.natCast_mul, Int.mul_ediv_cancel_left _ dz, Rat.divInt_mul_right (by omega), Rat.num_divInt_den]
theorem rats_tops {L : Nat} (L0 : 0 < L) {qs : List Rat} (h : ∀ q ∈ qs, q.den ∣ L) : ratsOf (L : Int) (tops L qs) = qs := by
  unfold ratsOf tops
  rw [List.map_map]
  exact (List.map_congr_left fun q hq => top_val (h q hq) L0).trans (List.map_id _)
theorem tops_len (L : Int) (qs : List Rat) : (tops L qs).length = qs.length := List.length_map ..
theorem col_tops (L : Int) (qr : List (List Rat)) (j : Nat) : colOf (qr.map (tops L)) j = tops L (colOf qr j) := by
  unfold colOf
  rw [List.filterMap_map]
  unfold tops
  rw [List.map_filterMap]
  exact fm_congr fun r _ => by simp
theorem col_mem {α : Type} {qr : List (List α)} {j : Nat} {x : α} (h : x ∈ colOf qr j) : ∃ r ∈ qr, x ∈ r := by
  unfold colOf at h
  obtain ⟨r, hr, e⟩ := List.mem_filterMap.mp h
  exact ⟨r, hr, List.mem_of_getElem? e⟩
theorem colOf_lenQ {α : Type} {n : Nat} : ∀ {rows : List (List α)}, (∀ r ∈ rows, r.length = n) → ∀ {j : Nat}, j < n → (colOf rows j).length = rows.length
  | [], _, j, _ => rfl
  | r :: rows, h, j, hj => by
    have hr := h r List.mem_cons_self
    have ih := colOf_lenQ (fun r' h' => h r' (List.mem_cons_of_mem _ h')) hj
    unfold colOf at ih ⊢
    rw [List.filterMap_cons, List.getElem?_eq_getElem (show j < r.length by omega)]
    show (_ :: _).length = _
    rw [List.length_cons, ih, List.length_cons]
/-- a row times a table -/
def goQ (n : Nat) (qr : List (List Rat)) (s : List Rat) : List Rat := (List.range n).map fun j => dotQ s (colOf qr j)
theorem go_val {M : MacQ} {c L : Nat} (h : BotOk M c L) {A : Int} (hA : A ≠ 0) (xs : List Int) : ratsOf (A * (L : Int)) (goF (colL M c L) xs) = goQ M.st.length (M.tb c) (ratsOf A xs) := by
  have l0 := h.l0
  unfold ratsOf goF colL colsOf goQ
  rw [List.map_map, List.map_map]
  refine List.map_congr_left fun j _ => ?_
  show Rat.divInt (dotI xs (colOf ((M.tb c).map (tops L)) j)) (A * (L : Int)) = _
  rw [dot_val hA (by omega), col_tops, rats_tops l0 fun q hq => ?_]
  · rfl
  · obtain ⟨r, hr, e⟩ := col_mem hq
    exact h.d r hr q e
/-! bounds -/
theorem dot_bound {X t : Nat} : ∀ {xs ys : List Int}, (∀ x ∈ xs, x.natAbs ≤ X) → (∀ y ∈ ys, y.natAbs ≤ t) → (dotI xs ys).natAbs ≤ xs.length * (X * t)
  | [], ys, _, _ => by
    have : dotI [] ys = 0 := by unfold dotI; rw [List.zipWith_nil_left]; rfl
    rw [this]
    exact Nat.zero_le _
  | x :: xs, [], _, _ => by
    have : dotI (x :: xs) [] = 0 := by unfold dotI; rw [List.zipWith_nil_right]; rfl
    rw [this]
    exact Nat.zero_le _
  | x :: xs, y :: ys, hx, hy => by
    have e1 : dotI (x :: xs) (y :: ys) = x * y + dotI xs ys := by unfold dotI; rw [List.zipWith_cons_cons, List.sum_cons]
    have ih := dot_bound (fun z hz => hx z (List.mem_cons_of_mem _ hz)) (fun z hz => hy z (List.mem_cons_of_mem _ hz))
    have h1 : (x * y).natAbs ≤ X * t := by
      rw [Int.natAbs_mul]
      exact Nat.mul_le_mul (hx x List.mem_cons_self) (hy y List.mem_cons_self)
    rw [e1, List.length_cons, Nat.succ_mul]
    have := Int.natAbs_add_le (x * y) (dotI xs ys)
    omega
theorem top_abs {t B L : Nat} {q : Rat} (h : Top t B q) (B0 : 0 < B) (lB : L ∣ B) (d : q.den ∣ L) : (q.num * ((L : Int) / (q.den : Int))).natAbs ≤ t := by
  have e : ((L : Int) / (q.den : Int)).natAbs = L / q.den := by rw [← Int.natCast_ediv, Int.natAbs_natCast]
  rw [Int.natAbs_mul, e]
  exact Nat.le_trans (Nat.mul_le_mul_left _ (Nat.div_le_div_right (Nat.le_of_dvd B0 lB))) h.2
theorem tops_abs {t B L : Nat} {qs : List Rat} (h : ∀ q ∈ qs, Top t B q) (B0 : 0 < B) (lB : L ∣ B) (d : ∀ q ∈ qs, q.den ∣ L) : ∀ x ∈ tops L qs, x.natAbs ≤ t := fun x hx => by
  obtain ⟨q, hq, rfl⟩ := List.mem_map.mp hx
  exact top_abs (h q hq) B0 lB (d q hq)
theorem inB_of {X : Nat} {xs : List Int} (h : ∀ x ∈ xs, x.natAbs ≤ X) (hX : X ≤ 2 ^ 62) : InB xs := fun x hx => by
  have := h x hx
  omega
theorem cols_okF {M : MacQ} (ok : MOkQ M) {c L : Nat} (hc : c ∈ M.cs) (b : BotOk M c L) : ∀ l ∈ colL M c L, l.length = M.st.length ∧ ∀ y ∈ l, y.natAbs ≤ M.t := fun l hl => by
  unfold colL colsOf at hl
  obtain ⟨j, hj, rfl⟩ := List.mem_map.mp hl
  have sq := ok.sq c hc
  rw [col_tops]
  refine ⟨?_, tops_abs (fun q hq => ?_) ok.B0 b.lB (fun q hq => ?_)⟩
  · rw [tops_len, colOf_lenQ sq.r (List.mem_range.mp hj), sq.l]
  · obtain ⟨r, hr, e⟩ := col_mem hq
    exact ok.itb c hc r hr q e
  · obtain ⟨r, hr, e⟩ := col_mem hq
    exact b.d r hr q e
/-- the row after a word -/
def stW (M : MacQ) (xs : List Rat) (u : Wd) : List Rat := u.foldl (fun s c => goQ M.st.length (M.tb c) s) xs
def stM (M : MacQ) (u : Wd) : List Rat := stW M M.st u
def valM (M : MacQ) (u : Wd) : Rat := dotQ (stM M u) M.en
theorem stW_cons (M : MacQ) (xs : List Rat) (c : Nat) (u : Wd) : stW M xs (c :: u) = stW M (goQ M.st.length (M.tb c) xs) u := rfl
theorem stW_next (M : MacQ) (xs : List Rat) {u : Wd} {j c : Nat} (h : u[j]? = some c) : stW M xs (u.take (j + 1)) = goQ M.st.length (M.tb c) (stW M xs (u.take j)) := by
  unfold stW
  rw [Ver.take_next h, List.foldl_append]
  rfl
/-- a row that j letters led to -/
def RowJ (K : PySem.W.Frag) (H : Hp) (M : MacQ) (r : Addr) (j : Nat) (qs : List Rat) : Prop := ∃ (L : Nat) (xs : List Int), RowF K H r (L : Int) xs ∧ 0 < L ∧ L ≤ M.B * M.B ^ j ∧ (∀ x ∈ xs, x.natAbs ≤ M.t * (M.st.length * M.t) ^ j) ∧ xs.length = M.st.length ∧ ratsOf (L : Int) xs = qs
theorem RowJ.same {K : PySem.W.Frag} {H H' : Hp} {M : MacQ} {r : Addr} {j : Nat} {qs : List Rat} (h : RowJ K H M r j qs) (s : Same H H') : RowJ K H' M r j qs := by
  obtain ⟨L, xs, h1, h2⟩ := h
  exact ⟨L, xs, h1.same s, h2⟩
theorem pow_next (a b j : Nat) : a * b ^ j * b = a * b ^ (j + 1) := by rw [Nat.pow_succ, Nat.mul_assoc]
theorem next_bound {M : MacQ} {j : Nat} {xs : List Int} {l : List Int} (hx : ∀ x ∈ xs, x.natAbs ≤ M.t * (M.st.length * M.t) ^ j) (lx : xs.length = M.st.length) (hl : ∀ y ∈ l, y.natAbs ≤ M.t) :
    (dotI xs l).natAbs ≤ M.t * (M.st.length * M.t) ^ (j + 1) := by
  refine Nat.le_trans (dot_bound hx hl) ?_
  rw [lx, ← pow_next, Nat.mul_left_comm]
  exact Nat.le_refl _
end K19.F

namespace K19.F
open PySem PySem.Spec PyProof.Rows L2 Ver Num SX
theorem go_M {K : PySem.W.Frag} {mg : Str → Option Value} {T : Tx K mg} {σ : L2.St} {H : Hp} {m : Addr} {M : MacQ} {i : Nat} {Q : VK} {nm : Str} {sp : Sp} {E : XK} {t : TA} (h0 : σ[i]? = some (some (.ref m))) (A : MachF K H m M) (hm : nm ∈ mms)
    (q : t σ H fun vs H2 => sp (.ref m :: vs) H2 Q E) : tMethG K nm (He.ma K (MA K) nm) sp E (tVar i) t σ H Q := by
  obtain ⟨dx, f, a, b, dt, ds, sa, e, _⟩ := A.ex
  exact ⟨.ref m, h0, m, MA K, dx, _, rfl, e, T.o.cl, T.o.me _ hm, lk6 hm, q⟩
section
variable {P : Program} {w : World} {K : PySem.W.Frag} {mg : Str → Option Value} {base : Heap}
/-- a word, or else its error -/
def CheckW (K : PySem.W.Frag) (M : MacQ) (x : V) (d : PyData) (H : Hp) (ok : Hp → Prop) (E : XK) : Prop :=
  (isW M.cs d = true → ok H) ∧ (isW M.cs d = false → ∀ (dd : Addr) (H' : Hp), Same H H' → H' dd = some (.xd [(("value" : Str), x)]) → E (.ref (He.ga K "InvalidWord")) (some dd) H')
def spCWB (K : PySem.W.Frag) : Sp := fun vs H Q E => ∃ (m l : Addr) (M : MacQ) (x : V) (d : PyData), vs = [.ref m, .ref l] ∧ MachF K H m M ∧ H l = some (.tup [x]) ∧ Do K H x d ∧ smallD d ∧ CheckW K M x d H (fun H' => Q .non H') E
def spCW (K : PySem.W.Frag) : Sp := fun vs H Q E => ∃ (m : Addr) (M : MacQ) (x : V) (d : PyData), vs = [.ref m, x] ∧ MachF K H m M ∧ Do K H x d ∧ smallD d ∧
  (isW M.cs d = true → ∀ H', Same H H' → Q .non H') ∧ (isW M.cs d = false → ∀ (dd : Addr) (H' : Hp), Same H H' → H' dd = some (.xd [(("value" : Str), x)]) → E (.ref (He.ga K "InvalidWord")) (some dd) H')
theorem ok_cw (T : Tx K mg) : FnG P w K mg base (L2.CX P w) 3 (He.ma K (He.ga K "Machine") "_check_words") (spCW K) := by
  obtain ⟨fd, FD⟩ := T.d.def_ 25 (d := d_Machine__check_words) rfl
  obtain ⟨fe, F1, bd⟩ := ok_InvalidWord (P := P) (w := w) (base := base) T
  have star := okStarX (P := P) (w := w) (mg := mg) (base := base) (k := 2) (sp := spCWB K) (ps := ["self"]) (pr := "values") FD sc_Machine__check_words
    (fun kV doc pm an cdv ct us rest hl => by
      match us, hl with
      | [a], _ => cases rest <;> rfl) (fun cdv A outer s H vs Q E hg hr h => by
      obtain ⟨m, l, M, x, d, rfl, At, hl, hd, sm, qw, qe⟩ := h
      have nd := sc_Machine__check_words.nd
      refine ⟨_, pss_one (ps_for (passes_of rfl) rfl (pi_tup (pv 1)) (pg_name (i := 2) nd rfl (.inl rfl))
        (pss_one (ps_if (pt_not (pt_val (pe_callG (ok_is_word T) (hr.mono (by decide)) hg (by rfl) (T.g "is_word" (by decide +kernel)) (kp_is_word T.d) pass0 (pa_cons (pv 2) (pa_cons (pe_fld (pv 0) rfl) pa_nil)))))
          (pss_one (ps_raise rfl (takes_of rfl rfl rfl rfl) (pmk_oex T.eW.ox T.eW.iC T.eW.tI F1 (hr.mono (by decide)) bd .nil pass0 (by rfl) (T.g "InvalidWord" (by decide +kernel)) (pa_cons (pv 2) pa_nil)))) pss_nil))), ?_⟩
      obtain ⟨dx, f, a, b, dt, ds, sa, e, _⟩ := At.ex
      refine ⟨_, rfl, l, rfl, ⟨_, SqT.of hl⟩, for_it (wk_tup (K := K) (a := l) (xs := [x])) (fun i σ H' => ∃ v : Option V, σ = [some (.ref m), some (.ref l), v] ∧ H' = H ∧ (i = 1 → isW M.cs d = true)) ⟨none, rfl, rfl, fun z => by cases z⟩ (fun _ _ _ _ ⟨_, _, e, _⟩ => by rw [e]; exact SqT.of hl) ?_ ?_⟩
      · rintro i y σ H1 H2 hi ⟨v, rfl, rfl, hz⟩ ⟨rfl, hy⟩
        have i0 : i = 0 := by simp at hi; exact hi
        subst i0
        cases hy
        refine ⟨_, rfl, _, rfl, m, _, dx, _, _, rfl, e, T.o.cl, T.o.na _ (by decide +kernel), rfl, x, d, M.cs, rfl, hd, sm, _, rfl, ?_⟩
        cases hw : isW M.cs d with
        | true => exact ifF rfl ⟨_, rfl, rfl, fun _ => rfl⟩
        | false => exact ifT rfl ⟨_, rfl, by show 1 ≤ 1000; decide, fun a na => err_mk na fun dd H3 s3 hdd => qe hw dd H3 s3 hdd⟩
      · rintro σ H1 ⟨v, rfl, rfl, hz⟩
        exact qw (hz rfl))
  intro A outer s H us vs Q E hg hr e0 r h
  obtain ⟨m, M, x, d, rfl, At, hd, sm, qw, qe⟩ := h
  refine star A outer s H us _ Q E hg hr e0 r ⟨[.ref m], [x], rfl, rfl, (by show 1 ≤ sizeLine; decide), fun t nt => ?_⟩
  have s0 := same_up (o := .tup [x]) nt
  exact ⟨m, t, M, x, d, rfl, At.same s0, upd_same, Do.same s0 _ _ hd, sm, fun hw => qw hw _ s0, fun hw dd H' s' hdd => qe hw dd H' (s0.trans s') hdd⟩
/-! ### rows, values, states -/
def spRow (K : PySem.W.Frag) : Sp := fun vs H Q _ => ∃ (m r : Addr) (M : MacQ) (j : Nat) (qs : List Rat) (u : Wd), vs = [.ref m, .ref r, vS u] ∧ MachF K H m M ∧ RowJ K H M r j qs ∧ j + u.length ≤ M.w ∧ (∀ c ∈ u, c ∈ M.cs) ∧ ∀ t H', Same H H' → RowJ K H' M t (j + u.length) (stW M qs u) → Q (.ref t) H'
theorem ok_row (T : Tx K mg) : FnG P w K mg base CX0 5 (He.ma K (He.ga K "Machine") "_row_after") (spRow K) := by
  refine mk_Machine__row_after T.d (fun vs H Q E h => ?_) (fun cdv A outer s H vs Q E hg hr h => ?_)
  · obtain ⟨m, r, M, j, qs, u, rfl, _⟩ := h
    rfl
  · obtain ⟨m, r, M, j0, qs, u, rfl, At, hr1, jw, hu0, q⟩ := h
    have nd := sc_Machine__row_after.nd
    have hu : (A.deeper (envOfC "Machine._row_after" (defScope s_Machine__row_after) s.heap.objs.size (He.ma K (He.ga K "Machine") "_row_after") cdv)).units + 1 < cLine := by have := hr.units; omega
    refine ⟨_, pss_cons (ps_for PassesOwn.never rfl (pi_str (pv 2)) (pg_name (i := 3) nd rfl (.inl rfl))
        (pss_one (ps_set (i := 1) nd rfl (Or.inl rfl) (pe_callG (ok_ra T) hr hg (by rfl) (T.g "row_after" (by decide +kernel)) (kp_row_after T.d) pass0 (pa_cons (pe_fld (pv 0) rfl) (pa_cons (pv 1) (pa_cons (pe_dget hu (pe_fld (pv 0) rfl) (pv 3) (fun _ _ => rfl)) pa_nil)))))))
      (pss_one (ps_ret (pv 1))), ?_⟩
    have ok := At.ok
    have n24 := ok.n24
    refine ⟨_, rfl, S u, rfl, for_it wk_str (fun j σ H' => ∃ (t : Addr) (v : Option V), σ = [some (.ref m), some (.ref t), some (vS u), v] ∧ Same H H' ∧ RowJ K H' M t (j0 + j) (stW M qs (u.take j))) ⟨r, none, rfl, Same.refl H, hr1⟩ (fun _ _ _ _ _ => trivial) ?_ ?_⟩
    · rintro j x σ H1 H2 hj ⟨t, v, rfl, s1, L, xs, ht, L0, Lb, xb, lx, ev⟩ ⟨rfl, c, hc, rfl⟩
      rw [← Array.getElem?_toList, chars_S] at hc
      have hm := hu0 c (List.mem_of_getElem? hc)
      have jl := (List.getElem?_eq_some_iff.mp hc).1
      obtain ⟨dx, f, a, b, dt, ds, sa, e, F, ha, hb, hd, hs⟩ := (At.same s1).ex
      have hg2 := DGet.k (k := Sum.inr (S [c])) hd
      rw [valV_dAt sa hm] at hg2
      obtain ⟨B, bo, hst⟩ := hs c hm
      have big := ok.big (j0 + j) (by omega)
      have bot := ok.bot (j0 + j) (by omega)
      have b0 := bo.l0
      have bB : B ≤ M.B := Nat.le_of_dvd ok.B0 bo.lB
      have b9 := ok.B9
      have p62 : (1000 : Nat) ≤ 2 ^ 62 := by decide
      refine ⟨_, rfl, m, _, dx, _, _, rfl, e, T.o.cl, T.o.na _ (by decide +kernel), rfl, _, rfl, _, rfl, m, _, dx, _, _, rfl, e, T.o.cl, T.o.na _ (by decide +kernel), rfl, _, rfl, ds, _, rfl, hg2, ?_⟩
      refine ⟨f, t, sa c, (L : Int), (B : Int), xs, colL M c B, rfl, F, ⟨by omega, by omega⟩, ⟨by omega, by omega⟩, ht, hst.toG, inB_of xb big, fun l hl => ?_, by unfold colL; rw [colsOf_len]; exact n24, by omega, fun t2 H3 s3 h3 => ⟨t2, _, rfl, s1.trans s3, L * B, goF (colL M c B) xs, ?_, Nat.mul_pos L0 b0, ?_, ?_, ?_, ?_⟩⟩
      · obtain ⟨e1, e2⟩ := cols_okF ok hm bo l hl
        exact ⟨by rw [e1, lx], inB_of e2 (Nat.le_trans ok.t9 p62)⟩
      · rw [Int.natCast_mul]
        exact h3
      · rw [← Nat.add_assoc, ← pow_next]
        exact Nat.mul_le_mul Lb bB
      · intro x hx
        obtain ⟨l, hl, rfl⟩ := List.mem_map.mp hx
        exact next_bound xb lx (cols_okF ok hm bo l hl).2
      · unfold goF colL
        rw [List.length_map, colsOf_len]
      · rw [stW_next M qs hc, Int.natCast_mul, go_val bo (by omega), ev]
    · rintro σ H1 ⟨t, v, rfl, s1, ht⟩
      have el : (S u).cps.size = u.length := by simp
      rw [el, List.take_length] at ht
      exact ⟨_, rfl, q t H1 s1 ht⟩
/-- a row of a machine's own numbers -/
theorem rowJ_of {M : MacQ} (ok : MOkQ M) {H : Hp} {t l : Addr} {k : Bool} {L : Nat} {qs : List Rat} (hq : ∀ q ∈ qs, Top M.t M.B q) (lq : qs.length = M.st.length) (ht : H t = some (.tup [.ref l, .int (L : Int)]))
    (hl : SqB K H k l ((tops L qs).map V.int)) (L0 : 0 < L) (lB : L ∣ M.B) (hd : ∀ q ∈ qs, q.den ∣ L) : RowJ K H M t 0 qs :=
  ⟨L, tops L qs, ⟨l, k, .inl (.inl ht), hl⟩, L0, by rw [Nat.pow_zero, Nat.mul_one]; exact Nat.le_of_dvd ok.B0 lB, fun x hx => by rw [Nat.pow_zero, Nat.mul_one]; exact tops_abs hq ok.B0 lB hd x hx, by rw [tops_len, lq], rats_tops L0 hd⟩
def spBehind (K : PySem.W.Frag) : Sp := fun vs H Q _ => ∃ (m : Addr) (M : MacQ) (u : Wd), vs = [.ref m, vS u] ∧ MachF K H m M ∧ u.length ≤ M.w ∧ (∀ c ∈ u, c ∈ M.cs) ∧ ∀ t H', Same H H' → RowJ K H' M t u.length (stM M u) → Q (.ref t) H'
theorem ok_behind (T : Tx K mg) : FnG P w K mg base CX0 6 (He.ma K (He.ga K "Machine") "_row_behind") (spBehind K) := by
  refine mk_Machine__row_behind T.d (fun vs H Q E h => ?_) (fun cdv A outer s H vs Q E hg hr h => ?_)
  · obtain ⟨m, M, u, rfl, _⟩ := h
    rfl
  · obtain ⟨m, M, u, rfl, At, uw, hu0, q⟩ := h
    have nd := sc_Machine__row_behind.nd
    refine ⟨_, pss_one (ps_ret (pe_methG (pv 0) (kp_Machine__row_after T.d) (ok_row T) hr hg pass0 (pa_cons (pe_methG (pe_fld (pv 0) rfl) (kp_Field_common T.d) (ok_common T) (hr.mono (by decide)) hg pass0 (pa_cons (pe_fld (pv 0) rfl) pa_nil)) (pa_cons (pv 1) pa_nil)))), ?_⟩
    obtain ⟨dx, f, a, b, dt, ds, sa, e, F, ha, hb, hd, hs⟩ := id At.ex
    have ok := At.ok
    have n24 := ok.n24
    refine go_M (T := T) rfl At (by decide +kernel) ⟨_, rfl, m, _, dx, _, _, rfl, e, T.o.cl, T.o.na _ (by decide +kernel), rfl, go_F F (by decide +kernel) (by decide +kernel) ?_⟩
    refine ⟨_, rfl, m, _, dx, _, _, rfl, e, T.o.cl, T.o.na _ (by decide +kernel), rfl, f, a, true, M.vst, M.st, M.B, rfl, F, .inl (.inl ha), At.n.st, by omega, ok.B0, ok.B9, fun q hq => ok.sm q (ok.ist q hq), fun t l' k' L H1 s1 ht hl L0 lB hd2 _ => ?_⟩
    refine ⟨_, rfl, m, t, M, 0, M.st, u, rfl, At.same s1, rowJ_of ok ok.ist rfl ht hl L0 lB hd2, by omega, hu0, fun t2 H2 s2 h2 => q t2 H2 (s1.trans s2) ?_⟩
    rw [Nat.zero_add] at h2
    exact h2
def spAt (K : PySem.W.Frag) : Sp := fun vs H Q _ => ∃ (m r : Addr) (M : MacQ) (j : Nat) (qs : List Rat), vs = [.ref m, .ref r] ∧ MachF K H m M ∧ RowJ K H M r j qs ∧ j ≤ M.w ∧ ∀ (x : V) (H' : Hp), Same H H' → NumQ H' x (dotQ qs M.en) → Q x H'
theorem ok_at (T : Tx K mg) : FnG P w K mg base CX0 5 (He.ma K (He.ga K "Machine") "_value_at") (spAt K) := by
  refine mk_Machine__value_at T.d (fun vs H Q E h => ?_) (fun cdv A outer s H vs Q E hg hr h => ?_)
  · obtain ⟨m, r, M, j, qs, rfl, _⟩ := h
    rfl
  · obtain ⟨m, r, M, j, qs, rfl, At, hr1, jw, q⟩ := h
    have nd := sc_Machine__value_at.nd
    refine ⟨_, pss_one (ps_ret (pe_callG (ok_rdot T) hr hg (by rfl) (T.g "row_dot" (by decide +kernel)) (kp_row_dot T.d) pass0 (pa_cons (pe_fld (pv 0) rfl) (pa_cons (pv 1) (pa_cons (pe_methG (pe_fld (pv 0) rfl) (kp_Field_common T.d) (ok_common T) (hr.mono (by decide)) hg pass0 (pa_cons (pe_fld (pv 0) rfl) pa_nil)) pa_nil))))), ?_⟩
    obtain ⟨dx, f, a, b, dt, ds, sa, e, F, ha, hb, hd, hs⟩ := id At.ex
    have ok := At.ok
    have n24 := ok.n24
    have le := ok.en
    have big := ok.big j jw
    have bot := ok.bot j jw
    have b9 := ok.B9
    have p62 : (1000 : Nat) ≤ 2 ^ 62 := by decide
    refine ⟨_, rfl, m, _, dx, _, _, rfl, e, T.o.cl, T.o.na _ (by decide +kernel), rfl, _, rfl, _, rfl, m, _, dx, _, _, rfl, e, T.o.cl, T.o.na _ (by decide +kernel), rfl, go_F F (by decide +kernel) (by decide +kernel) ?_⟩
    refine ⟨_, rfl, m, _, dx, _, _, rfl, e, T.o.cl, T.o.na _ (by decide +kernel), rfl, f, b, true, M.ven, M.en, M.B, rfl, F, .inl (.inl hb), At.n.en, by omega, ok.B0, ok.B9, fun q hq => ok.sm q (ok.ien q hq), fun t l' k' L2 H1 s1 ht hl L20 lB hd2 _ => ?_⟩
    obtain ⟨L, xs, h1, L0, Lb, xb, lx, ev⟩ := hr1.same s1
    have l2B : L2 ≤ M.B := Nat.le_of_dvd ok.B0 lB
    refine ⟨f, r, t, (L : Int), (L2 : Int), xs, tops L2 M.en, rfl, F.same s1, ⟨by omega, by omega⟩, ⟨by omega, by omega⟩, h1, ⟨l', k', .inl (.inl ht), hl⟩, inB_of xb big, inB_of (tops_abs ok.ien ok.B0 lB hd2) (Nat.le_trans ok.t9 p62), by rw [tops_len]; omega, by rw [tops_len]; omega, fun x H2 s2 nx => q x H2 (s1.trans s2) ?_⟩
    rw [dot_val (by omega) (by omega), ev, rats_tops L20 hd2] at nx
    exact nx
/-! ### asked -/
def spVal (K : PySem.W.Frag) : Sp := fun vs H Q E => ∃ (m : Addr) (M : MacQ) (u : Wd), vs = [.ref m, vS u] ∧ MachF K H m M ∧ u.length ≤ M.w ∧ u.length ≤ 160 ∧ (∀ c ∈ u, c ∈ M.cs) ∧ ∀ (x : V) (H' : Hp), Same H H' → NumQ H' x (valM M u) → Q x H'
theorem sm_str {u : Wd} (h : u.length ≤ 160) : smallD (.str (S u)) := fun s e => by
  cases e
  rw [S_len]
  omega
theorem isW_of {cs u : Wd} (h : u.length ≤ 160) (hc : ∀ c ∈ u, c ∈ cs) : isW cs (.str (S u)) = true := isW_S.mpr ⟨h, hc⟩
theorem ok_val (T : Tx K mg) : FnG P w K mg base (L2.CX P w) 7 (He.ma K (He.ga K "Machine") "value_of") (spVal K) := by
  refine mkX_Machine_value_of T.d (fun vs H Q E h => ?_) (fun cdv A outer s H vs Q E hg hr h => ?_)
  · obtain ⟨m, M, u, rfl, _⟩ := h
    rfl
  · obtain ⟨m, M, u, rfl, At, uw, u160, hu0, q⟩ := h
    have nd := sc_Machine_value_of.nd
    refine ⟨_, pss_cons (ps_expr (pe_methG (pv 0) (kp_Machine__check_words T.d) (ok_cw T) (hr.mono (by decide)) hg (passes_call (takes_of rfl rfl rfl rfl) fun _ _ _ _ z => z) (pa_cons (pv 1) pa_nil)))
      (pss_one (ps_ret (pe_methG (pv 0) (kp_Machine__value_at T.d) (ok_at T) (hr.mono (by decide)) hg pass0 (pa_cons (pe_methG (pv 0) (kp_Machine__row_behind T.d) (ok_behind T) hr hg pass0 (pa_cons (pv 1) pa_nil)) pa_nil)))), ?_⟩
    refine go_M (T := T) rfl At (by decide +kernel) ⟨_, rfl, m, M, _, _, rfl, At, .str _, sm_str u160, fun hw H1 s1 => ?_, fun hw => ?_⟩
    · have At1 := At.same s1
      refine go_M (T := T) rfl At1 (by decide +kernel) (go_M (T := T) rfl At1 (by decide +kernel) ⟨_, rfl, m, M, u, rfl, At1, uw, hu0, fun t H2 s2 h2 => ?_⟩)
      exact ⟨m, t, M, _, _, rfl, At1.same s2, h2, uw, fun x H3 s3 nx => q x H3 ((s1.trans s2).trans s3) nx⟩
    · rw [isW_of u160 hu0] at hw
      cases hw
def spSt (K : PySem.W.Frag) : Sp := fun vs H Q E => ∃ (m : Addr) (M : MacQ) (u : Wd), vs = [.ref m, vS u] ∧ MachF K H m M ∧ u.length ≤ M.w ∧ u.length ≤ 160 ∧ (∀ c ∈ u, c ∈ M.cs) ∧ ∀ (t : Addr) (zs : List V) (H' : Hp), Same H H' → H' t = some (.tup zs) → NumsQ H' zs (stM M u) → Q (.ref t) H'
theorem ok_st (T : Tx K mg) : FnG P w K mg base (L2.CX P w) 7 (He.ma K (He.ga K "Machine") "state_after") (spSt K) := by
  refine mkX_Machine_state_after T.d (fun vs H Q E h => ?_) (fun cdv A outer s H vs Q E hg hr h => ?_)
  · obtain ⟨m, M, u, rfl, _⟩ := h
    rfl
  · obtain ⟨m, M, u, rfl, At, uw, u160, hu0, q⟩ := h
    have nd := sc_Machine_state_after.nd
    refine ⟨_, pss_cons (ps_expr (pe_methG (pv 0) (kp_Machine__check_words T.d) (ok_cw T) (hr.mono (by decide)) hg (passes_call (takes_of rfl rfl rfl rfl) fun _ _ _ _ z => z) (pa_cons (pv 1) pa_nil)))
      (pss_one (ps_ret (pe_callTy call_tuple_of (by rfl) (T.z "tuple" (by decide +kernel)) (by decide +kernel) (pa_cons (pe_callG (ok_no T) (hr.mono (by decide)) hg (by rfl) (T.g "numbers_of" (by decide +kernel)) (kp_numbers_of T.d) pass0
        (pa_cons (pe_fld (pv 0) rfl) (pa_cons (pe_methG (pv 0) (kp_Machine__row_behind T.d) (ok_behind T) hr hg pass0 (pa_cons (pv 1) pa_nil)) pa_nil))) pa_nil)))), ?_⟩
    refine go_M (T := T) rfl At (by decide +kernel) ⟨_, rfl, m, M, _, _, rfl, At, .str _, sm_str u160, fun hw H1 s1 => ?_, fun hw => ?_⟩
    · have At1 := At.same s1
      obtain ⟨dx, f, a, b, dt, ds, sa, e, F, ha, hb, hd2, hs⟩ := id At1.ex
      have n24 := At.ok.n24
      have bot := At.ok.bot _ uw
      refine ⟨_, rfl, m, _, dx, _, _, rfl, e, T.o.cl, T.o.na _ (by decide +kernel), rfl, go_M (T := T) rfl At1 (by decide +kernel) ⟨_, rfl, m, M, u, rfl, At1, uw, hu0, fun t H2 s2 ⟨L, xs, h1, L0, Lb, xb, lx, ev⟩ => ?_⟩⟩
      refine ⟨f, t, (L : Int), xs, rfl, F.same s2, ⟨by omega, by omega⟩, h1, by omega, fun l zs H3 s3 h3 nz => ⟨l, _, rfl, .inl ⟨SqL.of h3, fun t3 nt3 => ?_⟩⟩⟩
      rw [ev] at nz
      exact q t3 zs _ (((s1.trans s2).trans s3).trans (same_up nt3)) upd_same (nz.same (same_up nt3))
    · rw [isW_of u160 hu0] at hw
      cases hw
end
end K19.F

namespace K19.F
open PySem PySem.Spec PyProof.Rows L2 Ver Num SX
/-! ### the law's own fractions -/
theorem gcd_step (a b : Int) : Int.gcd b (a % b) = Int.gcd a b := by
  rw [Int.gcd_comm b, Int.emod_def, Int.gcd_sub_mul_left_left]
section
variable {P : Program} {w : World} {K : PySem.W.Frag} {mg : Str → Option Value} {base : Heap}
def spDiv : Sp := fun vs H Q _ => ∃ a b : Int, vs = [.int a, .int b] ∧ 0 ≤ b ∧ Q (.int ((Int.gcd a b : Nat) : Int)) H
theorem ok_div (T : Tx K mg) : FnG P w K mg base CX0 1 (He.ga K "_law_divisor") spDiv := by
  refine mk__law_divisor T.d (fun vs H Q E h => ?_) (fun cdv A outer s H vs Q E hg hr h => ?_)
  · obtain ⟨a, b, rfl, _⟩ := h
    rfl
  · obtain ⟨a, b, rfl, b0, q⟩ := h
    have nd := sc__law_divisor.nd
    refine ⟨_, pss_cons (ps_while PassesOwn.never (pt_cmpR op_ne (pv 1) pe_int (nomark _))
        (pss_one (ps_par (i := 0) (j := 1) rfl nd rfl rfl (by decide) rfl rfl (pa_cons (pv 1) (pa_cons (pe_op op_mod (pe_callTy call_int1 (by rfl) (T.z "int" (by decide +kernel)) (by decide +kernel) (pa_cons (pv 0) pa_nil)) (pv 1)) pa_nil)) rfl)))
      (pss_one (ps_ret (pe_callB call_abs (by rfl) (T.z "abs" (by decide +kernel)) (by decide +kernel) (pa_cons (pv 0) pa_nil)))), ?_⟩
    refine ⟨fun n σ H' => ∃ x y : Int, n = y.toNat ∧ 0 ≤ y ∧ Int.gcd x y = Int.gcd a b ∧ σ = [some (.int x), some (.int y)] ∧ H' = H, ⟨b.toNat, a, b, rfl, b0, rfl, rfl, rfl⟩, ?_⟩
    rintro n σ H' ⟨x, y, rfl, y0, g, rfl, rfl⟩
    refine ⟨_, rfl, rfl, _, rfl, ?_⟩
    rw [iEq]
    by_cases e : y = 0
    · subst e
      rw [decide_eq_true rfl]
      refine ifF rfl ⟨_, rfl, _, rfl, ?_⟩
      rw [Int.gcd_zero_right] at g
      have : (if x < 0 then -x else x) = ((Int.gcd a b : Nat) : Int) := by
        rw [← g]
        split <;> omega
      rw [this]
      exact q
    · rw [decide_eq_false e]
      have yp : 0 < y := by omega
      refine ifT rfl ⟨fun σ H2 => ∃ x' y' : Int, y'.toNat < y.toNat ∧ 0 ≤ y' ∧ Int.gcd x' y' = Int.gcd a b ∧ σ = [some (.int x'), some (.int y')] ∧ H2 = H', ?_, ?_⟩
      · rintro σ' H2 ⟨x', y', lt, h0, hg2, e1, e2⟩
        exact ⟨_, lt, x', y', rfl, h0, hg2, e1, e2⟩
      · refine ⟨_, rfl, _, rfl, .inl ⟨_, rfl, _, rfl, _, _, rfl, rfl, yp, _, _, rfl, y, x % y, ?_, Int.emod_nonneg _ (by omega), by rw [gcd_step]; exact g, rfl, rfl⟩⟩
        have h1 := Int.emod_lt_of_pos x yp
        have h2 := Int.emod_nonneg x (show y ≠ 0 by omega)
        omega
def spLF : Sp := fun vs H Q _ => ∃ (t b : Int), vs = [.int t, .int b] ∧ 0 < b ∧ b.natAbs < 2 ^ 4000 ∧ ∀ (x : V) (H' : Hp), Same H H' → NumQ H' x (Rat.divInt t b) → Q x H'
theorem ok_lfrac (T : Tx K mg) : FnG P w K mg base CX0 2 (He.ga K "_law_fraction") spLF := by
  refine mk__law_fraction T.d (fun vs H Q E h => ?_) (fun cdv A outer s H vs Q E hg hr h => ?_)
  · obtain ⟨t, b, rfl, _⟩ := h
    rfl
  · obtain ⟨t, b, rfl, b0, bb, q⟩ := h
    have nd := sc__law_fraction.nd
    refine ⟨_, pss_cons (ps_set (i := 2) nd rfl (Or.inl rfl) (pe_callG (ok_div T) hr hg (by rfl) (T.g "_law_divisor" (by decide +kernel)) (kp__law_divisor T.d) pass0 (pa_cons (pv 0) (pa_cons (pv 1) pa_nil))))
      (pss_cons (ps_if (pt_cmpR op_lt (pv 1) pe_int (nomark _)) pss_never pss_nil)
      (pss_one (ps_ret (pe_ifExp (pt_cmpR op_eq (pv 1) (pv 2) (nomark _)) (pe_op op_fdivZ (pv 0) (pv 2)) (pe_tup (pa_cons (pe_op op_fdivZ (pv 0) (pv 2)) (pa_cons (pe_op op_fdivZ (pv 1) (pv 2)) pa_nil))))))), ?_⟩
    refine ⟨_, rfl, _, rfl, t, b, rfl, by omega, ?_⟩
    have bz : b ≠ 0 := by omega
    obtain ⟨o1, o2, o3, o4, _, _⟩ := dvs_out (t := t) bz
    have o5 := dvs_log (t := t) bz bb (by decide) (by decide)
    have hn : ¬ b < 0 := by omega
    rw [dvs_nn hn] at o1 o2 o3 o4 o5
    have eg : Int.gcd t b = Nat.gcd t.natAbs b.natAbs := rfl
    rw [eg]
    refine ⟨_, rfl, _, _, rfl, rfl, _, rfl, ?_⟩
    refine ifF (decide_eq_false hn) ?_
    refine ⟨_, rfl, _, rfl, rfl, _, rfl, ?_⟩
    rw [iEq]
    by_cases e : b = ((Nat.gcd t.natAbs b.natAbs : Nat) : Int)
    · exact ifT (decide_eq_true e) ⟨_, rfl, _, rfl, _, _, rfl, rfl, ⟨o1, o5⟩, q _ H (Same.refl H) (NumQ.int o2.symm (o4.mp e) rfl)⟩
    · refine ifF (decide_eq_false e) ⟨_, rfl, _, rfl, _, _, rfl, rfl, ⟨o1, o5⟩, _, rfl, _, rfl, _, _, rfl, rfl, ⟨o1, o5⟩, by show 2 ≤ sizeLine; decide, fun p np => q _ _ (same_up np) (.inr ⟨fun z => e (o4.mpr z), p, rfl, ?_⟩)⟩
      rw [← o2, ← o3]
      exact upd_same
def spLP (K : PySem.W.Frag) : Sp := fun vs H Q _ => ∃ (x : V) (q : Rat), vs = [x] ∧ NumQ H x q ∧ ∀ (p : Addr) (H' : Hp), Same H H' → SqT K H' p [.int q.num, .int (q.den : Int)] → Q (.ref p) H'
theorem ok_lpair (T : Tx K mg) : FnG P w K mg base CX0 1 (He.ga K "_law_pair") (spLP K) := by
  refine mk__law_pair T.d (fun vs H Q E h => ?_) (fun cdv A outer s H vs Q E hg hr h => ?_)
  · obtain ⟨x, q, rfl, _⟩ := h
    rfl
  · obtain ⟨x, r, rfl, n, q⟩ := h
    refine ⟨_, pss_one (ps_ret (pe_ifExp (pt_val (pe_callB call_isi (by rfl) (T.z "isinstance" (by decide +kernel)) (by decide +kernel) (pa_cons (pv 0) (pa_cons (pe_bltn (v := .ty "tuple") (by rfl) (T.z "tuple" (by decide +kernel)) (by decide +kernel) rfl) pa_nil))))
      (pv 0) (pe_tup (pa_cons (pv 0) (pa_cons pe_int pa_nil))))), ?_⟩
    rcases n with ⟨d1, rfl⟩ | ⟨d1, a, rfl, ha⟩
    · refine ⟨_, rfl, _, _, _, _, false, rfl, .ty "tuple", .base (.int _), kit_ty (by decide +kernel), _, rfl, ifF rfl ?_⟩
      refine ⟨_, rfl, (by show 2 ≤ sizeLine; decide), fun p np => q p _ (same_up np) ?_⟩
      rw [d1]
      exact .inl (.inl upd_same)
    · refine ⟨_, rfl, _, _, _, _, true, rfl, .ty "tuple", .base (.tup ha), kit_ty (by decide +kernel), _, rfl, ifT rfl ?_⟩
      exact ⟨_, rfl, q a H (Same.refl H) (.inl (.inl ha))⟩
/-- numbers of a row, of a column that the law multiplies -/
def BigQ (q : Rat) : Prop := q.num.natAbs ≤ 2 ^ 50 ∧ q.den ≤ 2 ^ 20
def LilQ (q : Rat) : Prop := q.num.natAbs ≤ 1000 ∧ q.den ≤ 1000
theorem numsQ_at {H : Hp} {zs : List V} {qs : List Rat} (n : NumsQ H zs qs) {m : Nat} (h : m < qs.length) : ∃ x q, atI zs (m : Int) = some x ∧ zs[m]? = some x ∧ qs[m]? = some q ∧ NumQ H x q ∧ q ∈ qs := by
  have hz : m < zs.length := by rw [n.1]; exact h
  have e := List.getElem?_eq_getElem hz
  obtain ⟨q, e2, nq⟩ := n.get e
  exact ⟨_, q, atI_nat e, e, e2, nq, List.mem_of_getElem? e2⟩
theorem dotQ_take (xs ys : List Rat) {m : Nat} {x y : Rat} (h1 : xs[m]? = some x) (h2 : ys[m]? = some y) : ((List.zipWith (· * ·) xs ys).take (m + 1)).sum = ((List.zipWith (· * ·) xs ys).take m).sum + x * y := by
  have e : (List.zipWith (· * ·) xs ys)[m]? = some (x * y) := by rw [List.getElem?_zipWith, h1, h2]
  rw [Ver.take_next e, List.sum_append, List.sum_cons, List.sum_nil, Rat.add_zero]
theorem top_next {t b : Int} {x y : Rat} (b0 : b ≠ 0) : Rat.divInt (t * (x.den : Int) * (y.den : Int) + x.num * y.num * b) (b * (x.den : Int) * (y.den : Int)) = Rat.divInt t b + x * y := by
  have dx : (x.den : Int) ≠ 0 := by have := x.den_pos; omega
  have dy : (y.den : Int) ≠ 0 := by have := y.den_pos; omega
  conv => rhs; rw [← Rat.num_divInt_den x, ← Rat.num_divInt_den y]
  rw [Rat.divInt_mul_divInt, Rat.divInt_add_divInt _ _ b0 (Int.mul_ne_zero dx dy), Int.mul_assoc t, Int.mul_assoc b]
def spDot (K : PySem.W.Frag) : Sp := fun vs H Q _ => ∃ (a b : Addr) (zs ys : List V) (xs ps : List Rat) (n : Nat), vs = [.ref a, .ref b] ∧ SqL K H a zs ∧ SqL K H b ys ∧ NumsQ H zs xs ∧ NumsQ H ys ps ∧ xs.length = n ∧ ps.length = n ∧ n ≤ 24 ∧ (∀ q ∈ xs, BigQ q) ∧ (∀ q ∈ ps, LilQ q) ∧
  ∀ (x : V) (H' : Hp), Same H H' → NumQ H' x (dotQ xs ps) → Q x H'
theorem ok_dotted (T : Tx K mg) : FnG P w K mg base CX0 3 (He.ga K "_law_dotted") (spDot K) := by
  refine mk__law_dotted T.d (fun vs H Q E h => ?_) (fun cdv A outer s H vs Q E hg hr h => ?_)
  · obtain ⟨a, b, zs, ys, xs, ps, n, rfl, _⟩ := h
    rfl
  · obtain ⟨a, b, zs, ys, xs, ps, n, rfl, ha, hb, nx, ny, lx, lp, n24, bx, lq, q⟩ := h
    have nd := sc__law_dotted.nd
    refine ⟨_, pss_cons (ps_asg (pe_tup (pa_cons pe_int (pa_cons pe_int pa_nil))) (pg_tup rfl (pgs_cons (pg_name (i := 2) nd rfl (.inl rfl)) (pgs_cons (pg_name (i := 3) nd rfl (.inl rfl)) pgs_nil))))
      (pss_cons (ps_for PassesOwn.never rfl (pi_range1 (by rfl) (T.z "range" (by decide +kernel)) (pa_cons (pe_callB call_len_seq (by rfl) (T.z "len" (by decide +kernel)) (by decide +kernel) (pa_cons (pv 0) pa_nil)) pa_nil)) (pg_name (i := 4) nd rfl (.inl rfl))
        (pss_cons (ps_par (i := 5) (j := 6) rfl nd rfl rfl (by decide) rfl rfl (pa_cons (pe_callG (ok_lpair T) (hr.mono (by decide)) hg (by rfl) (T.g "_law_pair" (by decide +kernel)) (kp__law_pair T.d) pass0 (pa_cons (pe_ix ix_list (pv 0) (pv 4) (fun _ _ => rfl)) pa_nil))
            (pa_cons (pe_callG (ok_lpair T) (hr.mono (by decide)) hg (by rfl) (T.g "_law_pair" (by decide +kernel)) (kp__law_pair T.d) pass0 (pa_cons (pe_ix ix_list (pv 1) (pv 4) (fun _ _ => rfl)) pa_nil)) pa_nil)) rfl)
        (pss_cons (ps_set (i := 2) nd rfl (Or.inl rfl) (pe_op op_add (pe_op op_mul (pe_op op_mul (pv 2) (pe_ix ix_tup (pv 5) pe_int (fun _ _ => rfl))) (pe_ix ix_tup (pv 6) pe_int (fun _ _ => rfl)))
            (pe_op op_mul (pe_op op_mul (pe_ix ix_tup (pv 5) pe_int (fun _ _ => rfl)) (pe_ix ix_tup (pv 6) pe_int (fun _ _ => rfl))) (pv 3))))
        (pss_one (ps_set (i := 3) nd rfl (Or.inl rfl) (pe_op op_mul (pe_op op_mul (pv 3) (pe_ix ix_tup (pv 5) pe_int (fun _ _ => rfl))) (pe_ix ix_tup (pv 6) pe_int (fun _ _ => rfl))))))))
      (pss_one (ps_ret (pe_callG (ok_lfrac T) hr hg (by rfl) (T.g "_law_fraction" (by decide +kernel)) (kp__law_fraction T.d) pass0 (pa_cons (pv 2) (pa_cons (pv 3) pa_nil)))))), ?_⟩
    have lz : zs.length = n := by rw [nx.1, lx]
    refine ⟨by show 2 ≤ sizeLine; decide, fun u nu => ?_⟩
    have s0 := same_up (o := .tup [V.int 0, V.int 1]) nu
    refine ⟨u, _, rfl, .inl (.inl upd_same), rfl, _, _, rfl, _, _, rfl, rfl, ?_⟩
    refine ⟨_, rfl, a, _, rfl, .inl (s0.seq ha), _, rfl, by omega, by rw [lz]; omega, ?_⟩
    rw [Int.toNat_natCast, lz]
    refine for_it (wk_range (n := n)) (fun m σ H' => ∃ (t b' : Int) (v4 v5 v6 : Option V), σ = [some (.ref a), some (.ref b), some (.int t), some (.int b'), v4, v5, v6] ∧ Same H H' ∧ 0 < b' ∧ b'.natAbs < 2 ^ (100 * m + 1) ∧ Rat.divInt t b' = ((List.zipWith (· * ·) xs ps).take m).sum)
      ⟨0, 1, none, none, none, rfl, s0, by decide, by decide, by rw [List.take_zero]; exact Rat.zero_divInt 1⟩ (fun _ _ _ _ _ => trivial) ?_ ?_
    · rintro m x σ H1 H2 hm ⟨t, b', v4, v5, v6, rfl, s1, b0, bb, ev⟩ ⟨rfl, rfl⟩
      obtain ⟨x, r, a1, _, e1, n1, m1⟩ := numsQ_at (nx.same s1) (m := m) (by omega)
      have e0 : ∀ q : Nat, (0 : Int) + (q : Int) = (q : Int) := fun q => Int.zero_add _
      refine ⟨_, rfl, _, rfl, a, _, _, _, rfl, rfl, s1.seq ha, by rw [e0]; exact a1, x, r, rfl, n1, fun p H3 s3 hp => ?_⟩
      have s13 := s1.trans s3
      obtain ⟨y, r2, a2, _, e2, n2, m2⟩ := numsQ_at (ny.same s13) (m := m) (by omega)
      refine ⟨_, rfl, _, rfl, b, _, _, _, rfl, rfl, s13.seq hb, by rw [e0]; exact a2, y, r2, rfl, n2, fun p2 H4 s4 hp2 => ?_⟩
      have hp4 := sqt_same s4 hp
      obtain ⟨x1, x2⟩ := bx r m1
      obtain ⟨y1, y2⟩ := lq r2 m2
      have x0 := r.den_pos
      have y0 := r2.den_pos
      have p50 : (2 : Nat) ^ 50 = 1125899906842624 := by decide
      have p20 : (2 : Nat) ^ 20 = 1048576 := by decide
      have p64 : (2 : Int) ^ 64 = 18446744073709551616 := by decide
      have nn : (r.num * r2.num).natAbs ≤ 1125899906842624 * 1000 := by
        rw [Int.natAbs_mul]
        exact Nat.mul_le_mul (by omega) y1
      refine ⟨_, _, rfl, ?_⟩
      refine ⟨_, rfl, _, rfl, p, _, _, _, rfl, rfl, hp4, (by rfl : atI [V.int r.num, V.int (r.den : Int)] 1 = some (V.int (r.den : Int))), _, _, rfl, rfl, .inr ⟨by omega, by omega⟩, ?_⟩
      refine ⟨_, rfl, p2, _, _, _, rfl, rfl, hp2, (by rfl : atI [V.int r2.num, V.int (r2.den : Int)] 1 = some (V.int (r2.den : Int))), _, _, rfl, rfl, .inr ⟨by omega, by omega⟩, ?_⟩
      refine ⟨_, rfl, p, _, _, _, rfl, rfl, hp4, (by rfl : atI [V.int r.num, V.int (r.den : Int)] 0 = some (V.int r.num)), ?_⟩
      refine ⟨_, rfl, p2, _, _, _, rfl, rfl, hp2, (by rfl : atI [V.int r2.num, V.int (r2.den : Int)] 0 = some (V.int r2.num)), _, _, rfl, rfl, .inl ⟨by omega, by omega⟩, ?_⟩
      refine ⟨_, rfl, _, _, rfl, rfl, .inl ⟨by omega, by omega⟩, _, _, rfl, rfl, ?_⟩
      refine ⟨_, rfl, _, rfl, p, _, _, _, rfl, rfl, hp4, (by rfl : atI [V.int r.num, V.int (r.den : Int)] 1 = some (V.int (r.den : Int))), _, _, rfl, rfl, .inr ⟨by omega, by omega⟩, ?_⟩
      refine ⟨_, rfl, p2, _, _, _, rfl, rfl, hp2, (by rfl : atI [V.int r2.num, V.int (r2.den : Int)] 1 = some (V.int (r2.den : Int))), _, _, rfl, rfl, .inr ⟨by omega, by omega⟩, ?_⟩
      refine ⟨_, _, _, _, _, rfl, s13.trans s4, Int.mul_pos (Int.mul_pos b0 (by omega)) (by omega), ?_, ?_⟩
      · rw [Int.natAbs_mul, Int.natAbs_mul, Int.natAbs_natCast, Int.natAbs_natCast, Nat.mul_assoc]
        have h1 : r.den * r2.den ≤ 2 ^ 100 := Nat.le_trans (Nat.mul_le_mul x2 y2) (by decide)
        have h2 : b'.natAbs * (r.den * r2.den) < 2 ^ (100 * m + 1) * 2 ^ 100 := Nat.lt_of_le_of_lt (Nat.mul_le_mul_left _ h1) (Nat.mul_lt_mul_of_pos_right bb (Nat.two_pow_pos _))
        rw [← Nat.pow_add] at h2
        rw [show 100 * (m + 1) + 1 = 100 * m + 1 + 100 by omega]
        exact h2
      · rw [top_next (by omega), ev, dotQ_take _ _ e1 e2]
    · rintro σ H1 ⟨t, b', v4, v5, v6, rfl, s1, b0, bb, ev⟩
      have lzw : (List.zipWith (· * ·) xs ps).length = n := by rw [List.length_zipWith]; omega
      rw [← lzw, List.take_length] at ev
      refine ⟨_, rfl, _, rfl, t, b', rfl, b0, Nat.lt_of_lt_of_le bb (Nat.pow_le_pow_right (by decide) (by omega)), fun x H2 s2 nq => q x H2 (s1.trans s2) ?_⟩
      rw [ev] at nq
      exact nq
end
end K19.F

namespace K19
open PySem PySem.Spec PyProof.Rows L2 Ver Num SX
/-! ### drawn primes, numbers, words -/
theorem But.keeps {d D : Addr} {H H' : Hp} {o : HO} (b : But d H H') (h : H D = some o) (ne : D ≠ d) : H' D = some o := b.1 D o h ne
section
variable {P : Program} {w : World} {K : PySem.W.Frag} {mg : Str → Option Value} {base : Heap}
def spPrime : Sp := fun vs H Q _ => ∃ (d : Addr) (k : Int), vs = [.ref d] ∧ PenAt H d k ∧ k < 1000000000000 ∧ ∀ (p : Int) (H' : Hp), Pm p → But d H H' → PenAt H' d (k + 1) → Q (.int p) H'
theorem ok_lprime (T : Tx K mg) : FnG P w K mg base CX0 3 (He.ga K "_law_prime") spPrime := by
  refine mk__law_prime T.d (fun vs H Q E h => ?_) (fun cdv A outer s H vs Q E hg hr h => ?_)
  · obtain ⟨d, k, rfl, _⟩ := h
    rfl
  · obtain ⟨d, k, rfl, pen, k9, q⟩ := h
    refine ⟨_, pss_one (ps_ret (pe_callG (ok_pick T) hr hg (by rfl) (T.g "_law_pick" (by decide +kernel)) (kp__law_pick T.d) pass0
      (pa_cons (pv 0) (pa_cons (pe_lst (pa_cons pe_int (pa_cons pe_int (pa_cons pe_int (pa_cons pe_int (pa_cons pe_int (pa_cons pe_int (pa_cons pe_int (pa_cons pe_int pa_nil))))))))) pa_nil)))), ?_⟩
    refine ⟨_, rfl, by show 8 ≤ sizeLine; decide, fun l nl => ?_⟩
    have s0 := same_up (o := .lst [V.int 2, V.int 2, V.int 3, V.int 3, V.int 5, V.int 7, V.int 101, V.int 1000003]) nl
    refine ⟨d, l, k, _, rfl, pen.same s0, k9, upd_same, by show 0 < 8; decide, by show 8 < 1000; decide, fun x H1 hx bt pen1 => ?_⟩
    have b := (But.same s0).trans bt
    simp only [List.mem_cons, List.not_mem_nil, or_false] at hx
    rcases hx with rfl | rfl | rfl | rfl | rfl | rfl | rfl | rfl
    · exact q _ H1 pm2 b pen1
    · exact q _ H1 pm2 b pen1
    · exact q _ H1 pm3 b pen1
    · exact q _ H1 pm3 b pen1
    · exact q _ H1 pm5 b pen1
    · exact q _ H1 pm7 b pen1
    · exact q _ H1 pm101 b pen1
    · exact q _ H1 pm1000003 b pen1
def spWord : Sp := fun vs H Q _ => ∃ (d : Addr) (k : Int) (cs : Wd) (m : Nat), vs = [.ref d, vS cs, .int m] ∧ PenAt H d k ∧ k < 100000000 ∧ 0 < cs.length ∧ cs.length ≤ 100 ∧ m ≤ 1000 ∧
  ∀ (u : Wd) (H' : Hp), (∀ c ∈ u, c ∈ cs) → u.length ≤ m → But d H H' → PenAt H' d (k + (m : Int) + 1) → Q (vS u) H'
theorem ok_word (T : Tx K mg) : FnG P w K mg base CX0 3 (He.ga K "_law_word") spWord := by
  refine mk__law_word T.d (fun vs H Q E h => ?_) (fun cdv A outer s H vs Q E hg hr h => ?_)
  · obtain ⟨d, k, cs, m, rfl, _⟩ := h
    rfl
  · obtain ⟨d, k, cs, m, rfl, pen, k9, c0, c9, m9, q⟩ := h
    have nd := sc__law_word.nd
    refine ⟨_, pss_one (ps_ret (pe_join pe_str
      (pe_lc (own := [("_law_k", 3)]) (g := gName 3) (tt := tYes) rfl nd (pi_range1 (by rfl) (T.z "range" (by decide +kernel)) (pa_cons (pe_callG (ok_draw T) (hr.mono (by decide)) hg (by rfl) (T.g "_law_draw" (by decide +kernel)) (kp__law_draw T.d) pass0 (pa_cons (pv 0) (pa_cons (pe_op op_add (pv 2) pe_int) pa_nil))) pa_nil))
        (blkOk_by (N := n__law_word) (sc := defScope s__law_word) (by decide +kernel)) (fun _ _ _ _ _ => pg_name (i := 3) nd rfl (Or.inl rfl)) (fun _ _ _ _ _ => pts_nil)
        (fun _ _ _ _ _ => pe_callG (ok_pickS T) hr hg (by rfl) (T.g "_law_pick" (by decide +kernel)) (kp__law_pick T.d) pass0 (pa_cons (pv 0) (pa_cons (pv 1) pa_nil)))))), ?_⟩
    refine ⟨⟨_, rfl⟩, _, rfl, _, rfl, _, _, rfl, rfl, d, k, _, rfl, pen, by omega, by omega, by omega, fun i H1 bt1 pen1 i0 i1 => ?_⟩
    obtain ⟨n, rfl⟩ : ∃ n : Nat, i = (n : Int) := ⟨i.toNat, by omega⟩
    obtain ⟨p0, pc⟩ := pen1.c
    obtain ⟨cells, b0, l0, hd, hc, _⟩ := id pc.ex
    refine ⟨n, rfl, by omega, by omega, fun D nD => ?_⟩
    have dD : d ≠ D := ne_of_none hd nD
    have cD : p0 ≠ D := ne_of_none hc nD
    rw [Int.toNat_natCast]
    refine lc_it (te := fun σ H Q => tCons (tVar 0) (tCons (tVar 1) tNil) σ H fun vs H1 => spPickS vs H1 Q E0) (g := gName 3) (tt := tYes) (wk_range (n := n)) (fun j H' => ∃ us : Wd, us.length = j ∧ (∀ c ∈ us, c ∈ cs) ∧ H' D = some (.lst ((ones us).map V.str)) ∧ But d H1 H' ∧ PenC H' d p0 (k + 1 + (j : Int))) ?_ (fun _ _ _ _ => trivial) ?_ ?_
    · have s1 := same_up (o := .lst []) nD
      exact ⟨[], rfl, (fun _ h => by cases h), upd_same, But.same s1, (pc.same s1).mono (by omega)⟩
    · rintro j x H2 H2' hj ⟨us, ul, uc, hD, bt, pn⟩ ⟨rfl, rfl⟩
      refine ⟨rfl, ?_⟩
      unfold tYes
      dsimp only
      rw [if_pos rfl]
      refine ⟨_, rfl, _, rfl, d, _, cs, rfl, pn.at_, by omega, c0, by omega, fun c H3 hc3 bt3 pen3 => ?_⟩
      have hD3 := bt3.keeps hD (Ne.symm dD)
      refine ⟨_, hD3, ?_, us ++ [c], ?_, fun x hx => ?_, ?_, ?_, ?_⟩
      · rw [List.length_map, List.length_map, ul, sizeLine_eq]
        omega
      · rw [List.length_append, ul]
        rfl
      · rcases List.mem_append.mp hx with h | h
        · exact uc x h
        · obtain rfl : x = c := by simpa using h
          exact hc3
      · rw [upd_same]
        have e : (ones (us ++ [c])).map V.str = (ones us).map V.str ++ [V.str (S [c])] := by
          unfold ones
          rw [List.map_append, List.map_append]
          rfl
        rw [e]
      · exact (bt.trans bt3).up nD dD
      · exact ((pn.on bt3 pen3).up dD cD).mono (by omega)
    · rintro H2 ⟨us, ul, uc, hD, bt, pn⟩
      refine ⟨_, D, ones us, rfl, rfl, .inl (SqL.of hD), ?_, ?_⟩
      · rw [ones_len, List.length_map]
        rw [show ("" : Str).length = 0 from rfl, Nat.mul_zero]
        omega
      · rw [show ("" : Str) = S [] from rfl, Ver.join_ones]
        exact q us _ uc (by omega) (bt1.trans bt) (pn.at_.mono (by omega))
end
end K19

namespace K19.F
open PySem PySem.Spec PyProof.Rows L2 Ver Num SX
/-! ### drawn numbers -/
theorem penL_tup {H : Hp} {d a : Addr} {k : Int} {xs : List V} (p : PenAt H d k) (h : H a = some (.tup xs)) : a ≠ d := fun z => by
  obtain ⟨c, cells, b, l, e, _⟩ := p.ex
  rw [z, e] at h
  cases h
theorem But.keepT {d : Addr} {k : Int} {H H' : Hp} (b : But d H H') (p : PenAt H d k) : KeepT H H' := fun a xs h => b.1 a _ h (penL_tup p h)
theorem half_co {t : Int} (h0 : -3 ≤ t) (h1 : t ≤ 3) : Nat.Coprime (2 * t + 1).natAbs 2 := by
  rcases (by omega : t = -3 ∨ t = -2 ∨ t = -1 ∨ t = 0 ∨ t = 1 ∨ t = 2 ∨ t = 3) with rfl | rfl | rfl | rfl | rfl | rfl | rfl <;> decide
theorem third_co {t : Int} (h0 : -3 ≤ t) (h1 : t ≤ 3) : Nat.Coprime (3 * t + 1).natAbs 3 := by
  rcases (by omega : t = -3 ∨ t = -2 ∨ t = -1 ∨ t = 0 ∨ t = 1 ∨ t = 2 ∨ t = 3) with rfl | rfl | rfl | rfl | rfl | rfl | rfl <;> decide
theorem sixth_co {t : Int} (h0 : -3 ≤ t) (h1 : t ≤ 3) : Nat.Coprime (6 * t + 5).natAbs 6 := by
  rcases (by omega : t = -3 ∨ t = -2 ∨ t = -1 ∨ t = 0 ∨ t = 1 ∨ t = 2 ∨ t = 3) with rfl | rfl | rfl | rfl | rfl | rfl | rfl <;> decide
theorem numQ_int (H : Hp) (t : Int) : NumQ H (.int t) (Rat.divInt t 1) := by
  obtain ⟨o1, o2⟩ := dvs_one t
  exact NumQ.int o1 o2 rfl
theorem top_int {t : Int} {T B : Nat} (h : t.natAbs * B ≤ T) : Top T B (Rat.divInt t 1) := by
  obtain ⟨o1, o2⟩ := dvs_one t
  refine ⟨by rw [o2]; exact Nat.one_dvd B, ?_⟩
  rw [o1, o2, Nat.div_one]
  exact h
section
variable {P : Program} {w : World} {K : PySem.W.Frag} {mg : Str → Option Value} {base : Heap}
def spSF : Sp := fun vs H Q _ => ∃ (d : Addr) (k : Int), vs = [.ref d] ∧ PenAt H d k ∧ k < 1000000000 ∧ ∀ (x : V) (q : Rat) (H' : Hp), NumQ H' x q → Top 24 6 q → But d H H' → PenAt H' d (k + 2) → Q x H'
theorem ok_small (T : Tx K mg) : FnG P w K mg base CX0 3 (He.ga K "_law_small_fraction") spSF := by
  refine mk__law_small_fraction T.d (fun vs H Q E h => ?_) (fun cdv A outer s H vs Q E hg hr h => ?_)
  · obtain ⟨d, k, rfl, _⟩ := h
    rfl
  · obtain ⟨d, k, rfl, pen, k9, q⟩ := h
    have nd := sc__law_small_fraction.nd
    refine ⟨_, pss_cons (ps_set (i := 1) nd rfl (Or.inl rfl) (pe_op op_sub (pe_callG (ok_draw T) (hr.mono (by decide)) hg (by rfl) (T.g "_law_draw" (by decide +kernel)) (kp__law_draw T.d) pass0 (pa_cons (pv 0) (pa_cons pe_int pa_nil))) pe_int))
      (pss_one (ps_ret (pe_callG (ok_pick T) hr hg (by rfl) (T.g "_law_pick" (by decide +kernel)) (kp__law_pick T.d) pass0
      (pa_cons (pv 0) (pa_cons (pe_lst (pa_cons pe_int (pa_cons pe_int (pa_cons (pv 1) (pa_cons (pv 1)
        (pa_cons (pe_tup (pa_cons (pe_op op_add (pe_op op_mul pe_int (pv 1)) pe_int) (pa_cons pe_int pa_nil)))
        (pa_cons (pe_tup (pa_cons (pe_op op_add (pe_op op_mul pe_int (pv 1)) pe_int) (pa_cons pe_int pa_nil)))
        (pa_cons (pe_tup (pa_cons (pe_op op_add (pe_op op_mul pe_int (pv 1)) pe_int) (pa_cons pe_int pa_nil))) pa_nil)))))))) pa_nil))))), ?_⟩
    refine ⟨_, rfl, d, k, 7, rfl, pen, by omega, by omega, by omega, fun i H1 bt1 pen1 i0 i1 => ⟨_, _, rfl, rfl, ?_⟩⟩
    have t0 : -3 ≤ (i - 3) := by omega
    have t1 : (i - 3) ≤ 3 := by omega
    have c2 : CMul 2 (i - 3) := .inl ⟨by decide, by decide⟩
    have c3 : CMul 3 (i - 3) := .inl ⟨by decide, by decide⟩
    have c6 : CMul 6 (i - 3) := .inl ⟨by decide, by decide⟩
    refine ⟨_, rfl, _, rfl, _, rfl, _, rfl, _, _, rfl, rfl, c2, _, _, rfl, rfl, by show 2 ≤ sizeLine; decide, fun p1 n1 => ?_⟩
    refine ⟨_, rfl, _, _, rfl, rfl, c3, _, _, rfl, rfl, by show 2 ≤ sizeLine; decide, fun p2 n2 => ?_⟩
    refine ⟨_, rfl, _, _, rfl, rfl, c6, _, _, rfl, rfl, by show 2 ≤ sizeLine; decide, fun p3 n3 => ?_⟩
    refine ⟨by show 7 ≤ sizeLine; decide, fun l nl => ?_⟩
    have s1 := same_up (o := .tup [V.int (2 * (i - 3) + 1), V.int 2]) n1
    have s2 := same_up (o := .tup [V.int (3 * (i - 3) + 1), V.int 3]) n2
    have s3 := same_up (o := .tup [V.int (6 * (i - 3) + 5), V.int 6]) n3
    have s4 := same_up (o := .lst [V.int 0, V.int 1, V.int (i - 3), V.int (i - 3), V.ref p1, V.ref p2, V.ref p3]) nl
    have h1 := (s2.trans (s3.trans s4)) _ _ (upd_same (H := H1) (a := p1) (o := .tup [V.int (2 * (i - 3) + 1), V.int 2]))
    have h2 := (s3.trans s4) _ _ (upd_same (H := upd H1 p1 (.tup [V.int (2 * (i - 3) + 1), V.int 2])) (a := p2) (o := .tup [V.int (3 * (i - 3) + 1), V.int 3]))
    have h3 := s4 _ _ (upd_same (H := upd (upd H1 p1 (.tup [V.int (2 * (i - 3) + 1), V.int 2])) p2 (.tup [V.int (3 * (i - 3) + 1), V.int 3])) (a := p3) (o := .tup [V.int (6 * (i - 3) + 5), V.int 6]))
    have ss := (s1.trans s2).trans (s3.trans s4)
    have penl := pen1.same ss
    refine ⟨d, l, k + 1, _, rfl, penl, by omega, upd_same, by show 0 < 7; decide, by show 7 < 1000; decide, fun x H2 hx bt2 pen2 => ?_⟩
    have b := bt1.trans ((But.same ss).trans bt2)
    have pen3 : PenAt H2 d (k + 2) := pen2.mono (by omega)
    have kt := But.keepT bt2 penl
    simp only [List.mem_cons, List.not_mem_nil, or_false] at hx
    rcases hx with rfl | rfl | rfl | rfl | rfl | rfl | rfl
    · exact q _ _ H2 (numQ_int H2 0) (top_int (by decide)) b pen3
    · exact q _ _ H2 (numQ_int H2 1) (top_int (by decide)) b pen3
    · exact q _ _ H2 (numQ_int H2 (i - 3)) (top_int (by omega)) b pen3
    · exact q _ _ H2 (numQ_int H2 (i - 3)) (top_int (by omega)) b pen3
    · exact q _ ⟨2 * (i - 3) + 1, 2, by decide, half_co t0 t1⟩ H2 (.inr ⟨by show 2 ≠ 1; decide, p1, rfl, kt _ _ h1⟩) ⟨by show 2 ∣ 6; decide, by show (2 * (i - 3) + 1).natAbs * (6 / 2) ≤ 24; omega⟩ b pen3
    · exact q _ ⟨3 * (i - 3) + 1, 3, by decide, third_co t0 t1⟩ H2 (.inr ⟨by show 3 ≠ 1; decide, p2, rfl, kt _ _ h2⟩) ⟨by show 3 ∣ 6; decide, by show (3 * (i - 3) + 1).natAbs * (6 / 3) ≤ 24; omega⟩ b pen3
    · exact q _ ⟨6 * (i - 3) + 5, 6, by decide, sixth_co t0 t1⟩ H2 (.inr ⟨by show 6 ≠ 1; decide, p3, rfl, kt _ _ h3⟩) ⟨by show 6 ∣ 6; decide, by show (6 * (i - 3) + 5).natAbs * (6 / 6) ≤ 24; omega⟩ b pen3
end
/-! ### rows and tables drawn -/
/-- a text that draws one number -/
def DrawsQ (te : TE) (d : Addr) (t B : Nat) : Prop := ∀ (σ : L2.St) (H : Hp) (k : Int) (R : VK), σ[0]? = some (some (.ref d)) → PenAt H d k → k < 1000000000 →
  (∀ (x : V) (q : Rat) (H' : Hp), NumQ H' x q → Top t B q → But d H H' → PenAt H' d (k + 2) → R x H') → te σ H R
theorem NumsQ.snoc {H : Hp} {xs : List V} {qs : List Rat} {x : V} {q : Rat} (h : NumsQ H xs qs) (n : NumQ H x q) : NumsQ H (xs ++ [x]) (qs ++ [q]) := h.app ⟨rfl, fun i y r e1 e2 => by
  cases i with
  | zero =>
    cases e1
    cases e2
    exact n
  | succ i => simp at e1⟩
theorem paired_snoc {α β : Type} {R : α → β → Prop} : ∀ {xs : List α} {ys : List β} {x : α} {y : β}, Paired R xs ys → R x y → Paired R (xs ++ [x]) (ys ++ [y])
  | _, _, _, _, .nil, h => .cons h .nil
  | _, _, _, _, .cons g t, h => .cons g (paired_snoc t h)
theorem mem_snoc {α : Type} {P : α → Prop} {xs : List α} {x : α} (h : ∀ y ∈ xs, P y) (hx : P x) : ∀ y ∈ xs ++ [x], P y := fun y hy => by
  rcases List.mem_append.mp hy with h' | h'
  · exact h y h'
  · rw [List.mem_singleton.mp h']
    exact hx
theorem lc_numF {te : TE} {t B : Nat} {σ : L2.St} {Hb : Hp} {D d c : Addr} {Qd : Hp → Prop} {n j : Nat} {k : Int} (dr : DrawsQ te d t B) (pc : PenC Hb d c k) (k9 : k < 900000000) (nD : Hb D = none) (few : n ≤ 1000)
    (h0 : ∀ x : V, ((wipe σ [j]).set j (some x))[0]? = some (some (.ref d)))
    (hd : ∀ H xs qs, NumsQ H xs qs → qs.length = n → (∀ q ∈ qs, Top t B q) → But d Hb H → PenC H d c (k + 2 * (n : Int)) → H D = some (.lst xs) → Qd H) (hw : ∀ x : V, wipe ((wipe σ [j]).set j (some x)) [j] = wipe σ [j] := by intro _; rfl) :
    ∃ W : Nat → Nat → Hp → Prop, (∃ m, W 0 m (upd Hb D (.lst []))) ∧ ∀ i m H, W i m H →
      ((Itr 0 n).stop i H ∧ Qd H) ∨ ((Itr 0 n).go i H ∧ ∃ Nx : Hp → Prop, (∀ H', Nx H' → ∃ m', m' < m ∧ W (i + 1) m' H') ∧ ∀ x H', (Itr 0 n).yld i H x H' → gName j x (wipe σ [j]) H' fun σ2 H2 => wipe σ2 [j] = wipe σ [j] ∧ tYes σ2 H2 fun b H3 =>
        if b = true then te σ2 H3 fun y H4 => ∃ acc, H4 D = some (.lst acc) ∧ acc.length < sizeLine ∧ Nx (upd H4 D (.lst (acc ++ [y]))) else Nx H3) := by
  obtain ⟨cells, b0, l0, hd0, hc0, _⟩ := id pc.ex
  have dD : d ≠ D := ne_of_none hd0 nD
  have cD : c ≠ D := ne_of_none hc0 nD
  refine lc_it (wk_range (n := n)) (fun i H' => ∃ (xs : List V) (qs : List Rat), NumsQ H' xs qs ∧ qs.length = i ∧ (∀ q ∈ qs, Top t B q) ∧ H' D = some (.lst xs) ∧ But d Hb H' ∧ PenC H' d c (k + 2 * (i : Int))) ?_ (fun _ _ _ _ => trivial) ?_ ?_
  · have s1 := same_up (o := .lst []) nD
    exact ⟨[], [], ⟨rfl, fun i x q h => by simp at h⟩, rfl, (fun _ h => by cases h), upd_same, But.same s1, (pc.same s1).mono (by omega)⟩
  · rintro i x H2 H2' hi ⟨xs, qs, nq, ql, qt, hD, bt, pn⟩ ⟨rfl, rfl⟩
    refine ⟨hw _, ?_⟩
    unfold tYes
    dsimp only
    rw [if_pos rfl]
    refine dr _ _ _ _ (h0 _) pn.at_ (by omega) fun y q H3 ny tq bt3 pen3 => ?_
    have hD3 := bt3.keeps hD (Ne.symm dD)
    have kt := But.keepT bt3 pn.at_
    have ku : KeepT H3 (upd H3 D (.lst (xs ++ [y]))) := SameX.keep sameX_upd hD3 fun _ z => by cases z
    refine ⟨_, hD3, ?_, xs ++ [y], qs ++ [q], ((nq.keep kt).keep ku).snoc (NumQ.keep ny ku), ?_, mem_snoc qt tq, ?_, ?_, ?_⟩
    · rw [nq.1, ql, sizeLine_eq]
      omega
    · rw [List.length_append, ql]
      rfl
    · rw [upd_same]
    · exact (bt.trans bt3).up nD dD
    · exact ((pn.on bt3 pen3).up dD cD).mono (by omega)
  · rintro H2 ⟨xs, qs, nq, ql, qt, hD, bt, pn⟩
    exact hd H2 xs qs nq ql qt bt pn hD
/-- a list of lists, new since H0 -/
def TabG (H0 H : Hp) (t : Addr) (rows : List (List V)) : Prop := ∃ ts : List Addr, Fr H0 H t (.lst (ts.map V.ref)) ∧ ts.length = rows.length ∧ ∀ i d, ts[i]? = some d → Fr H0 H d (.lst (rows.getD i []))
theorem TabG.toV {H0 H : Hp} {t : Addr} {rows : List (List V)} (h : TabG H0 H t rows) : TabV H t rows := by
  obtain ⟨ts, h1, h2, h3⟩ := h
  exact ⟨ts, h1.2, h2, fun i d e => (h3 i d e).2⟩
theorem TabG.same {H0 H H' : Hp} {t : Addr} {rows : List (List V)} (h : TabG H0 H t rows) (s : Same H H') : TabG H0 H' t rows := by
  obtain ⟨ts, h1, h2, h3⟩ := h
  exact ⟨ts, h1.same s, h2, fun i d e => (h3 i d e).same s⟩
theorem TabG.off {D : Addr} {H0 H H' : Hp} {t : Addr} {rows : List (List V)} (h : TabG H0 H t rows) (n : H0 D ≠ none) (s : SameX D H H') : TabG H0 H' t rows := by
  obtain ⟨ts, h1, h2, h3⟩ := h
  exact ⟨ts, h1.off n s, h2, fun i d e => (h3 i d e).off n s⟩
theorem TabG.from {H0 H1 H : Hp} {t : Addr} {rows : List (List V)} (h : TabG H1 H t rows) (n : ∀ b, H1 b = none → H0 b = none) : TabG H0 H t rows := by
  obtain ⟨ts, h1, h2, h3⟩ := h
  exact ⟨ts, ⟨n _ h1.1, h1.2⟩, h2, fun i d e => ⟨n _ (h3 i d e).1, (h3 i d e).2⟩⟩
theorem But.xx {d : Addr} {H H' : Hp} (b : But d H H') : SameX d H H' := fun c u n e => b.1 c u e n
theorem But.back2 {d c : Addr} {k : Int} {H H' : Hp} (b : But d H H') (p : PenC H d c k) : ∀ a, H' a = none → H a = none := fun a ha => by
  cases e : H a with
  | none => rfl
  | some u =>
    obtain ⟨cells, b0, l0, hd0, _⟩ := p.ex
    by_cases z : a = d
    · obtain ⟨b', l', h'⟩ := b.2 _ _ _ hd0
      rw [z, h'] at ha
      cases ha
    · rw [b.1 a u e z] at ha
      cases ha
theorem getD_app {α : Type} {xs : List α} {y d : α} {i n : Nat} (l : xs.length = n) : (xs ++ [y]).getD i d = if i = n then y else xs.getD i d := by
  subst l
  rw [List.getD_eq_getElem?_getD, List.getD_eq_getElem?_getD]
  by_cases h : i = xs.length
  · subst h
    rw [if_pos rfl, List.getElem?_append_right (Nat.le_refl _), Nat.sub_self]
    rfl
  · rw [if_neg h]
    by_cases h2 : i < xs.length
    · rw [List.getElem?_append_left h2]
    · rw [List.getElem?_eq_none (by simp; omega), List.getElem?_eq_none (by omega)]
/-- one row drawn -/
def teRowF (te : TE) : TE := tLc (iRng1 (tCons (tVar 2) tNil)) (gName 5) tYes te [5]
theorem lc_rowsF {te : TE} {t B : Nat} {Hb : Hp} {D d c : Addr} {Qd : Hp → Prop} {n : Nat} {k : Int} (dr : DrawsQ te d t B) (pc : PenC Hb d c k) (k9 : k < 100000000) (nD : Hb D = none) (few : n ≤ 24) {v1 v3 v4 v5 v6 : Option V} {σ rest : L2.St} (eσ : σ = some (.ref d) :: v1 :: some (.int n) :: v3 :: v4 :: v5 :: v6 :: rest)
    (hd : ∀ H rows qr, Paired (NumsQ H) rows qr → SqQ n qr → (∀ r ∈ qr, ∀ q ∈ r, Top t B q) → But d Hb H → PenC H d c (k + 50 * (n : Int)) → TabG Hb H D rows → Qd H) :
    ∃ W : Nat → Nat → Hp → Prop, (∃ m, W 0 m (upd Hb D (.lst []))) ∧ ∀ i m H, W i m H →
      ((Itr 0 n).stop i H ∧ Qd H) ∨ ((Itr 0 n).go i H ∧ ∃ Nx : Hp → Prop, (∀ H', Nx H' → ∃ m', m' < m ∧ W (i + 1) m' H') ∧ ∀ x H', (Itr 0 n).yld i H x H' → gName 6 x (wipe σ [6]) H' fun σ2 H2 => wipe σ2 [6] = wipe σ [6] ∧ tYes σ2 H2 fun b H3 =>
        if b = true then teRowF te σ2 H3 fun y H4 => ∃ acc, H4 D = some (.lst acc) ∧ acc.length < sizeLine ∧ Nx (upd H4 D (.lst (acc ++ [y]))) else Nx H3) := by
  subst eσ
  obtain ⟨cells, b0, l0, hd0, hc0, _⟩ := id pc.ex
  have dD : d ≠ D := ne_of_none hd0 nD
  have cD : c ≠ D := ne_of_none hc0 nD
  refine lc_it (wk_range (n := n)) (fun i H' => ∃ (ts : List Addr) (rows : List (List V)) (qr : List (List Rat)), ts.length = i ∧ rows.length = i ∧ Paired (NumsQ H') rows qr ∧ (∀ r ∈ qr, r.length = n) ∧ (∀ r ∈ qr, ∀ q ∈ r, Top t B q) ∧ H' D = some (.lst (ts.map V.ref)) ∧ But d Hb H' ∧ PenC H' d c (k + 50 * (i : Int)) ∧
    ∀ i t, ts[i]? = some t → t ≠ D ∧ Fr Hb H' t (.lst (rows.getD i []))) ?_ (fun _ _ _ _ => trivial) ?_ ?_
  · have s1 := same_up (o := .lst []) nD
    exact ⟨[], [], [], rfl, rfl, .nil, (fun _ h => by cases h), (fun _ h => by cases h), upd_same, But.same s1, (pc.same s1).mono (by omega), fun i t h => by simp at h⟩
  · rintro i x H2 H2' hi ⟨ts, rows, qr, tl, rl, pr, r1, r2, hD, bt, pn, hts⟩ ⟨rfl, rfl⟩
    refine ⟨rfl, ?_⟩
    unfold tYes
    dsimp only
    rw [if_pos rfl]
    refine ⟨_, rfl, _, rfl, by omega, by omega, fun D2 nD2 => ?_⟩
    rw [Int.toNat_natCast]
    refine lc_numF (n := n) (j := 5) dr pn (by omega) nD2 (by omega) (fun _ => rfl) fun H3 xs qs nq ql qt bt3 pn3 h3 => ?_
    have hD3 := bt3.keeps hD (Ne.symm dD)
    have D2D : D2 ≠ D := (ne_of_none hD nD2).symm
    have kt := But.keepT bt3 pn.at_
    have ku : KeepT H3 (upd H3 D (.lst (ts.map V.ref ++ [V.ref D2]))) := SameX.keep sameX_upd hD3 fun _ z => by cases z
    refine ⟨_, hD3, ?_, ts ++ [D2], rows ++ [xs], qr ++ [qs], ?_, ?_, ?_, mem_snoc r1 ql, mem_snoc r2 qt, ?_, ?_, ?_, fun i t ht => ?_⟩
    · rw [List.length_map, tl, sizeLine_eq]
      omega
    · rw [List.length_append, tl]
      rfl
    · rw [List.length_append, rl]
      rfl
    · exact paired_snoc (paired_mono (fun _ _ g => (g.keep kt).keep ku) pr) (nq.keep ku)
    · rw [upd_same]
      simp
    · exact (bt.trans bt3).up nD dD
    · exact (pn3.up dD cD).mono (by omega)
    · rw [getD_app rl]
      by_cases h : i < ts.length
      · rw [List.getElem?_append_left h] at ht
        obtain ⟨n1, h1⟩ := hts i t ht
        rw [if_neg (by omega)]
        exact ⟨n1, h1.1, by rw [upd_ne n1]; exact bt3.keeps h1.2 (pen_ne pn.at_ h1.2)⟩
      · have h2 : i = ts.length := by
          have := (List.getElem?_eq_some_iff.mp ht).1
          rw [List.length_append] at this
          simp at this
          omega
        subst h2
        rw [List.getElem?_append_right (Nat.le_refl _), Nat.sub_self] at ht
        cases ht
        rw [if_pos tl]
        refine ⟨D2D, But.back2 bt pc _ nD2, ?_⟩
        rw [upd_ne D2D]
        exact h3
  · rintro H2 ⟨ts, rows, qr, tl, rl, pr, r1, r2, hD, bt, pn, hts⟩
    exact hd H2 rows qr pr ⟨by rw [← paired_len pr, rl], r1⟩ r2 bt pn ⟨ts, ⟨nD, hD⟩, by omega, fun i t e => (hts i t e).2⟩
end K19.F

namespace K19.F
open PySem PySem.Spec PyProof.Rows L2 Ver Num SX
/-! ### drawn parts -/
theorem dAt_pen {cs : List Nat} {f : Nat → Addr} {c : Addr} {b l : Int} : dAt cs f ≠ penL c b l := fun e => by
  cases cs with
  | nil => cases e
  | cons x cs =>
    have h1 := congrArg Prod.fst (List.cons.inj e).1
    have h2 : S [x] = ("cells" : Str) := Sum.inr.inj h1
    have h3 : 1 = ("cells" : Str).length := by
      rw [← h2, S_len]
      rfl
    exact absurd h3 (by decide +kernel)
theorem dAt_ne {H : Hp} {d t : Addr} {k : Int} {cs : List Nat} {f : Nat → Addr} (p : PenAt H d k) (h : H t = some (.dK (dAt cs f))) : t ≠ d := fun z => by
  obtain ⟨c, cells, b, l, e, _⟩ := p.ex
  rw [z, e] at h
  exact dAt_pen (HO.dK.inj (Option.some.inj h)).symm
theorem ins_ne {H : Hp} {d t C dx : Addr} {k : Int} {fs : List (Str × V)} (p : PenAt H d k) (h : H t = some (.ins C dx fs)) : t ≠ d := fun z => by
  obtain ⟨c, cells, b, l, e, _⟩ := p.ex
  rw [z, e] at h
  cases h
theorem TabV.but {H H' : Hp} {d t : Addr} {k : Int} {rows : List (List V)} (pen : PenAt H d k) (h : TabV H t rows) (b : But d H H') : TabV H' t rows := by
  obtain ⟨ts, h1, h2, h3⟩ := h
  exact ⟨ts, b.keeps h1 (pen_ne pen h1), h2, fun i u e => b.keeps (h3 i u e) (pen_ne pen (h3 i u e))⟩
theorem PartsV.but {H H' : Hp} {d a T b : Addr} {k : Int} {M : MacQ} (h : PartsV H a T b M) (pen : PenAt H d k) (bt : But d H H') : PartsV H' a T b M := by
  obtain ⟨ta, h1, h2⟩ := h.d
  exact ⟨bt.keeps h.a (pen_ne pen h.a), bt.keeps h.b (pen_ne pen h.b), ⟨ta, bt.keeps h1 (dAt_ne pen h1), fun x hx => (h2 x hx).but pen bt⟩, h.n.keep (But.keepT bt pen)⟩
theorem StepD.but {H H' : Hp} {d s : Addr} {k : Int} {L : Int} {cols : List (List Int)} (h : StepD H s L cols) (pen : PenAt H d k) (bt : But d H H') : StepD H' s L cols := by
  obtain ⟨c, ds, h1, h2, h3, h4⟩ := h
  exact ⟨c, ds, bt.keeps h1 (penL_tup pen h1), bt.keeps h2 (pen_ne pen h2), h3, fun i u e => bt.keeps (h4 i u e) (pen_ne pen (h4 i u e))⟩
theorem MachF.but {K : PySem.W.Frag} {H H' : Hp} {d m : Addr} {k : Int} {M : MacQ} (h : MachF K H m M) (pen : PenAt H d k) (bt : But d H H') : MachF K H' m M := by
  obtain ⟨dx, f, a, b, dt, ds, sa, e, F, ha, hb, hd, hs⟩ := h.ex
  refine ⟨⟨dx, f, a, b, dt, ds, sa, bt.keeps e (ins_ne pen e), F.but pen bt, bt.keeps ha (penL_tup pen ha), bt.keeps hb (penL_tup pen hb), bt.keeps hd (dAt_ne pen hd), fun c hc => ?_⟩, h.n.keep (But.keepT bt pen), h.ok⟩
  obtain ⟨L, bo, g⟩ := hs c hc
  exact ⟨L, bo, g.but pen bt⟩
/-- the drawn parts of a machine -/
def PlainF (H : Hp) (t : Addr) (M : MacQ) : Prop := ∃ a T b : Addr, H t = some (.tup [.ref a, .ref T, .ref b]) ∧ PartsV H a T b M
theorem PlainF.same {H H' : Hp} {t : Addr} {M : MacQ} (h : PlainF H t M) (s : Same H H') : PlainF H' t M := by
  obtain ⟨a, T, b, h1, h2⟩ := h
  exact ⟨a, T, b, s _ _ h1, h2.same s⟩
theorem PlainF.but {H H' : Hp} {d t : Addr} {k : Int} {M : MacQ} (h : PlainF H t M) (pen : PenAt H d k) (bt : But d H H') : PlainF H' t M := by
  obtain ⟨a, T, b, h1, h2⟩ := h
  exact ⟨a, T, b, bt.keeps h1 (penL_tup pen h1), h2.but pen bt⟩
theorem dAt_take {cs : List Nat} (nd : cs.Nodup) {j c : Nat} (h : cs[j]? = some c) {f : Nat → Addr} {t : Addr} : putK (dAt (cs.take j) f) (.inr (S [c])) (.ref t) = dAt (cs.take (j + 1)) (fun x => if x = c then t else f x) := by
  have hn : c ∉ cs.take j := fun z => by
    obtain ⟨i, hi⟩ := List.mem_iff_getElem?.mp z
    have h1 := (List.getElem?_eq_some_iff.mp hi).1
    rw [List.length_take] at h1
    rw [List.getElem?_take, if_pos (by omega)] at hi
    have e1 := (List.getElem?_eq_some_iff.mp hi)
    have e2 := (List.getElem?_eq_some_iff.mp h)
    have := (List.getElem_inj (h₀ := e1.1) (h₁ := e2.1) nd).mp (by rw [e1.2, e2.2])
    omega
  rw [putK_new, Ver.take_next h]
  · unfold dAt
    rw [List.map_append]
    have e : (cs.take j).map (fun x => ((.inr (S [x]) : Key), V.ref (f x))) = (cs.take j).map fun x => ((.inr (S [x]) : Key), V.ref (if x = c then t else f x)) := List.map_congr_left fun x hx => by
      have hne : x ≠ c := fun z => hn (z ▸ hx)
      rw [if_neg hne]
    rw [e]
    simp
  · refine valV_no fun z => ?_
    unfold dAt at z
    rw [List.map_map] at z
    obtain ⟨x, hx, e⟩ := List.mem_map.mp z
    have : x = c := (List.cons.inj (S_inj (Sum.inr.inj e))).1
    exact hn (this ▸ hx)
theorem big_of {t n w X j : Nat} (hn : n * t ≤ X) (x0 : 0 < X) (h : t * X ^ w ≤ 2 ^ 62) (hj : j ≤ w) : t * (n * t) ^ j ≤ 2 ^ 62 :=
  Nat.le_trans (Nat.mul_le_mul_left _ (Nat.le_trans (Nat.pow_le_pow_left hn j) (Nat.pow_le_pow_right x0 hj))) h
theorem bot_of {B w j : Nat} (b0 : 0 < B) (h : B * B ^ w ≤ 2 ^ 62) (hj : j ≤ w) : B * B ^ j ≤ 2 ^ 62 :=
  Nat.le_trans (Nat.mul_le_mul_left _ (Nat.pow_le_pow_right b0 hj)) h
def teSF : TE := fun σ H Q => tCons (tVar 0) tNil σ H fun vs H1 => spSF vs H1 Q E0
def teW : TE := tOp (rI0 fun i j => .int (i - j)) (fun σ H Q => tCons (tVar 0) (tCons (tC (V.int 7)) tNil) σ H fun vs H1 => spDraw vs H1 Q E0) (tC (V.int 3))
theorem draws_sf (d : Addr) : DrawsQ teSF d 24 6 := fun σ H k R h0 pen k9 r => ⟨_, h0, d, k, rfl, pen, k9, r⟩
theorem draws_w (d : Addr) : DrawsQ teW d 3 1 := fun σ H k R h0 pen k9 r => by
  refine ⟨_, h0, d, k, 7, rfl, pen, by omega, by omega, by omega, fun i H1 bt1 pen1 i0 i1 => ⟨_, _, rfl, rfl, ?_⟩⟩
  exact r _ _ H1 (numQ_int H1 (i - 3)) (top_int (by omega)) bt1 (pen1.mono (by omega))
def plScope : Scope := { kind := .function, names := [((".0" : Str), .local), ("_law_i", .local), ("range", .globalImplicit), ("_law_pen_here", .cell), ("_law_size", .cell)], isGenerator := false, isCoroutine := false }
section
variable {P : Program} {w : World} {K : PySem.W.Frag} {mg : Str → Option Value} {base : Heap}

def sp_plainF : Sp := fun vs H Q _ => ∃ (d : Addr) (k : Int) (cs : List Nat) (n : Nat), vs = [.ref d, .str (S cs), .int n] ∧ PenAt H d k ∧ k < 10000000 ∧ CsOk cs ∧ n ≤ 3 ∧
  ∀ (t : Addr) (M : MacQ) (H' : Hp), M.cs = cs → M.st.length = n → M.B = 6 → M.t = 24 → M.w = 6 → MOkQ M → PlainF H' t M → But d H H' → PenAt H' d (k + 1000) → Q (.ref t) H'
theorem ok_plainF (T : Tx K mg) : FnG P w K mg base CX0 4 (He.ga K "_law_plain_fractions") sp_plainF := by
  refine mk__law_plain_fractions T.d (fun vs H Q E h => ?_) (fun cdv A outer s H vs Q E hg hr h => ?_)
  · obtain ⟨d, k, cs, n, rfl, _⟩ := h
    rfl
  · obtain ⟨d, k, cs, n, rfl, pen, k9, co, n3, q⟩ := h
    have nd := sc__law_plain_fractions.nd
    have hu : (A.deeper (envOfC "_law_plain_fractions" (defScope s__law_plain_fractions) s.heap.objs.size (He.ga K "_law_plain_fractions") cdv)).units + 1 < cLine := by have := hr.units; omega
    have zr := T.z "range" (by decide +kernel)
    refine ⟨_, pss_cons (ps_set (i := 3) nd rfl (Or.inl rfl) pe_dnewK)
      (pss_cons (ps_for PassesOwn.never rfl (pi_str (pv 1)) (pg_name (i := 4) nd rfl (.inl rfl))
        (pss_one (ps_dput hu (pv 3) (pv 4)
          (pe_lc (own := [("_law_i", 6)]) (g := gName 6) (tt := tYes) (te := teRowF teSF) rfl nd (pi_range1 (by rfl) zr (pa_cons (pv 2) pa_nil)) (blkOk_by (N := n__law_plain_fractions) (sc := defScope s__law_plain_fractions) (by decide +kernel)) (fun _ _ _ _ _ => pg_name (i := 6) nd rfl (Or.inl rfl)) (fun _ _ _ _ _ => pts_nil)
            (fun _ _ _ _ _ => pe_lc (own := [("_law_j", 5)]) (g := gName 5) (tt := tYes) (te := teSF) (wi := iRng1 (tCons (tVar 2) tNil)) rfl nd (pi_range1 (by rfl) zr (pa_cons (pv 2) pa_nil)) (blkOk_by (N := n__law_plain_fractions) (sc := plScope) (by decide +kernel)) (fun _ _ _ _ _ => pg_name (i := 5) nd rfl (Or.inl rfl)) (fun _ _ _ _ _ => pts_nil)
              (fun _ _ _ _ _ => pe_callG (ok_small T) hr hg (by rfl) (T.g "_law_small_fraction" (by decide +kernel)) (kp__law_small_fraction T.d) pass0 (pa_cons (pv 0) pa_nil)))) rfl)))
      (pss_cons (ps_par (i := 7) (j := 8) rfl nd rfl rfl (by decide) rfl rfl (pa_cons
        (pe_lc (own := [("_law_i", 6)]) (g := gName 6) (tt := tYes) (te := teSF) rfl nd (pi_range1 (by rfl) zr (pa_cons (pv 2) pa_nil)) (blkOk_by (N := n__law_plain_fractions) (sc := defScope s__law_plain_fractions) (by decide +kernel)) (fun _ _ _ _ _ => pg_name (i := 6) nd rfl (Or.inl rfl)) (fun _ _ _ _ _ => pts_nil)
              (fun _ _ _ _ _ => pe_callG (ok_small T) hr hg (by rfl) (T.g "_law_small_fraction" (by decide +kernel)) (kp__law_small_fraction T.d) pass0 (pa_cons (pv 0) pa_nil)))
        (pa_cons
        (pe_lc (own := [("_law_i", 6)]) (g := gName 6) (tt := tYes) (te := teSF) rfl nd (pi_range1 (by rfl) zr (pa_cons (pv 2) pa_nil)) (blkOk_by (N := n__law_plain_fractions) (sc := defScope s__law_plain_fractions) (by decide +kernel)) (fun _ _ _ _ _ => pg_name (i := 6) nd rfl (Or.inl rfl)) (fun _ _ _ _ _ => pts_nil)
              (fun _ _ _ _ _ => pe_callG (ok_small T) hr hg (by rfl) (T.g "_law_small_fraction" (by decide +kernel)) (kp__law_small_fraction T.d) pass0 (pa_cons (pv 0) pa_nil))) pa_nil)) rfl)
      (pss_one (ps_ret (pe_tup (pa_cons (pv 7) (pa_cons (pv 3) (pa_cons (pv 8) pa_nil)))))))), ?_⟩
    have dr := draws_sf d
    have c4 := co.few
    have ndc := asc_nodup co.asc
    obtain ⟨c, pc⟩ := pen.c
    refine fun tb ntb => ?_
    have s0 := same_up (o := .dK []) ntb
    obtain ⟨cells, b0, l0, hd0, hc0, _⟩ := id pc.ex
    have dT : d ≠ tb := ne_of_none hd0 ntb
    have dn : H d ≠ none := by
      rw [hd0]
      intro z
      cases z
    have cT : c ≠ tb := ne_of_none hc0 ntb
    have asz : (S cs).cps.size = cs.length := by simp
    refine ⟨_, rfl, S cs, rfl, for_it wk_str (fun j σ H' => ∃ (f : Nat → Addr) (vt : Nat → List (List V)) (tbl : Nat → List (List Rat)) (v4 : Option V), σ = [some (.ref d), some (.str (S cs)), some (.int n), some (.ref tb), v4, none, none, none, none] ∧ H' tb = some (.dK (dAt (cs.take j) f)) ∧ But d H H' ∧ PenC H' d c (k + 200 * (j : Int)) ∧
      ∀ x ∈ cs.take j, TabV H' (f x) (vt x) ∧ Paired (NumsQ H') (vt x) (tbl x) ∧ SqQ n (tbl x) ∧ ∀ r ∈ tbl x, ∀ q ∈ r, Top 24 6 q) ⟨fun _ => 0, fun _ => [], fun _ => [], none, rfl, upd_same, But.same s0, (pc.same s0).mono (by omega), fun x hx => by cases hx⟩ (fun _ _ _ _ _ => trivial) ?_ ?_⟩
    · rintro j x σ H1 H2 hj ⟨f, vt, tbl, v4, rfl, hT, bt, pn, hx0⟩ ⟨rfl, ch, hc, rfl⟩
      rw [asz] at hj
      rw [← Array.getElem?_toList, chars_S] at hc
      refine ⟨_, rfl, (n : Int), rfl, by omega, by omega, fun D nD => ?_⟩
      rw [Int.toNat_natCast]
      refine lc_rowsF (rest := [none, none]) dr pn (by omega) nD (by omega) rfl fun H3 rows qr pr sq ir bt3 pn3 hD => ?_
      have hT3 := bt3.keeps hT dT.symm
      have kt := But.keepT bt3 pn.at_
      refine ⟨_, rfl, _, rfl, tb, _, rfl, DPut.k (k := Sum.inr (S [ch])) hT3 (by show (dAt _ _).length < _; unfold dAt; rw [List.length_map, List.length_take, sizeLine_eq]; omega), ?_⟩
      have ku : ∀ {o : HO}, KeepT H3 (upd H3 tb o) := fun {o} => SameX.keep sameX_upd hT3 fun _ z => by cases z
      have tD : ∀ {t : Addr} {ys : List V}, H3 t = some (.lst ys) → t ≠ tb := fun e z => by
        rw [z, hT3] at e
        cases e
      have upT : ∀ {t : Addr} {rows : List (List V)} {o : HO}, TabV H3 t rows → TabV (upd H3 tb o) t rows := fun h => by
        obtain ⟨ts, h1, h2, h3⟩ := h
        exact ⟨ts, by rw [upd_ne (tD h1)]; exact h1, h2, fun i u e => by rw [upd_ne (tD (h3 i u e))]; exact h3 i u e⟩
      refine ⟨fun x => if x = ch then D else f x, fun x => if x = ch then rows else vt x, fun x => if x = ch then qr else tbl x, _, rfl, ?_, ?_, ?_, fun x hx => ?_⟩
      · rw [upd_same, dAt_take ndc hc]
      · exact (bt.trans bt3).up ntb dT
      · exact (pn3.up dT cT).mono (by omega)
      · show TabV _ (if x = ch then D else f x) (if x = ch then rows else vt x) ∧ Paired (NumsQ _) (if x = ch then rows else vt x) (if x = ch then qr else tbl x) ∧ SqQ n (if x = ch then qr else tbl x) ∧ ∀ r ∈ (if x = ch then qr else tbl x), ∀ q ∈ r, Top 24 6 q
        by_cases e : x = ch
        · rw [if_pos e, if_pos e, if_pos e]
          exact ⟨upT hD.toV, paired_mono (fun _ _ g => g.keep ku) pr, sq, ir⟩
        · rw [if_neg e, if_neg e, if_neg e]
          rw [Ver.take_next hc] at hx
          have hx2 : x ∈ cs.take j := by
            rcases List.mem_append.mp hx with h | h
            · exact h
            · exact absurd (by simpa using h) e
          obtain ⟨h1, h2, h3, h4⟩ := hx0 x hx2
          exact ⟨upT (h1.but pn.at_ bt3), paired_mono (fun _ _ g => (g.keep kt).keep ku) h2, h3, h4⟩
    · rintro σ H1 ⟨f, vt, tbl, v4, rfl, hT, bt, pn, hx0⟩
      rw [asz, List.take_length] at hT hx0
      rw [asz] at pn
      refine ⟨_, rfl, (n : Int), rfl, by omega, by omega, fun D nD => ?_⟩
      rw [Int.toNat_natCast]
      refine lc_numF (n := n) (j := 6) dr pn (by omega) nD (by omega) (fun _ => rfl) fun H3 xs qs nq ql qt bt3 pn3 h3 => ?_
      have hT3 := bt3.keeps hT dT.symm
      have kt3 := But.keepT bt3 pn.at_
      refine ⟨_, rfl, (n : Int), rfl, by omega, by omega, fun D2 nD2 => ?_⟩
      rw [Int.toNat_natCast]
      refine lc_numF (n := n) (j := 6) dr pn3 (by omega) nD2 (by omega) (fun _ => rfl) fun H4 ys ps nq2 pl pt bt4 pn4 h4 => ?_
      have kt4 := But.keepT bt4 pn3.at_
      refine ⟨_, _, rfl, _, rfl, _, rfl, _, rfl, by show 3 ≤ sizeLine; decide, fun t nt => ?_⟩
      have st := same_up (o := .tup [V.ref D, V.ref tb, V.ref D2]) nt
      refine q t ⟨6, 24, 6, cs, qs, tbl, ps, xs, vt, ys⟩ _ rfl ql rfl rfl rfl ⟨by show 0 < 6; decide, by show 6 ≤ 1000; decide, by show 24 ≤ 1000; decide, co, by show qs.length ≤ 24; omega, by show ps.length = qs.length; omega, qt, pt, fun x hx => ?_, fun x hx => (hx0 x hx).2.2.2, fun j hj => ?_, fun j hj => ?_⟩
        ⟨D, tb, D2, upd_same, ⟨st _ _ (bt4.keeps h3 (pen_ne pn3.at_ h3)), st _ _ h4, ⟨f, st _ _ (bt4.keeps hT3 dT.symm), fun x hx => (((hx0 x hx).1.but pn.at_ bt3).but pn3.at_ bt4).same st⟩,
          ⟨(nq.keep kt4).same st, nq2.same st, fun x hx => paired_mono (fun _ _ g => (((NumsQ.keep g kt3).keep kt4).same st)) (hx0 x hx).2.1⟩⟩⟩ (((bt.trans bt3).trans bt4).trans (But.same st)) ((pn4.same st).at_.mono (by omega))
      · show SqQ qs.length (tbl x)
        rw [ql]
        exact (hx0 x hx).2.2.1
      · show 24 * (qs.length * 24) ^ j ≤ 2 ^ 62
        exact big_of (X := 72) (w := 6) (by omega) (by decide) (by decide) hj
      · show 6 * 6 ^ j ≤ 2 ^ 62
        exact bot_of (w := 6) (by decide) (by decide) hj

def sp_whole : Sp := fun vs H Q _ => ∃ (d : Addr) (k : Int) (cs : List Nat) (n : Nat), vs = [.ref d, .str (S cs), .int n] ∧ PenAt H d k ∧ k < 10000000 ∧ CsOk cs ∧ n ≤ 3 ∧
  ∀ (t : Addr) (M : MacQ) (H' : Hp), M.cs = cs → M.st.length = n → M.B = 1 → M.t = 3 → M.w = 12 → MOkQ M → PlainF H' t M → But d H H' → PenAt H' d (k + 1000) → Q (.ref t) H'
theorem ok_whole (T : Tx K mg) : FnG P w K mg base CX0 2 (He.ga K "_law_whole") sp_whole := by
  refine mk__law_whole T.d (fun vs H Q E h => ?_) (fun cdv A outer s H vs Q E hg hr h => ?_)
  · obtain ⟨d, k, cs, n, rfl, _⟩ := h
    rfl
  · obtain ⟨d, k, cs, n, rfl, pen, k9, co, n3, q⟩ := h
    have nd := sc__law_whole.nd
    have hu : (A.deeper (envOfC "_law_whole" (defScope s__law_whole) s.heap.objs.size (He.ga K "_law_whole") cdv)).units + 1 < cLine := by have := hr.units; omega
    have zr := T.z "range" (by decide +kernel)
    refine ⟨_, pss_cons (ps_set (i := 3) nd rfl (Or.inl rfl) pe_dnewK)
      (pss_cons (ps_for PassesOwn.never rfl (pi_str (pv 1)) (pg_name (i := 4) nd rfl (.inl rfl))
        (pss_one (ps_dput hu (pv 3) (pv 4)
          (pe_lc (own := [("_law_i", 6)]) (g := gName 6) (tt := tYes) (te := teRowF teW) rfl nd (pi_range1 (by rfl) zr (pa_cons (pv 2) pa_nil)) (blkOk_by (N := n__law_whole) (sc := defScope s__law_whole) (by decide +kernel)) (fun _ _ _ _ _ => pg_name (i := 6) nd rfl (Or.inl rfl)) (fun _ _ _ _ _ => pts_nil)
            (fun _ _ _ _ _ => pe_lc (own := [("_law_j", 5)]) (g := gName 5) (tt := tYes) (te := teW) (wi := iRng1 (tCons (tVar 2) tNil)) rfl nd (pi_range1 (by rfl) zr (pa_cons (pv 2) pa_nil)) (blkOk_by (N := n__law_whole) (sc := plScope) (by decide +kernel)) (fun _ _ _ _ _ => pg_name (i := 5) nd rfl (Or.inl rfl)) (fun _ _ _ _ _ => pts_nil)
              (fun _ _ _ _ _ => pe_op op_sub (pe_callG (ok_draw T) hr hg (by rfl) (T.g "_law_draw" (by decide +kernel)) (kp__law_draw T.d) pass0 (pa_cons (pv 0) (pa_cons pe_int pa_nil))) pe_int))) rfl)))
      (pss_one (ps_ret (pe_tup (pa_cons
        (pe_lc (own := [("_law_i", 6)]) (g := gName 6) (tt := tYes) (te := teW) rfl nd (pi_range1 (by rfl) zr (pa_cons (pv 2) pa_nil)) (blkOk_by (N := n__law_whole) (sc := defScope s__law_whole) (by decide +kernel)) (fun _ _ _ _ _ => pg_name (i := 6) nd rfl (Or.inl rfl)) (fun _ _ _ _ _ => pts_nil)
              (fun _ _ _ _ _ => pe_op op_sub (pe_callG (ok_draw T) hr hg (by rfl) (T.g "_law_draw" (by decide +kernel)) (kp__law_draw T.d) pass0 (pa_cons (pv 0) (pa_cons pe_int pa_nil))) pe_int))
        (pa_cons (pv 3) (pa_cons
        (pe_lc (own := [("_law_i", 6)]) (g := gName 6) (tt := tYes) (te := teW) rfl nd (pi_range1 (by rfl) zr (pa_cons (pv 2) pa_nil)) (blkOk_by (N := n__law_whole) (sc := defScope s__law_whole) (by decide +kernel)) (fun _ _ _ _ _ => pg_name (i := 6) nd rfl (Or.inl rfl)) (fun _ _ _ _ _ => pts_nil)
              (fun _ _ _ _ _ => pe_op op_sub (pe_callG (ok_draw T) hr hg (by rfl) (T.g "_law_draw" (by decide +kernel)) (kp__law_draw T.d) pass0 (pa_cons (pv 0) (pa_cons pe_int pa_nil))) pe_int)) pa_nil))))))), ?_⟩
    have dr := draws_w d
    have c4 := co.few
    have ndc := asc_nodup co.asc
    obtain ⟨c, pc⟩ := pen.c
    refine fun tb ntb => ?_
    have s0 := same_up (o := .dK []) ntb
    obtain ⟨cells, b0, l0, hd0, hc0, _⟩ := id pc.ex
    have dT : d ≠ tb := ne_of_none hd0 ntb
    have dn : H d ≠ none := by
      rw [hd0]
      intro z
      cases z
    have cT : c ≠ tb := ne_of_none hc0 ntb
    have asz : (S cs).cps.size = cs.length := by simp
    refine ⟨_, rfl, S cs, rfl, for_it wk_str (fun j σ H' => ∃ (f : Nat → Addr) (vt : Nat → List (List V)) (tbl : Nat → List (List Rat)) (v4 : Option V), σ = [some (.ref d), some (.str (S cs)), some (.int n), some (.ref tb), v4, none, none] ∧ H' tb = some (.dK (dAt (cs.take j) f)) ∧ But d H H' ∧ PenC H' d c (k + 200 * (j : Int)) ∧
      ∀ x ∈ cs.take j, TabV H' (f x) (vt x) ∧ Paired (NumsQ H') (vt x) (tbl x) ∧ SqQ n (tbl x) ∧ ∀ r ∈ tbl x, ∀ q ∈ r, Top 3 1 q) ⟨fun _ => 0, fun _ => [], fun _ => [], none, rfl, upd_same, But.same s0, (pc.same s0).mono (by omega), fun x hx => by cases hx⟩ (fun _ _ _ _ _ => trivial) ?_ ?_⟩
    · rintro j x σ H1 H2 hj ⟨f, vt, tbl, v4, rfl, hT, bt, pn, hx0⟩ ⟨rfl, ch, hc, rfl⟩
      rw [asz] at hj
      rw [← Array.getElem?_toList, chars_S] at hc
      refine ⟨_, rfl, (n : Int), rfl, by omega, by omega, fun D nD => ?_⟩
      rw [Int.toNat_natCast]
      refine lc_rowsF (rest := []) dr pn (by omega) nD (by omega) rfl fun H3 rows qr pr sq ir bt3 pn3 hD => ?_
      have hT3 := bt3.keeps hT dT.symm
      have kt := But.keepT bt3 pn.at_
      refine ⟨_, rfl, _, rfl, tb, _, rfl, DPut.k (k := Sum.inr (S [ch])) hT3 (by show (dAt _ _).length < _; unfold dAt; rw [List.length_map, List.length_take, sizeLine_eq]; omega), ?_⟩
      have ku : ∀ {o : HO}, KeepT H3 (upd H3 tb o) := fun {o} => SameX.keep sameX_upd hT3 fun _ z => by cases z
      have tD : ∀ {t : Addr} {ys : List V}, H3 t = some (.lst ys) → t ≠ tb := fun e z => by
        rw [z, hT3] at e
        cases e
      have upT : ∀ {t : Addr} {rows : List (List V)} {o : HO}, TabV H3 t rows → TabV (upd H3 tb o) t rows := fun h => by
        obtain ⟨ts, h1, h2, h3⟩ := h
        exact ⟨ts, by rw [upd_ne (tD h1)]; exact h1, h2, fun i u e => by rw [upd_ne (tD (h3 i u e))]; exact h3 i u e⟩
      refine ⟨fun x => if x = ch then D else f x, fun x => if x = ch then rows else vt x, fun x => if x = ch then qr else tbl x, _, rfl, ?_, ?_, ?_, fun x hx => ?_⟩
      · rw [upd_same, dAt_take ndc hc]
      · exact (bt.trans bt3).up ntb dT
      · exact (pn3.up dT cT).mono (by omega)
      · show TabV _ (if x = ch then D else f x) (if x = ch then rows else vt x) ∧ Paired (NumsQ _) (if x = ch then rows else vt x) (if x = ch then qr else tbl x) ∧ SqQ n (if x = ch then qr else tbl x) ∧ ∀ r ∈ (if x = ch then qr else tbl x), ∀ q ∈ r, Top 3 1 q
        by_cases e : x = ch
        · rw [if_pos e, if_pos e, if_pos e]
          exact ⟨upT hD.toV, paired_mono (fun _ _ g => g.keep ku) pr, sq, ir⟩
        · rw [if_neg e, if_neg e, if_neg e]
          rw [Ver.take_next hc] at hx
          have hx2 : x ∈ cs.take j := by
            rcases List.mem_append.mp hx with h | h
            · exact h
            · exact absurd (by simpa using h) e
          obtain ⟨h1, h2, h3, h4⟩ := hx0 x hx2
          exact ⟨upT (h1.but pn.at_ bt3), paired_mono (fun _ _ g => (g.keep kt).keep ku) h2, h3, h4⟩
    · rintro σ H1 ⟨f, vt, tbl, v4, rfl, hT, bt, pn, hx0⟩
      rw [asz, List.take_length] at hT hx0
      rw [asz] at pn
      refine ⟨_, rfl, (n : Int), rfl, by omega, by omega, fun D nD => ?_⟩
      rw [Int.toNat_natCast]
      refine lc_numF (n := n) (j := 6) dr pn (by omega) nD (by omega) (fun _ => rfl) fun H3 xs qs nq ql qt bt3 pn3 h3 => ?_
      have hT3 := bt3.keeps hT dT.symm
      have kt3 := But.keepT bt3 pn.at_
      refine ⟨_, rfl, _, rfl, (n : Int), rfl, by omega, by omega, fun D2 nD2 => ?_⟩
      rw [Int.toNat_natCast]
      refine lc_numF (n := n) (j := 6) dr pn3 (by omega) nD2 (by omega) (fun _ => rfl) fun H4 ys ps nq2 pl pt bt4 pn4 h4 => ?_
      have kt4 := But.keepT bt4 pn3.at_
      refine ⟨by show 3 ≤ sizeLine; decide, fun t nt => ?_⟩
      have st := same_up (o := .tup [V.ref D, V.ref tb, V.ref D2]) nt
      refine q t ⟨1, 3, 12, cs, qs, tbl, ps, xs, vt, ys⟩ _ rfl ql rfl rfl rfl ⟨by show 0 < 1; decide, by show 1 ≤ 1000; decide, by show 3 ≤ 1000; decide, co, by show qs.length ≤ 24; omega, by show ps.length = qs.length; omega, qt, pt, fun x hx => ?_, fun x hx => (hx0 x hx).2.2.2, fun j hj => ?_, fun j hj => ?_⟩
        ⟨D, tb, D2, upd_same, ⟨st _ _ (bt4.keeps h3 (pen_ne pn3.at_ h3)), st _ _ h4, ⟨f, st _ _ (bt4.keeps hT3 dT.symm), fun x hx => (((hx0 x hx).1.but pn.at_ bt3).but pn3.at_ bt4).same st⟩,
          ⟨(nq.keep kt4).same st, nq2.same st, fun x hx => paired_mono (fun _ _ g => (((NumsQ.keep g kt3).keep kt4).same st)) (hx0 x hx).2.1⟩⟩⟩ (((bt.trans bt3).trans bt4).trans (But.same st)) ((pn4.same st).at_.mono (by omega))
      · show SqQ qs.length (tbl x)
        rw [ql]
        exact (hx0 x hx).2.2.1
      · show 3 * (qs.length * 3) ^ j ≤ 2 ^ 62
        exact big_of (X := 9) (w := 12) (by omega) (by decide) (by decide) hj
      · show 1 * 1 ^ j ≤ 2 ^ 62
        exact bot_of (w := 12) (by decide) (by decide) hj
end
end K19.F

namespace K19.F
open PySem PySem.Spec PyProof.Rows L2 Ver Num SX
/-! ### the law's own states of fractions -/
theorem botB {M : MacQ} (ok : MOkQ M) {c : Nat} (hc : c ∈ M.cs) : BotOk M c M.B := ⟨ok.B0, Nat.dvd_refl _, fun r hr q hq => (ok.itb c hc r hr q hq).1⟩
/-- the states as ints over powers of the bottom -/
theorem stW_ints {M : MacQ} (ok : MOkQ M) : ∀ (u : Wd) (j : Nat) (xs : List Int) (qs : List Rat), (∀ c ∈ u, c ∈ M.cs) → xs.length = M.st.length → (∀ x ∈ xs, x.natAbs ≤ M.t * (M.st.length * M.t) ^ j) → ratsOf ((M.B * M.B ^ j : Nat) : Int) xs = qs →
    ∃ ys : List Int, ys.length = M.st.length ∧ (∀ x ∈ ys, x.natAbs ≤ M.t * (M.st.length * M.t) ^ (j + u.length)) ∧ ratsOf ((M.B * M.B ^ (j + u.length) : Nat) : Int) ys = stW M qs u
  | [], j, xs, qs, _, l, b, e => ⟨xs, l, b, e⟩
  | c :: u, j, xs, qs, h, l, b, e => by
    have hc := h c List.mem_cons_self
    have bo := botB ok hc
    have B0 := ok.B0
    have pz : ((M.B * M.B ^ j : Nat) : Int) ≠ 0 := by
      have := Nat.mul_pos B0 (Nat.pow_pos (n := j) B0)
      omega
    obtain ⟨ys, h1, h2, h3⟩ := stW_ints ok u (j + 1) (goF (colL M c M.B) xs) (goQ M.st.length (M.tb c) qs) (fun d hd => h d (List.mem_cons_of_mem _ hd)) (by unfold goF colL; rw [List.length_map, colsOf_len]) (fun x hx => by
      obtain ⟨l', hl, rfl⟩ := List.mem_map.mp hx
      exact next_bound b l (cols_okF ok hc bo l' hl).2) (by
      rw [← pow_next, Int.natCast_mul, go_val bo pz, e])
    rw [show j + 1 + u.length = j + (c :: u).length by rw [List.length_cons]; omega] at h2 h3
    exact ⟨ys, h1, h2, by rw [stW_cons]; exact h3⟩
theorem stM_big {M : MacQ} (ok : MOkQ M) {u : Wd} (h : ∀ c ∈ u, c ∈ M.cs) (b1 : M.t * (M.st.length * M.t) ^ u.length ≤ 2 ^ 50) (b2 : M.B * M.B ^ u.length ≤ 2 ^ 20) : (stM M u).length = M.st.length ∧ ∀ q ∈ stM M u, BigQ q := by
  obtain ⟨ys, h1, h2, h3⟩ := stW_ints ok u 0 (tops M.B M.st) M.st h (tops_len _ _) (fun x hx => by
    rw [Nat.pow_zero, Nat.mul_one]
    exact tops_abs ok.ist ok.B0 (Nat.dvd_refl _) (fun q hq => (ok.ist q hq).1) x hx) (by
    rw [Nat.pow_zero, Nat.mul_one]
    exact rats_tops ok.B0 fun q hq => (ok.ist q hq).1)
  rw [Nat.zero_add] at h2 h3
  have B0 := ok.B0
  have pz : ((M.B * M.B ^ u.length : Nat) : Int) ≠ 0 := by
    have := Nat.mul_pos B0 (Nat.pow_pos (n := u.length) B0)
    omega
  refine ⟨by rw [stM, ← h3]; unfold ratsOf; rw [List.length_map, h1], fun q hq => ?_⟩
  rw [stM, ← h3] at hq
  unfold ratsOf at hq
  obtain ⟨x, hx, rfl⟩ := List.mem_map.mp hq
  obtain ⟨_, _, _, _, o5, o6⟩ := dvs_out (t := x) pz
  rw [Int.natAbs_natCast] at o6
  exact ⟨Nat.le_trans o5 (Nat.le_trans (h2 x hx) b1), Nat.le_trans o6 b2⟩
/-- the numbers of a column, row by row -/
theorem colOf_map {α : Type} (d : α) {j : Nat} : ∀ {rows : List (List α)}, (∀ r ∈ rows, j < r.length) → colOf rows j = rows.map fun r => r.getD j d
  | [], _ => rfl
  | r :: rows, h => by
    have hr := h r List.mem_cons_self
    have ih := colOf_map d fun r' h' => h r' (List.mem_cons_of_mem _ h')
    unfold colOf at ih ⊢
    rw [List.filterMap_cons, List.getElem?_eq_getElem hr, List.map_cons]
    show _ :: List.filterMap _ rows = _
    rw [ih, List.getD_eq_getElem?_getD, List.getElem?_eq_getElem hr]
    rfl
theorem nums_col {H : Hp} {j : Nat} : ∀ {vr : List (List V)} {qr : List (List Rat)}, Paired (NumsQ H) vr qr → (∀ r ∈ qr, j < r.length) → NumsQ H (vr.map fun r => r.getD j .non) (colOf qr j)
  | _, _, .nil, _ => ⟨rfl, fun i x q h => by simp at h⟩
  | v :: vr, r :: qr, .cons h t, g => by
    have ih := nums_col (j := j) t fun r' h' => g r' (List.mem_cons_of_mem _ h')
    have hr := g r List.mem_cons_self
    have hv : j < v.length := by rw [h.1]; exact hr
    have n1 := h.2 j v[j] r[j] (List.getElem?_eq_getElem hv) (List.getElem?_eq_getElem hr)
    have e : colOf (r :: qr) j = r[j] :: colOf qr j := by
      unfold colOf
      rw [List.filterMap_cons, List.getElem?_eq_getElem hr]
    have e2 : v.getD j V.non = v[j] := by rw [List.getD_eq_getElem?_getD, List.getElem?_eq_getElem hv]; rfl
    rw [e, List.map_cons, e2]
    exact NumsQ.app (xs := [v[j]]) (ps := [r[j]]) ⟨rfl, fun i x q e1 e2 => by
      cases i with
      | zero =>
        cases e1
        cases e2
        exact n1
      | succ i => simp at e1⟩ ih
def teRow (K : PySem.W.Frag) : TE := tOp (rIxL K) (tVar 5) (tVar 6)
def teDot (K : PySem.W.Frag) : TE := fun σ H Q => tCons (tVar 2) (tCons (tLc (iList K (tVar 4)) (gName 5) tYes (teRow K) [5]) tNil) σ H fun vs H1 => spDot K vs H1 Q E0
def stScope : Scope := { kind := .function, names := [((".0" : Str), .local), ("_law_j", .cell), ("_law_dotted", .globalImplicit), ("_law_state", .cell), ("_law_table", .cell)], isGenerator := false, isCoroutine := false }
section
variable {P : Program} {w : World} {K : PySem.W.Frag} {mg : Str → Option Value} {base : Heap}
def spFS (K : PySem.W.Frag) : Sp := fun vs H Q _ => ∃ (t : Addr) (M : MacQ) (u : Wd), vs = [.ref t, vS u] ∧ PlainF H t M ∧ MOkQ M ∧ (∀ c ∈ u, c ∈ M.cs) ∧ u.length ≤ M.w ∧ (∀ j ≤ M.w, M.t * (M.st.length * M.t) ^ j ≤ 2 ^ 50) ∧ (∀ j ≤ M.w, M.B * M.B ^ j ≤ 2 ^ 20) ∧
  ∀ (l : Addr) (zs : List V) (H' : Hp), Same H H' → H' l = some (.lst zs) → NumsQ H' zs (stM M u) → Q (.ref l) H'
theorem ok_fstate (T : Tx K mg) : FnG P w K mg base CX0 4 (He.ga K "_law_fraction_state") (spFS K) := by
  refine mk__law_fraction_state T.d (fun vs H Q E h => ?_) (fun cdv A outer s H vs Q E hg hr h => ?_)
  · obtain ⟨t, M, u, rfl, _⟩ := h
    rfl
  · obtain ⟨t, M, u, rfl, ⟨a, Tb, b, ht, pt⟩, ok, hu0, uw, b50, b20, q⟩ := h
    have nd := sc__law_fraction_state.nd
    have hu : (A.deeper (envOfC "_law_fraction_state" (defScope s__law_fraction_state) s.heap.objs.size (He.ga K "_law_fraction_state") cdv)).units + 1 < cLine := by have := hr.units; omega
    refine ⟨_, pss_cons (ps_set (i := 2) nd rfl (Or.inr rfl) (pe_callTy call_list_of (by rfl) (T.z "list" (by decide +kernel)) (by decide +kernel) (pa_cons (pe_ix ix_tup (pv 0) pe_int (fun _ _ => rfl)) pa_nil)))
      (pss_cons (ps_for PassesOwn.never rfl (pi_str (pv 1)) (pg_name (i := 3) nd rfl (.inl rfl))
        (pss_cons (ps_set (i := 4) nd rfl (Or.inr rfl) (pe_dget hu (pe_ix ix_tup (pv 0) pe_int (fun _ _ => rfl)) (pv 3) (fun _ _ => rfl)))
        (pss_one (ps_set (i := 2) nd rfl (Or.inr rfl) (pe_lc (own := [("_law_j", 6)]) (g := gName 6) (tt := tYes) (te := teDot K) rfl nd (pi_range1 (by rfl) (T.z "range" (by decide +kernel)) (pa_cons (pe_callB call_len_seq (by rfl) (T.z "len" (by decide +kernel)) (by decide +kernel) (pa_cons (pv 2) pa_nil)) pa_nil)) (blkOk_by (N := n__law_fraction_state) (sc := defScope s__law_fraction_state) (by decide +kernel)) (fun _ _ _ _ _ => pg_name (i := 6) nd rfl (Or.inr rfl)) (fun _ _ _ _ _ => pts_nil)
          (fun _ _ _ _ _ => pe_callG (ok_dotted T) hr hg (by rfl) (T.g "_law_dotted" (by decide +kernel)) (kp__law_dotted T.d) pass0 (pa_cons (pv 2) (pa_cons
            (pe_lc (own := [("_law_row", 5)]) (g := gName 5) (tt := tYes) (te := teRow K) (wi := iList K (tVar 4)) rfl nd (pi_list (pv 4)) (blkOk_by (N := n__law_fraction_state) (sc := stScope) (by decide +kernel)) (fun _ _ _ _ _ => pg_name (i := 5) nd rfl (Or.inl rfl)) (fun _ _ _ _ _ => pts_nil)
              (fun _ _ _ _ _ => pe_ix ix_list (pv 5) (pv 6) (fun _ _ => rfl))) pa_nil))))))))
      (pss_one (ps_ret (pv 2)))), ?_⟩
    have n24 := ok.n24
    refine ⟨_, rfl, t, _, 0, .ref a, rfl, rfl, .inl (.inl ht), rfl, a, _, rfl, .inl (SqL.of pt.a), fun l0 nl0 => ?_⟩
    have s0 := same_up (o := .lst M.vst) nl0
    obtain ⟨ta, hd, htb⟩ := pt.d
    refine ⟨_, rfl, S u, rfl, for_it wk_str (fun j σ H' => ∃ (l : Addr) (zs : List V) (v3 v4 : Option V), σ = [some (.ref t), some (vS u), some (.ref l), v3, v4, none, none] ∧ Same H H' ∧ H' l = some (.lst zs) ∧ NumsQ H' zs (stM M (u.take j))) ⟨l0, M.vst, none, none, rfl, s0, upd_same, pt.n.st.same s0⟩ (fun _ _ _ _ _ => trivial) ?_ ?_⟩
    · rintro j x σ H1 H2 hj ⟨l, zs, v3, v4, rfl, s1, hl, nz⟩ ⟨rfl, c, hc, rfl⟩
      rw [← Array.getElem?_toList, chars_S] at hc
      have jl := (List.getElem?_eq_some_iff.mp hc).1
      have hm := hu0 c (List.mem_of_getElem? hc)
      have hg2 := DGet.k (k := Sum.inr (S [c])) (s1 _ _ hd)
      rw [valV_dAt ta hm] at hg2
      have sq := ok.sq c hm
      obtain ⟨ts, h1, h2, h3⟩ := (htb c hm).same s1
      have pr := paired_mono (fun _ _ g => NumsQ.same g s1) (pt.n.tb c hm)
      have lv := paired_len pr
      have lt : (u.take j).length = j := by rw [List.length_take]; omega
      obtain ⟨xl, xb⟩ := stM_big ok (u := u.take j) (fun c h => hu0 c (List.mem_of_mem_take h)) (by rw [lt]; exact b50 j (by omega)) (by rw [lt]; exact b20 j (by omega))
      generalize hxs : stM M (u.take j) = xs at nz xl xb
      have lz : zs.length = M.st.length := by rw [nz.1, xl]
      refine ⟨_, rfl, t, _, 1, .ref Tb, rfl, rfl, .inl (.inl (s1 _ _ ht)), rfl, _, rfl, Tb, _, rfl, hg2, ?_⟩
      refine ⟨_, rfl, l, _, rfl, .inl (SqL.of hl), _, rfl, by omega, by omega, fun D nD => ?_⟩
      rw [Int.toNat_natCast, lz]
      refine lc_growL (te := teDot K) (j := 6) (wk_range (n := M.st.length)) (fun i v H => NumX D H v (dotQ xs (colOf (M.tb c) i))) (fun i v H H' sx h => h.sx sx) nD (by omega) (fun _ _ => trivial) (fun i x H3 R hi s3 hD3 hx r => ?_) fun H3 vs s3 hD l3 hz => ?_
      · obtain ⟨lD, hD3⟩ := hD3
        subst hx
        have rl : ∀ r ∈ M.tb c, i < r.length := fun r hr => by rw [sq.r r hr]; exact hi
        have vl : ∀ r ∈ M.vtb c, r.length = M.st.length := paired_row pr sq.r
        refine ⟨_, rfl, _, rfl, ta c, rfl, ⟨_, SqL.of (s3 _ _ h1)⟩, fun D2 nD2 => ?_⟩
        refine lc_one (te := teRow K) (j := 5) wk_list (fun m => ((M.vtb c).map fun r => r.getD i .non).getD m .non) nD2 (by rw [List.length_map, h2, lv, sq.l]; omega) (fun H s => SqL.of (s _ _ (s3 _ _ h1))) (fun m x H4 R4 hm4 s4 hx4 r4 => ?_) fun H4 s4 hD2 => ?_
        · obtain ⟨d, e4, rfl⟩ := ref_at hx4
          rw [List.length_map] at hm4
          have s34 := s3.trans s4
          have hrow := s34 _ _ (h3 m d e4)
          have hmv : m < (M.vtb c).length := by omega
          have er : (M.vtb c).getD m [] ∈ M.vtb c := by
            rw [List.getD_eq_getElem?_getD, List.getElem?_eq_getElem hmv]
            exact List.getElem_mem _
          have lr := vl _ er
          have e0 : ∀ q : Nat, (0 : Int) + (q : Int) = (q : Int) := fun q => Int.zero_add _
          have ev : ((M.vtb c).map fun r => r.getD i V.non).getD m V.non = ((M.vtb c).getD m []).getD i V.non := by
            rw [List.getD_eq_getElem?_getD, List.getElem?_map, List.getD_eq_getElem?_getD (l := M.vtb c), List.getElem?_eq_getElem hmv]
            rfl
          refine ⟨_, rfl, _, rfl, d, _, _, _, rfl, rfl, SqL.of hrow, by rw [e0]; exact atI_nat (by rw [List.getElem?_eq_getElem (show i < ((M.vtb c).getD m []).length by omega)]), ?_⟩
          rw [ev, List.getD_eq_getElem?_getD, List.getElem?_eq_getElem (show i < ((M.vtb c).getD m []).length by omega)] at r4
          exact r4
        · have el : (ts.map V.ref).length = ((M.vtb c).map fun r => r.getD i V.non).length := by rw [List.length_map, List.length_map, h2]
          have em : (List.range (ts.map V.ref).length).map (fun m => ((M.vtb c).map fun r => r.getD i V.non).getD m V.non) = (M.vtb c).map fun r => r.getD i V.non := by
            rw [el]
            exact (map_range (g := fun x : V => x) V.non rfl).trans (List.map_id _)
          rw [em] at hD2
          have s34 := s3.trans s4
          refine ⟨l, D2, zs, _, xs, colOf (M.tb c) i, M.st.length, rfl, SqL.of (s34 _ _ hl), SqL.of hD2, nz.same s34, nums_col (paired_mono (fun _ _ g => NumsQ.same g s34) pr) rl, xl, by rw [colOf_lenQ sq.r hi, sq.l], n24, xb, fun q hq => ?_, fun x H5 s5 nx => r x H5 (s4.trans s5) (numX_of nx ((s4.trans s5) _ _ hD3))⟩
          obtain ⟨r1, hr1, e1⟩ := col_mem hq
          have sm := ok.sm q (ok.itb c hm r1 hr1 q e1)
          exact ⟨sm.2, Nat.le_trans (Nat.le_of_dvd ok.B0 sm.1) ok.B9⟩
      · refine ⟨D, vs, _, _, rfl, s1.trans s3, hD, ?_⟩
        have e3 : stM M (u.take (j + 1)) = goQ M.st.length (M.tb c) xs := by
          unfold stM at hxs ⊢
          rw [stW_next M M.st hc, hxs]
        rw [e3]
        refine ⟨by rw [l3]; unfold goQ; rw [List.length_map, List.length_range], fun i x q h1 h2 => ?_⟩
        have n1 := (hz i x h1).q
        unfold goQ at h2
        rw [List.getElem?_map] at h2
        cases hi : (List.range M.st.length)[i]? with
        | none => rw [hi] at h2; cases h2
        | some i' =>
          have : i' = i := by
            obtain ⟨h3, h4⟩ := List.getElem?_eq_some_iff.mp hi
            rw [List.getElem_range] at h4
            exact h4.symm
          subst this
          rw [hi] at h2
          cases h2
          exact n1
    · rintro σ H1 ⟨l, zs, v3, v4, rfl, s1, hl, nz⟩
      have el : (S u).cps.size = u.length := by simp
      rw [el, List.take_length] at nz
      exact ⟨_, rfl, q l zs H1 s1 hl nz⟩
/-! ### the machine of drawn parts -/
def spMadeF (K : PySem.W.Frag) : Sp := fun vs H Q _ => ∃ (t : Addr) (M : MacQ), vs = [.ref t, .str (S M.cs)] ∧ PlainF H t M ∧ MOkQ M ∧ ∀ m H', Same H H' → MachY K H H' m M → Q (.ref m) H'
theorem made_same {H : Hp} {x dx : Addr} {o1 o2 o3 : HO} (hx : H x = none) (hd : H dx = none) : Same H (upd (upd (upd H dx o1) x o2) x o3) := fun b o e => by
  rw [upd_ne (ne_of_none e hx), upd_ne (ne_of_none e hx), upd_ne (ne_of_none e hd)]
  exact e
theorem same_two {H : Hp} {x dx : Addr} {o1 o2 : HO} (hx : H x = none) (hd : H dx = none) : Same H (upd (upd H dx o1) x o2) := fun b o e => by
  rw [upd_ne (ne_of_none e hx), upd_ne (ne_of_none e hd)]
  exact e
theorem ok_lmadeF (T : Tx K mg) : FnG P w K mg base CX0 10 (He.ga K "_law_made_of_fractions") (spMadeF K) := by
  refine mk__law_made_of_fractions T.d (fun vs H Q E h => ?_) (fun cdv A outer s H vs Q E hg hr h => ?_)
  · obtain ⟨t, M, rfl, _⟩ := h
    rfl
  · obtain ⟨t, M, rfl, pl, ok, q⟩ := h
    have nd := sc__law_made_of_fractions.nd
    refine ⟨_, pss_one (ps_ret (pe_makeG T.o.mkr (ok_init T) hr hg (by rfl) (T.g "Machine" (by decide +kernel)) pass0
      (pa_cons (pe_makeG0 T.mF.mkr (ok_fracinit T) (hr.mono (by decide)) hg (by rfl) (T.g "Fractions" (by decide +kernel)) pass0)
      (pa_cons (pv 1) (pa_cons (pe_ix ix_tup (pv 0) pe_int (fun _ _ => rfl)) (pa_cons (pe_ix ix_tup (pv 0) pe_int (fun _ _ => rfl)) (pa_cons (pe_ix ix_tup (pv 0) pe_int (fun _ _ => rfl)) pa_nil))))))), ?_⟩
    refine fun x dx nx ndx ne => ⟨x, dx, rfl, upd_same, rfl, ?_⟩
    have s1 := made_same (o1 := .own x) (o2 := .ins (He.ga K "Fractions") dx []) (o3 := .ins (He.ga K "Fractions") dx [(("_prime" : Str), V.non)]) nx ndx
    have F1 : FieldC K (upd (upd (upd H dx (.own x)) x (.ins (He.ga K "Fractions") dx [])) x (.ins (He.ga K "Fractions") dx [(("_prime" : Str), V.non)])) x .fr := ⟨_, dx, T.fcF, T.mF, upd_same⟩
    obtain ⟨a, Tb, b, ht, pt⟩ := pl.same s1
    refine ⟨_, rfl, _, rfl, t, _, 0, .ref a, rfl, rfl, .inl (.inl ht), rfl, _, rfl, t, _, 1, .ref Tb, rfl, rfl, .inl (.inl ht), rfl, _, rfl, t, _, 2, .ref b, rfl, rfl, .inl (.inl ht), rfl, ?_⟩
    intro m mx nm nmx nem
    have s2 := same_two (o1 := .own m) (o2 := .ins (MA K) mx []) nm nmx
    refine ⟨m, mx, x, a, Tb, b, M, rfl, F1.same s2, ok, pt.same s2, upd_same, fun H3 s3 h3 => ⟨rfl, q m H3 (fun b o e => ?_) (h3.from fun b hb => none_of (s1.trans s2) hb)⟩⟩
    have e1 := s1 _ _ e
    exact s3 _ _ (ne_of_none e1 nm) (s2 _ _ e1)
end
end K19.F

namespace K19.F
open PySem PySem.Spec PyProof.Rows L2 Ver Num SX
/-! ### machines of ints, and the same modulo a prime -/
/-- the numbers of a row of ints -/
def numsZ (qs : List Rat) : List Int := qs.map fun q => q.num
def zM (M : MacQ) : Mac := ⟨2, M.cs, numsZ M.st, fun c => (M.tb c).map numsZ, numsZ M.en⟩
/-- .. modulo p -/
def rowP (p : Int) (xs : List Int) : List Int := xs.map fun x => x % p
def modM (p : Int) (Z : Mac) : Mac := ⟨p, Z.cs, rowP p Z.st, fun c => (Z.tb c).map (rowP p), rowP p Z.en⟩
theorem ints_of {H : Hp} {xs : List V} {qs : List Rat} (h : NumsQ H xs qs) (d : ∀ q ∈ qs, q.den = 1) : xs = nums (numsZ qs) := by
  refine List.ext_getElem? fun i => ?_
  unfold nums numsZ
  rw [List.map_map, List.getElem?_map]
  cases e : xs[i]? with
  | none =>
    have : qs[i]? = none := by
      rw [List.getElem?_eq_none_iff] at e ⊢
      rw [← h.1]
      exact e
    rw [this]
    rfl
  | some x =>
    obtain ⟨q, e2, n⟩ := h.get e
    rw [e2]
    rcases n with ⟨_, ex⟩ | ⟨z, _⟩
    · rw [ex]
      rfl
    · exact absurd (d q (List.mem_of_getElem? e2)) z
theorem tab_ints {H : Hp} : ∀ {vr : List (List V)} {qr : List (List Rat)}, Paired (NumsQ H) vr qr → (∀ r ∈ qr, ∀ q ∈ r, q.den = 1) → vr = (qr.map numsZ).map nums
  | _, _, .nil, _ => rfl
  | _, _, .cons h t, g => by
    rw [List.map_cons, List.map_cons, ← ints_of h (g _ List.mem_cons_self), ← tab_ints t fun r hr => g r (List.mem_cons_of_mem _ hr)]
theorem den_one {M : MacQ} (e : M.B = 1) {q : Rat} (h : Top M.t M.B q) : q.den = 1 := by
  have := h.1
  rw [e] at this
  exact Nat.dvd_one.mp this
theorem plain_ints {H : Hp} {t : Addr} {M : MacQ} (ok : MOkQ M) (e : M.B = 1) (h : PlainF H t M) : ∃ a T b : Addr, H t = some (.tup [.ref a, .ref T, .ref b]) ∧ PartsA H a T b (zM M) := by
  obtain ⟨a, T, b, ht, pa, pb, ⟨ta, hd, htb⟩, pn⟩ := h
  refine ⟨a, T, b, ht, ?_, ?_, ta, hd, fun c hc => ?_⟩
  · rw [pa, ints_of pn.st fun q hq => den_one e (ok.ist q hq)]
    rfl
  · rw [pb, ints_of pn.en fun q hq => den_one e (ok.ien q hq)]
    rfl
  · obtain ⟨ts, h1, h2, h3⟩ := htb c hc
    have ev := tab_ints (pn.tb c hc) fun r hr q hq => den_one e (ok.itb c hc r hr q hq)
    refine ⟨ts, h1, ?_, fun i d e2 => ?_⟩
    · rw [h2, ev, List.length_map]
      rfl
    · rw [h3 i d e2, ev]
      congr 2
      exact getD_map nums _ i []
/-! values -/
def stZ (M : MacQ) (u : Wd) : List Int := u.foldl (fun s c => goF (colsOf M.st.length ((M.tb c).map numsZ)) s) (numsZ M.st)
theorem rats_one {qs : List Rat} (d : ∀ q ∈ qs, q.den = 1) : ratsOf 1 (numsZ qs) = qs := by
  unfold ratsOf numsZ
  rw [List.map_map]
  refine (List.map_congr_left fun q hq => ?_).trans (List.map_id _)
  show Rat.divInt q.num 1 = q
  have h := Rat.num_divInt_den q
  rw [d q hq] at h
  exact h
theorem tops_one2 {qs : List Rat} (d : ∀ q ∈ qs, q.den = 1) : tops ((1 : Nat) : Int) qs = numsZ qs := by
  unfold tops numsZ
  refine List.map_congr_left fun q hq => ?_
  rw [d q hq]
  simp
theorem colL_one {M : MacQ} (ok : MOkQ M) (e : M.B = 1) {c : Nat} (hc : c ∈ M.cs) : colL M c 1 = colsOf M.st.length ((M.tb c).map numsZ) := by
  unfold colL
  congr 1
  refine List.map_congr_left fun r hr => ?_
  exact tops_one2 fun q hq => den_one e (ok.itb c hc r hr q hq)
theorem stZ_val {M : MacQ} (ok : MOkQ M) (e : M.B = 1) : ∀ (u : Wd) (xs : List Int) (qs : List Rat), (∀ c ∈ u, c ∈ M.cs) → ratsOf 1 xs = qs → ratsOf 1 (u.foldl (fun s c => goF (colsOf M.st.length ((M.tb c).map numsZ)) s) xs) = stW M qs u
  | [], xs, qs, _, h => h
  | c :: u, xs, qs, hu, h => by
    have hc := hu c List.mem_cons_self
    have bo := botB ok hc
    rw [e] at bo
    rw [List.foldl_cons, stW_cons]
    refine stZ_val ok e u _ _ (fun d hd => hu d (List.mem_cons_of_mem _ hd)) ?_
    have := go_val bo (A := 1) (by decide) xs
    rw [colL_one ok e hc, h] at this
    exact this
theorem valZ {M : MacQ} (ok : MOkQ M) (e : M.B = 1) {u : Wd} (hu : ∀ c ∈ u, c ∈ M.cs) : valM M u = Rat.divInt (dotI (stZ M u) (numsZ M.en)) 1 := by
  have h1 := stZ_val ok e u (numsZ M.st) M.st hu (rats_one fun q hq => den_one e (ok.ist q hq))
  have h2 := rats_one (qs := M.en) fun q hq => den_one e (ok.ien q hq)
  have h3 := dot_val (L := 1) (B := 1) (by decide) (by decide) (stZ M u) (numsZ M.en)
  rw [h2] at h3
  unfold valM stM
  rw [← h1]
  exact h3.symm
/-! modulo p -/
theorem dotI_mod (p : Int) : ∀ xs ys : List Int, dotI (rowP p xs) (rowP p ys) % p = dotI xs ys % p
  | [], ys => rfl
  | x :: xs, [] => by
    unfold dotI rowP
    rw [List.map_nil, List.zipWith_nil_right, List.zipWith_nil_right]
  | x :: xs, y :: ys => by
    have ih := dotI_mod p xs ys
    have e1 : dotI (x :: xs) (y :: ys) = x * y + dotI xs ys := by unfold dotI; rw [List.zipWith_cons_cons, List.sum_cons]
    have e2 : dotI (rowP p (x :: xs)) (rowP p (y :: ys)) = (x % p) * (y % p) + dotI (rowP p xs) (rowP p ys) := by
      unfold dotI rowP
      rw [List.map_cons, List.map_cons, List.zipWith_cons_cons, List.sum_cons]
    rw [e1, e2, Int.add_emod, ih, ← Int.mul_emod, ← Int.add_emod]
theorem colOf_rows {α β : Type} (f : α → β) (rows : List (List α)) (j : Nat) : colOf (rows.map (List.map f)) j = (colOf rows j).map f := by
  unfold colOf
  rw [List.filterMap_map, List.map_filterMap]
  exact fm_congr fun r _ => by simp
theorem stP {M : MacQ} {p : Int} : ∀ (u : Wd) (xs : List Int), K19.stW (modM p (zM M)) (rowP p xs) u = rowP p (u.foldl (fun s c => goF (colsOf M.st.length ((M.tb c).map numsZ)) s) xs)
  | [], xs => rfl
  | c :: u, xs => by
    rw [List.foldl_cons, K19.stW_cons]
    have : goI (modM p (zM M)).p (colM (modM p (zM M)) c) (rowP p xs) = rowP p (goF (colsOf M.st.length ((M.tb c).map numsZ)) xs) := by
      unfold goI goF colM colsOf rowP
      rw [List.map_map, List.map_map, List.map_map]
      have el : (modM p (zM M)).st.length = M.st.length := by
        show (rowP p (numsZ M.st)).length = _
        unfold rowP numsZ
        rw [List.length_map, List.length_map]
      rw [el]
      refine List.map_congr_left fun j _ => ?_
      show dotI (xs.map fun x => x % p) (colOf (((M.tb c).map numsZ).map (List.map fun x => x % p)) j) % p = dotI xs (colOf ((M.tb c).map numsZ) j) % p
      rw [colOf_rows]
      exact dotI_mod p xs _
    rw [this]
    exact stP u _
theorem valP {M : MacQ} {p : Int} (u : Wd) : K19.valM (modM p (zM M)) u = dotI (stZ M u) (numsZ M.en) % p := by
  show dotI (K19.stW (modM p (zM M)) (rowP p (numsZ M.st)) u) (rowP p (numsZ M.en)) % p = _
  rw [stP]
  exact dotI_mod p _ _
theorem inP_row {p : Int} (p0 : 0 < p) (xs : List Int) : InP p (rowP p xs) := fun x hx => by
  obtain ⟨y, _, rfl⟩ := List.mem_map.mp hx
  exact ⟨Int.emod_nonneg _ (by omega), Int.emod_lt_of_pos _ p0⟩
theorem modM_ok {M : MacQ} (ok : MOkQ M) {p : Int} (pm : Pm p) : MOk (modM p (zM M)) := by
  have lo := pm.md.lo
  have p0 : 0 < p := by omega
  have ls : (modM p (zM M)).st.length = M.st.length := by
    show (rowP p (numsZ M.st)).length = _
    unfold rowP numsZ
    rw [List.length_map, List.length_map]
  refine ⟨pm, ok.cs, by rw [ls]; exact ok.n24, ?_, inP_row p0 _, inP_row p0 _, fun c hc => ⟨?_, fun r hr => ?_⟩, fun c hc r hr => ?_⟩
  · rw [ls, ← ok.en]
    show (rowP p (numsZ M.en)).length = _
    unfold rowP numsZ
    rw [List.length_map, List.length_map]
  · rw [ls, ← (ok.sq c hc).l]
    show (((M.tb c).map numsZ).map (rowP p)).length = _
    rw [List.length_map, List.length_map]
  · rw [ls]
    obtain ⟨r1, h1, rfl⟩ := List.mem_map.mp hr
    obtain ⟨r0, h0, rfl⟩ := List.mem_map.mp h1
    unfold rowP numsZ
    rw [List.length_map, List.length_map]
    exact (ok.sq c hc).r r0 h0
  · obtain ⟨r1, h1, rfl⟩ := List.mem_map.mp hr
    exact inP_row p0 _
end K19.F

namespace K19.F
open PySem PySem.Spec PyProof.Rows L2 Ver Num SX
def rInt1 : List V → Hp → VK → Prop := fun xs H Q => (∃ i, xs = [.int i] ∧ Q (.int i) H) ∨ ∃ k, xs = [.bl k] ∧ Q (.int (if k then 1 else 0)) H
def teMod : TE := tOp (rI (fun _ j => 0 < j) fun i j => .int (i % j)) (tCB rInt1 (tCons (tVar 4) tNil)) (tVar 1)
def teRem (K : PySem.W.Frag) : TE := tLc (iList K (tVar 5)) (gName 4) tYes teMod [4]
def rmScope : Scope := { kind := .function, names := [((".0" : Str), .local), ("_law_row", .local), ("_law_prime_here", .cell)], isGenerator := false, isCoroutine := false }
theorem int_at {xs : List Int} {m : Nat} {x : V} (e : (nums xs)[m]? = some x) : ∃ y, xs[m]? = some y ∧ x = .int y ∧ xs.getD m 0 = y := by
  rw [List.getElem?_map] at e
  cases hx : xs[m]? with
  | none => rw [hx] at e; cases e
  | some i =>
    rw [hx] at e
    cases e
    exact ⟨i, rfl, rfl, by rw [List.getD_eq_getElem?_getD, hx]; rfl⟩
theorem rowP_list (p : Int) (xs : List Int) : (List.range (nums xs).length).map (fun m => V.int (xs.getD m 0 % p)) = nums (rowP p xs) := by
  rw [List.length_map]
  have := map_range (xs := xs) 0 rfl fun x => V.int (x % p)
  rw [this]
  unfold nums rowP
  rw [List.map_map]
  rfl
theorem rowP_nil (p : Int) : rowP p [] = [] := rfl
theorem TabL.keepX {D : Addr} {H H' : Hp} {u : HO} {t : Addr} {rows : List (List Int)} (h : TabL H t rows) (sx : SameX D H H') (hD : H D = some u) (n : ∀ xs, u ≠ .lst xs) : TabL H' t rows := by
  obtain ⟨ts, h1, h2, h3⟩ := h
  have k : ∀ {a : Addr} {xs : List V}, H a = some (.lst xs) → H' a = some (.lst xs) := fun e => sx _ _ (fun z => n _ (Option.some.inj (hD.symm.trans (z ▸ e)))) e
  exact ⟨ts, k h1, h2, fun i d e => k (h3 i d e)⟩
theorem getDK {H : Hp} {a : Addr} {od : Obj} {kvs : List (Key × V)} {k : Key} (h : H a = some (.frz od (.dK kvs))) : DGet H a (kV k) (valV kvs k) := .inl ⟨kvs, k, .inr ⟨od, h⟩, rfl, rfl⟩
/-- sizes of the parts -/
structure ZOk (n : Nat) (Z : Mac) : Prop where
  cs : CsOk Z.cs
  n24 : n ≤ 24
  st : Z.st.length = n
  en : Z.en.length = n
  sq : ∀ c ∈ Z.cs, Sq n (Z.tb c)
section
variable {P : Program} {w : World} {K : PySem.W.Frag} {mg : Str → Option Value} {base : Heap}
def spRem (K : PySem.W.Frag) : Sp := fun vs H Q _ => ∃ (t a Tb b : Addr) (p : Int) (n : Nat) (Z : Mac), vs = [.ref t, .int p] ∧ H t = some (.tup [.ref a, .ref Tb, .ref b]) ∧ PartsA H a Tb b Z ∧ ZOk n Z ∧ 0 < p ∧
  ∀ (t' a' T' b' : Addr) (H' : Hp), Same H H' → H' t' = some (.tup [.ref a', .ref T', .ref b']) → PartsA H' a' T' b' (modM p Z) → Q (.ref t') H'
theorem ok_rem (T : Tx K mg) : FnG P w K mg base CX0 1 (He.ga K "_law_remainders") (spRem K) := by
  refine mk__law_remainders T.d (fun vs H Q E h => ?_) (fun cdv A outer s H vs Q E hg hr h => ?_)
  · obtain ⟨t, a, Tb, b, p, n, Z, rfl, _⟩ := h
    rfl
  · obtain ⟨t, a, Tb, b, p, n, Z, rfl, ht, ⟨pa, pb, ta, hd, htb⟩, ok, p0, q⟩ := h
    have nd := sc__law_remainders.nd
    have hu : (A.deeper (envOfC "_law_remainders" (defScope s__law_remainders) s.heap.objs.size (He.ga K "_law_remainders") cdv)).units + 1 < cLine := by have := hr.units; omega
    have zi := T.z "int" (by decide +kernel)
    have bi : bootBuiltins "int" = some (.type "int") := by decide +kernel
    refine ⟨_, pss_cons (ps_set (i := 2) nd rfl (Or.inl rfl) pe_dnewK)
      (pss_cons (ps_lock (ps_for PassesOwn.never rfl (pi_keys (pe_ix ix_tup (pv 0) pe_int (fun _ _ => rfl))) (pg_name (i := 3) nd rfl (.inl rfl))
        (pss_one (ps_dput hu (pv 2) (pv 3)
          (pe_lc (own := [("_law_row", 5)]) (g := gName 5) (tt := tYes) (te := teRem K) rfl nd (pi_list (pe_dget hu (pe_ix ix_tup (pv 0) pe_int (fun _ _ => rfl)) (pv 3) (fun _ _ => rfl))) (blkOk_by (N := n__law_remainders) (sc := defScope s__law_remainders) (by decide +kernel)) (fun _ _ _ _ _ => pg_name (i := 5) nd rfl (Or.inl rfl)) (fun _ _ _ _ _ => pts_nil)
            (fun _ _ _ _ _ => pe_lc (own := [("_law_number", 4)]) (g := gName 4) (tt := tYes) (te := teMod) (wi := iList K (tVar 5)) rfl nd (pi_list (pv 5)) (blkOk_by (N := n__law_remainders) (sc := rmScope) (by decide +kernel)) (fun _ _ _ _ _ => pg_name (i := 4) nd rfl (Or.inl rfl)) (fun _ _ _ _ _ => pts_nil)
              (fun _ _ _ _ _ => pe_op op_mod (pe_callTy call_int1 (by rfl) zi bi (pa_cons (pv 4) pa_nil)) (pv 1)))) rfl))))
      (pss_one (ps_ret (pe_tup (pa_cons
        (pe_lc (own := [("_law_number", 4)]) (g := gName 4) (tt := tYes) (te := teMod) rfl nd (pi_list (pe_ix ix_tup (pv 0) pe_int (fun _ _ => rfl))) (blkOk_by (N := n__law_remainders) (sc := defScope s__law_remainders) (by decide +kernel)) (fun _ _ _ _ _ => pg_name (i := 4) nd rfl (Or.inl rfl)) (fun _ _ _ _ _ => pts_nil)
              (fun _ _ _ _ _ => pe_op op_mod (pe_callTy call_int1 (by rfl) zi bi (pa_cons (pv 4) pa_nil)) (pv 1)))
        (pa_cons (pv 2) (pa_cons
        (pe_lc (own := [("_law_number", 4)]) (g := gName 4) (tt := tYes) (te := teMod) rfl nd (pi_list (pe_ix ix_tup (pv 0) pe_int (fun _ _ => rfl))) (blkOk_by (N := n__law_remainders) (sc := defScope s__law_remainders) (by decide +kernel)) (fun _ _ _ _ _ => pg_name (i := 4) nd rfl (Or.inl rfl)) (fun _ _ _ _ _ => pts_nil)
              (fun _ _ _ _ _ => pe_op op_mod (pe_callTy call_int1 (by rfl) zi bi (pa_cons (pv 4) pa_nil)) (pv 1))) pa_nil))))))), ?_⟩
    have n24 := ok.n24
    have ndc := asc_nodup ok.cs.asc
    have c4 := ok.cs.few
    refine fun tb ntb => ?_
    have s0 := same_up (o := .dK []) ntb
    have hd0 := s0 _ _ hd
    have Ttb : Tb ≠ tb := ne_of_none hd ntb
    have tT : t ≠ Tb := fun z => by
      rw [z, hd] at ht
      cases ht
    refine ⟨Tb, _, hd0, trivial, fun od => ?_⟩
    generalize hHl : upd (upd H tb (.dK [])) Tb (.frz od (.dK (dAt Z.cs ta))) = Hl
    have lT : Hl Tb = some (.frz od (.dK (dAt Z.cs ta))) := by rw [← hHl, upd_same]
    have ltb : Hl tb = some (.dK []) := by rw [← hHl, upd_ne Ttb.symm, upd_same]
    have toL : ∀ {u : Addr} {o : HO}, u ≠ Tb → H u = some o → Hl u = some o := fun {u o} n e => by
      rw [← hHl, upd_ne n]
      exact s0 _ _ e
    have nTl : ∀ {u : Addr} {xs : List V}, H u = some (.lst xs) → u ≠ Tb := fun e z => by
      rw [z, hd] at e
      cases e
    have utb : ∀ {u : Addr} {o : HO}, H u = some o → u ≠ tb := fun e => ne_of_none e ntb
    refine ⟨_, rfl, t, _, 1, .ref Tb, rfl, rfl, .inl (.inl (toL tT ht)), rfl, Tb, od, rfl, .inl ⟨dAt Z.cs ta, lT, for_it wk_keys (fun i σ H' => ∃ (f : Nat → Addr) (v3 : Option V), σ = [some (.ref t), some (.int p), some (.ref tb), v3, none, none] ∧ SameX tb Hl H' ∧ H' tb = some (.dK (dAt (Z.cs.take i) f)) ∧ ∀ x ∈ Z.cs.take i, TabL H' (f x) ((Z.tb x).map (rowP p)))
      ⟨fun _ => 0, none, rfl, fun _ _ _ e => e, ltb, fun x hx => by cases hx⟩ (fun i σ H' _ ⟨_, _, _, sx, _⟩ => sx _ _ Ttb lT) ?_ ?_⟩⟩
    · rintro i x σ H6 H7 hi ⟨f, v3, rfl, sx, hT2, htab⟩ ⟨rfl, k, v, hk, rfl⟩
      unfold dAt at hk
      rw [List.getElem?_map] at hk
      cases hc : Z.cs[i]? with
      | none =>
        rw [hc] at hk
        cases hk
      | some c =>
        rw [hc] at hk
        cases hk
        have hm := List.mem_of_getElem? hc
        have sq := ok.sq c hm
        obtain ⟨ts, h1, h2, h3⟩ := htb c hm
        have k6 : ∀ {u : Addr} {xs : List V}, H u = some (.lst xs) → H7 u = some (.lst xs) := fun e => sx _ _ (utb e) (toL (nTl e) e)
        have hv := getDK (k := Sum.inr (S [c])) (sx _ _ Ttb lT)
        rw [valV_dAt ta hm] at hv
        refine ⟨_, rfl, t, _, 1, .ref Tb, rfl, rfl, .inl (.inl (sx _ _ (utb ht) (toL tT ht))), rfl, _, rfl, Tb, _, rfl, hv, ta c, rfl, ⟨_, SqL.of (k6 h1)⟩, fun D nD => ?_⟩
        refine lc_grow (te := teRem K) (j := 5) wk_list (fun i v H => ∃ d, v = .ref d ∧ d ≠ D ∧ H d = some (.lst (nums (rowP p ((Z.tb c).getD i []))))) ?_ nD (by rw [List.length_map, h2, sq.l]; omega) (fun H s => SqL.of (s _ _ (k6 h1))) (fun i x H8 R hi8 s8 h8 hx8 r => ?_) fun H8 vs s8 h8 l8 hz => ?_
        · rintro i v H H' sx ⟨d, rfl, n1, h⟩
          exact ⟨d, rfl, n1, sx _ _ n1 h⟩
        · obtain ⟨d, e8, rfl⟩ := ref_at hx8
          have hrow := s8 _ _ (k6 (h3 i d e8))
          have hil : i < (Z.tb c).length := by
            rw [List.length_map, h2] at hi8
            exact hi8
          have lr := sq.r _ (sq_at sq hil)
          refine ⟨_, rfl, d, rfl, ⟨_, SqL.of hrow⟩, fun D3 nD3 => ?_⟩
          refine lc_one (te := teMod) (j := 4) wk_list (fun m => .int (((Z.tb c).getD i []).getD m 0 % p)) nD3 (by rw [List.length_map, lr]; omega) (fun H s => SqL.of (s _ _ hrow)) (fun m x H9 R9 hm9 s9 hx9 r9 => ?_) fun H9 s9 hD3 => ?_
          · obtain ⟨y, e9, rfl, ey⟩ := int_at hx9
            rw [ey] at r9
            exact ⟨_, rfl, .inl ⟨_, rfl, _, rfl, _, _, rfl, rfl, p0, r9⟩⟩
          · rw [rowP_list] at hD3
            exact r _ _ s9 ⟨D3, rfl, fun z => h8 (z ▸ nD3), hD3⟩
        · obtain ⟨ds, rfl, hds⟩ := refs_of _ hz
          have hT8 := s8 _ _ hT2
          refine ⟨_, rfl, _, rfl, tb, _, rfl, DPut.k (k := Sum.inr (S [c])) hT8 (by show (dAt _ _).length < _; unfold dAt; rw [List.length_map, List.length_take, sizeLine_eq]; omega), ?_⟩
          have up : ∀ {t : Addr} {rows : List (List Int)} {o : HO}, TabL H8 t rows → TabL (upd H8 tb o) t rows := fun h => TabL.keepX h sameX_upd hT8 fun _ z => by cases z
          refine ⟨fun x => if x = c then D else f x, _, rfl, (sx.trans (Same.toX s8)).trans sameX_upd, ?_, fun x hx => ?_⟩
          · rw [upd_same, dAt_take ndc hc]
          · show TabL _ (if x = c then D else f x) _
            by_cases e : x = c
            · rw [if_pos e, e]
              refine up ⟨ds, h8, ?_, fun i d e => ?_⟩
              · rw [List.length_map] at l8 ⊢
                rw [l8, List.length_map, h2]
              · have h := (hds i d e).2
                rw [show ((Z.tb c).map (rowP p)).getD i [] = rowP p ((Z.tb c).getD i []) from getD_map (rowP p) (Z.tb c) i []]
                exact h
            · rw [if_neg e]
              rw [Ver.take_next hc] at hx
              have hx2 : x ∈ Z.cs.take i := by
                rcases List.mem_append.mp hx with h | h
                · exact h
                · exact absurd (by simpa using h) e
              exact up ((htab x hx2).same s8)
    · rintro σ H6 ⟨f, v3, rfl, sx, hT2, htab⟩
      have ld : (dAt Z.cs ta).length = Z.cs.length := List.length_map ..
      rw [ld, List.take_length] at hT2 htab
      refine ⟨sx _ _ Ttb lT, ?_⟩
      have hT6 := sx _ _ Ttb lT
      have htb7 : (upd H6 Tb (.dK (dAt Z.cs ta))) tb = some (.dK (dAt Z.cs f)) := by rw [upd_ne Ttb.symm]; exact hT2
      have sH : Same H (upd H6 Tb (.dK (dAt Z.cs ta))) := fun u o e => by
        by_cases z : u = Tb
        · rw [z, hd] at e
          cases e
          rw [z, upd_same]
        · rw [upd_ne z]
          exact sx _ _ (utb e) (toL z e)
      have htab7 : ∀ x ∈ Z.cs, TabL (upd H6 Tb (.dK (dAt Z.cs ta))) (f x) ((Z.tb x).map (rowP p)) := fun x hx => TabL.keepX (htab x hx) sameX_upd hT6 fun _ z => by cases z
      generalize upd H6 Tb (.dK (dAt Z.cs ta)) = H7 at htb7 sH htab7
      refine ⟨_, rfl, t, _, 0, .ref a, rfl, rfl, .inl (.inl (sH _ _ ht)), rfl, a, rfl, ⟨_, SqL.of (sH _ _ pa)⟩, fun D nD => ?_⟩
      refine lc_one (te := teMod) (j := 4) wk_list (fun m => .int (Z.st.getD m 0 % p)) nD (by rw [List.length_map, ok.st]; omega) (fun H s => SqL.of (s _ _ (sH _ _ pa))) (fun m x H9 R9 hm9 s9 hx9 r9 => ?_) fun H9 s9 hD => ?_
      · obtain ⟨y, e9, rfl, ey⟩ := int_at hx9
        rw [ey] at r9
        exact ⟨_, rfl, .inl ⟨_, rfl, _, rfl, _, _, rfl, rfl, p0, r9⟩⟩
      · rw [rowP_list] at hD
        have s79 := sH.trans s9
        refine ⟨_, rfl, _, rfl, t, _, 2, .ref b, rfl, rfl, .inl (.inl (s79 _ _ ht)), rfl, b, rfl, ⟨_, SqL.of (s79 _ _ pb)⟩, fun D2 nD2 => ?_⟩
        refine lc_one (te := teMod) (j := 4) wk_list (fun m => .int (Z.en.getD m 0 % p)) nD2 (by rw [List.length_map, ok.en]; omega) (fun H s => SqL.of (s _ _ (s79 _ _ pb))) (fun m x H10 R9 hm9 s10 hx9 r9 => ?_) fun H10 s10 hD2 => ?_
        · obtain ⟨y, e9, rfl, ey⟩ := int_at hx9
          rw [ey] at r9
          exact ⟨_, rfl, .inl ⟨_, rfl, _, rfl, _, _, rfl, rfl, p0, r9⟩⟩
        · rw [rowP_list] at hD2
          refine ⟨by show 3 ≤ sizeLine; decide, fun t' nt => ?_⟩
          have st := same_up (o := .tup [V.ref D, V.ref tb, V.ref D2]) nt
          have s710 := s9.trans (s10.trans st)
          exact q t' D tb D2 _ (sH.trans s710) upd_same ⟨(s10.trans st) _ _ hD, st _ _ hD2, f, s710 _ _ htb7, fun x hx => (htab7 x hx).same s710⟩
/-! ### the machine modulo a prime -/
def spMadeP (K : PySem.W.Frag) : Sp := fun vs H Q _ => ∃ (t a Tb b : Addr) (M : Mac), vs = [.ref t, .int M.p, .str (S M.cs)] ∧ H t = some (.tup [.ref a, .ref Tb, .ref b]) ∧ PartsA H a Tb b M ∧ MOk M ∧ ∀ m H', Same H H' → MachAt K H' m M → Q (.ref m) H'
theorem ok_lmadeP (T : Tx K mg) : FnG P w K mg base CX0 10 (He.ga K "_law_made") (spMadeP K) := by
  refine mk__law_made T.d (fun vs H Q E h => ?_) (fun cdv A outer s H vs Q E hg hr h => ?_)
  · obtain ⟨t, a, Tb, b, M, rfl, _⟩ := h
    rfl
  · obtain ⟨t, a, Tb, b, M, rfl, ht, pt, ok, q⟩ := h
    have nd := sc__law_made.nd
    refine ⟨_, pss_one (ps_ret (pe_makeG T.o.mkr (K19.ok_init T) hr hg (by rfl) (T.g "Machine" (by decide +kernel)) pass0
      (pa_cons (pe_makeG T.mM.mkr (ok_minit T) (hr.mono (by decide)) hg (by rfl) (T.g "Modulo" (by decide +kernel)) pass0 (pa_cons (pv 1) pa_nil))
      (pa_cons (pv 2) (pa_cons (pe_ix ix_tup (pv 0) pe_int (fun _ _ => rfl)) (pa_cons (pe_ix ix_tup (pv 0) pe_int (fun _ _ => rfl)) (pa_cons (pe_ix ix_tup (pv 0) pe_int (fun _ _ => rfl)) pa_nil))))))), ?_⟩
    refine ⟨_, rfl, fun x dx nx ndx ne => ⟨x, dx, M.p, rfl, ok.pm.pr, ok.pm.sq, upd_same, rfl, ?_⟩⟩
    have s1 := made_same (o1 := .own x) (o2 := .ins (He.ga K "Modulo") dx []) (o3 := .ins (He.ga K "Modulo") dx [(("_prime" : Str), V.int M.p)]) nx ndx
    have F1 : FieldC K (upd (upd (upd H dx (.own x)) x (.ins (He.ga K "Modulo") dx [])) x (.ins (He.ga K "Modulo") dx [(("_prime" : Str), V.int M.p)])) x (.md M.p) := ⟨_, dx, T.fcM, T.mM, upd_same⟩
    have pt := pt.same s1
    have ht := s1 _ _ ht
    refine ⟨_, rfl, _, rfl, t, _, 0, .ref a, rfl, rfl, .inl (.inl ht), rfl, _, rfl, t, _, 1, .ref Tb, rfl, rfl, .inl (.inl ht), rfl, _, rfl, t, _, 2, .ref b, rfl, rfl, .inl (.inl ht), rfl, ?_⟩
    intro m mx nm nmx nem
    have s2 := same_two (o1 := .own m) (o2 := .ins (MA K) mx []) nm nmx
    refine ⟨m, mx, x, a, Tb, b, M, rfl, F1.same s2, ok, pt.same s2, upd_same, fun H3 s3 h3 => ⟨rfl, q m H3 (fun b o e => ?_) (h3.from (H0 := H) fun b hb => none_of (s1.trans s2) hb).at_⟩⟩
    have e1 := s1 _ _ e
    exact s3 _ _ (ne_of_none e1 nm) (s2 _ _ e1)
theorem StepC.but {H H' : Hp} {d s : Addr} {k : Int} {cols : List (List Int)} (h : StepC H s cols) (pen : PenAt H d k) (bt : But d H H') : StepC H' s cols := by
  obtain ⟨c, ds, h1, h2, h3, h4⟩ := h
  exact ⟨c, ds, bt.keeps h1 (penL_tup pen h1), bt.keeps h2 (pen_ne pen h2), h3, fun i u e => bt.keeps (h4 i u e) (pen_ne pen (h4 i u e))⟩
theorem MachAt.but {K : PySem.W.Frag} {H H' : Hp} {d m : Addr} {k : Int} {M : Mac} (h : MachAt K H m M) (pen : PenAt H d k) (bt : But d H H') : MachAt K H' m M := by
  obtain ⟨dx, f, a, b, dt, ds, sa, e, F, ha, hb, hd, hs⟩ := h.ex
  exact ⟨⟨dx, f, a, b, dt, ds, sa, bt.keeps e (ins_ne pen e), F.but pen bt, bt.keeps ha (penL_tup pen ha), bt.keeps hb (penL_tup pen hb), bt.keeps hd (dAt_ne pen hd), fun c hc => StepC.but (hs c hc) pen bt⟩, h.ok⟩
end
end K19.F

/-! Data, kept where tables alone grow. -/
namespace Ver
open PySem PySem.Spec PyProof.Rows L2 LamX
section
variable {K : PySem.W.Frag} {H H' : Hp}
theorem rd_ext (s : ExtN H H') {a : Addr} {o : HO} (n : ∀ ps, o ≠ .tbl ps) (h : Rd H a o) : Rd H' a o := by
  rcases h with h | ⟨ob, h⟩
  · exact .inl (s _ _ h n)
  · exact .inr ⟨ob, s _ _ h (fun ps z => by cases z)⟩
theorem sqt_ext (s : ExtN H H') {a : Addr} {xs : List V} (h : SqT K H a xs) : SqT K H' a xs := h.imp (rd_ext s fun ps z => by cases z) id
theorem sql_ext (s : ExtN H H') {a : Addr} {xs : List V} (h : SqL K H a xs) : SqL K H' a xs := h.imp (rd_ext s fun ps z => by cases z) id
mutual
theorem Do.ext (s : ExtN H H') : ∀ (d : PyData) (x : V), Do K H x d → Do K H' x d
  | .none, _, h => by cases h; exact .non
  | .bool b, _, h => by cases h; exact .bl b
  | .int i, _, h => by cases h; exact .int i
  | .str y, _, h => by cases h; exact .str y
  | .list ds, _, h => by
    cases h with
    | lst hs ha => exact .lst (sql_ext s hs) (DoAll.ext s ds _ ha)
  | .tuple ds, _, h => by
    cases h with
    | tup hs ha => exact .tup (sqt_ext s hs) (DoAll.ext s ds _ ha)
  | .dict kds, _, h => by
    cases h with
    | dic e hk => exact .dic (s _ _ e fun ps z => by cases z) (DoKv.ext s kds _ hk)
theorem DoAll.ext (s : ExtN H H') : ∀ (ds : List PyData) (xs : List V), DoAll K H xs ds → DoAll K H' xs ds
  | [], _, h => by cases h; exact .nil
  | d :: ds, _, h => by
    cases h with
    | cons h1 h2 => exact .cons (Do.ext s d _ h1) (DoAll.ext s ds _ h2)
theorem DoKv.ext (s : ExtN H H') : ∀ (kds : List (PyData × PyData)) (kvs : List (Key × V)), DoKv K H kvs kds → DoKv K H' kvs kds
  | [], _, h => by cases h; exact .nil
  | (dk, d) :: kds, _, h => by
    cases h with
    | cons h1 h2 => exact .cons (Do.ext s d _ h1) (DoKv.ext s kds _ h2)
end
end
section
variable {P : Program} {w : World} {K : PySem.W.Frag} {mg : Str → Option Value} {base : Heap} {k n : Nat} {f : Addr} {ks : List Str} {gV : List V → List V → List V} {sp : Sp}
theorem FnK.down {CX : CXT} (F : FnK P w K mg base (L2.CX P w) k f n ks gV sp) : FnK P w K mg base CX k f n ks gV (fun vs H Q _ => sp vs H Q fun _ _ _ => False) :=
  fun A outer s H us ws vs zs Q E g hr e0 r l1 rz l2 q => codeAny_mono (F A outer s H us ws vs zs Q _ g hr e0 r l1 rz l2 q) fun rs s' z => by
    match rs, z with
    | .error _, ⟨_, _, _, _, _, _, _, _, _, _, _, _, z⟩ => exact z.elim
    | .ok (.ret _), z => exact z
    | .ok .next, z => exact z.elim
    | .ok .brk, z => exact z.elim
    | .ok .cont, z => exact z.elim
end
end Ver

namespace Ver
open PySem PySem.Spec PyProof.Rows L2
theorem FnG.down {P : Program} {w : World} {K : PySem.W.Frag} {mg : Str → Option Value} {base : Heap} {CX : CXT} {k : Nat} {f : Addr} {sp : Sp} (F : FnG P w K mg base (L2.CX P w) k f sp) : FnG P w K mg base CX k f (fun vs H Q _ => sp vs H Q fun _ _ _ => False) :=
  fun A outer s H us vs Q E g hr e0 r q => codeAny_mono (F A outer s H us vs Q _ g hr e0 r q) fun rs s' z => by
    match rs, z with
    | .error _, ⟨_, _, _, _, _, _, _, _, _, _, _, _, z⟩ => exact z.elim
    | .ok (.ret _), z => exact z
    | .ok .next, z => exact z.elim
    | .ok .brk, z => exact z.elim
    | .ok .cont, z => exact z.elim
end Ver
namespace K19.F
open PySem PySem.Spec PyProof.Rows L2 Ver Num SX
/-! ### numbers shown -/
theorem int_lenB {i : Int} (hb : i.natAbs < 2 ^ 100) : (Str.ofString (toString i)).length ≤ 101 ∧ i.natAbs.log2 < 1920 := by
  have l := PySem.Flt.log2_lt_of (by decide) hb
  have e := int_text_length_le (k := 100) (by decide) l
  refine ⟨?_, by omega⟩
  rw [PySem.ofString_length]
  exact e
/-- numbers that can be shown -/
def ShQ (q : Rat) : Prop := q.num.natAbs < 2 ^ 100 ∧ q.den < 2 ^ 100
theorem show_q {q : Rat} (h : ShQ q) : (dq q).showable = true ∧ (dq q).shown.length ≤ 215 ∧ (dq q).depth ≤ 2 := by
  obtain ⟨l1, l2⟩ := int_lenB h.1
  obtain ⟨m1, m2⟩ := int_lenB (i := (q.den : Int)) (by rw [Int.natAbs_natCast]; exact h.2)
  by_cases d : q.den = 1
  · rw [dq_int d]
    refine ⟨?_, ?_, by simp [PyData.depth]⟩
    · simp only [PyData.showable]
      exact decide_eq_true l2
    · simp only [PyData.shown]
      omega
  · rw [dq_tup d]
    refine ⟨?_, ?_, by simp [PyData.depth, PyData.depthAll]⟩
    · simp only [PyData.showable, PyData.showableAll]
      rw [decide_eq_true l2, decide_eq_true m2]
      rfl
    · simp only [PyData.shown, PyData.shownAll]
      have a := tupleText_len_le [Str.ofString (toString q.num), Str.ofString (toString (q.den : Int))]
      simp only [List.map_cons, List.map_nil, List.sum_cons, List.sum_nil, List.length_cons, List.length_nil] at a
      omega
theorem qs_show : ∀ {qs : List Rat}, (∀ q ∈ qs, ShQ q) → PyData.showableAll (qs.map dq) = true ∧ ((PyData.shownAll (qs.map dq)).map (·.length)).sum ≤ 215 * qs.length ∧ (PyData.shownAll (qs.map dq)).length = qs.length ∧ PyData.depthAll (qs.map dq) ≤ 3
  | [], _ => by simp [PyData.showableAll, PyData.shownAll, PyData.depthAll]
  | q :: qs, h => by
    obtain ⟨h1, h2, h3, h4⟩ := qs_show fun y hy => h y (List.mem_cons_of_mem _ hy)
    obtain ⟨l1, l2, l3⟩ := show_q (h q List.mem_cons_self)
    simp only [List.map_cons, PyData.showableAll, PyData.shownAll, PyData.depthAll, List.sum_cons, List.length_cons]
    refine ⟨by rw [h1, l1]; rfl, by omega, by rw [h3], by omega⟩
theorem show_qs {qs : List Rat} (few : qs.length ≤ 24) (h : ∀ q ∈ qs, ShQ q) : (PyData.tuple (qs.map dq)).showable = true ∧ (PyData.tuple (qs.map dq)).shown.length ≤ sizeLine ∧ (PyData.tuple (qs.map dq)).depth ≤ 60 := by
  obtain ⟨h1, h2, h3, h4⟩ := qs_show h
  refine ⟨by simp only [PyData.showable]; exact h1, ?_, by simp only [PyData.depth]; omega⟩
  simp only [PyData.shown]
  have a := tupleText_len_le (PyData.shownAll (qs.map dq))
  rw [h3] at a
  rw [sizeLine_eq]
  omega
theorem do_qs {K : PySem.W.Frag} {H : Hp} : ∀ {xs : List V} {qs : List Rat}, NumsQ H xs qs → DoAll K H xs (qs.map dq)
  | [], [], _ => .nil
  | [], q :: qs, h => by cases h.1
  | x :: xs, [], h => by cases h.1
  | x :: xs, q :: qs, h => .cons (do_q (h.2 0 x q rfl rfl)) (do_qs ⟨by have := h.1; simp at this; exact this, fun i y r e1 e2 => h.2 (i + 1) y r (by rw [List.getElem?_cons_succ]; exact e1) (by rw [List.getElem?_cons_succ]; exact e2)⟩)
theorem big_sh {q : Rat} (h : BigQ q) : ShQ q := by
  have e1 : (2 : Nat) ^ 50 < 2 ^ 100 := by decide
  have e2 : (2 : Nat) ^ 20 < 2 ^ 100 := by decide
  exact ⟨Nat.lt_of_le_of_lt h.1 e1, Nat.lt_of_le_of_lt h.2 e2⟩
/-- the value can be shown -/
theorem val_sh {M : MacQ} (ok : MOkQ M) {u : Wd} (h : ∀ c ∈ u, c ∈ M.cs) (b1 : M.t * (M.st.length * M.t) ^ u.length ≤ 2 ^ 50) (b2 : M.B * M.B ^ u.length ≤ 2 ^ 20) : ShQ (valM M u) := by
  obtain ⟨ys, h1, h2, h3⟩ := stW_ints ok u 0 (tops M.B M.st) M.st h (tops_len _ _) (fun x hx => by
    rw [Nat.pow_zero, Nat.mul_one]
    exact tops_abs ok.ist ok.B0 (Nat.dvd_refl _) (fun q hq => (ok.ist q hq).1) x hx) (by
    rw [Nat.pow_zero, Nat.mul_one]
    exact rats_tops ok.B0 fun q hq => (ok.ist q hq).1)
  rw [Nat.zero_add] at h2 h3
  have B0 := ok.B0
  have B9 := ok.B9
  have t9 := ok.t9
  have n24 := ok.n24
  have p0 := Nat.mul_pos B0 (Nat.pow_pos (n := u.length) B0)
  have pz : ((M.B * M.B ^ u.length : Nat) : Int) ≠ 0 := by omega
  have bz : ((M.B : Nat) : Int) ≠ 0 := by omega
  have hd : ∀ q ∈ M.en, q.den ∣ M.B := fun q hq => (ok.ien q hq).1
  have hv := dot_val pz bz ys (tops M.B M.en)
  rw [h3, rats_tops B0 hd] at hv
  have e : valM M u = Rat.divInt (dotI ys (tops M.B M.en)) (((M.B * M.B ^ u.length : Nat) : Int) * ((M.B : Nat) : Int)) := by
    rw [hv]
    rfl
  rw [e]
  obtain ⟨_, _, _, _, o5, o6⟩ := dvs_out (t := dotI ys (tops M.B M.en)) (Int.mul_ne_zero pz bz)
  have db := dot_bound (X := 2 ^ 50) (t := 1000) (fun x hx => Nat.le_trans (h2 x hx) b1) (fun y hy => Nat.le_trans (tops_abs ok.ien B0 (Nat.dvd_refl _) hd y hy) t9)
  have d2 : ys.length * (2 ^ 50 * 1000) ≤ 24 * (2 ^ 50 * 1000) := Nat.mul_le_mul_right _ (by omega)
  have d3 : 24 * (2 ^ 50 * 1000) < 2 ^ 100 := by decide
  have d4 : (M.B * M.B ^ u.length) * M.B ≤ 2 ^ 20 * 1000 := Nat.mul_le_mul b2 B9
  have d5 : 2 ^ 20 * 1000 < 2 ^ 100 := by decide
  refine ⟨by omega, Nat.lt_of_le_of_lt o6 ?_⟩
  rw [Int.natAbs_mul, Int.natAbs_natCast, Int.natAbs_natCast]
  omega
end K19.F

namespace K19.F
open PySem PySem.Spec PyProof.Rows L2 Ver Num SX
theorem plain_b50 {M : MacQ} {n : Nat} (n3 : n ≤ 3) (el : M.st.length = n) (eB : M.B = 6) (et : M.t = 24) (ew : M.w = 6) : (∀ j ≤ M.w, M.t * (M.st.length * M.t) ^ j ≤ 2 ^ 50) ∧ ∀ j ≤ M.w, M.B * M.B ^ j ≤ 2 ^ 20 := by
  refine ⟨fun j hj => ?_, fun j hj => ?_⟩
  · rw [et, el]
    rw [ew] at hj
    exact Nat.le_trans (Nat.mul_le_mul_left _ (Nat.le_trans (Nat.pow_le_pow_left (show n * 24 ≤ 72 by omega) j) (Nat.pow_le_pow_right (by decide) hj))) (by decide)
  · rw [eB]
    rw [ew] at hj
    exact Nat.le_trans (Nat.mul_le_mul_left _ (Nat.pow_le_pow_right (by decide) hj)) (by decide)
section
variable {P : Program} {w : World} {K : PySem.W.Frag} {mg : Str → Option Value} {base : Heap}
def spLaw (K : PySem.W.Frag) : Sp := fun vs H Q _ => ∃ (a : Addr) (ns : List Int), vs = [.ref a] ∧ SqL K H a (ns.map V.int) ∧ ns.length ≤ 63 ∧ ∀ H', Q (.bl true) H'
theorem ok_law (T : Tx K mg) : FnG P w K mg base CX0 12 (He.ga K "law") (spLaw K) := by
  refine mk_law T.d (fun vs H Q E h => ?_) (fun cdv A outer s H vs Q E hg hr h => ?_)
  · obtain ⟨a, ns, rfl, _⟩ := h
    rfl
  · obtain ⟨ad, ns, rfl, hs, hl, q⟩ := h
    have nd := sc_law.nd
    have zg := T.z "range" (by decide +kernel)
    have zl := T.z "len" (by decide +kernel)
    have bl : bootBuiltins "len" = some (.builtin "len") := by decide +kernel
    have zr := T.z "repr" (by decide +kernel)
    have br : bootBuiltins "repr" = some (.builtin "repr") := by decide +kernel
    have hu := hr.units
    have gdr := T.g "_law_draw" (by decide +kernel)
    have glt := T.g "_law_letters" (by decide +kernel)
    have gwd := T.g "_law_word" (by decide +kernel)
    have gmf := T.g "_law_made_of_fractions" (by decide +kernel)
    refine ⟨_, pss_cons (ps_set (i := 1) nd rfl (Or.inl rfl) (pe_callG (ok_pen T) (hr.mono (by decide)) hg (by rfl) (T.g "_law_pen" (by decide +kernel)) (kp__law_pen T.d) pass0 (pa_cons (pv 0) pa_nil)))
      (pss_cons (ps_for PassesOwn.never rfl (pi_range1 (by rfl) zg (pa_cons (pe_op op_add pe_int (pe_callB (call_min2 rfl) (by rfl) (T.z "min" (by decide +kernel)) (by decide +kernel) (pa_cons pe_int (pa_cons (pe_callB call_len_seq (by rfl) zl bl (pa_cons (pv 0) pa_nil)) pa_nil)))) pa_nil)) (pg_name (i := 2) nd rfl (.inl rfl))
        (pss_cons (ps_par (i := 3) (j := 4) rfl nd rfl rfl (by decide) rfl rfl (pa_cons (pe_callG (ok_letters T) (hr.mono (by decide)) hg (by rfl) glt (kp__law_letters T.d) pass0 (pa_cons (pv 1) (pa_cons pe_int pa_nil)))
            (pa_cons (pe_callG (ok_draw T) (hr.mono (by decide)) hg (by rfl) gdr (kp__law_draw T.d) pass0 (pa_cons (pv 1) (pa_cons pe_int pa_nil))) pa_nil)) rfl)
        (pss_cons (ps_set (i := 5) nd rfl (Or.inl rfl) (pe_callG (ok_plainF T) (hr.mono (by decide)) hg (by rfl) (T.g "_law_plain_fractions" (by decide +kernel)) (kp__law_plain_fractions T.d) pass0 (pa_cons (pv 1) (pa_cons (pv 3) (pa_cons (pv 4) pa_nil)))))
        (pss_cons (ps_set (i := 6) nd rfl (Or.inl rfl) (pe_callG (ok_lmadeF T) (hr.mono (by decide)) hg (by rfl) gmf (kp__law_made_of_fractions T.d) pass0 (pa_cons (pv 5) (pa_cons (pv 3) pa_nil))))
        (pss_cons (ps_for PassesOwn.never rfl (pi_range1 (by rfl) zg (pa_cons pe_int pa_nil)) (pg_name (i := 7) nd rfl (.inl rfl))
          (pss_cons (ps_set (i := 8) nd rfl (Or.inl rfl) (pe_callG (ok_word T) (hr.mono (by decide)) hg (by rfl) gwd (kp__law_word T.d) pass0 (pa_cons (pv 1) (pa_cons (pv 3) (pa_cons pe_int pa_nil)))))
          (pss_cons (ps_set (i := 9) nd rfl (Or.inl rfl) (pe_callG (ok_fstate T) (hr.mono (by decide)) hg (by rfl) (T.g "_law_fraction_state" (by decide +kernel)) (kp__law_fraction_state T.d) pass0 (pa_cons (pv 5) (pa_cons (pv 8) pa_nil))))
          (pss_cons (ps_if (pt_cmpR op_ne (pe_callB (call_reprO T.sm hg hu) (by rfl) zr br (pa_cons (pe_methG (pv 6) (kp_Machine_state_after T.d) (FnG.down (CX := CX0) (ok_st T)) (hr.mono (by decide)) hg pass0 (pa_cons (pv 8) pa_nil)) pa_nil))
              (pe_callB (call_reprO T.sm hg hu) (by rfl) zr br (pa_cons (pe_callTy call_tuple_of (by rfl) (T.z "tuple" (by decide +kernel)) (by decide +kernel) (pa_cons (pv 9) pa_nil)) pa_nil)) (nomark _)) pss_never pss_nil)
          (pss_one (ps_if (pt_cmpR op_ne (pe_callB (call_reprO T.sm hg hu) (by rfl) zr br (pa_cons (pe_methG (pv 6) (kp_Machine_value_of T.d) (FnG.down (CX := CX0) (ok_val T)) (hr.mono (by decide)) hg pass0 (pa_cons (pv 8) pa_nil)) pa_nil))
              (pe_callB (call_reprO T.sm hg hu) (by rfl) zr br (pa_cons (pe_callG (ok_dotted T) (hr.mono (by decide)) hg (by rfl) (T.g "_law_dotted" (by decide +kernel)) (kp__law_dotted T.d) pass0 (pa_cons (pv 9) (pa_cons (pe_ix ix_tup (pv 5) pe_int (fun _ _ => rfl)) pa_nil))) pa_nil)) (nomark _)) pss_never pss_nil))))))
        (pss_cons (ps_par (i := 10) (j := 11) rfl nd rfl rfl (by decide) rfl rfl (pa_cons (pe_callG (ok_whole T) (hr.mono (by decide)) hg (by rfl) (T.g "_law_whole" (by decide +kernel)) (kp__law_whole T.d) pass0 (pa_cons (pv 1) (pa_cons (pv 3) (pa_cons (pv 4) pa_nil))))
            (pa_cons (pe_callG (ok_lprime T) (hr.mono (by decide)) hg (by rfl) (T.g "_law_prime" (by decide +kernel)) (kp__law_prime T.d) pass0 (pa_cons (pv 1) pa_nil)) pa_nil)) rfl)
        (pss_cons (ps_set (i := 6) nd rfl (Or.inl rfl) (pe_callG (ok_lmadeF T) (hr.mono (by decide)) hg (by rfl) gmf (kp__law_made_of_fractions T.d) pass0 (pa_cons (pv 10) (pa_cons (pv 3) pa_nil))))
        (pss_cons (ps_set (i := 12) nd rfl (Or.inl rfl) (pe_callG (ok_lmadeP T) (hr.mono (by decide)) hg (by rfl) (T.g "_law_made" (by decide +kernel)) (kp__law_made T.d) pass0 (pa_cons (pe_callG (ok_rem T) (hr.mono (by decide)) hg (by rfl) (T.g "_law_remainders" (by decide +kernel)) (kp__law_remainders T.d) pass0 (pa_cons (pv 10) (pa_cons (pv 11) pa_nil))) (pa_cons (pv 11) (pa_cons (pv 3) pa_nil)))))
        (pss_one (ps_for PassesOwn.never rfl (pi_range1 (by rfl) zg (pa_cons pe_int pa_nil)) (pg_name (i := 7) nd rfl (.inl rfl))
          (pss_cons (ps_set (i := 8) nd rfl (Or.inl rfl) (pe_callG (ok_word T) (hr.mono (by decide)) hg (by rfl) gwd (kp__law_word T.d) pass0 (pa_cons (pv 1) (pa_cons (pv 3) (pa_cons pe_int pa_nil)))))
          (pss_cons (ps_set (i := 13) nd rfl (Or.inl rfl) (pe_methG (pv 6) (kp_Machine_value_of T.d) (FnG.down (CX := CX0) (ok_val T)) (hr.mono (by decide)) hg pass0 (pa_cons (pv 8) pa_nil)))
          (pss_one (ps_if (PW.pt (pw_or (pt_not (pt_val (pe_callB call_isi (by rfl) (T.z "isinstance" (by decide +kernel)) (by decide +kernel) (pa_cons (pv 13) (pa_cons (pe_bltn (v := .ty "int") (by rfl) (T.z "int" (by decide +kernel)) (by decide +kernel) rfl) pa_nil)))))
              (pw_or1 (pt_cmpR op_ne (pe_op op_mod (pe_callTy call_int1 (by rfl) (T.z "int" (by decide +kernel)) (by decide +kernel) (pa_cons (pv 13) pa_nil)) (pv 11))
                (pe_methG (pv 12) (kp_Machine_value_of T.d) (FnG.down (CX := CX0) (K19.ok_val T)) (hr.mono (by decide)) hg pass0 (pa_cons (pv 8) pa_nil)) (nomark _))))) pss_never pss_nil))))))))))))))
      (pss_one (ps_ret pe_bl))), ?_⟩
    refine ⟨_, rfl, ad, ns, rfl, hs, hl, fun d H1 s1 hd pen1 => ?_⟩
    have hs1 := s1.seq hs
    refine ⟨_, rfl, ad, _, rfl, .inl hs1, _, _, rfl, _, _, rfl, rfl, _, rfl, ?_⟩
    obtain ⟨n, hn, ln⟩ : ∃ n : Nat, (4 + if (((ns.map V.int).length : Nat) : Int) < 4 then (((ns.map V.int).length : Nat) : Int) else 4) = (n : Int) ∧ n ≤ 8 := by
      split
      · exact ⟨4 + (ns.map V.int).length, by omega, by omega⟩
      · exact ⟨8, rfl, by omega⟩
    rw [hn]
    refine ⟨by omega, by omega, ?_⟩
    refine for_range (lo := 0) (n := n) (fun i σ H' => ∃ v2 v3 v4 v5 v6 v7 v8 v9 v10 v11 v12 v13 : Option V, PenAt H' d (5000 * (i : Int)) ∧ σ = [some (.ref ad), some (.ref d), v2, v3, v4, v5, v6, v7, v8, v9, v10, v11, v12, v13]) ⟨_, _, _, _, _, _, _, _, _, _, _, _, pen1.mono (by omega), rfl⟩ ?_ ?_
    · rintro i σ H0 hi ⟨v2, v3, v4, v5, v6, v7, v8, v9, v10, v11, v12, v13, pen0, rfl⟩
      refine ⟨_, rfl, d, _, rfl, pen0, by omega, fun cs H2 co bt2 pen2 => ⟨_, rfl, d, _, 4, rfl, pen2, by omega, by decide, by decide, fun z H3 bt3 pen3 z0 z4 => ?_⟩⟩
      obtain ⟨n, rfl⟩ : ∃ n : Nat, z = (n : Int) := ⟨z.toNat, by omega⟩
      have c1 := co.pos
      have c4 := co.few
      refine ⟨_, _, rfl, ?_⟩
      refine ⟨_, rfl, _, rfl, _, rfl, d, _, cs, n, rfl, pen3, by omega, co, by omega, fun t M H4 ecs el eB et ew ok pl bt4 pen4 => ?_⟩
      subst ecs
      refine ⟨_, rfl, _, rfl, t, M, rfl, pl, ok, fun m H5 s5 my => ?_⟩
      have pen5 := pen4.same s5
      obtain ⟨b50, b20⟩ := plain_b50 (by omega) el eB et ew
      refine ⟨_, rfl, by decide, by decide, ?_⟩
      refine for_range (lo := 0) (n := 4) (fun j σ H' => ∃ v7 v8 v9 : Option V, PenAt H' d (5000 * (i : Int) + 1100 + 10 * (j : Int)) ∧ PlainF H' t M ∧ MachF K H' m M ∧
        σ = [some (.ref ad), some (.ref d), some (.int (0 + (i : Int))), some (.str (S M.cs)), some (.int (n : Int)), some (.ref t), some (.ref m), v7, v8, v9, v10, v11, v12, v13]) ⟨_, _, _, pen5.mono (by omega), pl.same s5, my.at_, rfl⟩ ?_ ?_
      · rintro j σ J0 hj ⟨v7, v8, v9, pn0, pl0, mf0, rfl⟩
        have hj4 : j < 4 := hj
        refine ⟨_, rfl, _, rfl, d, _, M.cs, 6, rfl, pn0, by omega, by omega, by omega, by omega, fun u J1 hu0 u6 bt1 pn1 => ?_⟩
        have pl1 := pl0.but pn0 bt1
        have mf1 := mf0.but pn0 bt1
        have uw : u.length ≤ M.w := by omega
        refine ⟨_, rfl, _, rfl, t, M, u, rfl, pl1, ok, hu0, uw, b50, b20, fun l zs J2 s2 hl2 nz => ?_⟩
        obtain ⟨sl, sb⟩ := stM_big ok hu0 (b50 _ uw) (b20 _ uw)
        obtain ⟨to1, to2, to3⟩ := show_qs (by have := ok.n24; omega) (fun q hq => big_sh (sb q hq))
        have mf2 := mf1.same s2
        refine go_M (T := T) rfl mf2 (by decide +kernel) ⟨_, rfl, m, M, u, rfl, mf2, uw, by omega, hu0, fun t3 zs3 J3 s3 ht3 nz3 => ?_⟩
        refine ⟨_, _, rfl, .tup (SqT.of ht3) (do_qs nz3), to1, to2, to3, _, rfl, l, zs, rfl, .inl ⟨SqL.of (s3 _ _ hl2), fun t4 nt4 => ?_⟩⟩
        have s4 := same_up (o := .tup zs) nt4
        refine ⟨_, _, rfl, .tup (SqT.of upd_same) (do_qs (nz.same (s3.trans s4))), to1, to2, to3, rfl, _, rfl, ?_⟩
        rw [sEq]
        refine ifF (by rw [decide_eq_true rfl]; rfl) ?_
        have s24 := s3.trans s4
        have mf4 := mf2.same s24
        obtain ⟨vo1, vo2, vo3⟩ := show_q (val_sh ok hu0 (b50 _ uw) (b20 _ uw))
        refine go_M (T := T) rfl mf4 (by decide +kernel) ⟨_, rfl, m, M, u, rfl, mf4, uw, by omega, hu0, fun x5 J5 s5' nx5 => ?_⟩
        refine ⟨_, _, rfl, do_q nx5, vo1, Nat.le_trans vo2 (by rw [sizeLine_eq]; decide), Nat.le_trans vo3 (by decide), _, rfl, _, rfl, ?_⟩
        have s25 := s24.trans s5'
        obtain ⟨a, Tb, b, ht, pt⟩ := pl1.same (s2.trans s25)
        have n24 := ok.n24
        have en := ok.en
        refine ⟨t, _, 2, .ref b, rfl, rfl, .inl (.inl ht), rfl, l, b, zs, M.ven, stM M u, M.en, M.st.length, rfl, SqL.of (s25 _ _ hl2), SqL.of pt.b, nz.same s25, pt.n.en, sl, en, n24, sb, fun q hq => ?_, fun x6 J6 s6' nx6 => ?_⟩
        · have sm := ok.sm q (ok.ien q hq)
          exact ⟨sm.2, Nat.le_trans (Nat.le_of_dvd ok.B0 sm.1) ok.B9⟩
        · refine ⟨_, _, rfl, do_q nx6, vo1, Nat.le_trans vo2 (by rw [sizeLine_eq]; decide), Nat.le_trans vo3 (by decide), rfl, _, rfl, ?_⟩
          rw [sEq]
          refine ifF (by rw [show dotQ (stM M u) M.en = valM M u from rfl, decide_eq_true rfl]; rfl) ?_
          have sA := (s2.trans s25).trans s6'
          exact ⟨_, _, _, (pn1.same sA).mono (by omega), pl1.same sA, mf1.same sA, rfl⟩
      · rintro σ J ⟨v7, v8, v9, pn, _, _, rfl⟩
        have pn' : PenAt J d (5000 * (i : Int) + 1200) := pn.mono (by omega)
        refine ⟨_, rfl, _, rfl, _, rfl, d, _, M.cs, n, rfl, pn', by omega, co, by omega, fun t2 M2 J1 ecs2 el2 eB2 et2 ew2 ok2 pl2 bt1 pn1 => ?_⟩
        refine ⟨_, rfl, d, _, rfl, pn1, by omega, fun p J2 pm bt2 pn2 => ?_⟩
        have pl3 := pl2.but pn1 bt2
        refine ⟨_, _, rfl, ?_⟩
        refine ⟨_, rfl, _, rfl, t2, M2, by rw [ecs2], pl3, ok2, fun m2 J3 s3 my2 => ?_⟩
        obtain ⟨a, Tb, b, ht, pt⟩ := plain_ints ok2 eB2 (pl3.same s3)
        have lo := pm.md.lo
        have zo : ZOk M2.st.length (zM M2) := ⟨ok2.cs, ok2.n24, List.length_map .., by show (numsZ M2.en).length = _; unfold numsZ; rw [List.length_map]; exact ok2.en, fun c hc => ⟨by show ((M2.tb c).map numsZ).length = _; rw [List.length_map]; exact (ok2.sq c hc).l, fun r hr => by
          obtain ⟨r0, h0, rfl⟩ := List.mem_map.mp hr
          unfold numsZ
          rw [List.length_map]
          exact (ok2.sq c hc).r r0 h0⟩⟩
        refine ⟨_, rfl, _, rfl, t2, a, Tb, b, p, _, zM M2, rfl, ht, pt, zo, by omega, fun t' a' T' b' J4 s4 ht' pt' => ?_⟩
        have okP := modM_ok ok2 pm
        refine ⟨_, rfl, _, rfl, t', a', T', b', modM p (zM M2), by rw [show (modM p (zM M2)).cs = M.cs from ecs2]; rfl, ht', pt', okP, fun m3 J5 s5' ma => ?_⟩
        have mf5 := (my2.at_.same s4).same s5'
        have pn5 := ((pn2.same s3).same s4).same s5'
        refine ⟨_, rfl, by decide, by decide, ?_⟩
        refine for_range (lo := 0) (n := 3) (fun j σ H' => ∃ v7 v8 v13 : Option V, PenAt H' d (5000 * (i : Int) + 2300 + 20 * (j : Int)) ∧ MachF K H' m2 M2 ∧ MachAt K H' m3 (modM p (zM M2)) ∧
          σ = [some (.ref ad), some (.ref d), some (.int (0 + (i : Int))), some (.str (S M.cs)), some (.int (n : Int)), some (.ref t), some (.ref m2), v7, v8, v9, some (.ref t2), some (.int p), some (.ref m3), v13]) ⟨_, _, _, pn5.mono (by omega), mf5, ma, rfl⟩ ?_ ?_
        · rintro j σ L0 hj ⟨v7, v8, v13, q0, mf0, ma0, rfl⟩
          have hj4 : j < 3 := hj
          refine ⟨_, rfl, _, rfl, d, _, M.cs, 12, rfl, q0, by omega, by omega, by omega, by omega, fun u L1 hu0 u12 bt1 q1 => ?_⟩
          have mf1 := mf0.but q0 bt1
          have ma1 := MachAt.but ma0 q0 bt1
          have hu2 : ∀ c ∈ u, c ∈ M2.cs := fun c hc => by rw [ecs2]; exact hu0 c hc
          have uw : u.length ≤ M2.w := by omega
          refine go_M (T := T) rfl mf1 (by decide +kernel) ⟨_, rfl, m2, M2, u, rfl, mf1, uw, by omega, hu2, fun x L2 s2 nx => ?_⟩
          rw [valZ ok2 eB2 hu2] at nx
          obtain rfl := numQ_one nx
          refine ⟨_, rfl, _, _, _, _, true, rfl, .ty "int", .base (.int _), kit_ty (by decide +kernel), _, rfl, ifF rfl ?_⟩
          have ma2 := ma1.same s2
          have p0 : 0 < p := by omega
          refine ⟨_, rfl, .inl ⟨_, rfl, _, rfl, _, _, rfl, rfl, p0, ?_⟩⟩
          refine K19.go_M (T := T) rfl ma2 (by decide +kernel) ⟨_, rfl, m3, modM p (zM M2), vS u, .str (S u), rfl, ma2, .str _, sm_str (by omega), fun u' e l o L3 s3' => ?_, fun nw => ?_⟩
          · obtain rfl : u = u' := S_inj (PyData.str.inj e)
            refine ⟨rfl, _, rfl, ?_⟩
            rw [iEq, valP, decide_eq_true rfl]
            refine ifF rfl ?_
            have sA := s2.trans s3'
            exact ⟨_, _, _, (q1.same sA).mono (by omega), mf1.same sA, ma1.same sA, rfl⟩
          · rw [isW_of (by omega) (by show ∀ c ∈ u, c ∈ M2.cs; exact hu2)] at nw
            cases nw
        · rintro σ L0 ⟨v7, v8, v13, q0, _, _, rfl⟩
          exact ⟨_, _, _, _, _, _, _, _, _, _, _, _, q0.mono (by omega), rfl⟩
    · rintro σ H' ⟨v2, v3, v4, v5, v6, v7, v8, v9, v10, v11, v12, v13, _, rfl⟩
      exact q _
end
end K19.F

namespace K19
open PySem PySem.Spec PyProof.Rows L2 Ver Num
theorem all_cons_ok {b : Bool} {l : List Bool} (h : (b :: l).all id = true) : b = true ∧ l.all id = true := He.ba h
theorem fc_of {K : PySem.W.Frag} {x : Str} (e : (xc K x).all id = true) : FC K (He.ga K x) ∧ MC K (He.ga K x) := by
  obtain ⟨a1, e⟩ := all_cons_ok e
  obtain ⟨a2, e⟩ := all_cons_ok e
  obtain ⟨a3, e⟩ := all_cons_ok e
  obtain ⟨a4, e⟩ := all_cons_ok e
  obtain ⟨a5, e⟩ := all_cons_ok e
  obtain ⟨a6, e⟩ := all_cons_ok e
  obtain ⟨a7, e⟩ := all_cons_ok e
  exact ⟨⟨He.cls_ok a1, He.noat_ok a2, fun m hm => by
    obtain ⟨h1, h2⟩ := He.ba (List.all_eq_true.mp a3 m hm)
    obtain ⟨h2, h3⟩ := He.ba h2
    exact ⟨He.eqO_ok h1, h2, h3⟩⟩, ⟨He.mkr_ok a4, of_decide_eq_true a5, He.eqO_ok a6, of_decide_eq_true a7⟩⟩
theorem ec_of {K : PySem.W.Frag} {x f : Str} (e : (xe K x f).all id = true) (hn : PySem.W.specialIn K (.builtin "object.__class__") "__get__" = some (some (.builtin "getset_descriptor.__get__"))) (ht : PySem.W.takesIn K (.builtin "object.__class__") = some true) : EC K (He.ga K x) f := by
  obtain ⟨a1, e⟩ := all_cons_ok e
  obtain ⟨a2, e⟩ := all_cons_ok e
  obtain ⟨a3, e⟩ := all_cons_ok e
  obtain ⟨a4, e⟩ := all_cons_ok e
  obtain ⟨a5, e⟩ := all_cons_ok e
  obtain ⟨a6, e⟩ := all_cons_ok e
  obtain ⟨a7, e⟩ := all_cons_ok e
  obtain ⟨a8, e⟩ := all_cons_ok e
  obtain ⟨a9, e⟩ := all_cons_ok e
  obtain ⟨a10, e⟩ := all_cons_ok e
  obtain ⟨a11, e⟩ := all_cons_ok e
  obtain ⟨a12, e⟩ := all_cons_ok e
  obtain ⟨a13, e⟩ := all_cons_ok e
  obtain ⟨a14, e⟩ := all_cons_ok e
  obtain ⟨a15, e⟩ := all_cons_ok e
  exact ⟨⟨oexB_ok a1, He.eqO_ok a2, of_decide_eq_true a3, of_decide_eq_true a4, a5⟩, He.eqO_ok a6, He.eqO_ok a7, of_decide_eq_true a8, ⟨He.eqO_ok a9, He.eqO_ok a10, of_decide_eq_true a3, a11⟩,
    ⟨He.eqO_ok a9, He.eqO_ok a10, of_decide_eq_true a3, a11, He.eqO_ok a12, hn, ht, of_decide_eq_true a13⟩, of_decide_eq_true a14, of_decide_eq_true a15⟩
theorem mac_of {K : PySem.W.Frag} (e : (xm K).all id = true) : MacC K := by
  obtain ⟨a1, e⟩ := all_cons_ok e
  obtain ⟨a2, e⟩ := all_cons_ok e
  obtain ⟨a3, e⟩ := all_cons_ok e
  obtain ⟨a4, e⟩ := all_cons_ok e
  obtain ⟨a5, e⟩ := all_cons_ok e
  obtain ⟨a6, e⟩ := all_cons_ok e
  obtain ⟨a7, e⟩ := all_cons_ok e
  have me : ∀ m ∈ mms, Meth K (MA K) m (He.ma K (MA K) m) := fun m hm => by
    obtain ⟨h1, h2⟩ := He.ba (List.all_eq_true.mp a3 m hm)
    obtain ⟨h2, h3⟩ := He.ba h2
    exact ⟨He.eqO_ok h1, h2, h3⟩
  exact
    { cl := He.cls_ok a1
      na := fun f hf => He.noat_ok (List.all_eq_true.mp a2 f hf)
      me := me
      mkr := He.mkr_ok a4
      bm := ⟨me _ (by decide +kernel), He.eqO_ok a5, of_decide_eq_true a6, by decide +kernel, a7⟩ }
theorem tx_of {K : PySem.W.Frag} {h : Heap} {mg : Str → Option Value} (X : K.In h) (G : h.Ns mainGlobals mg) (c : He.SaysD fa fn K) (e : ex K = true) : Tx K mg := by
  obtain ⟨e1, e⟩ := He.ba e
  obtain ⟨e0, e⟩ := He.ba e
  obtain ⟨e2, e⟩ := He.ba e
  obtain ⟨e3, e⟩ := He.ba e
  obtain ⟨e4, e5⟩ := He.ba e
  obtain ⟨a1, e1⟩ := all_cons_ok e1
  obtain ⟨a2, e1⟩ := all_cons_ok e1
  obtain ⟨a3, e1⟩ := all_cons_ok e1
  obtain ⟨a4, e1⟩ := all_cons_ok e1
  obtain ⟨a5, e1⟩ := all_cons_ok e1
  obtain ⟨a6, e1⟩ := all_cons_ok e1
  obtain ⟨a7, e1⟩ := all_cons_ok e1
  obtain ⟨a8, e1⟩ := all_cons_ok e1
  obtain ⟨a9, e1⟩ := all_cons_ok e1
  obtain ⟨a10, e1⟩ := all_cons_ok e1
  obtain ⟨f1, f2⟩ := fc_of e0
  obtain ⟨m1, m2⟩ := fc_of e2
  obtain ⟨c1, e3⟩ := all_cons_ok e3
  obtain ⟨c2, e3⟩ := all_cons_ok e3
  obtain ⟨c3, e3⟩ := all_cons_ok e3
  obtain ⟨c4, e3⟩ := all_cons_ok e3
  obtain ⟨c5, e3⟩ := all_cons_ok e3
  obtain ⟨c6, e3⟩ := all_cons_ok e3
  exact
    { d := c
      g := fun x hx => He.glo_ok X G (He.SaysD.facts c (List.mem_append_left _ (List.mem_map_of_mem hx)))
      z := fun x hx => He.free_ok X G (He.SaysD.facts c (List.mem_append_right _ (List.mem_map_of_mem hx)))
      ml := He.int_ok X G a1
      lw := He.int_ok X G a2
      ms := He.int_ok X G a3
      fl := He.int_ok X G a4
      gp := He.int_ok X G a5
      gcd := PySem.W.mg_of X G (He.eqO_ok a6)
      lcm := PySem.W.mg_of X G (He.eqO_ok a7)
      isq := PySem.W.mg_of X G (He.eqO_ok a8)
      fcM := m1
      mM := m2
      fcF := f1
      mF := f2
      rdF := c1
      gaF := He.eqO_ok c2
      fiF := fcls_ok c3
      clS := He.eqO_ok c4
      clT := of_decide_eq_true c5
      sm := smTB_ok a9
      eW := ec_of e4 (He.eqO_ok c4) (of_decide_eq_true c5)
      vV := vvB_ok c6
      nW := of_decide_eq_true a10
      o := mac_of e5 }
end K19
open PySem PySem.W PySem.Calls PyProof.Rows
theorem PySem.Challenge.cw_firstanswers_k19_values_of_fractions_holds : PySem.Challenge.rw_firstanswers_k19_values_of_fractions.Holds := by
  w_on; o_law
  refine HandSHeadRun.head_imp (r := K19.R) (q := K19.qv) (H := K19.hook) (ob := K19.ob) (M := 8000) (loose := K19.lo) (d := HandSHeadRun.topDef K19.R.prog 73) (kwd := []) K19.ob_eq K19.run
    (by kernel_rfl) (by kernel_rfl) (by kernel_rfl) (by rfl) (by first | assumption | decide +kernel) (by decide +kernel) ⟨rfl, rfl, rfl, rfl, rfl, by decide +kernel⟩ ?hw ?hc
  case hw => w_witness2
  case hc =>
    refine Ver.walkG (l := PySem.Challenge.rw_firstanswers_k19_values_of_fractions) (n := 63) (k := 12) rfl (by decide) (by kernel_rfl) ⟨rfl, by decide, by decide⟩ ?F
    intro w mg fa h Y G hmg0
    obtain ⟨K, KX, c, e⟩ := Y
    have hmg : mg ("law" : PySem.Str) = some (.ref fa) := by
      have q : (HandSHeadRun.topDef K19.R.prog 73).name = ("law" : PySem.Str) := by kernel_rfl
      rw [← q]
      exact hmg0
    have T := K19.tx_of KX G c e
    have ef := hmg.symm.trans (T.g "law" (by decide +kernel))
    cases ef
    exact ⟨K, K19.F.spLaw K, KX, fun H a ns hl _ hS => ⟨a, ns, rfl, hS, hl, fun _ => rfl⟩, fun base h1 h2 => K19.F.ok_law T⟩
