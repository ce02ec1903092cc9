import PyProof.Rows.All
import Wide.All
import OpenK.AllK
import Wide.FinOn
import PySem.Challenge.RW_firstanswers_k84_whole_texts_of_orders
import HandS.Base
import HandS.Call
import HandS.List
import HandS.Ends
import HandS.Dict
import HandS.More
import HandS.Defaults
import HandS.Words
import HandS.Star
import PyProof.ReprRoads
import HandS.Nested
import HandS.ExcOwn
import HandS.TryMany
import HandS.EndTab
import HandS.HeadHook1
import HandS.HeadHook2
import HandS.Wide
import HandS.Gcd
import HandS.IsInst
import HandS.Exc
import HandS.ExcInit
import HandS.WordsExc
import KE.KExcInit
import HandS.TryOnly
import PyProof.InstEq
import PyProof.StrOps2
import HandS.Deep
import HandS.SlotsOwn
import HandS.ExcIs
import HandS.ExcField
import KE.KExcIs
import HandS.Property
import PyProof.EqKinds
import PyProof.SumWalkG
import PyProof.WalksMore
import HandS.WordsList
import HandS.SetTxt0
import HandS.SetFor
import PyProof.StrWalks
import PyProof.DictUpdate
import PyProof.Ns1
import KE.KStar
import HandS.MakeKw
import HandS.ClsMeth
import HandS.MethStar
import HandS.TupSets
import HandS.SetBool
import KE.KSortTupG
import HandS.FStr
import HandS.Text
import HandS.HeadHook4
import HandS.HeadNt
import HandS.Iter
import HandS.Head0
import HandS.Head1
import HandS.Head2
import HandS.Head3
import HandS.Comp
import KE.DataEq
import HandS.ListItems
import HandS.Conv
import PyProof.Rows.SortShellAny
import HandS.Codes
import PyProof.Rows.SortStr
import HandS.Walk
import HandS.SortKw
import HandS.StrMore
import HandS.DictComp
import HandS.Style
set_option Elab.async false
set_option linter.all false
set_option maxRecDepth 100000
set_option maxHeartbeats 0
/-! Defs that show data (repr): their promise wants that no show is under way around them. -/
namespace Ver
open PySem PySem.Spec PyProof.Rows L2
/-- a promise for callers around whom nothing is being shown -/
def FnG (P : Program) (w : World) (K : PySem.W.Frag) (mg : Str → Option Value) (base : Heap) (CX : CXT) (k : Nat) (f : Addr) (sp : Sp) : Prop :=
  ∀ (A : Around) (outer : List Env) (s : Shared) (H : Hp) (us : List Value) (vs : List V) (Q : VK) (E : XK), A.guards = some [] → Room k A →
    Env0 P w K mg base A outer s H → Vals vs us → sp vs H Q E → codeAny (model P w) A (.call (.ref f) ⟨us, []⟩) (CR CX outer P w H s Q E) s
section
variable {P : Program} {w : World} {K : PySem.W.Frag} {mg : Str → Option Value} {base : Heap} {CX : CXT} {k : Nat} {f : Addr} {fd : FuncData} {sp : Sp}
variable {x qual : Str} {params : Arguments} {body : List Stmt} {scope : Scope} {N ps : List Str} {kws : List (Str × V)}
theorem FnG.ofR (F : FnR P w K mg base CX k f sp) : FnG P w K mg base CX k f sp := fun A outer s H us vs Q E _ hr e0 r h => F A outer s H us vs Q E hr e0 r h
theorem FnG.mono {j : Nat} (F : FnG P w K mg base CX j f sp) (h : j ≤ k) : FnG P w K mg base CX k f sp := fun A outer s H us vs Q E g hr e0 r q => F A outer s H us vs Q E g (hr.mono h) e0 r q
/-- the rule for such a def, its body as a term -/
theorem okG (F : FunD K x qual params body scope [] kws f fd) (S : FnScope N ps scope)
    (hb : ∀ (s : Shared) (us : List Value), us.length = ps.length → BindsTo s fd ⟨us, []⟩ (ps.zip us)) (len : ∀ vs H Q E, sp vs H Q E → vs.length = ps.length)
    (hbody : ∀ (cdv : Value) (A : Around) (outer : List Env) (s : Shared) (H : Hp) (vs : List V) (Q : VK) (E : XK), A.guards = some [] → Room k (A.deeper (envOfC qual scope s.heap.objs.size f cdv)) → sp vs H Q E →
      ∃ t, PSs (cxOf CX P w K mg base N qual scope f cdv A outer s H E) body t ∧ t { nx := fun _ H' => Q .non H', rt := Q } (start N vs) H) : FnG P w K mg base CX (k + 1) f sp := by
  obtain ⟨⟨oc, od, dV, kV, doc, pm, an, cdv, ct, osl, rfl, lk, hcd, _⟩, _⟩ := F
  intro A outer s H us vs Q E hg hr e0 r hsp
  have hl := len _ _ _ _ hsp
  refine StX.run_bnd (G := fun xs H2 => xs = vs ∧ H2 = H) lk hcd S hr e0 (fun A' Ex Q' q => ?_) fun s2 H2 xs g hr' => ?_
  · exact hb s us (by rw [← r.length]; exact hl) _ A' Ex Q' (q s H vs us e0 Un.refl rfl (fun _ _ z => z) r hl ⟨rfl, rfl⟩)
  · obtain ⟨rfl, rfl⟩ := g
    exact hbody cdv A outer s2 H2 xs Q E hg hr' hsp
end
section
variable {X : Cx} {CX : CXT} {k : Nat} {f : Addr} {sp : Sp} {E : XK} {x : Str} {p pos : Pos} {e : Expr} {es : List Expr} {t : TA}
/-- f(e, ..) -/
theorem pe_callG (F : FnG X.prog X.w X.K X.mg X.base CX k f sp) (hr : Room k X.A) (hgd : X.A.guards = some []) (hg : Gl X x) (hm : X.mg x = some (.ref f)) (hk : PySem.W.keepIn X.K (.ref f) = true) (hx : Passes CX X E)
    (ha : PA X (e :: es) t) (hdb : (x == ("__debug__" : Str)) = false := by decide) (he : starEach (e :: es) X.env = (false, eval e X.env) :: starEach es X.env := by rfl)
    (hpl : (backTo pos (starEach es X.env)).any (·.1) = false := by rfl) : PE X (.Call (.Name x p) (e :: es) [] pos) (fun σ H Q => t σ H fun vs H1 => sp vs H1 Q E) := by
  refine ⟨fun pins s σ H Q I h => wpAny_Call_Name_kw (ld_glob I hg hm (PySem.W.callWith_K (h₀ := X.base) I.ok.mod.kin hk (thn (ha.run pos pins s σ H _ I h) fun us s1 z => ?_) he hpl) hdb)⟩
  obtain ⟨vs, H1, I1, r, q⟩ := z
  refine ⟨I1.kIn, wpAny_call (codeAny_mono (F X.A X.stack s1 H1 us vs Q E hgd hr I1.env0 r q) fun rs s' hq => ?_)⟩
  match rs, hq with
  | .error e', hq => exact hx pins σ H1 s1 e' s' I1 hq
  | .ok (.ret u), hq => exact I1.after hq
  | .ok .next, hq => exact hq.elim
  | .ok .brk, hq => exact hq.elim
  | .ok .cont, hq => exact hq.elim
end
/-- the same rule for a def that lets no exception out -/
theorem ok0 {P : Program} {w : World} {K : PySem.W.Frag} {mg : Str → Option Value} {base : Heap} {k : Nat} {f : Addr} {fd : FuncData} {sp : Sp} {x qual : Str} {params : Arguments} {body : List Stmt} {scope : Scope} {N ps : List Str} {kws : List (Str × V)}
    (F : FunD K x qual params body scope [] kws f fd) (S : FnScope N ps scope)
    (hb : ∀ (s : Shared) (us : List Value), us.length = ps.length → BindsTo s fd ⟨us, []⟩ (ps.zip us)) (len : ∀ vs H Q E, sp vs H Q E → vs.length = ps.length)
    (hbody : ∀ (cdv : Value) (A : Around) (outer : List Env) (s : Shared) (H : Hp) (vs : List V) (Q : VK) (E : XK), A.guards = some [] → Room k (A.deeper (envOfC qual scope s.heap.objs.size f cdv)) → sp vs H Q E →
      ∃ t, PSs (cxOf CX0 P w K mg base N qual scope f cdv A outer s H E).nox body t ∧ t { nx := fun _ H' => Q .non H', rt := Q } (start N vs) H) : FnG P w K mg base CX0 (k + 1) f sp :=
  okG F S hb len fun cdv A outer s H vs Q E hg hr h => by
    obtain ⟨t, ht, q⟩ := hbody cdv A outer s H vs Q E hg hr h
    exact ⟨t, ht.nox, q⟩
section
variable {X : Cx} {CX : CXT} {k : Nat} {f C : Addr} {sp : Sp} {E : XK} {x m : Str} {p pos apos : Pos} {e o : Expr} {es : List Expr} {t : TA} {ta : TE} {pins : List (Addr × Obj)} {σ : L2.St} {H : Hp} {s : Shared} {Q : VK} {us : List Value} {vs : List V}
/-- the callee's run, seen by the caller -/
theorem runG (F : FnG X.prog X.w X.K X.mg X.base CX k f sp) (hr : Room k X.A) (hgd : X.A.guards = some []) (hx : Passes CX X E) (I : Inv X pins σ H s) (r : Vals vs us) (h : sp vs H Q E) :
    wpAny (model X.prog X.w) X.A (call (.ref f) us) (EP X pins σ Q) X.xe s :=
  wpAny_call (codeAny_mono (F X.A X.stack s H us vs Q E hgd hr I.env0 r h) fun rs s' hq => by
    match rs, hq with
    | .error e', hq => exact hx pins σ H s e' s' I hq
    | .ok (.ret u), hq => exact I.after hq
    | .ok .next, hq => exact hq.elim
    | .ok .brk, hq => exact hq.elim
    | .ok .cont, hq => exact hq.elim)
/-- f() -/
theorem pe_callG0 (F : FnG X.prog X.w X.K X.mg X.base CX k f sp) (hr : Room k X.A) (hgd : X.A.guards = some []) (hg : Gl X x) (hm : X.mg x = some (.ref f)) (hk : PySem.W.keepIn X.K (.ref f) = true) (hx : Passes CX X E)
    (hdb : (x == ("__debug__" : Str)) = false := by decide) : PE X (.Call (.Name x p) [] [] pos) (fun _ H Q => sp [] H Q E) :=
  ⟨fun pins s σ H Q I h => wpAny_Call_Name_kw (ld_glob I hg hm (PySem.W.callWith_K0 I.kIn hk (runG (us := []) F hr hgd hx I .nil h)) hdb)⟩
/-- o.m(e, ..) of an instance of the class at C or of any class that has the method at f -/
def tMethG (K : PySem.W.Frag) (m : Str) (f : Addr) (sp : Sp) (E : XK) (ta : TE) (t : TA) : TE := fun σ H Q => ta σ H fun x H1 => ∃ a C dx fs, x = .ref a ∧ H1 a = some (.ins C dx fs) ∧ Cls K C ∧ Meth K C m f ∧ fs.lookup m = none ∧
  t σ H1 fun vs H2 => sp (.ref a :: vs) H2 Q E
theorem pe_methG {pl : Sem Bool} (he : PE X o ta) (hk : PySem.W.keepIn X.K (.ref f) = true) (F : FnG X.prog X.w X.K X.mg X.base CX k f sp) (hr : Room k X.A) (hgd : X.A.guards = some []) (hx : Passes CX X E) (ha : PA X (e :: es) t)
    (hst : starEach (e :: es) X.env = (false, eval e X.env) :: starEach es X.env := by rfl) (hpl : (backTo pos (starEach es X.env)).any (·.1) = false := by rfl)
    (ht : eval (.Call (.Attribute o m apos) (e :: es) [] pos) X.env = (do
      let ov ← eval o X.env
      standAt apos.atName
      let (g, first) ← holding [ov] (getMethod ov m pl)
      callWith pos g first (backTo pos (starEach (e :: es) X.env)) (backToKw pos (keywordEach [] X.env))) := by rfl) :
    PE X (.Call (.Attribute o m apos) (e :: es) [] pos) (tMethG X.K m f sp E ta t) := by
  refine ⟨fun pins s σ H Q I h => PySem.W.methodCall_KW (pl := pl) (thn (he.run pins s σ H _ I h) fun u s1 z => ?_) ht⟩
  obtain ⟨x, H1, I1, rx, a, C, dx, fs, rfl, ea, c, hm, l, q⟩ := z
  cases (show u = Value.ref a from rx)
  refine getmeth_ok I1 ea c hm l (PySem.W.callWith_K (first := [.ref a]) (h₀ := X.base) I.ok.mod.kin hk (thn (ha.run pos pins s1 σ H1 _ I1 q) fun us s2 y => ?_) hst hpl)
  obtain ⟨vs, H2, I2, r, q2⟩ := y
  exact ⟨I2.kIn, runG (us := .ref a :: us) (vs := .ref a :: vs) F hr hgd hx I2 (.cons rfl r) q2⟩
/-- o.m() -/
theorem pe_methG0 {pl : Sem Bool} (he : PE X o ta) (hk : PySem.W.keepIn X.K (.ref f) = true) (F : FnG X.prog X.w X.K X.mg X.base CX k f sp) (hr : Room k X.A) (hgd : X.A.guards = some []) (hx : Passes CX X E)
    (ht : eval (.Call (.Attribute o m apos) [] [] pos) X.env = (do
      let ov ← eval o X.env
      standAt apos.atName
      let (g, first) ← holding [ov] (getMethod ov m pl)
      callWith pos g first (backTo pos (starEach [] X.env)) (backToKw pos (keywordEach [] X.env))) := by rfl) :
    PE X (.Call (.Attribute o m apos) [] [] pos) (tMethG X.K m f sp E ta tNil) := by
  refine ⟨fun pins s σ H Q I h => PySem.W.methodCall_KW (pl := pl) (thn (he.run pins s σ H _ I h) fun u s1 z => ?_) ht⟩
  obtain ⟨x, H1, I1, rx, a, C, dx, fs, rfl, ea, c, hm, l, q⟩ := z
  cases (show u = Value.ref a from rx)
  exact getmeth_ok I1 ea c hm l (PySem.W.callWith_K0 (first := [.ref a]) I1.kIn hk (runG (us := [.ref a]) (vs := [.ref a]) F hr hgd hx I1 (.cons rfl .nil) q))
theorem made_guards {A : Around} (h : A.guards = some []) (C : Addr) (us : List Value) : (A.under (.builtin "type.__call__" ⟨.ref C :: us, []⟩)).guards = some [] := by
  show pushGuards (Code.builtin "type.__call__" ⟨.ref C :: us, []⟩).guards A.guards = some []
  rw [h]
  first
    | rfl
    | decide +kernel
/-- C(e, ..) -/
theorem pe_makeG (M : Mk X.K C f) (F : FnG X.prog X.w X.K X.mg X.base CX k f sp) (hr : Room (k + 1) X.A) (hgd : X.A.guards = some []) (hg : Gl X x) (hm : X.mg x = some (.ref C)) (hx : Passes CX X E) (ha : PA X (e :: es) t)
    (hdb : (x == ("__debug__" : Str)) = false := by decide) (he : starEach (e :: es) X.env = (false, eval e X.env) :: starEach es X.env := by rfl)
    (hpl : (backTo pos (starEach es X.env)).any (·.1) = false := by rfl) : PE X (.Call (.Name x p) (e :: es) [] pos) (StX.tMakeR C sp E t) := by
  refine ⟨fun pins s σ H Q I h => wpAny_Call_Name_kw (ld_glob I hg hm (PySem.W.callWith_K (h₀ := X.base) I.ok.mod.kin M.kp (thn (ha.run pos pins s σ H _ I h) fun us s1 z => ?_) he hpl) hdb)⟩
  obtain ⟨vs, H1, I1, r, q⟩ := z
  refine ⟨I1.kIn, wpAny_call (make_map (f := f) I1.kIn M.makes M.init (beq_iff_eq.mp M.fn) ?_)⟩
  have q2 := q (s1.heap.objs.size + 1) s1.heap.objs.size (I1.hok.fresh (Nat.le_succ _)) (I1.hok.fresh (Nat.le_refl _)) (Nat.ne_of_lt (Nat.lt_succ_self _))
  have I2 := Inv.made (C := C) I1
  refine codeAny_mono (F _ X.stack _ _ (Value.ref (s1.heap.objs.size + 1) :: us) (V.ref (s1.heap.objs.size + 1) :: vs) _ E (made_guards hgd C us) (hr.make C us []) (I2.env0.make C us []) (.cons rfl r) q2) fun rs s' hq => ?_
  match rs, hq with
  | .error e', hq => exact hx pins σ _ _ e' s' I2 hq
  | .ok (.ret u), hq =>
    obtain ⟨v, H', I3, rv, ev, q3⟩ := I2.after hq
    subst ev
    exact ⟨rv, V.ref (s1.heap.objs.size + 1), H', I3, rfl, q3⟩
  | .ok .next, hq => exact hq.elim
  | .ok .brk, hq => exact hq.elim
  | .ok .cont, hq => exact hq.elim
end
/-! ### repr of data -/
section
variable {X : Cx}
/-- repr(x), x data: none, a bool, an int, a text, lists and tuples of such -/
def rRepr (K : PySem.W.Frag) : List V → Hp → VK → Prop := fun xs H Q => ∃ (x : V) (d : PyData), xs = [x] ∧ Dp K H x d ∧ d.showable = true ∧ d.shown.length ≤ sizeLine ∧ d.depth ≤ 60 ∧ Q (.str d.shown) H
mutual
theorem noD {K : PySem.W.Frag} {H : Hp} : ∀ (d : PyData) (v : V), Dp K H v d → d.hasDict = false
  | .none, _, _ => by simp only [PyData.hasDict]
  | .bool _, _, _ => by simp only [PyData.hasDict]
  | .int _, _, _ => by simp only [PyData.hasDict]
  | .str _, _, _ => by simp only [PyData.hasDict]
  | .list ds, _, h => by
    cases h with
    | lst _ ha =>
      simp only [PyData.hasDict]
      exact noDs ds _ ha
  | .tuple ds, _, h => by
    cases h with
    | tup _ ha =>
      simp only [PyData.hasDict]
      exact noDs ds _ ha
  | .dict _, _, h => by cases h
theorem noDs {K : PySem.W.Frag} {H : Hp} : ∀ (ds : List PyData) (vs : List V), DpAll K H vs ds → PyData.hasDictAll ds = false
  | [], _, _ => by simp only [PyData.hasDictAll]
  | d :: ds, _, h => by
    cases h with
    | cons h1 h2 =>
      simp only [PyData.hasDictAll, noD d _ h1, noDs ds _ h2, Bool.or_false]
end
theorem call_repr (hg : X.A.guards = some []) (hu : X.A.units + 64 < cLine) : CallR X (.builtin "repr") (rRepr X.K) := by
  intro pins s σ H xs us Q I r h
  obtain ⟨x, d, rfl, hd, hs, hz, hdp, q⟩ := h
  obtain ⟨u, rfl, rx⟩ := vals1 r
  obtain ⟨as, rd⟩ := Dp.reads I d x u hd rx
  have nd := noD d x hd
  cases rd with
  | none => exact PySem.P.repr_of_none ⟨.str _, H, I.tok _, ⟨_, rfl⟩, by simpa only [PyData.shown] using q⟩
  | bool b => exact PySem.P.repr_of_bool ⟨.str _, H, I.tok _, ⟨_, rfl⟩, by simpa only [PyData.shown] using q⟩
  | int i t => exact PySem.P.repr_of_int (by simpa [PyData.showable] using hs) ⟨.str _, H, I.tok _, ⟨_, rfl⟩, by simpa only [PyData.shown] using q⟩
  | str y t => exact PySem.P.repr_of_str ⟨.str _, H, I.tok _, ⟨_, rfl⟩, by simpa only [PyData.shown] using q⟩ (by simpa only [PyData.shown] using hz)
  | list h1 h2 h3 h4 =>
    exact repr_of_reads' (.list h1 h2 h3 h4) hs (fun z => by rw [nd] at z; cases z) hg (by omega) (fun _ _ z => z) (fun h' u tk hk => ⟨.str _, H, I.kept (t' := tk) hk, ⟨u, rfl⟩, q⟩) hz
  | tuple h1 h2 h3 h4 =>
    exact repr_of_reads' (.tuple h1 h2 h3 h4) hs (fun z => by rw [nd] at z; cases z) hg (by omega) (fun _ _ z => z) (fun h' u tk hk => ⟨.str _, H, I.kept (t' := tk) hk, ⟨u, rfl⟩, q⟩) hz
  | dict h1 h2 h3 h4 h5 => cases hd
end
/-! ### the law's end -/
section
variable {P : Program} {w : World} {K : PySem.W.Frag} {mg mb : Str → Option Value} {k : Nat} {fa a : Addr} {sp : Sp} {s₁ : Shared} {vs : List Value} {ns : List Int}
/-- the law's call over one abstract heap -/
theorem lawOn {H : Hp} (KX : K.In s₁.heap) (hns : s₁.heap.Ns mainGlobals mg) (hb : s₁.heap.Ns builtinsNs mb) (hbb : ∀ x : Str, x ≠ "__name__" → mb x = bootBuiltins x) (hlim : s₁.heap.NoLimit) (hg : s₁.gens = #[])
    (ha : s₁.heap.get? a = some { cls := .type "list", data := .seq vs.toArray }) (hr : Room k callerA)
    (F : ∀ base : Heap, K.In base → base.Ns mainGlobals mg → FnG P w K mg base CX0 k fa sp)
    (hO : Only H) (hsp : sp [.ref a] H (fun v _ => v = .bl true) fun _ _ _ => False) (hok : HOk P w H s₁.heap) (hA : ∀ b, H b ≠ none → b = a) (hK : H a ≠ none → K.lookup a = none) :
    codeAny (model P w) callerA (.call (.ref fa) ⟨[.ref a], []⟩) (fun r s' => r = .ok (.ret (.bool true)) ∧ OldK s₁.heap s'.heap ∧ s'.os = s₁.os ∧ AllBare s'.gens) s₁ := by
  have free : ∀ b o, s₁.heap.get? b = some o → (∀ w n, o.data ≠ Data.seq w n) → H b = none := fun b o e hd => Classical.byContradiction fun z => by
    have eb := hA b z
    rw [eb, ha] at e
    exact hd _ _ (congrArg Obj.data (Option.some.inj e)).symm
  have names : ∀ b m, s₁.heap.Ns b m → (hidT s₁.heap H).Ns b m := fun b m hn => by
    obtain ⟨o, es, ep, e, d, r⟩ := hn
    exact ⟨o, es, ep, hidT_get e (free b o e fun w n z => by rw [d] at z; cases z), d, r⟩
  have KB : K.In (hidT s₁.heap H) := fun b o e => hidT_get (KX b o e) (Classical.byContradiction fun z => by
    have eb := hA b z
    subst eb
    rw [hK z] at e
    cases e)
  have md : Mod K mg (hidT s₁.heap H) := ⟨KB, names _ _ hns, ⟨mb, names _ _ hb, hbb⟩, by obtain ⟨mc, h1, h2⟩ := hlim; exact ⟨mc, names _ _ h1, h2⟩⟩
  have nof : ∀ b, b ∉ frs ([] : List Env) := fun b z => by cases z
  have e0 : Env0 P w K mg (hidT s₁.heap H) callerA [] s₁ H := ⟨rfl, md, fun _ _ e => of_hidT e, Nat.le_of_eq (hidT_size _ _), True.intro, fun b z => absurd z (nof b), hok, .of_eq hg⟩
  refine codeAny_mono (F _ KB (names _ _ hns) callerA [] s₁ H [.ref a] [.ref a] _ _ rfl hr e0 (.cons rfl .nil) hsp) fun rs s' z => ?_
  match rs, z with
  | .error _, z => exact z.elim
  | .ok .next, z => exact z.elim
  | .ok .brk, z => exact z.elim
  | .ok .cont, z => exact z.elim
  | .ok (.ret u), z =>
    obtain ⟨v, H', os, bare, un, ok', rv, ev⟩ := z
    cases (show v = V.bl true from ev)
    cases (show u = Value.bool true from rv)
    refine ⟨rfl, OldK.of_keep fun b o e => ?_, os, bare⟩
    rcases hO b with n | ⟨ob, xs, n⟩
    · exact un.keep b o e n (nof b) (by simp)
    · have h1 := (hok b _ n).1
      have h2 := (ok' b _ (un.frzs b ob _ n)).1
      rw [e] at h1
      cases h1
      exact h2
theorem lawG (KX : K.In s₁.heap) (hns : s₁.heap.Ns mainGlobals mg) (hb : s₁.heap.Ns builtinsNs mb) (hbb : ∀ x : Str, x ≠ "__name__" → mb x = bootBuiltins x) (hlim : s₁.heap.NoLimit) (hg : s₁.gens = #[])
    (ha : s₁.heap.get? a = some { cls := .type "list", data := .seq vs.toArray }) (hi : IntsAre vs ns) (hl : ns.length ≤ sizeLine) (hr : Room k callerA)
    (F : ∀ base : Heap, K.In base → base.Ns mainGlobals mg → FnG P w K mg base CX0 k fa sp)
    (hsp : ∀ H : Hp, Only H → SqL K H a (ns.map V.int) → sp [.ref a] H (fun v _ => v = .bl true) fun _ _ _ => False) :
    codeAny (model P w) callerA (.call (.ref fa) ⟨[.ref a], []⟩) (fun r s' => r = .ok (.ret (.bool true)) ∧ OldK s₁.heap s'.heap ∧ s'.os = s₁.os ∧ AllBare s'.gens) s₁ := by
  have rv := vals_ints hi
  cases ek : K.lookup a with
  | some o =>
    have eo : o = _ := Option.some.inj ((KX a o ek).symm.trans ha)
    have O0 : Only (fun _ => none) := fun _ => .inl rfl
    have S0 : SqL K (fun _ => none) a (ns.map V.int) := .inr ⟨o, vs.toArray, _, ek, by rw [eo], by rw [eo], by rw [eo], by rw [List.size_toArray, ← rv.length, List.length_map]; exact hl, by simpa using rv⟩
    exact lawOn (H := fun _ => none) KX hns hb hbb hlim hg ha hr F O0 (hsp _ O0 S0) (fun b u z => by cases z) (fun b z => absurd rfl z) fun z => absurd rfl z
  | none =>
    let H1 : Hp := fun b => if b = a then some (.frz { cls := .type "list", data := .seq vs.toArray } (.lst (ns.map V.int))) else none
    have at_ : H1 a = some (.frz { cls := .type "list", data := .seq vs.toArray } (.lst (ns.map V.int))) := if_pos rfl
    have off : ∀ b, b ≠ a → H1 b = none := fun b z => if_neg z
    have O1 : Only H1 := fun b => by
      by_cases z : b = a
      · exact .inr ⟨_, _, by rw [z]; exact at_⟩
      · exact .inl (off b z)
    refine lawOn (H := H1) KX hns hb hbb hlim hg ha hr F O1 (hsp _ O1 (.inl (.inr ⟨_, at_⟩))) (fun b u z => ?_) (fun b z => Classical.byContradiction fun q => z (off b q)) fun _ => ek
    by_cases q : b = a
    · subst q
      rw [at_] at z
      cases z
      exact ⟨ha, by rw [List.length_map]; exact hl, vs, _, rv, ha⟩
    · rw [off b q] at z
      cases z
end
/-- the goal that the head leaves -/
theorem walkG {l : PySem.W.OpenLaw} {n k : Nat} {q : Program} {loose : List Str} {XP : (Str → Option Value) → Heap → Prop} {YP : World → Heap → Prop} {d : DefRec}
    (hn : l.most = some n) (hn2 : n ≤ sizeLine) (hdf : d.params.defaults = []) (hr : Room k callerA)
    (F : ∀ (w : World) (mg : Str → Option Value) (fa : Addr) (h : Heap), YP w h → h.Ns mainGlobals mg → mg d.name = some (.ref fa) → ∃ (K : PySem.W.Frag) (sp : Sp), K.In h ∧
      (∀ (H : Hp) (a : Addr) (ns : List Int), ns.length ≤ n → Only H → SqL K H a (ns.map V.int) → sp [.ref a] H (fun v _ => v = .bl true) fun _ _ _ => False) ∧
      ∀ base : Heap, K.In base → base.Ns mainGlobals mg → FnG l.prog w K mg base CX0 k fa sp) :
    PySem.W.WalkO q loose XP YP l.row.toRowW d [] (fun f vs => PySem.call f vs) :=
  Att.attach_call hn hdf fun w s₀ s₁ mg mb fa o pm cd doc a vs ns G Y ho hd hcd hmg hobj hints hlen hg => by
    obtain ⟨K, sp, KX, hsp, hF⟩ := F w mg fa _ Y G.T.g hmg
    exact lawG KX G.T.g G.T.b G.T.builtins G.T.nolimit hg hobj hints (Nat.le_trans hlen hn2) hr hF fun H hO hS => hsp H a ns hlen hO hS
end Ver

/-! Lambdas without parameters that are kept as values. -/
namespace Ver
open PySem PySem.Spec PyProof.Rows L2 LamX NdefX
/-- a lambda's words, what it captured, its code object -/
structure LF where
  qual : Str
  params : Arguments
  body : Expr
  scope : Scope
  cl : List (Str × Addr)
  c : Addr
abbrev LF.nf (F : LF) : NF := ⟨"<lambda>", F.qual, F.params, [], F.scope, F.cl, F.c⟩
/-- such a lambda stands at f -/
def LamO (f : Addr) (F : LF) : HO := .ext fun g => ∃ pm ct : Value,
  g.get? f = some (PySem.W.kla_obj "<lambda>" F.qual F.params F.body F.scope F.cl pm F.c ct)
theorem lamO_tbl {f : Addr} {F : LF} (qs : Array Value) : LamO f F ≠ .tbl qs := by
  intro z
  unfold LamO at z
  cases z
section
variable {X : Cx} {pins : List (Addr × Obj)} {σ : L2.St} {H : Hp} {s : Shared}
/-- a lambda that was just laid is tracked -/
theorem lam_laid {F : LF} {t' : Nat} {pm ct : Value} (I : Inv X pins σ H s) :
    Inv X pins σ (upd H s.heap.objs.size (LamO s.heap.objs.size F))
      { s with toks := t', heap := s.heap.push (PySem.W.kla_obj "<lambda>" F.qual F.params F.body F.scope F.cl pm F.c ct) } := by
  have at_ : (s.heap.push (PySem.W.kla_obj "<lambda>" F.qual F.params F.body F.scope F.cl pm F.c ct)).get? s.heap.objs.size = some (PySem.W.kla_obj "<lambda>" F.qual F.params F.body F.scope F.cl pm F.c ct) := Heap.get?_push_size _ rfl
  exact I.laid (fun b u e => Heap.get?_push_of_some _ e) (Nat.le_refl _) ⟨⟨pm, ct, at_⟩, ⟨_, at_⟩, fun _ _ ⟨p, c, z⟩ st => ⟨p, c, st _ z⟩⟩
/-- what a value made by a lambda brings -/
abbrev LamK (X : Cx) (H : Hp) (T : List (Addr × Str)) (params : Arguments) (body : Expr) (scope : Scope) (Q : Value → Shared → Prop) (pins : List (Addr × Obj)) (σ : L2.St) : Prop :=
  ∀ (f c' : Addr) (H1 : Hp) (s' : Shared), Inv X pins σ H1 s' → ExtN H H1 → Tabs T H1 → H1 f = some (LamO f ⟨X.env.qual ++ "<lambda>", params, body, scope, cloFrom X.env.cells scope.names [], c'⟩) →
    H1 c' = some (CodeO c' (X.env.qual ++ "<lambda>")) → Q (.ref f) s'
theorem lam_new {T : List (Addr × Str)} {c P : Addr} {params : Arguments} {body : Expr} {scope : Scope} {pos : Pos} {E Q : Value → Shared → Prop}
    (I : Inv X pins σ H s) (TB : TabB X.base X.mg c P) (hcode : X.env.code = .ref c) (inT : (P, X.env.qual ++ "<lambda>") ∈ T)
    (one : ∀ p ∈ T, p.1 = P → p.2 = X.env.qual ++ "<lambda>") (hT : Tabs T H) (hdef : defaultsOf params X.env = ([], []))
    (fr : ∀ y ∈ scope.names, y.2 = .free → ∃ a, X.env.cells.lookup y.1 = some a) (h : LamK X H T params body scope Q pins σ) :
    wpAny (model X.prog X.w) X.A (eval (.Lambda params body scope pos) X.env) Q E s := by
  obtain ⟨ps, tabH, tri, named⟩ := hT _ inT
  have tab : s.heap.get? P = some { cls := .none, data := .fields ps } := I.hok P _ tabH
  have blt : s.heap.BuiltinsAt X.mg P := TB.bm.keeps I.bk
  refine PySem.W.kla_eval hdef ?_
  cases e : codeAmong pos ps.toList with
  | some cv =>
    obtain ⟨c', rfl, hco⟩ := named pos cv e
    refine PySem.W.kla_makeFunctionHit (mg := X.mg) (c := c) (P := P) (ps := ps) (closure_ok fr) I.ok.glob
      (I.mod.glob.keeps I.bk) hcode (TB.code.keeps I.bk) tab tri e blt fun ct h' tk hx hsz => ?_
    have I1 : Inv X pins σ H { s with toks := tk, heap := h' } := I.kept hx
    have new : H h'.objs.size = none := I1.hok.fresh (Nat.le_refl _)
    have I2 := lam_laid (t' := tk) (pm := (X.mg "__name__").getD .none) (ct := ct) (F := ⟨X.env.qual ++ "<lambda>", params, body, scope, cloFrom X.env.cells scope.names [], c'⟩) I1
    have up : ∀ b o, H b = some o → upd H h'.objs.size (LamO h'.objs.size ⟨X.env.qual ++ "<lambda>", params, body, scope, cloFrom X.env.cells scope.names [], c'⟩) b = some o :=
      fun b o eb => by rw [upd_ne (ne_of_none eb new), eb]
    exact h _ c' _ _ I2 (ExtN.of up) (hT.ext up) upd_same (up _ _ hco)
  | none =>
    refine PySem.W.kla_makeFunction (mg := X.mg) (c := c) (P := P) (ps := ps) (closure_ok fr) I.ok.glob
      (I.mod.glob.keeps I.bk) hcode (TB.code.keeps I.bk) tab tri e TB.gP blt fun c' ct h' tk hx hge hlt ⟨c2, oc, vs, t, e2, hoc, hd, hv⟩ htb => ?_
    cases e2
    have nC : H c' = none := I.hok.fresh hge
    have I1 := inv_table (t' := tk) (h' := h') (more := #[rawInt pos.line, rawInt pos.col, .ref c']) (q := X.env.qual ++ "<lambda>") I tabH
      (fun b o hb eb => hx b o hb eb) htb hge ⟨oc, vs, t, hoc, hd, hv⟩
    generalize hG : upd (upd H P (.tbl (ps ++ #[rawInt pos.line, rawInt pos.col, .ref c']))) c' (CodeO c' (X.env.qual ++ "<lambda>")) = G at I1
    have gP : G P = some (.tbl (ps ++ #[rawInt pos.line, rawInt pos.col, .ref c'])) := by rw [← hG, upd_ne (ne_of_none tabH nC), upd_same]
    have gC : G c' = some (CodeO c' (X.env.qual ++ "<lambda>")) := by rw [← hG, upd_same]
    have gO : ∀ b o, H b = some o → b ≠ P → G b = some o := fun b o eb nb => by rw [← hG, upd_ne (ne_of_none eb nC), upd_ne nb, eb]
    have ext : ExtN H G := fun b o eb n => gO b o eb fun z => by
      rw [z, tabH] at eb
      exact n ps (Option.some.inj eb).symm
    have T1 : Tabs T G := fun p hp => by
      by_cases hb : p.1 = P
      · rw [one p hp hb, hb]
        have eL : (ps ++ #[rawInt pos.line, rawInt pos.col, .ref c']).toList = ps.toList ++ [rawInt pos.line, rawInt pos.col, .ref c'] := by
          rw [Array.toList_append]
        refine ⟨_, gP, ?_, fun p' cv hcv => ?_⟩
        · rw [eL]
          exact PySem.TriplesOk_snoc _ _ _ _ tri
        · rw [eL] at hcv
          rcases among_app _ tri hcv with z | z
          · obtain ⟨c0, e1, e3⟩ := named p' cv z
            exact ⟨c0, e1, ext _ _ e3 codeO_ne⟩
          · exact ⟨c', z, gC⟩
      · obtain ⟨ps', a1, a2, a3⟩ := hT p hp
        refine ⟨ps', gO _ _ a1 hb, a2, fun p' cv hcv => ?_⟩
        obtain ⟨c0, e1, e3⟩ := a3 p' cv hcv
        exact ⟨c0, e1, ext _ _ e3 codeO_ne⟩
    have new : G h'.objs.size = none := I1.hok.fresh (Nat.le_refl _)
    have I2 := lam_laid (t' := tk) (pm := (X.mg "__name__").getD .none) (ct := ct) (F := ⟨X.env.qual ++ "<lambda>", params, body, scope, cloFrom X.env.cells scope.names [], c'⟩) I1
    have up : ∀ b o, G b = some o → upd G h'.objs.size (LamO h'.objs.size ⟨X.env.qual ++ "<lambda>", params, body, scope, cloFrom X.env.cells scope.names [], c'⟩) b = some o :=
      fun b o eb => by rw [upd_ne (ne_of_none eb new), eb]
    exact h _ c' _ _ I2 (ext.trans (ExtN.of up)) (T1.ext up) upd_same (up _ _ gC)
end
/-! ### the value -/
section
variable {X : Cx}
/-- lambda: body -/
def tLamV (T : List (Addr × Str)) (mk : Addr → LF) : TE := fun σ H Q => Tabs T H ∧ ∀ (f c' : Addr) (H1 : Hp), ExtN H H1 → Tabs T H1 → H1 f = some (LamO f (mk c')) → H1 c' = some (CodeO c' (mk c').qual) → Q (.ref f) H1
theorem pe_lam {T : List (Addr × Str)} {c P : Addr} {params : Arguments} {body : Expr} {scope : Scope} {pos : Pos} {mk : Addr → LF} (TB : TabB X.base X.mg c P) (hcode : X.env.code = .ref c) (inT : (P, X.env.qual ++ "<lambda>") ∈ T)
    (one : ∀ p ∈ T, p.1 = P → p.2 = X.env.qual ++ "<lambda>") (hdef : defaultsOf params X.env = ([], [])) (L : LamS X.env.scope scope)
    (hmk : mk = fun c' => ⟨X.env.qual ++ "<lambda>", params, body, scope, cloFrom X.env.cells scope.names [], c'⟩) :
    PE X (.Lambda params body scope pos) (tLamV T mk) := by
  subst hmk
  refine ⟨fun pins s σ H Q I ⟨hT, h⟩ => lam_new I TB hcode inT one hT hdef (L.has I.ok) fun f c' H1 s' I1 x t hf hc => ?_⟩
  exact ⟨.ref f, H1, I1, rfl, h f c' H1 x t hf hc⟩
end
/-! ### its promise -/
/-- what a lambda promises of a call; ws: what its captured names hold then -/
abbrev LSp := List (Option V) → Hp → VK → XK → Prop
def LOk (P : Program) (w : World) (K : PySem.W.Frag) (mg : Str → Option Value) (base : Heap) (CX : CXT) (k : Nat) (f : Addr) (F : LF) (fr : List Str) (sp : LSp) : Prop :=
  ∀ (A : Around) (outer : List Env) (s : Shared) (H : Hp) (ws : List (Option V)) (Q : VK) (E : XK), A.guards = some [] → Room k A →
    Env0 P w K mg base A outer s H → H f = some (LamO f F) → H F.c = some (CodeO F.c F.qual) → CellsAt F.cl fr ws s.heap H → sp ws H Q E →
    codeAny (model P w) A (.call (.ref f) ⟨[], []⟩) (CR CX outer P w H s Q E) s
section
variable {P : Program} {w : World} {K : PySem.W.Frag} {mg : Str → Option Value} {base : Heap} {CX : CXT} {k j : Nat} {f : Addr} {F : LF} {N fr : List Str} {sp : LSp}
theorem LOk.mono (o : LOk P w K mg base CX j f F fr sp) (h : j ≤ k) : LOk P w K mg base CX k f F fr sp :=
  fun A outer s H ws Q E g hr => o A outer s H ws Q E g (hr.mono h)
/-- by its body -/
theorem lok_of (S : NScope N [] fr F.scope)
    (hb : ∀ pm ct : Value, bindArgs (PySem.W.kla_fn "<lambda>" F.qual F.params F.body F.scope F.cl pm (.ref F.c) ct) ⟨[], []⟩ = pure [])
    (body : ∀ (A : Around) (outer : List Env) (s : Shared) (H : Hp) (ws : List (Option V)) (Q : VK) (E : XK), A.guards = some [] → Room k (A.deeper (envF F.nf f s.heap.objs.size)) →
      ws.length = fr.length → sp ws H Q E → ∃ te : TE, PE (ncx CX P w K mg base N F.nf f A outer s H E) F.body te ∧ te (startF N [] ws) H Q) :
    LOk P w K mg base CX (k + 1) f F fr sp := by
  intro A outer s H ws Q E hg hr e0 hf hc C hsp
  obtain ⟨⟨pm, ct, at_⟩, _, _⟩ := e0.hok f _ hf
  have room : s.heap.NoLimit := e0.mod.nolimit.keeps fun b o e => (e0.bs b o e).1
  obtain ⟨te, ht, hq⟩ := body A outer s H ws Q E hg (hr.deeper _) C.len hsp
  refine PySem.W.kla_callFunE hr.depth at_ rfl S.co S.gen rfl (codeO_at e0.hok hc) ?_
  rw [hb]
  refine wpAny_pure (wpAny_newFunctionEnv S.nocell (fun y hy => absurd hy (by simp)) (fun h₁ hns hsb => ⟨room.fresh _ hsb, ?_⟩) S.kind)
  have kp : ∀ b o, s.heap.get? b = some o → h₁.get? b = some o := fun b o e =>
    hsb.extBut b o (Nat.ne_of_lt (Heap.lt_size e)) (Heap.get?_push_of_some _ e)
  have I := inv_startN (CX := CX) (P := P) (w := w) (K := K) (mg := mg) (base := base) (f := f) (F := F.nf) (E := E) (us := []) (vs := []) (tk := s.toks + ([] : List (Str × Value)).length)
    S hr.hd e0 rfl .nil C hns kp
  show codeAny _ _ (.expr F.body (envF F.nf f s.heap.objs.size)) _ _
  refine PySem.W.kla_codeExpr (wpAny_mono (ht.run [] _ _ H _ I hq) (fun v s' z => ?_) fun _ _ z => z)
  obtain ⟨x, H', J, rv, q⟩ := z
  exact ⟨x, H', J.os, J.bare, J.base, J.hok, rv, q⟩
end
/-! ### its call, by a def that got it -/
theorem cells_on {cl : List (Str × Addr)} {fr : List Str} {ws : List (Option V)} {h h' : Heap} {H H' : Hp} {fs : List Addr} (C : CellsAt cl fr ws h H) (u : Un fs [] H H' h h') : CellsAt cl fr ws h' H' := by
  have cell : ∀ {a : Addr} {v : Option Value}, H a = none → h.IsCell a v → h'.IsCell a v := fun {a v} n ⟨o, ho, hd⟩ => by
    obtain ⟨sl, q⟩ := u.any ho n (by simp)
    exact ⟨_, q, hd⟩
  refine ⟨C.len, fun y a e => ?_, C.inj, fun i y e => ?_⟩
  · obtain ⟨n, v, z⟩ := C.all y a e
    obtain ⟨o, ho, _⟩ := id z
    exact ⟨u.free a o ho n (by simp), v, cell n z⟩
  · obtain ⟨a, ha, hv⟩ := C.has i y e
    refine ⟨a, ha, fun v ev => ?_⟩
    obtain ⟨x, r, z⟩ := hv v ev
    exact ⟨x, r, cell (C.all y a ha).1 z⟩
section
variable {X : Cx} {CX : CXT} {k j i : Nat} {f : Addr} {F : LF} {fr : List Str} {sp : LSp} {E : L2.St → XK} {x : Str} {p pos : Pos} {ws : List (Option V)}
/-- x(), x a name that holds the lambda; the cells are known from the frame's entry on -/
theorem pe_lcall (Fn : LOk X.prog X.w X.K X.mg X.base CX k f F fr sp) (C : CellsAt F.cl fr ws X.s_0.heap X.H_0) (hex : X.ex = []) (hr : Room k X.A) (hgd : X.A.guards = some []) (hx : ∀ σ, PassesAt CX X σ (E σ))
    (hN : X.N[i]? = some x) (hv : Vis X.env.scope x) (hd : (x == ("__debug__" : Str)) = false := by decide) (hcd : (x == ("__classdict__" : Str)) = false := by decide) :
    PE X (.Call (.Name x p) [] [] pos) (fun σ H Q => σ[i]? = some (some (.ref f)) ∧ H f = some (LamO f F) ∧ H F.c = some (CodeO F.c F.qual) ∧ sp ws H Q (E σ)) := by
  refine ⟨fun pins s σ H Q I h => ?_⟩
  obtain ⟨hs, hf, hc, q⟩ := h
  refine wpAny_Call_Name_kw (thn ((pe_var (pos := p) hN hv hd hcd).run pins s σ H (fun v H1 => v = .ref f ∧ H1 = H) I ⟨.ref f, hs, rfl, rfl⟩) fun u s1 ⟨v, H1, I1, r1, e1, e2⟩ => ?_)
  subst e1
  subst e2
  cases (show u = Value.ref f from r1)
  obtain ⟨⟨pm, ct, at_⟩, _, _⟩ := I1.hok f _ hf
  refine PySem.W.callWith_F0 (first := []) ⟨_, _, _, _, at_⟩ ?_
  have C1 : CellsAt F.cl fr ws s1.heap H1 := cells_on (fs := X.fs) C (by
    have u := I1.base
    rw [hex] at u
    exact u)
  exact wpAny_call (codeAny_mono (Fn X.A X.stack s1 H1 ws Q (E σ) hgd hr I1.env0 hf hc C1 q) fun rs s' hq => by
    match rs, hq with
    | .error e', hq => exact hx σ pins H1 s1 e' s' I1 hq
    | .ok (.ret u), hq => exact I1.after hq
    | .ok .next, hq => exact hq.elim
    | .ok .brk, hq => exact hq.elim
    | .ok .cont, hq => exact hq.elim)
end
/-! ### a def that gets a lambda, called where the cells are -/
/-- the promise of the def at g of a call with the lambda F at f -/
def TOk (P : Program) (w : World) (K : PySem.W.Frag) (mg : Str → Option Value) (base : Heap) (CX : CXT) (k : Nat) (g f : Addr) (F : LF) (fr : List Str) (sp : LSp) : Prop :=
  ∀ (A : Around) (outer : List Env) (s : Shared) (H : Hp) (ws : List (Option V)) (Q : VK) (E : XK), A.guards = some [] → Room k A →
    Env0 P w K mg base A outer s H → H f = some (LamO f F) → H F.c = some (CodeO F.c F.qual) → CellsAt F.cl fr ws s.heap H → sp ws H Q E →
    codeAny (model P w) A (.call (.ref g) ⟨[.ref f], []⟩) (CR CX outer P w H s Q E) s
section
variable {P : Program} {w : World} {K : PySem.W.Frag} {mg : Str → Option Value} {base : Heap} {CX : CXT} {k : Nat} {g f : Addr} {F : LF} {fd : FuncData} {fr : List Str} {sp : LSp}
variable {x qual : Str} {params : Arguments} {body : List Stmt} {scope : Scope} {N : List Str} {y : Str} {kws : List (Str × V)}
theorem tok_of (D : FunD K x qual params body scope [] kws g fd) (S : FnScope N [y] scope)
    (hb : ∀ (s : Shared) (us : List Value), us.length = 1 → BindsTo s fd ⟨us, []⟩ (List.zip [y] us))
    (hbody : ∀ (cdv : Value) (A : Around) (outer : List Env) (s : Shared) (H : Hp) (ws : List (Option V)) (Q : VK) (E : XK), A.guards = some [] → Room k (A.deeper (envOfC qual scope s.heap.objs.size g cdv)) →
      H f = some (LamO f F) → H F.c = some (CodeO F.c F.qual) → CellsAt F.cl fr ws s.heap H → sp ws H Q E →
      ∃ t, PSs (cxOf CX P w K mg base N qual scope g cdv A outer s H E) body t ∧ t { nx := fun _ H' => Q .non H', rt := Q } (start N [.ref f]) H) : TOk P w K mg base CX (k + 1) g f F fr sp := by
  obtain ⟨⟨oc, od, dV, kV, doc, pm, an, cdv, ct, osl, rfl, lk, hcd, _⟩, _⟩ := D
  intro A outer s H ws Q E hg hr e0 hf hc C q
  exact run_ofS (us := [.ref f]) (vs := [.ref f]) lk hcd S hr e0 (hb s [.ref f] rfl) (.cons rfl .nil) rfl fun hr' => hbody cdv A outer s H ws Q E hg hr' hf hc C q
end
section
variable {X : Cx} {CX : CXT} {k : Nat} {g : Addr} {E : XK} {x : Str} {p pos : Pos} {e : Expr} {t : TA} {I0 : Type}
/-- x(e), e a lambda of a family -/
theorem pe_tcall {fam : I0 → Addr → LF} {fr : I0 → List Str} {js : I0 → List Nat} {sp : I0 → LSp} (Fn : ∀ i f c', TOk X.prog X.w X.K X.mg X.base CX k g f (fam i c') (fr i) (sp i)) (cp : ∀ i c', X.Ok → Caps X (fam i c').cl (fr i) (js i)) (hr : Room k X.A) (hgd : X.A.guards = some []) (hg : Gl X x)
    (hm : X.mg x = some (.ref g)) (hk : PySem.W.keepIn X.K (.ref g) = true) (hx : Passes CX X E) (ha : PA X [e] t) (hdb : (x == ("__debug__" : Str)) = false := by decide) (he : starEach [e] X.env = (false, eval e X.env) :: starEach [] X.env := by rfl)
    (hpl : (backTo pos (starEach [] X.env)).any (·.1) = false := by rfl) :
    PE X (.Call (.Name x p) [e] [] pos) (fun σ H Q => t σ H fun vs H1 => ∃ i f c', vs = [.ref f] ∧ H1 f = some (LamO f (fam i c')) ∧ H1 (fam i c').c = some (CodeO (fam i c').c (fam i c').qual) ∧ sp i ((js i).map (slotAt σ)) H1 Q E) := by
  refine ⟨fun pins s σ H Q I h => wpAny_Call_Name_kw (ld_glob I hg hm (PySem.W.callWith_K (h₀ := X.base) I.ok.mod.kin hk (thn (ha.run pos pins s σ H _ I h) fun us s1 z => ?_) he hpl) hdb)⟩
  obtain ⟨vs, H1, I1, r, i, f, c', rfl, hf, hc, q⟩ := z
  match us, r with
  | [u], .cons ru .nil =>
    cases (show u = Value.ref f from ru)
    refine ⟨I1.kIn, wpAny_call (codeAny_mono (Fn i f c' X.A X.stack s1 H1 _ Q E hgd hr I1.env0 hf hc (cells_of I1 (cp i c' I1.ok)) q) fun rs s' hq => ?_)⟩
    match rs, hq with
    | .error e', hq => exact hx pins σ H1 s1 e' s' I1 hq
    | .ok (.ret u), hq => exact I1.after hq
    | .ok .next, hq => exact hq.elim
    | .ok .brk, hq => exact hq.elim
    | .ok .cont, hq => exact hq.elim
end
end Ver

/-! Methods called by names; a try with two clauses, the first one with a name; a law's end with the law's own table. -/
namespace Ver
open PySem PySem.Spec PyProof.Rows L2
/-! ### by names -/
/-- f(e, .., k = v, ..), no defaults -/
theorem kbN {K : PySem.W.Frag} {x qual : Str} {params : Arguments} {body : List Stmt} {scope : Scope} {f : Addr} {fd : FuncData} {ps : List Str} (F : FunD K x qual params body scope [] [] f fd) (n : Nat) (ks : List Str) (g : {α : Type} → List α → List α → List α)
    (hrel : ∀ {vs zs : List V} {us ws : List Value}, Vals vs us → Vals zs ws → Vals (g vs zs) (g us ws))
    (h : ∀ (kV doc pm : Value) (an : Option Addr) (cdv ct : Value) (us ws : List Value), us.length = n → ws.length = ks.length → bindArgs (PySem.W.fnOf x qual params body scope .none kV doc pm an cdv ct) ⟨us, ks.zip ws⟩ = pure (ps.zip (g us ws))) :
    KBn K fd ps n ks (fun us ws => g us ws) (fun vs zs => g vs zs) := by
  obtain ⟨oc, od, dV, kV, doc, pm, an, cdv, ct, osl, rfl, lk, hcd, hD, hK⟩ := F.ex
  rcases hD with ⟨_, rfl⟩ | ⟨e, _⟩
  · exact ⟨fun s us ws X l1 l2 => BindsTo.of_looks fun M => by
      rw [h kV doc pm an cdv ct us ws l1 l2]
      exact .of_pure rfl, hrel⟩
  · exact absurd rfl e
/-- a promise of calls with so many places and these names -/
def FnK (P : Program) (w : World) (K : PySem.W.Frag) (mg : Str → Option Value) (base : Heap) (CX : CXT) (k : Nat) (f : Addr) (n : Nat) (ks : List Str) (gV : List V → List V → List V) (sp : Sp) : Prop :=
  ∀ (A : Around) (outer : List Env) (s : Shared) (H : Hp) (us ws : List Value) (vs zs : List V) (Q : VK) (E : XK), A.guards = some [] → Room k A → Env0 P w K mg base A outer s H →
    Vals vs us → us.length = n → Vals zs ws → ws.length = ks.length → sp (gV vs zs) H Q E → codeAny (model P w) A (.call (.ref f) ⟨us, ks.zip ws⟩) (CR CX outer P w H s Q E) s
section
variable {P : Program} {w : World} {K : PySem.W.Frag} {mg : Str → Option Value} {base : Heap} {CX : CXT} {k n : Nat} {f : Addr} {fd : FuncData} {sp : Sp}
variable {x qual : Str} {params : Arguments} {body : List Stmt} {scope : Scope} {N ps ks : List Str} {kws : List (Str × V)} {g : List Value → List Value → List Value} {gV : List V → List V → List V}
theorem okK (F : FunD K x qual params body scope [] kws f fd) (S : FnScope N ps scope) (hb : KBn K fd ps n ks g gV) (len : ∀ vs H Q E, sp vs H Q E → vs.length = ps.length)
    (hbody : ∀ (cdv : Value) (A : Around) (outer : List Env) (s : Shared) (H : Hp) (vs : List V) (Q : VK) (E : XK), A.guards = some [] → Room k (A.deeper (envOfC qual scope s.heap.objs.size f cdv)) → sp vs H Q E →
      ∃ t, PSs (cxOf CX P w K mg base N qual scope f cdv A outer s H E) body t ∧ t { nx := fun _ H' => Q .non H', rt := Q } (start N vs) H) : FnK P w K mg base CX (k + 1) f n ks gV sp := by
  obtain ⟨⟨oc, od, dV, kV, doc, pm, an, cdv, ct, osl, rfl, lk, hcd, _⟩, _⟩ := F
  intro A outer s H us ws vs zs Q E hg hr e0 r ln rz lz hsp
  have KX : K.In s.heap := e0.mod.kin.keeps fun b o e => (e0.bs b o e).1
  refine StX.run_bnd (G := fun xs H2 => xs = gV vs zs ∧ H2 = H) lk hcd S hr e0 (fun A' Ex Q' q => ?_) fun s2 H2 xs z hr' => ?_
  · exact hb.to s us ws KX ln lz _ A' Ex Q' (q s H _ _ e0 Un.refl rfl (fun _ _ z => z) (hb.rel r rz) (len _ _ _ _ hsp) ⟨rfl, rfl⟩)
  · obtain ⟨rfl, rfl⟩ := z
    exact hbody cdv A outer s2 H2 _ Q E hg hr' hsp
end
section
variable {X : Cx} {CX : CXT} {k : Nat} {f : Addr} {sp : Sp} {E : XK} {m : Str} {pos apos : Pos} {o : Expr} {ta : TE} {kws : List Keyword} {ks : List Str} {gV : List V → List V → List V} {tk : TA}
/-- o.m(k = e, ..) -/
def tMethK (K : PySem.W.Frag) (m : Str) (f : Addr) (n : Nat) (gV : List V → List V → List V) (sp : Sp) (E : XK) (ta : TE) (t : TA) : TE := fun σ H Q => ta σ H fun x H1 => ∃ a C dx fs, x = .ref a ∧ H1 a = some (.ins C dx fs) ∧ Cls K C ∧ Meth K C m f ∧ fs.lookup m = none ∧
  t σ H1 fun zs H2 => zs.length = n ∧ sp (gV [.ref a] zs) H2 Q E
theorem pe_methK {pl : Sem Bool} (he : PE X o ta) (hk : PySem.W.keepIn X.K (.ref f) = true) (F : FnK X.prog X.w X.K X.mg X.base CX k f 1 ks gV sp) (hr : Room k X.A) (hgd : X.A.guards = some []) (hx : Passes CX X E) (ha : PK X kws tk)
    (hall : (backToKw pos (keywordEach kws X.env)).all (·.1.isSome) = true := by rfl) (hks : (backToKw pos (keywordEach kws X.env)).filterMap (·.1) = ks := by rfl)
    (hpl : ((backTo pos (starEach [] X.env)).any (·.1) || (backToKw pos (keywordEach kws X.env)).any (·.1.isNone)) = false := by rfl)
    (ht : eval (.Call (.Attribute o m apos) [] kws pos) X.env = (do
      let ov ← eval o X.env
      standAt apos.atName
      let (g, first) ← holding [ov] (getMethod ov m pl)
      callWith pos g first (backTo pos (starEach [] X.env)) (backToKw pos (keywordEach kws X.env))) := by rfl) :
    PE X (.Call (.Attribute o m apos) [] kws pos) (tMethK X.K m f ks.length gV sp E ta tk) := by
  refine ⟨fun pins s σ H Q I h => PySem.W.methodCall_KW (pl := pl) (thn (he.run pins s σ H _ I h) fun u s1 z => ?_) ht⟩
  obtain ⟨x, H1, I1, rx, a, C, dx, fs, rfl, ea, c, hm, l, q⟩ := z
  cases (show u = Value.ref a from rx)
  refine getmeth_ok I1 ea c hm l ?_
  refine PySem.W.callWith_KW0 (first := [.ref a]) (h₀ := X.base) I.ok.mod.kin hk hall ?_ hpl
  refine thn (ha.run pos pins s1 σ H1 _ I1 q) fun ws s2 ⟨zs, H2, I2, rz, lz, q2⟩ => ⟨I2.kIn, ?_⟩
  rw [hks]
  exact wpAny_call (codeAny_mono (F X.A X.stack s2 H2 [.ref a] ws [.ref a] zs Q E hgd hr I2.env0 (.cons rfl .nil) rfl rz (rz.length.symm.trans lz) q2) fun rs s' hq => by
    match rs, hq with
    | .error e', hq => exact hx pins σ H2 s2 e' s' I2 hq
    | .ok (.ret u), hq => exact I2.after hq
    | .ok .next, hq => exact hq.elim
    | .ok .brk, hq => exact hq.elim
    | .ok .cont, hq => exact hq.elim)
end
/-! ### a star parameter, errors let out -/
theorem ub_back {fs : List Addr} {H H' : Hp} {h B h' : Heap} {o : Obj} {u : HO} (n0 : H h.objs.size = none) (x : UB fs (upd H h.objs.size u) H' (h.push o) B h') : UB fs H H' h B h' := by
  have lt : ∀ {b : Addr} {v : Obj}, h.get? b = some v → b ≠ h.objs.size := fun e => Nat.ne_of_lt (Heap.lt_size e)
  have up : ∀ {b : Addr} {v : Obj}, h.get? b = some v → (h.push o).get? b = some v := fun e => Heap.get?_push_of_some _ e
  exact {
    keep := fun b v e n nf => x.keep b v (up e) ((upd_ne (lt e)).trans n) nf
    slot := fun b v e m => x.slot b v (up e) m
    free := fun b v e n => x.free b v (up e) ((upd_ne (lt e)).trans n)
    there := fun b v e nf => x.there b v (up e) nf
    tups := fun b xs e => x.tups b xs ((upd_ne (ne_of_none e n0)).trans e)
    frzs := fun b v xs e => x.frzs b v xs ((upd_ne (ne_of_none e n0)).trans e)
    tbls := fun b ps e => x.tbls b ps ((upd_ne (ne_of_none e n0)).trans e) }
theorem okStarX {P : Program} {w : World} {K : PySem.W.Frag} {mg : Str → Option Value} {base : Heap} {k : Nat} {f : Addr} {fd : FuncData} {sp : Sp} {x qual pr : Str} {params : Arguments} {body : List Stmt} {scope : Scope} {N ps : List Str} {kws : List (Str × V)}
    (F : FunD K x qual params body scope [] kws f fd) (S : FnScope N (ps ++ [pr]) scope)
    (hb : ∀ (kV doc pm : Value) (an : Option Addr) (cdv ct : Value) (us rest : List Value), us.length = ps.length → bindArgs (PySem.W.fnOf x qual params body scope .none kV doc pm an cdv ct) ⟨us ++ rest, []⟩ = (newTuple rest >>= fun t => pure (ps.zip us ++ [(pr, t)])))
    (hbody : ∀ (cdv : Value) (A : Around) (outer : List Env) (s : Shared) (H : Hp) (vs : List V) (Q : VK) (E : XK), A.guards = some [] → Room k (A.deeper (envOfC qual scope s.heap.objs.size f cdv)) → sp vs H Q E →
      ∃ t, PSs (cxOf (L2.CX P w) P w K mg base N qual scope f cdv A outer s H E) body t ∧ t { nx := fun _ H' => Q .non H', rt := Q } (start N vs) H) :
    FnG P w K mg base (L2.CX P w) (k + 1) f (fun vs H Q E => ∃ ws rest, vs = ws ++ rest ∧ ws.length = ps.length ∧ rest.length ≤ sizeLine ∧ ∀ p, H p = none → sp (ws ++ [V.ref p]) (upd H p (.tup rest)) Q E) := by
  obtain ⟨⟨oc, od, dV, kV, doc, pm, an, cdv, ct, osl, rfl, lk, hcd, hD, _⟩, _⟩ := F
  have eD : dV = .none := by
    rcases hD with ⟨_, e⟩ | ⟨e, _⟩
    · exact e
    · exact absurd rfl e
  subst eD
  intro A outer s H us vs Q E hg hr e0 r hsp
  obtain ⟨ws, rest, rfl, hl, hz, hq⟩ := hsp
  obtain ⟨u1, u2, rfl, r1, r2⟩ := StX.vals_split r
  have n0 : H s.heap.objs.size = none := e0.hok.fresh (Nat.le_refl _)
  have l1 : u1.length = ps.length := r1.length.symm.trans hl
  refine StX.run_bnd lk hcd S hr e0 (G := fun xs H2 => ∃ p, H p = none ∧ xs = ws ++ [V.ref p] ∧ H2 = upd H p (.tup rest)) (fun A' Ex Q' h => ?_) fun s2 H2 xs g hr' => ?_
  · rw [hb _ _ _ _ _ _ u1 u2 l1]
    have new : ObjOk P w (upd H s.heap.objs.size (.tup rest)) (s.heap.push ({ cls := .type "tuple", data := .seq u2.toArray } : Obj)) s.heap.objs.size (.tup rest) := ⟨hz, u2, r2, ⟨_, Heap.get?_push_size _ rfl, rfl, _, rfl⟩⟩
    have z := h _ _ (ws ++ [V.ref s.heap.objs.size]) (u1 ++ [Value.ref s.heap.objs.size]) (StX.env0_laid e0 new) (StX.un_laid (fs := frs outer) (s := s) n0) rfl (fun e s' ⟨a, B, H', cls, d, z1, z2, z3, z4, z5⟩ => ⟨a, B, H', cls, d, z1, z2, z3, ub_back n0 z4, z5⟩) (r1.append (.cons rfl .nil))
      (by rw [List.length_append, List.length_append, hl] <;> rfl) ⟨_, n0, rfl, rfl⟩
    rw [List.zip_append l1.symm] at z
    exact wpAny_bind (wpAny_newTuple (wpAny_pure z) (by rw [← r2.length]; exact hz))
  · obtain ⟨p, hp, rfl, rfl⟩ := g
    obtain ⟨t, ht, q⟩ := hbody cdv A outer s2 _ _ Q E hg hr' (hq p hp)
    exact ⟨t, ht, q⟩
/-! ### two clauses -/
section
variable {X : Cx} {x x2 n : Str} {c c2 : Value} {i : Nat} {body : List Stmt} {w1 w2 : List Stmt} {b1 b2 : Stmt} {q1 q2 r1 r2 pos : Pos} {tb : WX → TS} {t1 t2 : Addr → Value → Option Addr → TS} {Wout : WX}
theorem ps_try_as2 (stk : X.stack = X.env :: X.outer) (hf : X.env.frame = some X.env.locals) (hN : X.N.Nodup) (hi : X.N[i]? = some n) (loc : X.env.kindOf n = some .local) (hc : Names X x c) (hc2 : Names X x2 c2) (tk : Takes X Wout)
    (hb : ∀ (W : WX) (pn : List (Addr × Obj)) (xe : Value → Shared → Prop), Takes (X.tr pn xe) W → PassesOwn (model X.prog X.w) X.A X.env xe → PSs (X.tr pn xe) body (tb W))
    (s1 : ∀ (a : Addr) (oe : Obj) (cls : Value) (d : Option Addr) (pn : List (Addr × Obj)), Zc cls d oe → (∃ vs, oe.data = .fields vs) → PSs (X.suite a ((a, oe) :: pn)) (b1 :: w1) (t1 a cls d))
    (s2 : ∀ (a : Addr) (oe : Obj) (cls : Value) (d : Option Addr) (pn : List (Addr × Obj)), Zc cls d oe → (∃ vs, oe.data = .fields vs) → PSs (X.suite a ((a, oe) :: pn)) (b2 :: w2) (t2 a cls d)) :
    PS X (.Try body [.ExceptHandler (some (.Name x q1)) (some n) (b1 :: w1) r1, .ExceptHandler (some (.Name x2 q2)) none (b2 :: w2) r2] [] [] pos) (fun D σ H => tb (wAs X.K c i t1 (wOnly X.K c2 t2 Wout D) D) D σ H) := by
  refine ⟨fun pins s σ H D I h => ?_⟩
  have ok := I.ok
  have frm : X.A.frames = some (X.env :: X.outer) := ok.frames.trans (congrArg some stk)
  refine wpAny_Try_except (wpAny_mono ((hb _ (X.pn ++ pins) (fun e s₁ => wpAny (model X.prog X.w) X.A (noteFrame e X.env) (fun _ s₂ => wpAny (model X.prog X.w) X.A (setFlight e none) (fun _ s₃ =>
    wpAny (model X.prog X.w) X.A (handleBy e X.env [.ExceptHandler (some (.Name x q1)) (some n) (b1 :: w1) r1, .ExceptHandler (some (.Name x2 q2)) none (b2 :: w2) r2])
      (SP X pins D) X.xe s₃) X.xe s₂) X.xe s₁) (fun u s' xx => ?_) PassesOwn.looking).run [] s σ H D (I.toTry _) h) (fun f sE z => ?_) fun _ _ z => z)
  · obtain ⟨a, B, sI, pins', σ', H', cls, d, rfl, Jt, nb, up, sky, na, os, ag, b, m1, yes, no⟩ := xx
    have J : Inv X pins σ' H' sI := Jt.ofTry ok
    rw [stk] at sky
    show wpAny (model X.prog X.w) X.A (noteFrame (.ref a) X.env) _ _ _
    refine Sky.land Zc.steady frm hf sky fun h3 fl3 up3 => ?_
    have J3 : Inv X pins σ' H' { s' with heap := h3 } := J.landed nb fl3.1 (up.trans up3) os ag
    obtain ⟨o3, v3, e3, z3, d3⟩ := fl3.there
    have off : a ∉ frs (X.env :: X.outer) := fun hm => by
      obtain ⟨_, o', e', nf⟩ := fl3.2.2.1.mem hm
      rw [e3] at e'
      cases e'
      exact nf _ d3
    have offL : a ≠ X.env.locals := fun z => off (List.mem_filterMap.mpr ⟨X.env, List.mem_cons_self, by rw [hf, z]⟩)
    have offF : a ∉ X.fs := fun hm => by
      obtain ⟨e, he, q⟩ := List.mem_filterMap.mp hm
      exact off (List.mem_filterMap.mpr ⟨e, List.mem_cons_of_mem _ he, q⟩)
    have S3 := J3.suite e3 d3 na offL offF
    have read : ∀ {y : Str} {cy : Value} {np : Pos} {Q E : Value → Shared → Prop}, Names X y cy → Q cy { s' with heap := h3 } →
        wpAny (model X.prog X.w) (X.A.mark (some (.ref a))) (eval (.Name y np) X.env) Q E { s' with heap := h3 } := fun {y cy np Q E} hy q => by
      obtain ⟨hg, db, hm | ⟨hm, hv, hn⟩⟩ := hy
      · exact ld_glob (X := X.suite a ((a, o3) :: (X.pn ++ pins))) S3 hg hm q db
      · exact ld_blt (X := X.suite a ((a, o3) :: (X.pn ++ pins))) S3 hg hm hv q hn db
    have ty : PySem.W.Looks (model X.prog X.w) h3 (typeOf (.ref a)) cls := fun A Q E s k q =>
      wpAny_typeOf_ref (k _ _ e3) (by rw [z3.1]; exact q)
    refine wpAny_handleBy_cons (codeAny_handlers_test (read hc ((PySem.W.exm_one (M := model X.prog X.w) J3.kIn ty m1).here ?_))) (by intro q; cases q)
    cases b with
    | true =>
      refine codeAny_handlers_suite_as (HandSPX.lands_againZ fl3 fun h4 fl4 up4 => ?_)
      have J4 : Inv X pins σ' H' { s' with heap := h4 } := J.landed nb fl4.1 ((up.trans up3).trans up4) os ag
      obtain ⟨o4, v4, e4, z4, d4⟩ := fl4.there
      refine store_ok (X := X.suite a ((a, o4) :: (X.pn ++ pins))) (v := .ref a) (J4.suite e4 d4 na offL offF) hN hi (.inl loc) rfl (fun s5 S5 => ?_) (.inr loc)
      refine wpAny_mono ((s1 a o4 cls d (X.pn ++ pins) z4 ⟨_, d4⟩).run [] s5 _ H' _ S5 (yes rfl a na)) (fun f s6 z => ?_) fun _ _ z => z.elim
      have fin : ∀ {σ6 : L2.St} {H6 : Hp} {Q : Shared → Prop}, Inv (X.suite a ((a, o4) :: (X.pn ++ pins))) [] σ6 H6 s6 → (∀ s7, Inv X pins (σ6.set i none) H6 s7 → Q s7) →
          wpAny (model X.prog X.w) X.A (do bindName X.env n .none; unbindBehindTheSuite X.env n r1) (fun _ s7 => Q s7) X.xe s6 :=
        fun {σ6 H6 Q} S6 hq => gone_ok (S6.unsuite ok) hN hi loc hq
      match f, z with
      | .next, ⟨_, _, S6, q6⟩ => exact fin S6 fun s7 J7 => ⟨_, _, J7, q6⟩
      | .brk, ⟨_, _, S6, q6⟩ => exact fin S6 fun s7 J7 => ⟨_, _, J7, q6⟩
      | .cont, ⟨_, _, S6, q6⟩ => exact fin S6 fun s7 J7 => ⟨_, _, J7, q6⟩
      | .ret u, ⟨_, _, _, S6, r6, q6⟩ => exact fin S6 fun s7 J7 => ⟨_, _, _, J7, r6, q6⟩
    | false =>
      obtain ⟨b, m2, yes2, no2⟩ := no rfl
      show wpAny _ X.A (handleBy (.ref a) X.env [.ExceptHandler (some (.Name x2 q2)) none (b2 :: w2) r2]) _ _ _
      refine wpAny_handleBy_cons (codeAny_handlers_test (read hc2 ((PySem.W.exm_one (M := model X.prog X.w) J3.kIn ty m2).here ?_))) (by intro q; cases q)
      cases b with
      | true =>
        refine codeAny_handlers_suite (HandSPX.lands_againZ fl3 fun h4 fl4 up4 => ?_)
        have J4 : Inv X pins σ' H' { s' with heap := h4 } := J.landed nb fl4.1 ((up.trans up3).trans up4) os ag
        obtain ⟨o4, v4, e4, z4, d4⟩ := fl4.there
        refine wpAny_mono ((s2 a o4 cls d (X.pn ++ pins) z4 ⟨_, d4⟩).run [] _ _ H' _ (J4.suite e4 d4 na offL offF) (yes2 rfl a na)) (fun f s6 z => ?_) fun _ _ z => z.elim
        match f, z with
        | .next, ⟨_, _, S6, q6⟩ => exact ⟨_, _, S6.unsuite ok, q6⟩
        | .brk, ⟨_, _, S6, q6⟩ => exact ⟨_, _, S6.unsuite ok, q6⟩
        | .cont, ⟨_, _, S6, q6⟩ => exact ⟨_, _, S6.unsuite ok, q6⟩
        | .ret u, ⟨_, _, _, S6, r6, q6⟩ => exact ⟨_, _, _, S6.unsuite ok, r6, q6⟩
      | false =>
        show wpAny _ X.A (handleBy (.ref a) X.env []) _ _ _
        obtain ⟨_, _, _, oe, vs, T, oT, ts', he, hz, hd, h1, hr⟩ := id fl3
        refine wpAny_handleBy_nil ?_
        unfold PySem.passOn
        refine wpAny_bind (wpAny_field he hd h1 ?_)
        have nn : ¬ ((Value.ref T == Value.none) = true) := by simp
        rw [if_neg nn]
        have out : wpAny (model X.prog X.w) X.A (setFlight (.ref a) X.env.frame)
            (fun _ s4 => wpAny (model X.prog X.w) X.A (throw (.ref a) : Sem Flow) (SP X pins D) X.xe s4) X.xe { s' with heap := h3 } := by
          rw [hf]
          refine HandSPX.setFlight_upZ fl3 fun h4 hh4 up4 => wpAny_throw (tk _ _ ?_)
          rw [← stk] at hh4
          exact ⟨a, B, sI, pins, σ', H', cls, d, rfl, J, nb, (up.trans up3).trans up4, .inr (.inr hh4), na, os, ag, no2 rfl⟩
        first
          | exact wpAny_bind (wpAny_pure (wpAny_bind out))
          | exact wpAny_bind out
  · match f, z with
    | .next, ⟨_, _, J, q⟩ => exact wpAny_execs_nil ⟨_, _, J.ofTry ok, q⟩
    | .brk, ⟨_, _, J, q⟩ => exact ⟨_, _, J.ofTry ok, q⟩
    | .cont, ⟨_, _, J, q⟩ => exact ⟨_, _, J.ofTry ok, q⟩
    | .ret u, ⟨_, _, _, J, r, q⟩ => exact ⟨_, _, _, J.ofTry ok, r, q⟩
end
end Ver

namespace Ver
open PySem PySem.Spec PyProof.Rows L2 LamX
section
variable {P : Program} {w : World} {K : PySem.W.Frag} {mg mb : Str → Option Value} {k : Nat} {fa a c T : Addr} {sp : Sp} {s₁ : Shared} {vs : List Value} {ns : List Int}
/-- an empty table -/
abbrev noTab : Obj := { cls := .none, data := .fields #[] }
/-- the law's call over one abstract heap, the law's own table in it -/
theorem lawTOn {H : Hp} (KX : K.In s₁.heap) (hns : s₁.heap.Ns mainGlobals mg) (hb : s₁.heap.Ns builtinsNs mb) (hbb : ∀ x : Str, x ≠ "__name__" → mb x = bootBuiltins x) (hlim : s₁.heap.NoLimit) (hg : s₁.gens = #[])
    (tab : s₁.heap.get? T = some noTab) (nT : K.lookup T = none) (hC : PySem.W.CodeHd s₁.heap c T)
    (hbm : ∃ (m : Addr) (o : Obj), mg "__builtins__" = some (.ref m) ∧ m ≠ builtinsNs ∧ s₁.heap.get? m = some o ∧ o.cls = .type "module" ∧ o.dict = some builtinsNs ∧ o.data = .plain)
    (ha : s₁.heap.get? a = some { cls := .type "list", data := .seq vs.toArray }) (hr : Room k callerA)
    (F : ∀ base : Heap, K.In base → base.Ns mainGlobals mg → TabB base mg c T → FnG P w K mg base CX0 k fa sp)
    (HT : H T = some (.tbl #[])) (HA : ∀ b, b ≠ T → H b = none ∨ (b = a ∧ ∃ o xs, H b = some (.frz o (.lst xs))))
    (hsp : sp [.ref a] H (fun v _ => v = .bl true) fun _ _ _ => False) (hok : HOk P w H s₁.heap) (hK : H a ≠ none → K.lookup a = none) :
    codeAny (model P w) callerA (.call (.ref fa) ⟨[.ref a], []⟩) (fun r s' => r = .ok (.ret (.bool true)) ∧ OldK s₁.heap s'.heap ∧ s'.os = s₁.os ∧ AllBare s'.gens) s₁ := by
  have free : ∀ b o, s₁.heap.get? b = some o → (∀ w n, o.data ≠ Data.seq w n) → o.data ≠ .fields #[] → H b = none := fun b o e n1 n2 => by
    by_cases z : b = T
    · rw [z, tab] at e
      cases e
      exact absurd rfl n2
    · rcases HA b z with h | ⟨h, _⟩
      · exact h
      · rw [h, ha] at e
        cases e
        exact absurd rfl (n1 _ _)
  have names : ∀ b m, s₁.heap.Ns b m → (hidT s₁.heap H).Ns b m := fun b m ⟨o, es, ep, e, d, r⟩ =>
    ⟨o, es, ep, hidT_get e (free b o e (fun w n z => by rw [d] at z; cases z) fun z => by rw [d] at z; cases z), d, r⟩
  have KB : K.In (hidT s₁.heap H) := fun b o e => hidT_get (KX b o e) (by
    by_cases z : b = T
    · rw [z, nT] at e
      cases e
    · rcases HA b z with h | ⟨h, o2, xs, h2⟩
      · exact h
      · rw [h] at e h2
        rw [hK (by rw [h2]; simp)] at e
        cases e)
  have md : Mod K mg (hidT s₁.heap H) := ⟨KB, names _ _ hns, ⟨mb, names _ _ hb, hbb⟩, by obtain ⟨mc, h1, h2⟩ := hlim; exact ⟨mc, names _ _ h1, h2⟩⟩
  have nof : ∀ b, b ∉ frs ([] : List Env) := fun b z => by cases z
  have TB : TabB (hidT s₁.heap H) mg c T := by
    obtain ⟨o, us, file, tf, flags, tg, inF, text, tt, e1, r1, r2, r3, r⟩ := hC
    obtain ⟨m, om, b1, b2, b3, b4, b5, b6⟩ := hbm
    have nG : m ≠ mainGlobals := fun q => by
      obtain ⟨o', es, ep, e, d, _⟩ := hns
      rw [q, e] at b3
      cases b3
      rw [d] at b6
      cases b6
    have nP : m ≠ T := fun q => by
      rw [q, tab] at b3
      cases b3
      cases b6
    refine ⟨⟨o, us, file, tf, flags, tg, inF, text, tt, hidT_get e1 (free c o e1 (fun w n z => ?_) fun z => ?_), r1, r2, r3, r⟩,
      ⟨m, om, b1, b2, nG, nP, hidT_get b3 (free m om b3 (fun w n z => ?_) fun z => ?_), b4, b5, b6⟩, fun z => ?_⟩
    · rw [r2] at z
      cases z
    · rw [r2] at z
      cases z
      simp at r3
    · rw [b6] at z
      cases z
    · rw [b6] at z
      cases z
    · obtain ⟨o', es, ep, e, d, _⟩ := hns
      rw [z, tab] at e
      cases e
      cases d
  have e0 : Env0 P w K mg (hidT s₁.heap H) callerA [] s₁ H := ⟨rfl, md, fun _ _ e => of_hidT e, Nat.le_of_eq (hidT_size _ _), True.intro, fun b z => absurd z (nof b), hok, .of_eq hg⟩
  refine codeAny_mono (F _ KB (names _ _ hns) TB callerA [] s₁ H [.ref a] [.ref a] _ _ rfl hr e0 (.cons rfl .nil) hsp) fun rs s' z => ?_
  match rs, z with
  | .error _, z => exact z.elim
  | .ok .next, z => exact z.elim
  | .ok .brk, z => exact z.elim
  | .ok .cont, z => exact z.elim
  | .ok (.ret u), z =>
    obtain ⟨v, H', os, bare, un, ok', rv, ev⟩ := z
    cases (show v = V.bl true from ev)
    cases (show u = Value.bool true from rv)
    have stays : ∀ b o, b ≠ T → s₁.heap.get? b = some o → s'.heap.get? b = some o := fun b o nb e => by
      rcases HA b nb with n | ⟨_, ob, xs, n⟩
      · exact un.keep b o e n (nof b) (by simp)
      · have h1 := (hok b _ n).1
        have h2 := (ok' b _ (un.frzs b ob _ n)).1
        rw [e] at h1
        cases h1
        exact h2
    obtain ⟨more, hm⟩ := un.tbls T #[] HT
    have tab2 := ok' T _ hm
    rw [Array.empty_append] at tab2
    refine ⟨rfl, ⟨fun b o e => ?_, fun b o e => ?_⟩, os, bare⟩
    · by_cases z : b = T
      · rw [z] at e ⊢
        rw [tab] at e
        cases e
        exact .inr (.inl ⟨(hC.tab tab).isCodeTable, rfl, #[], more, rfl, by rw [Array.empty_append]; exact tab2⟩)
      · exact .inl (stays b o z e)
    · by_cases z : b = T
      · rw [z]
        exact ⟨_, tab2⟩
      · exact ⟨o, stays b o z e⟩
theorem lawT (KX : K.In s₁.heap) (hns : s₁.heap.Ns mainGlobals mg) (hb : s₁.heap.Ns builtinsNs mb) (hbb : ∀ x : Str, x ≠ "__name__" → mb x = bootBuiltins x) (hlim : s₁.heap.NoLimit) (hg : s₁.gens = #[])
    (tab : s₁.heap.get? T = some noTab) (nT : K.lookup T = none) (hC : PySem.W.CodeHd s₁.heap c T)
    (hbm : ∃ (m : Addr) (o : Obj), mg "__builtins__" = some (.ref m) ∧ m ≠ builtinsNs ∧ s₁.heap.get? m = some o ∧ o.cls = .type "module" ∧ o.dict = some builtinsNs ∧ o.data = .plain)
    (ha : s₁.heap.get? a = some { cls := .type "list", data := .seq vs.toArray }) (hi : IntsAre vs ns) (hl : ns.length ≤ sizeLine) (hr : Room k callerA)
    (F : ∀ base : Heap, K.In base → base.Ns mainGlobals mg → TabB base mg c T → FnG P w K mg base CX0 k fa sp)
    (hsp : ∀ H : Hp, H T = some (.tbl #[]) → SqL K H a (ns.map V.int) → sp [.ref a] H (fun v _ => v = .bl true) fun _ _ _ => False) :
    codeAny (model P w) callerA (.call (.ref fa) ⟨[.ref a], []⟩) (fun r s' => r = .ok (.ret (.bool true)) ∧ OldK s₁.heap s'.heap ∧ s'.os = s₁.os ∧ AllBare s'.gens) s₁ := by
  have rv := vals_ints hi
  have aT : a ≠ T := fun z => by
    rw [z, tab] at ha
    cases ha
  cases ek : K.lookup a with
  | some o =>
    have eo : o = _ := Option.some.inj ((KX a o ek).symm.trans ha)
    let H1 : Hp := fun b => if b = T then some (.tbl #[]) else none
    have on : H1 T = some (.tbl #[]) := if_pos rfl
    have off : ∀ b, b ≠ T → H1 b = none := fun b z => if_neg z
    have S0 : SqL K H1 a (ns.map V.int) := .inr ⟨o, vs.toArray, _, ek, by rw [eo], by rw [eo], by rw [eo], by rw [List.size_toArray, ← rv.length, List.length_map]; exact hl, by simpa using rv⟩
    refine lawTOn (H := H1) KX hns hb hbb hlim hg tab nT hC hbm ha hr F on (fun b z => .inl (off b z)) (hsp _ on S0) (fun b u z => ?_) fun z => absurd (off a aT) z
    by_cases q : b = T
    · rw [q, on] at z
      cases z
      rw [q]
      exact tab
    · rw [off b q] at z
      cases z
  | none =>
    let H1 : Hp := fun b => if b = T then some (.tbl #[]) else if b = a then some (.frz { cls := .type "list", data := .seq vs.toArray } (.lst (ns.map V.int))) else none
    have on : H1 T = some (.tbl #[]) := if_pos rfl
    have at_ : H1 a = some (.frz { cls := .type "list", data := .seq vs.toArray } (.lst (ns.map V.int))) := (if_neg aT).trans (if_pos rfl)
    have off : ∀ b, b ≠ T → b ≠ a → H1 b = none := fun b z z2 => (if_neg z).trans (if_neg z2)
    refine lawTOn (H := H1) KX hns hb hbb hlim hg tab nT hC hbm ha hr F on (fun b z => ?_) (hsp _ on (.inl (.inr ⟨_, at_⟩))) (fun b u z => ?_) fun _ => ek
    · by_cases q : b = a
      · exact .inr ⟨q, _, _, by rw [q]; exact at_⟩
      · exact .inl (off b z q)
    · by_cases q : b = T
      · rw [q, on] at z
        cases z
        rw [q]
        exact tab
      · by_cases q2 : b = a
        · subst q2
          rw [at_] at z
          cases z
          exact ⟨ha, by rw [List.length_map]; exact hl, vs, _, rv, ha⟩
        · rw [off b q q2] at z
          cases z
end
/-- the goal that the head leaves, for a law with lambdas -/
theorem walkT {l : PySem.W.OpenLaw} {n k : Nat} {q : Program} {loose : List Str} {XP : (Str → Option Value) → Heap → Prop} {YP : World → Heap → Prop} {d : DefRec}
    (hn : l.most = some n) (hn2 : n ≤ sizeLine) (hdf : d.params.defaults = []) (hr : Room k callerA)
    (F : ∀ (w : World) (mg : Str → Option Value) (fa : Addr) (h : Heap), YP w h → h.Ns mainGlobals mg → mg d.name = some (.ref fa) → ∃ (K : PySem.W.Frag) (c T : Addr) (sp : Sp), K.In h ∧
      h.get? T = some noTab ∧ K.lookup T = none ∧ PySem.W.CodeHd h c T ∧
      (∀ (H : Hp) (a : Addr) (ns : List Int), ns.length ≤ n → H T = some (.tbl #[]) → SqL K H a (ns.map V.int) → sp [.ref a] H (fun v _ => v = .bl true) fun _ _ _ => False) ∧
      ∀ base : Heap, K.In base → base.Ns mainGlobals mg → TabB base mg c T → FnG l.prog w K mg base CX0 k fa sp) :
    PySem.W.WalkO q loose XP YP l.row.toRowW d [] (fun f vs => PySem.call f vs) :=
  Att.attach_call hn hdf fun w s₀ s₁ mg mb fa o pm cd doc a vs ns G Y ho hd hcd hmg hobj hints hlen hg => by
    obtain ⟨K, c, T, sp, KX, tab, nT, hC, hsp, hF⟩ := F w mg fa _ Y G.T.g hmg
    exact lawT KX G.T.g G.T.b G.T.builtins G.T.nolimit hg tab nT hC G.T.bmain hobj hints (Nat.le_trans hlen hn2) hr hF fun H hT hS => hsp H a ns hlen hT hS
end Ver

/-! The mathematics of the numbers modulo a prime: Euclid's way, trial division. -/
namespace Num
/-- trial division by odd divisors from 3 on, up to the root -/
def oddOk (v : Nat) (n : Nat) : Bool := (List.range n).all fun i => v % (3 + 2 * i) != 0
/-- is_prime's answer, for an int -/
def prB (r : Nat → Nat) (v : Int) : Bool :=
  decide (2 ≤ v) && decide (v ≤ 1000000000) && (if v % 2 = 0 then decide (v = 2) else oddOk v.toNat ((r v.toNat + 1 - 3 + 1) / 2))
/-- what the walk asks of a modulus -/
structure Md (p : Int) : Prop where
  lo : 2 ≤ p
  hi : p ≤ 1000000000
  pr : ∀ n : Int, 0 < n → n < p → Int.gcd n p = 1
theorem gcd_one {p b : Nat} (hb : p < b * b) (h : (List.range b).all (fun d => decide (d < 2) || p % d != 0) = true) (n : Nat) (h0 : 0 < n) (h1 : n < p) : Nat.gcd n p = 1 := by
  have small : ∀ d, 2 ≤ d → d < b → ¬ d ∣ p := fun d h2 h3 hd => by
    have q := List.all_eq_true.mp h d (List.mem_range.mpr h3)
    rw [Bool.or_eq_true] at q
    rcases q with q | q
    · have := of_decide_eq_true q
      omega
    · have e : p % d = 0 := Nat.mod_eq_zero_of_dvd hd
      rw [e] at q
      cases q
  have hg : Nat.gcd n p ∣ p := Nat.gcd_dvd_right n p
  have hn : Nat.gcd n p ∣ n := Nat.gcd_dvd_left n p
  have gpos : 0 < Nat.gcd n p := Nat.gcd_pos_of_pos_left _ h0
  have gle : Nat.gcd n p ≤ n := Nat.le_of_dvd h0 hn
  by_cases g1 : Nat.gcd n p = 1
  · exact g1
  · exfalso
    obtain ⟨m, hm⟩ := hg
    have m2 : 2 ≤ m := by
      cases m with
      | zero => omega
      | succ m =>
        cases m with
        | zero => omega
        | succ m => omega
    have hmd : m ∣ p := ⟨Nat.gcd n p, by rw [Nat.mul_comm]; exact hm⟩
    by_cases c : Nat.gcd n p < b
    · exact small _ (by omega) c (Nat.gcd_dvd_right n p)
    · by_cases c2 : m < b
      · exact small m m2 c2 hmd
      · have : b * b ≤ Nat.gcd n p * m := Nat.mul_le_mul (by omega) (by omega)
        omega
theorem md_of (p b : Nat) (h2 : 2 ≤ p) (h9 : p ≤ 1000000000) (hb : p < b * b) (h : (List.range b).all (fun d => decide (d < 2) || p % d != 0) = true) : Md (p : Int) :=
  ⟨by omega, by omega, fun n h0 h1 => by
    have e : n = ((n.toNat : Nat) : Int) := by omega
    rw [e]
    show Nat.gcd _ _ = 1
    exact gcd_one hb h n.toNat (by omega) (by omega)⟩
theorem md2 : Md 2 := md_of 2 2 (by decide) (by decide) (by decide) (by decide)
theorem md3 : Md 3 := md_of 3 2 (by decide) (by decide) (by decide) (by decide)
theorem md5 : Md 5 := md_of 5 3 (by decide) (by decide) (by decide) (by decide)
theorem md7 : Md 7 := md_of 7 3 (by decide) (by decide) (by decide) (by decide)
theorem md101 : Md 101 := md_of 101 11 (by decide) (by decide) (by decide) (by decide)
theorem md1000003 : Md 1000003 := md_of 1000003 1001 (by decide) (by decide) (by decide) (by decide +kernel)

/-! ### Euclid -/
/-- the state of the loop: past and now times the number are rest and left, modulo p -/
structure Eu (p n rest left past now : Int) : Prop where
  l0 : 0 ≤ left
  lp : left < p
  r0 : 0 < rest
  rp : rest ≤ p
  a : p ∣ past * n - rest
  b : p ∣ now * n - left
  g : Int.gcd rest left = 1
theorem Eu.start {p n : Int} (m : Md p) (h0 : 0 < n) (h1 : n < p) : Eu p n p (n % p) 0 1 := by
  have e : n % p = n := Int.emod_eq_of_lt (by omega) h1
  have hlo := m.lo
  refine ⟨by omega, by omega, by omega, Int.le_refl _, ⟨-1, by omega⟩, ⟨0, by omega⟩, ?_⟩
  rw [e, Int.gcd_comm]
  exact m.pr n h0 h1
theorem Eu.step {p n rest left past now : Int} (E : Eu p n rest left past now) (h : left ≠ 0) : Eu p n left (rest - rest / left * left) now (past - rest / left * now) := by
  have hl : 0 < left := by have := E.l0; omega
  have e : rest - rest / left * left = rest % left := by
    have := Int.emod_def rest left
    rw [Int.mul_comm] at this
    omega
  rw [e]
  have m0 : 0 ≤ rest % left := Int.emod_nonneg _ h
  have m1 : rest % left < left := Int.emod_lt_of_pos _ hl
  refine ⟨m0, by have := E.lp; omega, hl, by have := E.lp; omega, E.b, ?_, ?_⟩
  · obtain ⟨x, hx⟩ := E.a
    obtain ⟨y, hy⟩ := E.b
    refine ⟨x - rest / left * y, ?_⟩
    rw [← e]
    have h1 : (past - rest / left * now) * n - (rest - rest / left * left) = (past * n - rest) - rest / left * (now * n - left) := by
      rw [Int.sub_mul, Int.mul_sub, Int.mul_assoc]
      omega
    rw [h1, hx, hy, Int.mul_sub]
    congr 1
    rw [← Int.mul_assoc, ← Int.mul_assoc, Int.mul_comm (rest / left) p]
  · rw [Int.gcd_comm]
    have := E.g
    rw [Int.gcd_comm] at this
    rw [← this]
    show Nat.gcd _ _ = Nat.gcd _ _
    have a1 : (rest % left).natAbs = rest.natAbs % left.natAbs := by
      have hr := E.r0
      have q : ((rest.natAbs % left.natAbs : Nat) : Int) = rest % left := by
        rw [Int.natCast_emod]
        rw [Int.natAbs_of_nonneg (by omega), Int.natAbs_of_nonneg (by omega)]
      omega
    rw [a1, ← Nat.gcd_rec, Nat.gcd_comm]
theorem Eu.times {p n rest left past now : Int} (E : Eu p n rest left past now) (h : left ≠ 0) : 0 ≤ rest / left ∧ rest / left ≤ p := by
  have hl : 0 < left := by have := E.l0; omega
  have hr := E.r0
  have hp := E.rp
  refine ⟨Int.ediv_nonneg (by omega) (by omega), ?_⟩
  have : rest / left ≤ rest := Int.ediv_le_self _ (by omega)
  omega
/-- at the end: the inverse -/
theorem Eu.inv {p n rest past now : Int} (m : Md p) (E : Eu p n rest 0 past now) : 0 ≤ past % p ∧ past % p < p ∧ (past % p * n) % p = 1 := by
  have hlo := m.lo
  have r1 : rest = 1 := by
    have g := E.g
    have h0 := E.r0
    rw [Int.gcd_zero_right] at g
    omega
  have hm : (past * n) % p = 1 := by
    obtain ⟨x, hx⟩ := E.a
    have e : past * n = 1 + p * x := by omega
    rw [e, Int.add_mul_emod_self_left]
    exact Int.emod_eq_of_lt (by omega) (by omega)
  refine ⟨Int.emod_nonneg _ (by omega), Int.emod_lt_of_pos _ (by omega), ?_⟩
  rw [Int.mul_emod, Int.emod_emod, ← Int.mul_emod]
  exact hm
/-- what over tells, times what it divided by -/
theorem over_back {p a b i : Int} (ha : 0 ≤ a ∧ a < p) (hi : (i * b) % p = 1 % p) : (a * i % p * b) % p = a := by
  have e : (a * i % p * b) % p = (a * (i * b)) % p := by
    rw [Int.mul_emod, Int.emod_emod, ← Int.mul_emod, Int.mul_assoc]
  rw [e, Int.mul_emod, hi, ← Int.mul_emod, Int.mul_one]
  exact Int.emod_eq_of_lt ha.1 ha.2
end Num

namespace K84
open PySem PySem.Spec PyProof.Rows L2 Ver
def top (i : Nat) : Stmt := PySem.Challenge.pw_firstanswers_k84_whole_texts_of_orders.main.body.getD i (.Pass ⟨0, 0, 0, 0⟩)
abbrev s_is_integer : Stmt := top 5
abbrev n_is_integer : List Str := ["value"]
theorem sc_is_integer : FnScope n_is_integer ["value"] (defScope s_is_integer) := ⟨rfl, rfl, rfl, by decide +kernel, rfl, by decide +kernel, by decide +kernel⟩
def d_is_integer : He.DefD := ⟨("is_integer", none), "is_integer", "is_integer", defArgs s_is_integer, defBody s_is_integer, defScope s_is_integer, [], []⟩
abbrev s_is_between : Stmt := top 6
abbrev n_is_between : List Str := ["value", "low", "high"]
theorem sc_is_between : FnScope n_is_between ["value", "low", "high"] (defScope s_is_between) := ⟨rfl, rfl, rfl, by decide +kernel, rfl, by decide +kernel, by decide +kernel⟩
def d_is_between : He.DefD := ⟨("is_between", none), "is_between", "is_between", defArgs s_is_between, defBody s_is_between, defScope s_is_between, [], []⟩
abbrev s_is_letters : Stmt := top 7
abbrev n_is_letters : List Str := ["value", "letter"]
theorem sc_is_letters : FnScope n_is_letters ["value"] (defScope s_is_letters) := ⟨rfl, rfl, rfl, by decide +kernel, rfl, by decide +kernel, by decide +kernel⟩
def d_is_letters : He.DefD := ⟨("is_letters", none), "is_letters", "is_letters", defArgs s_is_letters, defBody s_is_letters, defScope s_is_letters, [], []⟩
abbrev s_Order___init__ : Stmt := inClass (top 17) 0
abbrev n_Order___init__ : List Str := ["self", "letters", "costs", "name", "letter"]
theorem sc_Order___init__ : FnScope n_Order___init__ ["self", "letters", "costs"] (defScope s_Order___init__) := ⟨rfl, rfl, rfl, by decide +kernel, rfl, by decide +kernel, by decide +kernel⟩
def d_Order___init__ : He.DefD := ⟨("Order", some "__init__"), "__init__", "Order.__init__", defArgs s_Order___init__, defBody s_Order___init__, defScope s_Order___init__, [], []⟩
abbrev s_Order_of_costs : Stmt := inClass (top 17) 1
abbrev n_Order_of_costs : List Str := ["cls", "costs", "name", "letters"]
theorem sc_Order_of_costs : FnScope n_Order_of_costs ["cls", "costs"] (defScope s_Order_of_costs) := ⟨rfl, rfl, rfl, by decide +kernel, rfl, by decide +kernel, by decide +kernel⟩
abbrev s_Order_costs : Stmt := inClass (top 17) 3
abbrev n_Order_costs : List Str := ["self"]
theorem sc_Order_costs : FnScope n_Order_costs ["self"] (defScope s_Order_costs) := ⟨rfl, rfl, rfl, by decide +kernel, rfl, by decide +kernel, by decide +kernel⟩
abbrev s_Order___eq__ : Stmt := inClass (top 17) 5
abbrev n_Order___eq__ : List Str := ["self", "other"]
theorem sc_Order___eq__ : FnScope n_Order___eq__ ["self", "other"] (defScope s_Order___eq__) := ⟨rfl, rfl, rfl, by decide +kernel, rfl, by decide +kernel, by decide +kernel⟩
def d_Order___eq__ : He.DefD := ⟨("Order", some "__eq__"), "__eq__", "Order.__eq__", defArgs s_Order___eq__, defBody s_Order___eq__, defScope s_Order___eq__, [], []⟩
abbrev s_divisor_of : Stmt := top 18
abbrev n_divisor_of : List Str := ["numbers", "divisor", "number"]
theorem sc_divisor_of : FnScope n_divisor_of ["numbers"] (defScope s_divisor_of) := ⟨rfl, rfl, rfl, by decide +kernel, rfl, by decide +kernel, by decide +kernel⟩
def d_divisor_of : He.DefD := ⟨("divisor_of", none), "divisor_of", "divisor_of", defArgs s_divisor_of, defBody s_divisor_of, defScope s_divisor_of, [], []⟩
abbrev s_few_costs : Stmt := top 19
abbrev n_few_costs : List Str := ["steps", "few", "cost", "step"]
theorem sc_few_costs : FnScope n_few_costs ["steps"] (defScope s_few_costs) := ⟨rfl, rfl, rfl, by decide +kernel, rfl, by decide +kernel, by decide +kernel⟩
def d_few_costs : He.DefD := ⟨("few_costs", none), "few_costs", "few_costs", defArgs s_few_costs, defBody s_few_costs, defScope s_few_costs, [], []⟩
abbrev s_InvalidText___init__ : Stmt := inClass (top 13) 0
abbrev n_InvalidText___init__ : List Str := ["self", "line"]
theorem sc_InvalidText___init__ : FnScope n_InvalidText___init__ ["self", "line"] (defScope s_InvalidText___init__) := ⟨rfl, rfl, rfl, by decide +kernel, rfl, by decide +kernel, by decide +kernel⟩
def d_InvalidText___init__ : He.DefD := ⟨("InvalidText", some "__init__"), "__init__", "InvalidText.__init__", defArgs s_InvalidText___init__, defBody s_InvalidText___init__, defScope s_InvalidText___init__, [], []⟩
abbrev s_write_order : Stmt := top 22
abbrev n_write_order : List Str := ["order", "costs", "letter"]
theorem sc_write_order : FnScope n_write_order ["order"] (defScope s_write_order) := ⟨rfl, rfl, rfl, by decide +kernel, rfl, by decide +kernel, by decide +kernel⟩
def d_write_order : He.DefD := ⟨("write_order", none), "write_order", "write_order", defArgs s_write_order, defBody s_write_order, defScope s_write_order, [], []⟩
abbrev s_read_order : Stmt := top 23
abbrev n_read_order : List Str := ["text"]
theorem sc_read_order : FnScope n_read_order ["text"] (defScope s_read_order) := ⟨rfl, rfl, rfl, by decide +kernel, rfl, by decide +kernel, by decide +kernel⟩
def d_read_order : He.DefD := ⟨("read_order", none), "read_order", "read_order", defArgs s_read_order, defBody s_read_order, defScope s_read_order, [], []⟩
abbrev s_order_of : Stmt := top 24
abbrev n_order_of : List Str := ["value", "at", "pieces", "letters", "costs", "piece"]
theorem sc_order_of : FnScope n_order_of ["value", "at"] (defScope s_order_of) := ⟨rfl, rfl, rfl, by decide +kernel, rfl, by decide +kernel, by decide +kernel⟩
def d_order_of : He.DefD := ⟨("order_of", none), "order_of", "order_of", defArgs s_order_of, defBody s_order_of, defScope s_order_of, [], []⟩
abbrev s__law_pen : Stmt := top 26
abbrev n__law_pen : List Str := ["_law_script"]
theorem sc__law_pen : FnScope n__law_pen ["_law_script"] (defScope s__law_pen) := ⟨rfl, rfl, rfl, by decide +kernel, rfl, by decide +kernel, by decide +kernel⟩
def d__law_pen : He.DefD := ⟨("_law_pen", none), "_law_pen", "_law_pen", defArgs s__law_pen, defBody s__law_pen, defScope s__law_pen, [], []⟩
abbrev s__law_draw : Stmt := top 27
abbrev n__law_draw : List Str := ["_law_pen_here", "_law_many", "_law_digit", "_law_place", "_law_cell", "_law_mixed", "_law_drawn"]
theorem sc__law_draw : FnScope n__law_draw ["_law_pen_here", "_law_many"] (defScope s__law_draw) := ⟨rfl, rfl, rfl, by decide +kernel, rfl, by decide +kernel, by decide +kernel⟩
def d__law_draw : He.DefD := ⟨("_law_draw", none), "_law_draw", "_law_draw", defArgs s__law_draw, defBody s__law_draw, defScope s__law_draw, [], []⟩
abbrev s__law_pick : Stmt := top 28
abbrev n__law_pick : List Str := ["_law_pen_here", "_law_options"]
theorem sc__law_pick : FnScope n__law_pick ["_law_pen_here", "_law_options"] (defScope s__law_pick) := ⟨rfl, rfl, rfl, by decide +kernel, rfl, by decide +kernel, by decide +kernel⟩
def d__law_pick : He.DefD := ⟨("_law_pick", none), "_law_pick", "_law_pick", defArgs s__law_pick, defBody s__law_pick, defScope s__law_pick, [], []⟩
abbrev s__law_shuffled : Stmt := top 29
abbrev n__law_shuffled : List Str := ["_law_pen_here", "_law_items", "_law_rest", "_law_found"]
theorem sc__law_shuffled : FnScope n__law_shuffled ["_law_pen_here", "_law_items"] (defScope s__law_shuffled) := ⟨rfl, rfl, rfl, by decide +kernel, rfl, by decide +kernel, by decide +kernel⟩
def d__law_shuffled : He.DefD := ⟨("_law_shuffled", none), "_law_shuffled", "_law_shuffled", defArgs s__law_shuffled, defBody s__law_shuffled, defScope s__law_shuffled, [], []⟩
abbrev s__law_letters : Stmt := top 30
abbrev n__law_letters : List Str := ["_law_pen_here", "_law_most", "_law_places", "_law_place"]
theorem sc__law_letters : FnScope n__law_letters ["_law_pen_here", "_law_most"] (defScope s__law_letters) := ⟨rfl, rfl, rfl, by decide +kernel, rfl, by decide +kernel, by decide +kernel⟩
def d__law_letters : He.DefD := ⟨("_law_letters", none), "_law_letters", "_law_letters", defArgs s__law_letters, defBody s__law_letters, defScope s__law_letters, [], []⟩
abbrev s__law_letters_read : Stmt := top 31
abbrev n__law_letters_read : List Str := ["_law_said", "_law_sign", "_law_k"]
theorem sc__law_letters_read : FnScope n__law_letters_read ["_law_said"] (defScope s__law_letters_read) := ⟨rfl, rfl, rfl, by decide +kernel, rfl, by decide +kernel, by decide +kernel⟩
def d__law_letters_read : He.DefD := ⟨("_law_letters_read", none), "_law_letters_read", "_law_letters_read", defArgs s__law_letters_read, defBody s__law_letters_read, defScope s__law_letters_read, [], []⟩
abbrev s__law_order_read : Stmt := top 32
abbrev n__law_order_read : List Str := ["_law_said", "_law_pieces", "_law_piece"]
theorem sc__law_order_read : FnScope n__law_order_read ["_law_said"] (defScope s__law_order_read) := ⟨rfl, rfl, rfl, by decide +kernel, rfl, by decide +kernel, by decide +kernel⟩
def d__law_order_read : He.DefD := ⟨("_law_order_read", none), "_law_order_read", "_law_order_read", defArgs s__law_order_read, defBody s__law_order_read, defScope s__law_order_read, [], []⟩
abbrev s__law_order_text : Stmt := top 33
abbrev n__law_order_text : List Str := ["_law_costs", "_law_letter"]
theorem sc__law_order_text : FnScope n__law_order_text ["_law_costs"] (defScope s__law_order_text) := ⟨rfl, rfl, rfl, by decide +kernel, rfl, by decide +kernel, by decide +kernel⟩
def d__law_order_text : He.DefD := ⟨("_law_order_text", none), "_law_order_text", "_law_order_text", defArgs s__law_order_text, defBody s__law_order_text, defScope s__law_order_text, [], []⟩
abbrev s__law_bent_line : Stmt := top 34
abbrev n__law_bent_line : List Str := ["_law_pen_here", "_law_line", "_law_pieces", "_law_way", "_law_at", "_law_to", "_law_some", "_law_more"]
theorem sc__law_bent_line : FnScope n__law_bent_line ["_law_pen_here", "_law_line"] (defScope s__law_bent_line) := ⟨rfl, rfl, rfl, by decide +kernel, rfl, by decide +kernel, by decide +kernel⟩
def d__law_bent_line : He.DefD := ⟨("_law_bent_line", none), "_law_bent_line", "_law_bent_line", defArgs s__law_bent_line, defBody s__law_bent_line, defScope s__law_bent_line, [], []⟩
abbrev s__law_line_met : Stmt := top 35
abbrev n__law_line_met : List Str := ["_law_call", "e"]
theorem sc__law_line_met : FnScope n__law_line_met ["_law_call"] (defScope s__law_line_met) := ⟨rfl, rfl, rfl, by decide +kernel, rfl, by decide +kernel, by decide +kernel⟩
def d__law_line_met : He.DefD := ⟨("_law_line_met", none), "_law_line_met", "_law_line_met", defArgs s__law_line_met, defBody s__law_line_met, defScope s__law_line_met, [], []⟩
abbrev s_law : Stmt := top 36
abbrev n_law : List Str := ["_law_script", "_law_pen_here", "_law_turn", "_law_letters_here", "_law_costs", "_law_letter", "_law_rank", "_law_line", "_law_again", "_law_thing", "_law_k", "_law_due", "_law_told"]
theorem sc_law : FnScope n_law ["_law_script"] (defScope s_law) := ⟨rfl, rfl, rfl, by decide +kernel, rfl, by decide +kernel, by decide +kernel⟩
def d_law : He.DefD := ⟨("law", none), "law", "law", defArgs s_law, defBody s_law, defScope s_law, [], []⟩
def fn : List He.DefD := [d_is_integer, d_is_between, d_is_letters, d_Order___init__, d_Order___eq__, d_divisor_of, d_few_costs, d_InvalidText___init__, d_write_order, d_read_order, d_order_of, d__law_pen, d__law_draw, d__law_pick, d__law_shuffled, d__law_letters, d__law_letters_read, d__law_order_read, d__law_order_text, d__law_bent_line, d__law_line_met, d_law]
section
variable {P : Program} {w : World} {K : PySem.W.Frag} {fa : List He.Fa} {mg : Str → Option Value} {base : Heap} {k : Nat} {sp : Sp}
theorem mk_is_integer (S : He.SaysD fa fn K) (len : ∀ vs H Q E, sp vs H Q E → vs.length = 1)
    (hb : ∀ (cdv : Value) (A : Around) (outer : List Env) (s : Shared) (H : Hp) (vs : List V) (Q : VK) (E : XK), A.guards = some [] → Room k (A.deeper (envOfC "is_integer" (defScope s_is_integer) s.heap.objs.size (He.ga K "is_integer") cdv)) → sp vs H Q E →
      ∃ t, PSs (cxOf CX0 P w K mg base n_is_integer "is_integer" (defScope s_is_integer) (He.ga K "is_integer") cdv A outer s H E).nox (defBody s_is_integer) t ∧ t { nx := fun _ H' => Q .non H', rt := Q } (start n_is_integer vs) H) : FnG P w K mg base CX0 (k + 1) (He.ga K "is_integer") sp := by
  obtain ⟨fd, F⟩ := S.def_ 0 (d := d_is_integer) rfl
  exact ok0 F sc_is_integer (F.bindsA fun _ _ _ _ _ _ us hl => match us, hl with | [_], _ => rfl) len hb
theorem kp_is_integer (S : He.SaysD fa fn K) : PySem.W.keepIn K (.ref (He.ga K "is_integer")) = true := by
  obtain ⟨fd, F⟩ := S.def_ 0 (d := d_is_integer) rfl
  exact F.kp
theorem mk_is_between (S : He.SaysD fa fn K) (len : ∀ vs H Q E, sp vs H Q E → vs.length = 3)
    (hb : ∀ (cdv : Value) (A : Around) (outer : List Env) (s : Shared) (H : Hp) (vs : List V) (Q : VK) (E : XK), A.guards = some [] → Room k (A.deeper (envOfC "is_between" (defScope s_is_between) s.heap.objs.size (He.ga K "is_between") cdv)) → sp vs H Q E →
      ∃ t, PSs (cxOf CX0 P w K mg base n_is_between "is_between" (defScope s_is_between) (He.ga K "is_between") cdv A outer s H E).nox (defBody s_is_between) t ∧ t { nx := fun _ H' => Q .non H', rt := Q } (start n_is_between vs) H) : FnG P w K mg base CX0 (k + 1) (He.ga K "is_between") sp := by
  obtain ⟨fd, F⟩ := S.def_ 1 (d := d_is_between) rfl
  exact ok0 F sc_is_between (F.bindsA fun _ _ _ _ _ _ us hl => match us, hl with | [_, _, _], _ => rfl) len hb
theorem kp_is_between (S : He.SaysD fa fn K) : PySem.W.keepIn K (.ref (He.ga K "is_between")) = true := by
  obtain ⟨fd, F⟩ := S.def_ 1 (d := d_is_between) rfl
  exact F.kp
theorem mk_is_letters (S : He.SaysD fa fn K) (len : ∀ vs H Q E, sp vs H Q E → vs.length = 1)
    (hb : ∀ (cdv : Value) (A : Around) (outer : List Env) (s : Shared) (H : Hp) (vs : List V) (Q : VK) (E : XK), A.guards = some [] → Room k (A.deeper (envOfC "is_letters" (defScope s_is_letters) s.heap.objs.size (He.ga K "is_letters") cdv)) → sp vs H Q E →
      ∃ t, PSs (cxOf CX0 P w K mg base n_is_letters "is_letters" (defScope s_is_letters) (He.ga K "is_letters") cdv A outer s H E).nox (defBody s_is_letters) t ∧ t { nx := fun _ H' => Q .non H', rt := Q } (start n_is_letters vs) H) : FnG P w K mg base CX0 (k + 1) (He.ga K "is_letters") sp := by
  obtain ⟨fd, F⟩ := S.def_ 2 (d := d_is_letters) rfl
  exact ok0 F sc_is_letters (F.bindsA fun _ _ _ _ _ _ us hl => match us, hl with | [_], _ => rfl) len hb
theorem kp_is_letters (S : He.SaysD fa fn K) : PySem.W.keepIn K (.ref (He.ga K "is_letters")) = true := by
  obtain ⟨fd, F⟩ := S.def_ 2 (d := d_is_letters) rfl
  exact F.kp
theorem kp_Order___init__ (S : He.SaysD fa fn K) : PySem.W.keepIn K (.ref (He.ma K (He.ga K "Order") "__init__")) = true := by
  obtain ⟨fd, F⟩ := S.def_ 3 (d := d_Order___init__) rfl
  exact F.kp
theorem mk_Order___eq__ (S : He.SaysD fa fn K) (len : ∀ vs H Q E, sp vs H Q E → vs.length = 2)
    (hb : ∀ (cdv : Value) (A : Around) (outer : List Env) (s : Shared) (H : Hp) (vs : List V) (Q : VK) (E : XK), A.guards = some [] → Room k (A.deeper (envOfC "Order.__eq__" (defScope s_Order___eq__) s.heap.objs.size (He.ma K (He.ga K "Order") "__eq__") cdv)) → sp vs H Q E →
      ∃ t, PSs (cxOf CX0 P w K mg base n_Order___eq__ "Order.__eq__" (defScope s_Order___eq__) (He.ma K (He.ga K "Order") "__eq__") cdv A outer s H E).nox (defBody s_Order___eq__) t ∧ t { nx := fun _ H' => Q .non H', rt := Q } (start n_Order___eq__ vs) H) : FnG P w K mg base CX0 (k + 1) (He.ma K (He.ga K "Order") "__eq__") sp := by
  obtain ⟨fd, F⟩ := S.def_ 4 (d := d_Order___eq__) rfl
  exact ok0 F sc_Order___eq__ (F.bindsA fun _ _ _ _ _ _ us hl => match us, hl with | [_, _], _ => rfl) len hb
theorem kp_Order___eq__ (S : He.SaysD fa fn K) : PySem.W.keepIn K (.ref (He.ma K (He.ga K "Order") "__eq__")) = true := by
  obtain ⟨fd, F⟩ := S.def_ 4 (d := d_Order___eq__) rfl
  exact F.kp
theorem mk_divisor_of (S : He.SaysD fa fn K) (len : ∀ vs H Q E, sp vs H Q E → vs.length = 1)
    (hb : ∀ (cdv : Value) (A : Around) (outer : List Env) (s : Shared) (H : Hp) (vs : List V) (Q : VK) (E : XK), A.guards = some [] → Room k (A.deeper (envOfC "divisor_of" (defScope s_divisor_of) s.heap.objs.size (He.ga K "divisor_of") cdv)) → sp vs H Q E →
      ∃ t, PSs (cxOf CX0 P w K mg base n_divisor_of "divisor_of" (defScope s_divisor_of) (He.ga K "divisor_of") cdv A outer s H E).nox (defBody s_divisor_of) t ∧ t { nx := fun _ H' => Q .non H', rt := Q } (start n_divisor_of vs) H) : FnG P w K mg base CX0 (k + 1) (He.ga K "divisor_of") sp := by
  obtain ⟨fd, F⟩ := S.def_ 5 (d := d_divisor_of) rfl
  exact ok0 F sc_divisor_of (F.bindsA fun _ _ _ _ _ _ us hl => match us, hl with | [_], _ => rfl) len hb
theorem kp_divisor_of (S : He.SaysD fa fn K) : PySem.W.keepIn K (.ref (He.ga K "divisor_of")) = true := by
  obtain ⟨fd, F⟩ := S.def_ 5 (d := d_divisor_of) rfl
  exact F.kp
theorem mk_few_costs (S : He.SaysD fa fn K) (len : ∀ vs H Q E, sp vs H Q E → vs.length = 1)
    (hb : ∀ (cdv : Value) (A : Around) (outer : List Env) (s : Shared) (H : Hp) (vs : List V) (Q : VK) (E : XK), A.guards = some [] → Room k (A.deeper (envOfC "few_costs" (defScope s_few_costs) s.heap.objs.size (He.ga K "few_costs") cdv)) → sp vs H Q E →
      ∃ t, PSs (cxOf CX0 P w K mg base n_few_costs "few_costs" (defScope s_few_costs) (He.ga K "few_costs") cdv A outer s H E).nox (defBody s_few_costs) t ∧ t { nx := fun _ H' => Q .non H', rt := Q } (start n_few_costs vs) H) : FnG P w K mg base CX0 (k + 1) (He.ga K "few_costs") sp := by
  obtain ⟨fd, F⟩ := S.def_ 6 (d := d_few_costs) rfl
  exact ok0 F sc_few_costs (F.bindsA fun _ _ _ _ _ _ us hl => match us, hl with | [_], _ => rfl) len hb
theorem kp_few_costs (S : He.SaysD fa fn K) : PySem.W.keepIn K (.ref (He.ga K "few_costs")) = true := by
  obtain ⟨fd, F⟩ := S.def_ 6 (d := d_few_costs) rfl
  exact F.kp
theorem mk_InvalidText___init__ (S : He.SaysD fa fn K) (len : ∀ vs H Q E, sp vs H Q E → vs.length = 2)
    (hb : ∀ (cdv : Value) (A : Around) (outer : List Env) (s : Shared) (H : Hp) (vs : List V) (Q : VK) (E : XK), A.guards = some [] → Room k (A.deeper (envOfC "InvalidText.__init__" (defScope s_InvalidText___init__) s.heap.objs.size (He.ma K (He.ga K "InvalidText") "__init__") cdv)) → sp vs H Q E →
      ∃ t, PSs (cxOf CX0 P w K mg base n_InvalidText___init__ "InvalidText.__init__" (defScope s_InvalidText___init__) (He.ma K (He.ga K "InvalidText") "__init__") cdv A outer s H E).nox (defBody s_InvalidText___init__) t ∧ t { nx := fun _ H' => Q .non H', rt := Q } (start n_InvalidText___init__ vs) H) : FnG P w K mg base CX0 (k + 1) (He.ma K (He.ga K "InvalidText") "__init__") sp := by
  obtain ⟨fd, F⟩ := S.def_ 7 (d := d_InvalidText___init__) rfl
  exact ok0 F sc_InvalidText___init__ (F.bindsA fun _ _ _ _ _ _ us hl => match us, hl with | [_, _], _ => rfl) len hb
theorem kp_InvalidText___init__ (S : He.SaysD fa fn K) : PySem.W.keepIn K (.ref (He.ma K (He.ga K "InvalidText") "__init__")) = true := by
  obtain ⟨fd, F⟩ := S.def_ 7 (d := d_InvalidText___init__) rfl
  exact F.kp
theorem mk_write_order (S : He.SaysD fa fn K) (len : ∀ vs H Q E, sp vs H Q E → vs.length = 1)
    (hb : ∀ (cdv : Value) (A : Around) (outer : List Env) (s : Shared) (H : Hp) (vs : List V) (Q : VK) (E : XK), A.guards = some [] → Room k (A.deeper (envOfC "write_order" (defScope s_write_order) s.heap.objs.size (He.ga K "write_order") cdv)) → sp vs H Q E →
      ∃ t, PSs (cxOf CX0 P w K mg base n_write_order "write_order" (defScope s_write_order) (He.ga K "write_order") cdv A outer s H E).nox (defBody s_write_order) t ∧ t { nx := fun _ H' => Q .non H', rt := Q } (start n_write_order vs) H) : FnG P w K mg base CX0 (k + 1) (He.ga K "write_order") sp := by
  obtain ⟨fd, F⟩ := S.def_ 8 (d := d_write_order) rfl
  exact ok0 F sc_write_order (F.bindsA fun _ _ _ _ _ _ us hl => match us, hl with | [_], _ => rfl) len hb
theorem mkXK_write_order (S : He.SaysD fa fn K) (n : Nat) (ks : List Str) (g : {α : Type} → List α → List α → List α) (hrel : ∀ {vs zs : List V} {us ws : List Value}, Vals vs us → Vals zs ws → Vals (g vs zs) (g us ws))
    (hbi : ∀ (kV doc pm : Value) (an : Option Addr) (cdv ct : Value) (us ws : List Value), us.length = n → ws.length = ks.length → bindArgs (PySem.W.fnOf "write_order" "write_order" (defArgs s_write_order) (defBody s_write_order) (defScope s_write_order) .none kV doc pm an cdv ct) ⟨us, ks.zip ws⟩ = pure ((["order"] : List Str).zip (g us ws)))
    (len : ∀ vs H Q E, sp vs H Q E → vs.length = 1)
    (hb : ∀ (cdv : Value) (A : Around) (outer : List Env) (s : Shared) (H : Hp) (vs : List V) (Q : VK) (E : XK), A.guards = some [] → Room k (A.deeper (envOfC "write_order" (defScope s_write_order) s.heap.objs.size (He.ga K "write_order") cdv)) → sp vs H Q E →
      ∃ t, PSs (cxOf (L2.CX P w) P w K mg base n_write_order "write_order" (defScope s_write_order) (He.ga K "write_order") cdv A outer s H E) (defBody s_write_order) t ∧ t { nx := fun _ H' => Q .non H', rt := Q } (start n_write_order vs) H) : FnK P w K mg base (L2.CX P w) (k + 1) (He.ga K "write_order") n ks (fun vs zs => g vs zs) sp := by
  obtain ⟨fd, F⟩ := S.def_ 8 (d := d_write_order) rfl
  exact okK F sc_write_order (kbN F n ks g hrel hbi) len hb
theorem kp_write_order (S : He.SaysD fa fn K) : PySem.W.keepIn K (.ref (He.ga K "write_order")) = true := by
  obtain ⟨fd, F⟩ := S.def_ 8 (d := d_write_order) rfl
  exact F.kp
theorem mk_read_order (S : He.SaysD fa fn K) (len : ∀ vs H Q E, sp vs H Q E → vs.length = 1)
    (hb : ∀ (cdv : Value) (A : Around) (outer : List Env) (s : Shared) (H : Hp) (vs : List V) (Q : VK) (E : XK), A.guards = some [] → Room k (A.deeper (envOfC "read_order" (defScope s_read_order) s.heap.objs.size (He.ga K "read_order") cdv)) → sp vs H Q E →
      ∃ t, PSs (cxOf CX0 P w K mg base n_read_order "read_order" (defScope s_read_order) (He.ga K "read_order") cdv A outer s H E).nox (defBody s_read_order) t ∧ t { nx := fun _ H' => Q .non H', rt := Q } (start n_read_order vs) H) : FnG P w K mg base CX0 (k + 1) (He.ga K "read_order") sp := by
  obtain ⟨fd, F⟩ := S.def_ 9 (d := d_read_order) rfl
  exact ok0 F sc_read_order (F.bindsA fun _ _ _ _ _ _ us hl => match us, hl with | [_], _ => rfl) len hb
theorem mkX_read_order (S : He.SaysD fa fn K) (len : ∀ vs H Q E, sp vs H Q E → vs.length = 1)
    (hb : ∀ (cdv : Value) (A : Around) (outer : List Env) (s : Shared) (H : Hp) (vs : List V) (Q : VK) (E : XK), A.guards = some [] → Room k (A.deeper (envOfC "read_order" (defScope s_read_order) s.heap.objs.size (He.ga K "read_order") cdv)) → sp vs H Q E →
      ∃ t, PSs (cxOf (L2.CX P w) P w K mg base n_read_order "read_order" (defScope s_read_order) (He.ga K "read_order") cdv A outer s H E) (defBody s_read_order) t ∧ t { nx := fun _ H' => Q .non H', rt := Q } (start n_read_order vs) H) : FnG P w K mg base (L2.CX P w) (k + 1) (He.ga K "read_order") sp := by
  obtain ⟨fd, F⟩ := S.def_ 9 (d := d_read_order) rfl
  exact okG F sc_read_order (F.bindsA fun _ _ _ _ _ _ us hl => match us, hl with | [_], _ => rfl) len hb
theorem mkXK_read_order (S : He.SaysD fa fn K) (n : Nat) (ks : List Str) (g : {α : Type} → List α → List α → List α) (hrel : ∀ {vs zs : List V} {us ws : List Value}, Vals vs us → Vals zs ws → Vals (g vs zs) (g us ws))
    (hbi : ∀ (kV doc pm : Value) (an : Option Addr) (cdv ct : Value) (us ws : List Value), us.length = n → ws.length = ks.length → bindArgs (PySem.W.fnOf "read_order" "read_order" (defArgs s_read_order) (defBody s_read_order) (defScope s_read_order) .none kV doc pm an cdv ct) ⟨us, ks.zip ws⟩ = pure ((["text"] : List Str).zip (g us ws)))
    (len : ∀ vs H Q E, sp vs H Q E → vs.length = 1)
    (hb : ∀ (cdv : Value) (A : Around) (outer : List Env) (s : Shared) (H : Hp) (vs : List V) (Q : VK) (E : XK), A.guards = some [] → Room k (A.deeper (envOfC "read_order" (defScope s_read_order) s.heap.objs.size (He.ga K "read_order") cdv)) → sp vs H Q E →
      ∃ t, PSs (cxOf (L2.CX P w) P w K mg base n_read_order "read_order" (defScope s_read_order) (He.ga K "read_order") cdv A outer s H E) (defBody s_read_order) t ∧ t { nx := fun _ H' => Q .non H', rt := Q } (start n_read_order vs) H) : FnK P w K mg base (L2.CX P w) (k + 1) (He.ga K "read_order") n ks (fun vs zs => g vs zs) sp := by
  obtain ⟨fd, F⟩ := S.def_ 9 (d := d_read_order) rfl
  exact okK F sc_read_order (kbN F n ks g hrel hbi) len hb
theorem kp_read_order (S : He.SaysD fa fn K) : PySem.W.keepIn K (.ref (He.ga K "read_order")) = true := by
  obtain ⟨fd, F⟩ := S.def_ 9 (d := d_read_order) rfl
  exact F.kp
theorem mk_order_of (S : He.SaysD fa fn K) (len : ∀ vs H Q E, sp vs H Q E → vs.length = 2)
    (hb : ∀ (cdv : Value) (A : Around) (outer : List Env) (s : Shared) (H : Hp) (vs : List V) (Q : VK) (E : XK), A.guards = some [] → Room k (A.deeper (envOfC "order_of" (defScope s_order_of) s.heap.objs.size (He.ga K "order_of") cdv)) → sp vs H Q E →
      ∃ t, PSs (cxOf CX0 P w K mg base n_order_of "order_of" (defScope s_order_of) (He.ga K "order_of") cdv A outer s H E).nox (defBody s_order_of) t ∧ t { nx := fun _ H' => Q .non H', rt := Q } (start n_order_of vs) H) : FnG P w K mg base CX0 (k + 1) (He.ga K "order_of") sp := by
  obtain ⟨fd, F⟩ := S.def_ 10 (d := d_order_of) rfl
  exact ok0 F sc_order_of (F.bindsA fun _ _ _ _ _ _ us hl => match us, hl with | [_, _], _ => rfl) len hb
theorem mkX_order_of (S : He.SaysD fa fn K) (len : ∀ vs H Q E, sp vs H Q E → vs.length = 2)
    (hb : ∀ (cdv : Value) (A : Around) (outer : List Env) (s : Shared) (H : Hp) (vs : List V) (Q : VK) (E : XK), A.guards = some [] → Room k (A.deeper (envOfC "order_of" (defScope s_order_of) s.heap.objs.size (He.ga K "order_of") cdv)) → sp vs H Q E →
      ∃ t, PSs (cxOf (L2.CX P w) P w K mg base n_order_of "order_of" (defScope s_order_of) (He.ga K "order_of") cdv A outer s H E) (defBody s_order_of) t ∧ t { nx := fun _ H' => Q .non H', rt := Q } (start n_order_of vs) H) : FnG P w K mg base (L2.CX P w) (k + 1) (He.ga K "order_of") sp := by
  obtain ⟨fd, F⟩ := S.def_ 10 (d := d_order_of) rfl
  exact okG F sc_order_of (F.bindsA fun _ _ _ _ _ _ us hl => match us, hl with | [_, _], _ => rfl) len hb
theorem kp_order_of (S : He.SaysD fa fn K) : PySem.W.keepIn K (.ref (He.ga K "order_of")) = true := by
  obtain ⟨fd, F⟩ := S.def_ 10 (d := d_order_of) rfl
  exact F.kp
theorem mk__law_pen (S : He.SaysD fa fn K) (len : ∀ vs H Q E, sp vs H Q E → vs.length = 1)
    (hb : ∀ (cdv : Value) (A : Around) (outer : List Env) (s : Shared) (H : Hp) (vs : List V) (Q : VK) (E : XK), A.guards = some [] → Room k (A.deeper (envOfC "_law_pen" (defScope s__law_pen) s.heap.objs.size (He.ga K "_law_pen") cdv)) → sp vs H Q E →
      ∃ t, PSs (cxOf CX0 P w K mg base n__law_pen "_law_pen" (defScope s__law_pen) (He.ga K "_law_pen") cdv A outer s H E).nox (defBody s__law_pen) t ∧ t { nx := fun _ H' => Q .non H', rt := Q } (start n__law_pen vs) H) : FnG P w K mg base CX0 (k + 1) (He.ga K "_law_pen") sp := by
  obtain ⟨fd, F⟩ := S.def_ 11 (d := d__law_pen) rfl
  exact ok0 F sc__law_pen (F.bindsA fun _ _ _ _ _ _ us hl => match us, hl with | [_], _ => rfl) len hb
theorem kp__law_pen (S : He.SaysD fa fn K) : PySem.W.keepIn K (.ref (He.ga K "_law_pen")) = true := by
  obtain ⟨fd, F⟩ := S.def_ 11 (d := d__law_pen) rfl
  exact F.kp
theorem mk__law_draw (S : He.SaysD fa fn K) (len : ∀ vs H Q E, sp vs H Q E → vs.length = 2)
    (hb : ∀ (cdv : Value) (A : Around) (outer : List Env) (s : Shared) (H : Hp) (vs : List V) (Q : VK) (E : XK), A.guards = some [] → Room k (A.deeper (envOfC "_law_draw" (defScope s__law_draw) s.heap.objs.size (He.ga K "_law_draw") cdv)) → sp vs H Q E →
      ∃ t, PSs (cxOf CX0 P w K mg base n__law_draw "_law_draw" (defScope s__law_draw) (He.ga K "_law_draw") cdv A outer s H E).nox (defBody s__law_draw) t ∧ t { nx := fun _ H' => Q .non H', rt := Q } (start n__law_draw vs) H) : FnG P w K mg base CX0 (k + 1) (He.ga K "_law_draw") sp := by
  obtain ⟨fd, F⟩ := S.def_ 12 (d := d__law_draw) rfl
  exact ok0 F sc__law_draw (F.bindsA fun _ _ _ _ _ _ us hl => match us, hl with | [_, _], _ => rfl) len hb
theorem kp__law_draw (S : He.SaysD fa fn K) : PySem.W.keepIn K (.ref (He.ga K "_law_draw")) = true := by
  obtain ⟨fd, F⟩ := S.def_ 12 (d := d__law_draw) rfl
  exact F.kp
theorem mk__law_pick (S : He.SaysD fa fn K) (len : ∀ vs H Q E, sp vs H Q E → vs.length = 2)
    (hb : ∀ (cdv : Value) (A : Around) (outer : List Env) (s : Shared) (H : Hp) (vs : List V) (Q : VK) (E : XK), A.guards = some [] → Room k (A.deeper (envOfC "_law_pick" (defScope s__law_pick) s.heap.objs.size (He.ga K "_law_pick") cdv)) → sp vs H Q E →
      ∃ t, PSs (cxOf CX0 P w K mg base n__law_pick "_law_pick" (defScope s__law_pick) (He.ga K "_law_pick") cdv A outer s H E).nox (defBody s__law_pick) t ∧ t { nx := fun _ H' => Q .non H', rt := Q } (start n__law_pick vs) H) : FnG P w K mg base CX0 (k + 1) (He.ga K "_law_pick") sp := by
  obtain ⟨fd, F⟩ := S.def_ 13 (d := d__law_pick) rfl
  exact ok0 F sc__law_pick (F.bindsA fun _ _ _ _ _ _ us hl => match us, hl with | [_, _], _ => rfl) len hb
theorem kp__law_pick (S : He.SaysD fa fn K) : PySem.W.keepIn K (.ref (He.ga K "_law_pick")) = true := by
  obtain ⟨fd, F⟩ := S.def_ 13 (d := d__law_pick) rfl
  exact F.kp
theorem mk__law_shuffled (S : He.SaysD fa fn K) (len : ∀ vs H Q E, sp vs H Q E → vs.length = 2)
    (hb : ∀ (cdv : Value) (A : Around) (outer : List Env) (s : Shared) (H : Hp) (vs : List V) (Q : VK) (E : XK), A.guards = some [] → Room k (A.deeper (envOfC "_law_shuffled" (defScope s__law_shuffled) s.heap.objs.size (He.ga K "_law_shuffled") cdv)) → sp vs H Q E →
      ∃ t, PSs (cxOf CX0 P w K mg base n__law_shuffled "_law_shuffled" (defScope s__law_shuffled) (He.ga K "_law_shuffled") cdv A outer s H E).nox (defBody s__law_shuffled) t ∧ t { nx := fun _ H' => Q .non H', rt := Q } (start n__law_shuffled vs) H) : FnG P w K mg base CX0 (k + 1) (He.ga K "_law_shuffled") sp := by
  obtain ⟨fd, F⟩ := S.def_ 14 (d := d__law_shuffled) rfl
  exact ok0 F sc__law_shuffled (F.bindsA fun _ _ _ _ _ _ us hl => match us, hl with | [_, _], _ => rfl) len hb
theorem kp__law_shuffled (S : He.SaysD fa fn K) : PySem.W.keepIn K (.ref (He.ga K "_law_shuffled")) = true := by
  obtain ⟨fd, F⟩ := S.def_ 14 (d := d__law_shuffled) rfl
  exact F.kp
theorem mk__law_letters (S : He.SaysD fa fn K) (len : ∀ vs H Q E, sp vs H Q E → vs.length = 2)
    (hb : ∀ (cdv : Value) (A : Around) (outer : List Env) (s : Shared) (H : Hp) (vs : List V) (Q : VK) (E : XK), A.guards = some [] → Room k (A.deeper (envOfC "_law_letters" (defScope s__law_letters) s.heap.objs.size (He.ga K "_law_letters") cdv)) → sp vs H Q E →
      ∃ t, PSs (cxOf CX0 P w K mg base n__law_letters "_law_letters" (defScope s__law_letters) (He.ga K "_law_letters") cdv A outer s H E).nox (defBody s__law_letters) t ∧ t { nx := fun _ H' => Q .non H', rt := Q } (start n__law_letters vs) H) : FnG P w K mg base CX0 (k + 1) (He.ga K "_law_letters") sp := by
  obtain ⟨fd, F⟩ := S.def_ 15 (d := d__law_letters) rfl
  exact ok0 F sc__law_letters (F.bindsA fun _ _ _ _ _ _ us hl => match us, hl with | [_, _], _ => rfl) len hb
theorem kp__law_letters (S : He.SaysD fa fn K) : PySem.W.keepIn K (.ref (He.ga K "_law_letters")) = true := by
  obtain ⟨fd, F⟩ := S.def_ 15 (d := d__law_letters) rfl
  exact F.kp
theorem mk__law_letters_read (S : He.SaysD fa fn K) (len : ∀ vs H Q E, sp vs H Q E → vs.length = 1)
    (hb : ∀ (cdv : Value) (A : Around) (outer : List Env) (s : Shared) (H : Hp) (vs : List V) (Q : VK) (E : XK), A.guards = some [] → Room k (A.deeper (envOfC "_law_letters_read" (defScope s__law_letters_read) s.heap.objs.size (He.ga K "_law_letters_read") cdv)) → sp vs H Q E →
      ∃ t, PSs (cxOf CX0 P w K mg base n__law_letters_read "_law_letters_read" (defScope s__law_letters_read) (He.ga K "_law_letters_read") cdv A outer s H E).nox (defBody s__law_letters_read) t ∧ t { nx := fun _ H' => Q .non H', rt := Q } (start n__law_letters_read vs) H) : FnG P w K mg base CX0 (k + 1) (He.ga K "_law_letters_read") sp := by
  obtain ⟨fd, F⟩ := S.def_ 16 (d := d__law_letters_read) rfl
  exact ok0 F sc__law_letters_read (F.bindsA fun _ _ _ _ _ _ us hl => match us, hl with | [_], _ => rfl) len hb
theorem kp__law_letters_read (S : He.SaysD fa fn K) : PySem.W.keepIn K (.ref (He.ga K "_law_letters_read")) = true := by
  obtain ⟨fd, F⟩ := S.def_ 16 (d := d__law_letters_read) rfl
  exact F.kp
theorem mk__law_order_read (S : He.SaysD fa fn K) (len : ∀ vs H Q E, sp vs H Q E → vs.length = 1)
    (hb : ∀ (cdv : Value) (A : Around) (outer : List Env) (s : Shared) (H : Hp) (vs : List V) (Q : VK) (E : XK), A.guards = some [] → Room k (A.deeper (envOfC "_law_order_read" (defScope s__law_order_read) s.heap.objs.size (He.ga K "_law_order_read") cdv)) → sp vs H Q E →
      ∃ t, PSs (cxOf CX0 P w K mg base n__law_order_read "_law_order_read" (defScope s__law_order_read) (He.ga K "_law_order_read") cdv A outer s H E).nox (defBody s__law_order_read) t ∧ t { nx := fun _ H' => Q .non H', rt := Q } (start n__law_order_read vs) H) : FnG P w K mg base CX0 (k + 1) (He.ga K "_law_order_read") sp := by
  obtain ⟨fd, F⟩ := S.def_ 17 (d := d__law_order_read) rfl
  exact ok0 F sc__law_order_read (F.bindsA fun _ _ _ _ _ _ us hl => match us, hl with | [_], _ => rfl) len hb
theorem kp__law_order_read (S : He.SaysD fa fn K) : PySem.W.keepIn K (.ref (He.ga K "_law_order_read")) = true := by
  obtain ⟨fd, F⟩ := S.def_ 17 (d := d__law_order_read) rfl
  exact F.kp
theorem mk__law_order_text (S : He.SaysD fa fn K) (len : ∀ vs H Q E, sp vs H Q E → vs.length = 1)
    (hb : ∀ (cdv : Value) (A : Around) (outer : List Env) (s : Shared) (H : Hp) (vs : List V) (Q : VK) (E : XK), A.guards = some [] → Room k (A.deeper (envOfC "_law_order_text" (defScope s__law_order_text) s.heap.objs.size (He.ga K "_law_order_text") cdv)) → sp vs H Q E →
      ∃ t, PSs (cxOf CX0 P w K mg base n__law_order_text "_law_order_text" (defScope s__law_order_text) (He.ga K "_law_order_text") cdv A outer s H E).nox (defBody s__law_order_text) t ∧ t { nx := fun _ H' => Q .non H', rt := Q } (start n__law_order_text vs) H) : FnG P w K mg base CX0 (k + 1) (He.ga K "_law_order_text") sp := by
  obtain ⟨fd, F⟩ := S.def_ 18 (d := d__law_order_text) rfl
  exact ok0 F sc__law_order_text (F.bindsA fun _ _ _ _ _ _ us hl => match us, hl with | [_], _ => rfl) len hb
theorem kp__law_order_text (S : He.SaysD fa fn K) : PySem.W.keepIn K (.ref (He.ga K "_law_order_text")) = true := by
  obtain ⟨fd, F⟩ := S.def_ 18 (d := d__law_order_text) rfl
  exact F.kp
theorem mk__law_bent_line (S : He.SaysD fa fn K) (len : ∀ vs H Q E, sp vs H Q E → vs.length = 2)
    (hb : ∀ (cdv : Value) (A : Around) (outer : List Env) (s : Shared) (H : Hp) (vs : List V) (Q : VK) (E : XK), A.guards = some [] → Room k (A.deeper (envOfC "_law_bent_line" (defScope s__law_bent_line) s.heap.objs.size (He.ga K "_law_bent_line") cdv)) → sp vs H Q E →
      ∃ t, PSs (cxOf CX0 P w K mg base n__law_bent_line "_law_bent_line" (defScope s__law_bent_line) (He.ga K "_law_bent_line") cdv A outer s H E).nox (defBody s__law_bent_line) t ∧ t { nx := fun _ H' => Q .non H', rt := Q } (start n__law_bent_line vs) H) : FnG P w K mg base CX0 (k + 1) (He.ga K "_law_bent_line") sp := by
  obtain ⟨fd, F⟩ := S.def_ 19 (d := d__law_bent_line) rfl
  exact ok0 F sc__law_bent_line (F.bindsA fun _ _ _ _ _ _ us hl => match us, hl with | [_, _], _ => rfl) len hb
theorem kp__law_bent_line (S : He.SaysD fa fn K) : PySem.W.keepIn K (.ref (He.ga K "_law_bent_line")) = true := by
  obtain ⟨fd, F⟩ := S.def_ 19 (d := d__law_bent_line) rfl
  exact F.kp
theorem mk__law_line_met (S : He.SaysD fa fn K) (len : ∀ vs H Q E, sp vs H Q E → vs.length = 1)
    (hb : ∀ (cdv : Value) (A : Around) (outer : List Env) (s : Shared) (H : Hp) (vs : List V) (Q : VK) (E : XK), A.guards = some [] → Room k (A.deeper (envOfC "_law_line_met" (defScope s__law_line_met) s.heap.objs.size (He.ga K "_law_line_met") cdv)) → sp vs H Q E →
      ∃ t, PSs (cxOf CX0 P w K mg base n__law_line_met "_law_line_met" (defScope s__law_line_met) (He.ga K "_law_line_met") cdv A outer s H E).nox (defBody s__law_line_met) t ∧ t { nx := fun _ H' => Q .non H', rt := Q } (start n__law_line_met vs) H) : FnG P w K mg base CX0 (k + 1) (He.ga K "_law_line_met") sp := by
  obtain ⟨fd, F⟩ := S.def_ 20 (d := d__law_line_met) rfl
  exact ok0 F sc__law_line_met (F.bindsA fun _ _ _ _ _ _ us hl => match us, hl with | [_], _ => rfl) len hb
theorem kp__law_line_met (S : He.SaysD fa fn K) : PySem.W.keepIn K (.ref (He.ga K "_law_line_met")) = true := by
  obtain ⟨fd, F⟩ := S.def_ 20 (d := d__law_line_met) rfl
  exact F.kp
theorem mk_law (S : He.SaysD fa fn K) (len : ∀ vs H Q E, sp vs H Q E → vs.length = 1)
    (hb : ∀ (cdv : Value) (A : Around) (outer : List Env) (s : Shared) (H : Hp) (vs : List V) (Q : VK) (E : XK), A.guards = some [] → Room k (A.deeper (envOfC "law" (defScope s_law) s.heap.objs.size (He.ga K "law") cdv)) → sp vs H Q E →
      ∃ t, PSs (cxOf CX0 P w K mg base n_law "law" (defScope s_law) (He.ga K "law") cdv A outer s H E).nox (defBody s_law) t ∧ t { nx := fun _ H' => Q .non H', rt := Q } (start n_law vs) H) : FnG P w K mg base CX0 (k + 1) (He.ga K "law") sp := by
  obtain ⟨fd, F⟩ := S.def_ 21 (d := d_law) rfl
  exact ok0 F sc_law (F.bindsA fun _ _ _ _ _ _ us hl => match us, hl with | [_], _ => rfl) len hb
theorem kp_law (S : He.SaysD fa fn K) : PySem.W.keepIn K (.ref (He.ga K "law")) = true := by
  obtain ⟨fd, F⟩ := S.def_ 21 (d := d_law) rfl
  exact F.kp
end
end K84

/-! The mathematics of the fractions: the reduced pair, common bottoms. -/
namespace Num
open Rat
theorem den_pos' (q : Rat) : (0 : Int) < (q.den : Int) := Int.natCast_pos.mpr q.den_pos
/-- the divisor with the sign of the bottom -/
def dvs (t b : Int) : Int := if b < 0 then -((Nat.gcd t.natAbs b.natAbs : Nat) : Int) else ((Nat.gcd t.natAbs b.natAbs : Nat) : Int)
theorem dvs_ex {t b : Int} (hb : b ≠ 0) : ∃ (t' b' : Int), t = dvs t b * t' ∧ b = dvs t b * b' ∧ dvs t b ≠ 0 ∧ 0 < b' ∧ (t /. b).num = t' ∧ ((t /. b).den : Int) = b' := by
  have gpos : 0 < Nat.gcd t.natAbs b.natAbs := Nat.gcd_pos_of_pos_right _ (Int.natAbs_pos.mpr hb)
  have gt : ((Nat.gcd t.natAbs b.natAbs : Nat) : Int) ∣ t := Int.natAbs_dvd_natAbs.mp (Nat.gcd_dvd_left _ _)
  have gb : ((Nat.gcd t.natAbs b.natAbs : Nat) : Int) ∣ b := Int.natAbs_dvd_natAbs.mp (Nat.gcd_dvd_right _ _)
  have hn := Rat.num_divInt t b
  have hd := Rat.den_divInt t b
  have eg : Int.gcd b t = Nat.gcd t.natAbs b.natAbs := Nat.gcd_comm _ _
  rw [eg] at hn hd
  rw [if_neg hb] at hd
  unfold dvs
  generalize Nat.gcd t.natAbs b.natAbs = g at *
  obtain ⟨x, ex⟩ := gt
  obtain ⟨y, ey⟩ := gb
  have g0 : (0 : Int) < (g : Int) := Int.natCast_pos.mpr gpos
  by_cases h : b < 0
  · rw [if_pos h]
    have sg : b.sign = -1 := Int.sign_eq_neg_one_of_neg h
    have y0 : y < 0 := by
      by_cases c : y < 0
      · exact c
      · have := Int.mul_nonneg (Int.le_of_lt g0) (Int.not_lt.mp c)
        omega
    refine ⟨-x, -y, by rw [Int.neg_mul_neg]; exact ex, by rw [Int.neg_mul_neg]; exact ey, by omega, by omega, ?_, ?_⟩
    · rw [hn, sg, ex, ← Int.mul_assoc, Int.mul_comm (-1), Int.mul_assoc, Int.mul_ediv_cancel_left _ (by omega)]
      omega
    · rw [hd, Int.natCast_ediv, ey]
      have : (((g : Int) * y).natAbs : Int) = (g : Int) * (-y) := by
        rw [Int.mul_neg]
        have : (g : Int) * y < 0 := by rw [← ey]; exact h
        omega
      rw [this, Int.mul_ediv_cancel_left _ (by omega)]
  · rw [if_neg h]
    have bp : 0 < b := by omega
    have sg : b.sign = 1 := Int.sign_eq_one_of_pos bp
    have y0 : 0 < y := by
      by_cases c : 0 < y
      · exact c
      · have := Int.mul_nonpos_of_nonneg_of_nonpos (Int.le_of_lt g0) (Int.not_lt.mp c)
        omega
    refine ⟨x, y, ex, ey, by omega, y0, ?_, ?_⟩
    · rw [hn, sg, Int.one_mul, ex, Int.mul_ediv_cancel_left _ (by omega)]
    · rw [hd, Int.natCast_ediv, ey]
      have : (((g : Int) * y).natAbs : Int) = (g : Int) * y := by
        have : 0 < (g : Int) * y := by rw [← ey]; exact bp
        omega
      rw [this, Int.mul_ediv_cancel_left _ (by omega)]
theorem dvs_out {t b : Int} (hb : b ≠ 0) : dvs t b ≠ 0 ∧ t.fdiv (dvs t b) = (t /. b).num ∧ b.fdiv (dvs t b) = ((t /. b).den : Int) ∧ (b = dvs t b ↔ (t /. b).den = 1) ∧ (t /. b).num.natAbs ≤ t.natAbs ∧ (t /. b).den ≤ b.natAbs := by
  obtain ⟨t', b', h1, h2, h3, h4, h5, h6⟩ := dvs_ex (t := t) hb
  generalize dvs t b = d at *
  have hd1 : 1 ≤ d.natAbs := by omega
  refine ⟨h3, ?_, ?_, ⟨fun h => ?_, fun h => ?_⟩, ?_, ?_⟩
  · rw [h5]
    conv => lhs; rw [h1]
    exact Int.mul_fdiv_cancel_left _ h3
  · rw [h6]
    conv => lhs; rw [h2]
    exact Int.mul_fdiv_cancel_left _ h3
  · have e : d * b' = d * 1 := by rw [← h2, Int.mul_one]; exact h
    have := Int.eq_of_mul_eq_mul_left h3 e
    omega
  · have e : b' = 1 := by omega
    rw [e, Int.mul_one] at h2
    exact h2
  · rw [h5]
    conv => rhs; rw [h1, Int.natAbs_mul]
    exact Nat.le_mul_of_pos_left _ hd1
  · have e : (t /. b).den = b'.natAbs := by omega
    rw [e]
    conv => rhs; rw [h2, Int.natAbs_mul]
    exact Nat.le_mul_of_pos_left _ hd1
theorem gcd_low (q : Rat) : Nat.gcd q.num.natAbs (q.den : Int).natAbs = 1 := q.reduced
theorem dvs_one (t : Int) : (t /. 1).num = t ∧ (t /. 1).den = 1 := by
  obtain ⟨h1, h2, h3, h4, h5, h6⟩ := dvs_out (t := t) (b := 1) (by decide)
  have e : dvs t 1 = 1 := by
    unfold dvs
    rw [if_neg (by decide)]
    show ((Nat.gcd t.natAbs 1 : Nat) : Int) = 1
    rw [Nat.gcd_one_right]
    rfl
  rw [e, Int.fdiv_one] at h2
  exact ⟨h2.symm, h4.mp e.symm⟩
/-! ### the operations -/
theorem add_is (a b : Rat) : (a.num * b.den + b.num * a.den) /. ((a.den : Int) * b.den) = a + b := by
  rw [Rat.add_def', ← Rat.divInt_ofNat, Int.natCast_mul]
theorem sub_is (a b : Rat) : (a.num * b.den - b.num * a.den) /. ((a.den : Int) * b.den) = a - b := by
  rw [Rat.sub_def', ← Rat.divInt_ofNat, Int.natCast_mul]
theorem mul_is (a b : Rat) : (a.num * b.num) /. ((a.den : Int) * b.den) = a * b := by
  rw [Rat.mul_def', ← Rat.divInt_ofNat, Int.natCast_mul]
/-! ### a common bottom -/
theorem divInt_add_same (a b c : Int) (h : c ≠ 0) : (a + b) /. c = a /. c + b /. c := by
  rw [Rat.divInt_add_divInt _ _ h h, ← Int.add_mul, Rat.divInt_mul_right h]
theorem over_L {q : Rat} {L : Int} (hL : L ≠ 0) (h : (q.den : Int) ∣ L) : (q.num * (L / q.den)) /. L = q := by
  obtain ⟨x, ex⟩ := h
  have d0 := den_pos' q
  have x0 : x ≠ 0 := by
    intro z
    rw [z, Int.mul_zero] at ex
    exact hL ex
  have e : L / (q.den : Int) = x := by
    rw [ex]
    exact Int.mul_ediv_cancel_left _ (by omega)
  rw [e, ex, Rat.divInt_mul_right x0, Rat.num_divInt_den]
theorem sum_L {L : Int} (hL : L ≠ 0) : ∀ qs : List Rat, (∀ q ∈ qs, (q.den : Int) ∣ L) → (qs.map fun q => q.num * (L / q.den)).sum /. L = qs.sum
  | [], _ => by
    show (0 : Int) /. L = (0 : Rat)
    exact Rat.zero_divInt L
  | q :: qs, h => by
    rw [List.map_cons, List.sum_cons, List.sum_cons, divInt_add_same _ _ _ hL, over_L hL (h q List.mem_cons_self), sum_L hL qs fun x hx => h x (List.mem_cons_of_mem _ hx)]
/-! ### sizes -/
def Bq (n : Nat) (q : Rat) : Prop := q.num.natAbs < 2 ^ n ∧ q.den < 2 ^ n
theorem Bq.mono {m n : Nat} {q : Rat} (h : Bq m q) (hl : m ≤ n) : Bq n q := ⟨Nat.lt_of_lt_of_le h.1 (Nat.pow_le_pow_right (by decide) hl), Nat.lt_of_lt_of_le h.2 (Nat.pow_le_pow_right (by decide) hl)⟩
theorem bq_div {t b : Int} {n : Nat} (hb : b ≠ 0) (h1 : t.natAbs < 2 ^ n) (h2 : b.natAbs < 2 ^ n) : Bq n (t /. b) := by
  obtain ⟨_, _, _, _, h5, h6⟩ := dvs_out (t := t) hb
  exact ⟨Nat.lt_of_le_of_lt h5 h1, Nat.lt_of_le_of_lt h6 h2⟩
theorem add_lt {i j : Int} {n : Nat} (h1 : i.natAbs < 2 ^ n) (h2 : j.natAbs < 2 ^ n) : (i + j).natAbs < 2 ^ (n + 1) := by
  rw [Nat.pow_succ]
  omega
theorem sub_lt {i j : Int} {n : Nat} (h1 : i.natAbs < 2 ^ n) (h2 : j.natAbs < 2 ^ n) : (i - j).natAbs < 2 ^ (n + 1) := by
  rw [Nat.pow_succ]
  omega
end Num

/-! Data with dicts in it, and its show. -/
namespace Ver
open PySem PySem.Spec PyProof.Rows L2
def kdat : Key → PyData
  | .inl i => .int i
  | .inr x => .str x
mutual
inductive Do (K : PySem.W.Frag) (H : Hp) : V → PyData → Prop
  | non : Do K H .non .none
  | bl (b : Bool) : Do K H (.bl b) (.bool b)
  | int (i : Int) : Do K H (.int i) (.int i)
  | str (x : Str) : Do K H (.str x) (.str x)
  | lst {a : Addr} {xs : List V} {ds : List PyData} : SqL K H a xs → DoAll K H xs ds → Do K H (.ref a) (.list ds)
  | tup {a : Addr} {xs : List V} {ds : List PyData} : SqT K H a xs → DoAll K H xs ds → Do K H (.ref a) (.tuple ds)
  | dic {a : Addr} {kvs : List (Key × V)} {kds : List (PyData × PyData)} : H a = some (.dK kvs) → DoKv K H kvs kds → Do K H (.ref a) (.dict kds)
inductive DoAll (K : PySem.W.Frag) (H : Hp) : List V → List PyData → Prop
  | nil : DoAll K H [] []
  | cons {v : V} {vs : List V} {d : PyData} {ds : List PyData} : Do K H v d → DoAll K H vs ds → DoAll K H (v :: vs) (d :: ds)
inductive DoKv (K : PySem.W.Frag) (H : Hp) : List (Key × V) → List (PyData × PyData) → Prop
  | nil : DoKv K H [] []
  | cons {k : Key} {v : V} {kvs : List (Key × V)} {d : PyData} {kds : List (PyData × PyData)} : Do K H v d → DoKv K H kvs kds → DoKv K H ((k, v) :: kvs) ((kdat k, d) :: kds)
end
theorem reads_key {h : Heap} {k : Key} {v : Value} (e : keyIs k v = true) : Reads h v (kdat k) [] := by
  rcases keyIs_shape e with ⟨i, t, rfl, rfl⟩ | ⟨x, t, rfl, rfl⟩
  · exact .int i t
  · exact .str x t
/-- the module table is a dict of the written part -/
def Sm (K : PySem.W.Frag) : Prop := ∃ o, K.lookup sysModules = some o ∧ o.cls = .type "dict"
section
variable {X : Cx} {pins : List (Addr × Obj)} {σ : L2.St} {H : Hp} {s : Shared}
mutual
theorem Do.reads (sm : Sm X.K) (I : Inv X pins σ H s) : ∀ (d : PyData) (v : V) (u : Value), Do X.K H v d → RelV v u → ∃ as, Reads s.heap u d as ∧ sysModules ∉ as
  | .none, _, _, h, r => by
    cases h
    cases r
    exact ⟨_, Reads.none, by simp⟩
  | .bool b, _, _, h, r => by
    cases h
    cases r
    exact ⟨_, Reads.bool b, by simp⟩
  | .int i, _, _, h, r => by
    cases h
    obtain ⟨t, rfl⟩ := r
    exact ⟨_, Reads.int i t, by simp⟩
  | .str x, _, _, h, r => by
    cases h
    obtain ⟨t, rfl⟩ := r
    exact ⟨_, Reads.str x t, by simp⟩
  | .list ds, _, _, h, r => by
    cases h with
    | lst hs ha =>
      cases r
      obtain ⟨its, rv, ⟨o, n, ho, hc, _, hd⟩, _⟩ := I.list hs
      obtain ⟨as, hr, hn⟩ := Do.readsAll sm I ds _ its ha rv
      refine ⟨_, Reads.list ho hc hd hr, fun z => ?_⟩
      rcases List.mem_cons.mp z with e | z
      · obtain ⟨o2, lk, c2⟩ := sm
        have g := I.kIn _ _ lk
        rw [e] at g
        rw [ho] at g
        cases g
        rw [hc] at c2
        exact absurd c2 (by decide)
      · exact hn z
  | .tuple ds, _, _, h, r => by
    cases h with
    | tup hs ha =>
      cases r
      obtain ⟨its, rv, ⟨o, ho, hc, n, hd⟩, _⟩ := I.tuple hs
      obtain ⟨as, hr, hn⟩ := Do.readsAll sm I ds _ its ha rv
      exact ⟨_, Reads.tuple ho hc hd hr, hn⟩
  | .dict kds, _, _, h, r => by
    cases h with
    | dic ha hk =>
      cases r
      obtain ⟨_, ne, vs, kv, o, es, ep, ho, he, hd, _, hp, _⟩ := dk_of I.hok ha
      obtain ⟨as, bs, h1, h2, n1, n2⟩ := Do.readsKv sm I kds _ vs es.toList hk kv hp
      refine ⟨_, Reads.dict ho he.1 hd h1 h2, fun z => ?_⟩
      rcases List.mem_append.mp z with z | z
      · rcases List.mem_cons.mp z with e | z
        · rw [e] at ne
          rw [beq_self_eq_true] at ne
          cases ne
        · exact n1 z
      · exact n2 z
theorem Do.readsAll (sm : Sm X.K) (I : Inv X pins σ H s) : ∀ (ds : List PyData) (vs : List V) (us : List Value), DoAll X.K H vs ds → Vals vs us → ∃ as, ReadsAll s.heap us ds as ∧ sysModules ∉ as
  | [], _, _, h, r => by
    cases h
    cases r
    exact ⟨_, ReadsAll.nil, by simp⟩
  | d :: ds, _, _, h, r => by
    cases h with
    | cons h1 h2 =>
      cases r with
      | cons r1 r2 =>
        obtain ⟨as, q1, n1⟩ := Do.reads sm I d _ _ h1 r1
        obtain ⟨bs, q2, n2⟩ := Do.readsAll sm I ds _ _ h2 r2
        exact ⟨_, ReadsAll.cons q1 q2, fun z => (List.mem_append.mp z).elim n1 n2⟩
theorem Do.readsKv (sm : Sm X.K) (I : Inv X pins σ H s) : ∀ (kds : List (PyData × PyData)) (kvs : List (Key × V)) (vs : List (Key × Value)) (es : List DictEntry), DoKv X.K H kvs kds → KV kvs vs → Pairs (mixKind X.prog X.w) es vs →
    ∃ as bs, ReadsAll s.heap (es.map (·.key)) (kds.map (·.1)) as ∧ ReadsAll s.heap (es.map (·.val)) (kds.map (·.2)) bs ∧ sysModules ∉ as ∧ sysModules ∉ bs
  | [], _, _, _, h, k, p => by
    cases h
    cases k
    cases p
    exact ⟨_, _, ReadsAll.nil, ReadsAll.nil, by simp, by simp⟩
  | (dk, d) :: kds, _, _, _, h, k, p => by
    cases h with
    | cons h1 h2 =>
      cases k with
      | cons k1 k2 =>
        cases p with
        | cons p1 p2 p3 =>
          rename_i k v kvs b l2 en es
          obtain ⟨e1, e2⟩ := k1
          have e1 : k = b.1 := e1
          have e2 : RelV v en.val := by
            rw [p2]
            exact e2
          have p1 : keyIs k en.key = true := by
            rw [e1]
            exact p1
          obtain ⟨bs0, q1, n1⟩ := Do.reads sm I d _ _ h1 e2
          obtain ⟨as, bs, r1, r2, m1, m2⟩ := Do.readsKv sm I kds _ _ _ h2 k2 p3
          refine ⟨_, _, ReadsAll.cons (reads_key p1) r1, ReadsAll.cons q1 r2, ?_, fun z => (List.mem_append.mp z).elim n1 m2⟩
          simpa using m1
end
/-- repr(x), x any data -/
def rReprO (K : PySem.W.Frag) : List V → Hp → VK → Prop := fun xs H Q => ∃ (x : V) (d : PyData), xs = [x] ∧ Do K H x d ∧ d.showable = true ∧ d.shown.length ≤ sizeLine ∧ d.depth ≤ 60 ∧ Q (.str d.shown) H
theorem call_reprO (sm : Sm X.K) (hg : X.A.guards = some []) (hu : X.A.units + 64 < cLine) : CallR X (.builtin "repr") (rReprO X.K) := by
  intro pins s σ H xs us Q I r h
  obtain ⟨x, d, rfl, hd, hs, hz, hdp, q⟩ := h
  obtain ⟨u, rfl, rx⟩ := vals1 r
  obtain ⟨as, rd, na⟩ := Do.reads sm I d x u hd rx
  cases rd with
  | none => exact PySem.P.repr_of_none ⟨.str _, H, I.tok _, ⟨_, rfl⟩, by simpa only [PyData.shown] using q⟩
  | bool b => exact PySem.P.repr_of_bool ⟨.str _, H, I.tok _, ⟨_, rfl⟩, by simpa only [PyData.shown] using q⟩
  | int i t => exact PySem.P.repr_of_int (by simpa [PyData.showable] using hs) ⟨.str _, H, I.tok _, ⟨_, rfl⟩, by simpa only [PyData.shown] using q⟩
  | str y t => exact PySem.P.repr_of_str ⟨.str _, H, I.tok _, ⟨_, rfl⟩, by simpa only [PyData.shown] using q⟩ (by simpa only [PyData.shown] using hz)
  | list h1 h2 h3 h4 =>
    exact repr_of_reads' (.list h1 h2 h3 h4) hs (fun _ => na) hg (by omega) (fun _ _ z => z) (fun h' u tk hk => ⟨.str _, H, I.kept (t' := tk) hk, ⟨u, rfl⟩, q⟩) hz
  | tuple h1 h2 h3 h4 =>
    exact repr_of_reads' (.tuple h1 h2 h3 h4) hs (fun _ => na) hg (by omega) (fun _ _ z => z) (fun h' u tk hk => ⟨.str _, H, I.kept (t' := tk) hk, ⟨u, rfl⟩, q⟩) hz
  | dict h1 h2 h3 h4 h5 =>
    exact repr_of_reads' (.dict h1 h2 h3 h4 h5) hs (fun _ => na) hg (by omega) (fun _ _ z => z) (fun h' u tk hk => ⟨.str _, H, I.kept (t' := tk) hk, ⟨u, rfl⟩, q⟩) hz
end
end Ver

namespace Ver
open PySem PySem.Spec PyProof.Rows L2
def tyD : PyData → String
  | .none => "NoneType"
  | .bool _ => "bool"
  | .int _ => "int"
  | .str _ => "str"
  | .list _ => "list"
  | .tuple _ => "tuple"
  | .dict _ => "dict"
section
variable {K : PySem.W.Frag} {H H' : Hp}
theorem Do.ty {x : V} {d : PyData} (h : Do K H x d) : TyX K H x (.type (tyD d)) := by
  cases h with
  | non => exact .base .non
  | bl b => exact .base (.bl b)
  | int i => exact .base (.int i)
  | str s => exact .base (.str s)
  | lst hs ha =>
    rcases hs with (e | ⟨o, e⟩) | ⟨o, its, n, lk, c, _⟩
    · exact .base (.lst e)
    · exact .base (.frz e)
    · exact .kList lk c
  | tup hs ha =>
    rcases hs with (e | ⟨o, e⟩) | ⟨o, its, n, lk, c, _⟩
    · exact .base (.tup e)
    · exact .fTuple e
    · exact .kTuple lk c
  | dic e hk => exact .base (.dK e)
theorem sqt_keep {a : Addr} {xs : List V} (s : Same H H') (h : SqT K H a xs) : SqT K H' a xs := by
  rcases h with (h | ⟨o, h⟩) | h
  · exact .inl (.inl (s _ _ h))
  · exact .inl (.inr ⟨o, s _ _ h⟩)
  · exact .inr h
mutual
theorem Do.same (s : Same H H') : ∀ (d : PyData) (x : V), Do K H x d → Do K H' x d
  | .none, _, h => by cases h; exact .non
  | .bool b, _, h => by cases h; exact .bl b
  | .int i, _, h => by cases h; exact .int i
  | .str y, _, h => by cases h; exact .str y
  | .list ds, _, h => by
    cases h with
    | lst hs ha => exact .lst (s.seq hs) (DoAll.same s ds _ ha)
  | .tuple ds, _, h => by
    cases h with
    | tup hs ha => exact .tup (sqt_keep s hs) (DoAll.same s ds _ ha)
  | .dict kds, _, h => by
    cases h with
    | dic e hk => exact .dic (s _ _ e) (DoKv.same s kds _ hk)
theorem DoAll.same (s : Same H H') : ∀ (ds : List PyData) (xs : List V), DoAll K H xs ds → DoAll K H' xs ds
  | [], _, h => by cases h; exact .nil
  | d :: ds, _, h => by
    cases h with
    | cons h1 h2 => exact .cons (Do.same s d _ h1) (DoAll.same s ds _ h2)
theorem DoKv.same (s : Same H H') : ∀ (kds : List (PyData × PyData)) (kvs : List (Key × V)), DoKv K H kvs kds → DoKv K H' kvs kds
  | [], _, h => by cases h; exact .nil
  | (dk, d) :: kds, _, h => by
    cases h with
    | cons h1 h2 => exact .cons (Do.same s d _ h1) (DoKv.same s kds _ h2)
end
/-- isinstance(x, a built-in type), x any data -/
def is_int (d : PyData) : Bool := match d with | .int _ => true | .bool _ => true | _ => false
theorem kit_int : ∀ d : PyData, PySem.W.kitOne K (.type (tyD d)) (.type "int") = some (is_int d)
  | .none => show PySem.W.kitOne K (.type "NoneType") (.type "int") = some false from kit_ty (by decide +kernel)
  | .bool _ => show PySem.W.kitOne K (.type "bool") (.type "int") = some true from kit_ty (by decide +kernel)
  | .int _ => show PySem.W.kitOne K (.type "int") (.type "int") = some true from kit_ty (by decide +kernel)
  | .str _ => show PySem.W.kitOne K (.type "str") (.type "int") = some false from kit_ty (by decide +kernel)
  | .list _ => show PySem.W.kitOne K (.type "list") (.type "int") = some false from kit_ty (by decide +kernel)
  | .tuple _ => show PySem.W.kitOne K (.type "tuple") (.type "int") = some false from kit_ty (by decide +kernel)
  | .dict _ => show PySem.W.kitOne K (.type "dict") (.type "int") = some false from kit_ty (by decide +kernel)
def is_bool (d : PyData) : Bool := match d with | .bool _ => true | _ => false
theorem kit_bool : ∀ d : PyData, PySem.W.kitOne K (.type (tyD d)) (.type "bool") = some (is_bool d)
  | .none => show PySem.W.kitOne K (.type "NoneType") (.type "bool") = some false from kit_ty (by decide +kernel)
  | .bool _ => show PySem.W.kitOne K (.type "bool") (.type "bool") = some true from kit_ty (by decide +kernel)
  | .int _ => show PySem.W.kitOne K (.type "int") (.type "bool") = some false from kit_ty (by decide +kernel)
  | .str _ => show PySem.W.kitOne K (.type "str") (.type "bool") = some false from kit_ty (by decide +kernel)
  | .list _ => show PySem.W.kitOne K (.type "list") (.type "bool") = some false from kit_ty (by decide +kernel)
  | .tuple _ => show PySem.W.kitOne K (.type "tuple") (.type "bool") = some false from kit_ty (by decide +kernel)
  | .dict _ => show PySem.W.kitOne K (.type "dict") (.type "bool") = some false from kit_ty (by decide +kernel)
def is_tuple (d : PyData) : Bool := match d with | .tuple _ => true | _ => false
theorem kit_tuple : ∀ d : PyData, PySem.W.kitOne K (.type (tyD d)) (.type "tuple") = some (is_tuple d)
  | .none => show PySem.W.kitOne K (.type "NoneType") (.type "tuple") = some false from kit_ty (by decide +kernel)
  | .bool _ => show PySem.W.kitOne K (.type "bool") (.type "tuple") = some false from kit_ty (by decide +kernel)
  | .int _ => show PySem.W.kitOne K (.type "int") (.type "tuple") = some false from kit_ty (by decide +kernel)
  | .str _ => show PySem.W.kitOne K (.type "str") (.type "tuple") = some false from kit_ty (by decide +kernel)
  | .list _ => show PySem.W.kitOne K (.type "list") (.type "tuple") = some false from kit_ty (by decide +kernel)
  | .tuple _ => show PySem.W.kitOne K (.type "tuple") (.type "tuple") = some true from kit_ty (by decide +kernel)
  | .dict _ => show PySem.W.kitOne K (.type "dict") (.type "tuple") = some false from kit_ty (by decide +kernel)
def is_str (d : PyData) : Bool := match d with | .str _ => true | _ => false
theorem kit_str : ∀ d : PyData, PySem.W.kitOne K (.type (tyD d)) (.type "str") = some (is_str d)
  | .none => show PySem.W.kitOne K (.type "NoneType") (.type "str") = some false from kit_ty (by decide +kernel)
  | .bool _ => show PySem.W.kitOne K (.type "bool") (.type "str") = some false from kit_ty (by decide +kernel)
  | .int _ => show PySem.W.kitOne K (.type "int") (.type "str") = some false from kit_ty (by decide +kernel)
  | .str _ => show PySem.W.kitOne K (.type "str") (.type "str") = some true from kit_ty (by decide +kernel)
  | .list _ => show PySem.W.kitOne K (.type "list") (.type "str") = some false from kit_ty (by decide +kernel)
  | .tuple _ => show PySem.W.kitOne K (.type "tuple") (.type "str") = some false from kit_ty (by decide +kernel)
  | .dict _ => show PySem.W.kitOne K (.type "dict") (.type "str") = some false from kit_ty (by decide +kernel)
def is_list (d : PyData) : Bool := match d with | .list _ => true | _ => false
theorem kit_list : ∀ d : PyData, PySem.W.kitOne K (.type (tyD d)) (.type "list") = some (is_list d)
  | .none => show PySem.W.kitOne K (.type "NoneType") (.type "list") = some false from kit_ty (by decide +kernel)
  | .bool _ => show PySem.W.kitOne K (.type "bool") (.type "list") = some false from kit_ty (by decide +kernel)
  | .int _ => show PySem.W.kitOne K (.type "int") (.type "list") = some false from kit_ty (by decide +kernel)
  | .str _ => show PySem.W.kitOne K (.type "str") (.type "list") = some false from kit_ty (by decide +kernel)
  | .list _ => show PySem.W.kitOne K (.type "list") (.type "list") = some true from kit_ty (by decide +kernel)
  | .tuple _ => show PySem.W.kitOne K (.type "tuple") (.type "list") = some false from kit_ty (by decide +kernel)
  | .dict _ => show PySem.W.kitOne K (.type "dict") (.type "list") = some false from kit_ty (by decide +kernel)
def is_dict (d : PyData) : Bool := match d with | .dict _ => true | _ => false
theorem kit_dict : ∀ d : PyData, PySem.W.kitOne K (.type (tyD d)) (.type "dict") = some (is_dict d)
  | .none => show PySem.W.kitOne K (.type "NoneType") (.type "dict") = some false from kit_ty (by decide +kernel)
  | .bool _ => show PySem.W.kitOne K (.type "bool") (.type "dict") = some false from kit_ty (by decide +kernel)
  | .int _ => show PySem.W.kitOne K (.type "int") (.type "dict") = some false from kit_ty (by decide +kernel)
  | .str _ => show PySem.W.kitOne K (.type "str") (.type "dict") = some false from kit_ty (by decide +kernel)
  | .list _ => show PySem.W.kitOne K (.type "list") (.type "dict") = some false from kit_ty (by decide +kernel)
  | .tuple _ => show PySem.W.kitOne K (.type "tuple") (.type "dict") = some false from kit_ty (by decide +kernel)
  | .dict _ => show PySem.W.kitOne K (.type "dict") (.type "dict") = some true from kit_ty (by decide +kernel)
end
end Ver

/-! An own exception class directly over a built-in one, whose __init__ hands on to it and stores nothing. -/
namespace Ver
open PySem PySem.Spec PyProof.Rows L2
/-- what the written part tells of such a class -/
structure ExN (K : PySem.W.Frag) (C fI : Addr) (bmB : List Value) (newId : String) : Prop where
  q : PySem.W.excInitIn K C bmB newId = true
  iC : PySem.W.findIn K (.ref C) "__init__" = some (some (.ref fI))
  tI : PySem.W.typeIn K (.ref fI) = some (.type "function")
  exC : PySem.W.subIn K (.ref C) (.type "BaseException") = some true
  tyC : PySem.W.typeIn K (.ref C) = some (.type "type")
  kC : PySem.W.keepIn K (.ref C) = true
section
variable {X : Cx} {pins : List (Addr × Obj)} {σ : L2.St} {H : Hp} {s : Shared} {a C fI : Addr} {bmB : List Value} {B newId initId : String}
theorem binit_ok {A : Around} {E : Value → Shared → Prop} {us : List Value} {Q : Value → Shared → Prop} (F : ExcBaseFacts B newId initId bmB) (q : PySem.W.excInitIn X.K C bmB newId = true) (I : Inv X pins σ H s) (e : H a = some (exo a C none))
    (hl : us.length ≤ sizeLine) (h : ∀ s', Inv X pins σ H s' → Q .none s') : wpAny (model X.prog X.w) A (call (.builtin initId) (.ref a :: us)) Q E s := by
  obtain ⟨nm, N, qn, bs, bm, hd, sn, sub, ab, col, dd, k0, k1, k2, k3, k5, hC, hT⟩ := PySem.W.excInit_of I.kIn q
  obtain ⟨t1, ho⟩ := exo_at I.hok e
  obtain ⟨hp, g, d, t, os⟩ := s
  refine wpAny_call (PySem.HandSPX.init_base F hT hC ho hl fun h' t2 k hx => h _ ?_)
  have J := I.write (t' := t) (x := a) (e := a) (o := exo a C none) (by rw [e]; exact True.intro) (.inl rfl) k ⟨_, hx⟩ (exo_ok hx)
  have same : upd H a (exo a C none) = H := funext fun b => by
    by_cases z : b = a
    · rw [z, upd_same, e]
    · exact upd_ne z
  rwa [same] at J
variable {x : Str} {e : Expr} {es : List Expr} {ta : TA} {p p1 p2 pos : Pos}
/-- its reading: self is an exception that is being made, without a dict as yet -/
def tBi (K : PySem.W.Frag) (bmB : List Value) (newId : String) (ta : TA) : TE := fun σ H Q => ta σ H fun vs H1 => ∃ (a C : Addr) (ws : List V), vs = .ref a :: ws ∧ ws.length ≤ 1000 ∧ PySem.W.excInitIn K C bmB newId = true ∧ H1 a = some (exo a C none) ∧ Q .non H1
/-- B.__init__(self, ..), B a built-in class of errors -/
theorem pe_binit {pl : Sem Bool} (F : ExcBaseFacts B newId initId bmB) (hg : Gl X x) (hm : X.mg x = none) (hv : bootBuiltins x = some (.type B)) (hty : typeOf (.type B) = pure (.type "type")) (hst : Manifest.isStub B = false) (hh : PySem.W.handedIn (.builtin initId) = true)
    (hsp : PySem.W.findCls X.K (.type B) (.type "type") "__init__" = some (.val (.builtin initId))) (ha : PA X (e :: es) ta)
    (hc : eval (.Call (.Attribute (.Name x p1) "__init__" p2) (e :: es) [] pos) X.env = (do
      let ov ← eval (.Name x p1) X.env
      standAt p2.atName
      let (f, first) ← holding [ov] (getMethod ov "__init__" pl)
      callWith pos f first (backTo pos (starEach (e :: es) X.env)) (backToKw pos (keywordEach [] X.env))) := by rfl)
    (he : starEach (e :: es) X.env = (false, eval e X.env) :: starEach es X.env := by rfl) (hpl : (backTo pos (starEach es X.env)).any (·.1) = false := by rfl) (hn : x ≠ "__name__" := by decide) (hd : (x == ("__debug__" : Str)) = false := by decide) :
    PE X (.Call (.Attribute (.Name x p1) "__init__" p2) (e :: es) [] pos) (tBi X.K bmB newId ta) := by
  refine ⟨fun pins s σ H Q I h => PySem.W.methodCall_KW (ld_blt I hg hm hv ?_ hn hd) hc⟩
  obtain ⟨m, fr⟩ := I.fr
  refine PySem.W.method_type fr I.ok.mod.kin hty hst hsp hh ?_
  show wpAny _ _ (callWith pos (Value.builtin initId) [] (backTo pos (starEach (e :: es) X.env)) []) _ _ _
  refine PyProof.Rows.callWith_method1 (thn (ha.run pos pins _ σ H _ (I.tok _) h) fun us s1 z => ?_) he hpl
  obtain ⟨vs, H1, I1, r1, a, C, ws, rfl, hl, q, ea, qq⟩ := z
  match us, r1 with
  | u0 :: ur, .cons ra rw' =>
    cases (show u0 = Value.ref a from ra)
    exact binit_ok F q I1 ea (by rw [← Paired.length rw', sizeLine_eq]; omega) fun s' J => ⟨.non, H1, J, rfl, qq⟩
/-- the exception is let go: what stood ahead stands, and it is known no more -/
theorem let_go {H1 H2 : Hp} {hp hp2 h2 : Heap} {g1 g2 : Array GenState} {d1 d2 : Drawn} {t1 t2 : Nat} {os1 os2 : OsState} (I1 : Inv X pins σ H1 ⟨hp, g1, d1, t1, os1⟩) (ha : hp.objs.size ≤ a) (k : ∀ b o, hp.get? b = some o → hp2.get? b = some o)
    (un : Un (frs X.stack) [] (upd H1 a (exo a C none)) H2 hp2 h2) (hok : HOk X.prog X.w H2 h2) (ho : os2 = os1) (hb : AllBare g2) (ea : H2 a = some (exo a C none)) :
    ∃ (t0 : Addr) (G : Heap), Inv X pins σ (del H2 a) ⟨G, g2, d2, t2, os2⟩ ∧ (∀ b o, G.get? b = some o → h2.get? b = some o) ∧ G.get? a = none ∧
      h2.get? a = some ({ cls := .ref C, dict := none, data := .fields #[.ref t0, .none, .none, .none, .bool false, .none] } : Obj) := by
  obtain ⟨t0, hoe⟩ := exo_at hok ea
  have na : H1 a = none := I1.hok.fresh ha
  obtain ⟨G, in_, out⟩ := restrict h2 fun b => decide (b ≠ a)
  have gk : ∀ b, b ≠ a → G.get? b = h2.get? b := fun b hb => in_ b (decide_eq_true hb)
  have ge : G.get? a = none := out a (by simp)
  have old : ∀ {b : Addr} {o : Obj}, hp.get? b = some o → b ≠ a := fun z => Nat.ne_of_lt (Nat.lt_of_lt_of_le (Heap.lt_size z) ha)
  have up : ∀ {b : Addr}, b ≠ a → H1 b = none → upd H1 a (exo a C none) b = none := fun hb n => by rw [upd_ne hb]; exact n
  have U : Un (frs X.stack) [] H1 (del H2 a) hp G := {
    keep := fun b o z n hf hx => (gk b (old z)).trans (un.keep b o (k b o z) (up (old z) n) hf hx)
    slot := fun b o z n hf hx => by
      obtain ⟨sl, y⟩ := un.slot b o (k b o z) (up (old z) n) hf hx
      exact ⟨sl, (gk b (old z)).trans y⟩
    free := fun b o z n hx => (del_ne (old z)).trans (un.free b o (k b o z) (up (old z) n) hx)
    there := fun b o z hx => by
      obtain ⟨o', y⟩ := un.there b o (k b o z) hx
      exact ⟨o', (gk b (old z)).trans y⟩
    tups := fun b xs z => (del_ne (ne_of_none z na)).trans (un.tups b xs ((upd_ne (ne_of_none z na)).trans z))
    frzs := fun b o v z => (del_ne (ne_of_none z na)).trans (un.frzs b o v ((upd_ne (ne_of_none z na)).trans z))
    tbls := fun b ps z => by
      obtain ⟨more, y⟩ := un.tbls b ps ((upd_ne (ne_of_none z na)).trans z)
      exact ⟨more, (del_ne (ne_of_none z na)).trans y⟩ }
  have ok3 : HOk X.prog X.w (del H2 a) G := fun b o z => by
    have hba : b ≠ a := fun e => by
      rw [e, del_same] at z
      cases z
    rw [del_ne hba] at z
    have noa : ∀ {c : Addr}, H2 c = some (.own b) → c ≠ a := fun hc => at_ne ea hc exo_own
    refine (hok b o z).stay (fun c v hc y => (gk c ?_).trans y) (fun c hc => (del_ne (noa hc)).trans hc) fun c xs hc => (del_ne (at_ne ea hc exo_tup)).trans hc
    rcases hc with hc | hc
    · rw [hc]
      exact hba
    · exact noa hc
  refine ⟨t0, G, I1.call' (ch := []) ho U ok3 hb (fun b z => absurd z (by simp)), fun b o z => ?_, ge, hoe⟩
  by_cases e : b = a
  · rw [e, ge] at z
    cases z
  · exact (gk b e).symm.trans z
/-- the promise of an __init__ that stores nothing -/
def spInitN (C : Addr) : Sp := fun vs H Q _ => ∃ a : Addr, vs = [.ref a] ∧ H a = some (exo a C none) ∧ Q .non H
theorem pmk_n {CX : CXT} {k : Nat} (F : ExcBaseFacts B newId initId bmB) (T : ExN X.K C fI bmB newId) (F1 : FnG X.prog X.w X.K X.mg X.base CX k fI (spInitN C)) (hr : Room (k + 1) X.A) (hgd : X.A.guards = some []) (hx : Passes CX X (fun _ _ _ => False)) (hg : Gl X x) (hm : X.mg x = some (.ref C))
    (hdb : (x == ("__debug__" : Str)) = false := by decide) : PMk X (.Call (.Name x p) [] [] pos) (fun _ H Q => Q (.ref C) none H) := by
  intro pins s σ H Q I h
  refine wpAny_Call_Name_kw (ld_glob I hg hm (PySem.W.callWith_K0 I.kIn T.kC ?_) hdb)
  show wpAny _ _ (call (.ref C) []) _ _ _
  obtain ⟨nm, N, qn, bs, bm, hd, sn, sub, ab, col, dd, k0, k1, k2, k3, k5, hC, hT⟩ := PySem.W.excInit_of I.kIn T.q
  obtain ⟨hp, g, dr, tk, os⟩ := s
  have big : hp.objs.size ≤ hp.objs.size + 1 := Nat.le_succ _
  have hn : H (hp.objs.size + 1) = none := I.hok.fresh big
  have kk : ∀ b o, hp.get? b = some o → ((hp.push (PySem.W.kdv_tup [])).push (PySem.HandSPX.excO C hp.objs.size)).get? b = some o := fun b o z => Heap.get?_push_of_some _ (Heap.get?_push_of_some _ z)
  have made : ((hp.push (PySem.W.kdv_tup [])).push (PySem.HandSPX.excO C hp.objs.size)).get? (hp.objs.size + 1) = some (PySem.HandSPX.excO C hp.objs.size) := by heap_get
  have I2 : Inv X pins σ (upd H (hp.objs.size + 1) (exo (hp.objs.size + 1) C none)) ⟨(hp.push (PySem.W.kdv_tup [])).push (PySem.HandSPX.excO C hp.objs.size), g, dr, tk, os⟩ :=
    I.laid (t' := tk) (a := hp.objs.size + 1) (o := exo (hp.objs.size + 1) C none) (h' := (hp.push (PySem.W.kdv_tup [])).push (PySem.HandSPX.excO C hp.objs.size)) kk big (exo_ok made)
  have q2 : spInitN C [V.ref (hp.objs.size + 1)] (upd H (hp.objs.size + 1) (exo (hp.objs.size + 1) C none)) (fun v H2 => v = .non ∧ H2 = upd H (hp.objs.size + 1) (exo (hp.objs.size + 1) C none)) (fun _ _ _ => False) := ⟨_, rfl, upd_same, rfl, rfl⟩
  refine wpAny_call (PySem.HandSPX.call_own F hT hC (PySem.W.looks_findIn I.kIn T.iC) (fun self => PySem.W.bind_fn I.kIn self T.tI) (Nat.zero_le _)
    (codeAny_mono (F1 _ X.stack _ _ [Value.ref (hp.objs.size + 1)] [V.ref (hp.objs.size + 1)] _ (fun _ _ _ => False) (made_guards hgd C []) (hr.make C [] []) (I2.env0.make C [] []) (.cons rfl .nil) q2) fun rs s' hq => ?_))
  match rs, hq with
  | .error er, hq => exact hx pins σ _ _ er s' I2 hq
  | .ok .next, hq => exact hq.elim
  | .ok .brk, hq => exact hq.elim
  | .ok .cont, hq => exact hq.elim
  | .ok (.ret u), hq =>
    obtain ⟨v, H2, os2, bare2, un2, ok2, rv, rfl, rfl⟩ := hq
    obtain ⟨h2, g2, d2, t2, os'⟩ := s'
    obtain ⟨t0, G, J, kG, ge, hoe⟩ := let_go (a := hp.objs.size + 1) (C := C) (d2 := d2) (t2 := t2) I big kk un2 ok2 os2 bare2 upd_same
    have eH : del (upd H (hp.objs.size + 1) (exo (hp.objs.size + 1) C none)) (hp.objs.size + 1) = H := funext fun b => by
      by_cases z : b = hp.objs.size + 1
      · rw [z, del_same, hn]
      · rw [del_ne z, upd_ne z]
    rw [eH] at J
    exact ⟨rv, hp.objs.size + 1, _, _, ⟨G, g2, d2, t2, os'⟩, H, .ref C, none, rfl, J, kG, ge, hoe, ⟨rfl, rfl⟩, rfl, rfl, hn, rfl, bare2, raises_own T.exC T.tyC, h⟩
end
end Ver

namespace Ver
open PySem PySem.Spec PyProof.Rows L2
section
variable {X : Cx} {CX : CXT} {k : Nat} {f : Addr} {sp : Sp} {E : L2.St → XK} {m : Str} {pos apos : Pos} {e o : Expr} {es : List Expr} {t : TA} {ta : TE}
/-- o.m(e, ..), what it lets out is caught here -/
def tMethGS (K : PySem.W.Frag) (m : Str) (f : Addr) (sp : Sp) (E : L2.St → XK) (ta : TE) (t : TA) : TE := fun σ H Q => ta σ H fun x H1 => ∃ a C dx fs, x = .ref a ∧ H1 a = some (.ins C dx fs) ∧ Cls K C ∧ Meth K C m f ∧ fs.lookup m = none ∧
  t σ H1 fun vs H2 => sp (.ref a :: vs) H2 Q (E σ)
theorem pe_methGS {pl : Sem Bool} (K' : PySem.W.Frag) (hK : X.K = K') (he : PE X o ta) (hk : PySem.W.keepIn X.K (.ref f) = true) (F : FnG X.prog X.w X.K X.mg X.base CX k f sp) (hr : Room k X.A) (hgd : X.A.guards = some []) (hx : ∀ σ, PassesAt CX X σ (E σ)) (ha : PA X (e :: es) t)
    (hst : starEach (e :: es) X.env = (false, eval e X.env) :: starEach es X.env := by rfl) (hpl : (backTo pos (starEach es X.env)).any (·.1) = false := by rfl)
    (ht : eval (.Call (.Attribute o m apos) (e :: es) [] pos) X.env = (do
      let ov ← eval o X.env
      standAt apos.atName
      let (g, first) ← holding [ov] (getMethod ov m pl)
      callWith pos g first (backTo pos (starEach (e :: es) X.env)) (backToKw pos (keywordEach [] X.env))) := by rfl) :
    PE X (.Call (.Attribute o m apos) (e :: es) [] pos) (tMethGS K' m f sp E ta t) := by
  subst hK
  refine ⟨fun pins s σ H Q I h => PySem.W.methodCall_KW (pl := pl) (thn (he.run pins s σ H _ I h) fun u s1 z => ?_) ht⟩
  obtain ⟨x, H1, I1, rx, a, C, dx, fs, rfl, ea, c, hm, l, q⟩ := z
  cases (show u = Value.ref a from rx)
  refine getmeth_ok I1 ea c hm l (PySem.W.callWith_K (first := [.ref a]) (h₀ := X.base) I.ok.mod.kin hk (thn (ha.run pos pins s1 σ H1 _ I1 q) fun us s2 y => ?_) hst hpl)
  obtain ⟨vs, H2, I2, r, q2⟩ := y
  refine ⟨I2.kIn, ?_⟩
  exact wpAny_call (codeAny_mono (F X.A X.stack s2 H2 (.ref a :: us) (.ref a :: vs) Q (E σ) hgd hr I2.env0 (.cons rfl r) q2) fun rs s' hq => by
    match rs, hq with
    | .error e', hq => exact hx σ pins H2 s2 e' s' I2 hq
    | .ok (.ret u), hq => exact I2.after hq
    | .ok .next, hq => exact hq.elim
    | .ok .brk, hq => exact hq.elim
    | .ok .cont, hq => exact hq.elim)
end
/-! ### lists, shown -/
theorem textFrom_up : ∀ (ts : List Str) (k : Nat) (acc : Str), (textFrom k acc ts).length ≤ acc.length + piled ts
  | [], _, acc => by show acc.length ≤ acc.length + 0; omega
  | t :: r, k, acc => by
    have ih := textFrom_up r (k + 1) (acc ++ (if k > 0 then ", " else "" : String) ++ t)
    have e : (acc ++ (if k > 0 then ", " else "" : String) ++ t).length ≤ acc.length + 2 + t.length := by
      rw [strLen_append, strLen_append]
      by_cases h : k > 0
      · rw [if_pos h]
        exact Nat.le_refl _
      · rw [if_neg h]
        show acc.length + 0 + t.length ≤ _
        omega
    show (textFrom (k + 1) _ r).length ≤ _
    rw [piled_cons]
    omega
end Ver

namespace Ver
open PySem PySem.Spec PyProof.Rows L2
/-! ### == and != of any data -/
section
variable {X : Cx}
def rEqO (K : PySem.W.Frag) : R2 := fun x y H Q => ∃ d e, Do K H x d ∧ Do K H y e ∧ SeqAt.shaped d = true ∧ SeqAt.shaped e = true ∧ Q (.bl (PyData.eqv d e)) H
def rNeO (K : PySem.W.Frag) : R2 := fun x y H Q => ∃ d e, Do K H x d ∧ Do K H y e ∧ SeqAt.shaped d = true ∧ SeqAt.shaped e = true ∧ Q (.bl (!PyData.eqv d e)) H
def rNotInO (K : PySem.W.Frag) : R2 := fun x y H Q => ∃ d ds, Do K H x d ∧ Do K H y (.list ds) ∧ SeqAt.shaped d = true ∧ SeqAt.shaped (.list ds) = true ∧ Q (.bl (!(ds.any fun z => PyData.eqv z d))) H
theorem op_eqO (sm : Sm X.K) (hu : X.A.units + 64 < cLine) : OpR X (compareOp .Eq) (rEqO X.K) := by
  intro pins s σ H x y v u Q I rx ry h
  obtain ⟨d, e, hd, he, sd, se, q⟩ := h
  obtain ⟨as, r1, _⟩ := Do.reads sm I d x v hd rx
  obtain ⟨bs, r2, _⟩ := Do.reads sm I e y u he ry
  exact SeqAt.compareEq_shaped r1 r2 sd se hu ⟨.bl _, H, I, rfl, q⟩
theorem op_neO (sm : Sm X.K) (hu : X.A.units + 64 < cLine) : OpR X (compareOp .NotEq) (rNeO X.K) := by
  intro pins s σ H x y v u Q I rx ry h
  obtain ⟨d, e, hd, he, sd, se, q⟩ := h
  obtain ⟨as, r1, _⟩ := Do.reads sm I d x v hd rx
  obtain ⟨bs, r2, _⟩ := Do.reads sm I e y u he ry
  exact SeqAt.compareNe_shaped r1 r2 sd se hu ⟨.bl _, H, I, rfl, q⟩
theorem op_notInO (sm : Sm X.K) (hu : X.A.units + 65 < cLine) : OpR X (compareOp .NotIn) (rNotInO X.K) := by
  intro pins s σ H x y v u Q I rx ry h
  obtain ⟨d, ds, hd, he, sd, se, q⟩ := h
  obtain ⟨as, r1, _⟩ := Do.reads sm I d x v hd rx
  obtain ⟨bs, r2, _⟩ := Do.reads sm I (.list ds) y u he ry
  exact SeqAt.notIn_list_reads r2 r1 (SeqAt.canLay_of_shaped se) (SeqAt.canLay_of_shaped sd) (room_in_shaped sd hu) ⟨.bl _, H, I, rfl, q⟩
/-- a text, many times -/
theorem op_strMul : OpR X (binaryOp .Mult) (fun x y H Q => ∃ (a : Str) (n : Int), x = .str a ∧ y = .int n ∧ a.length ≤ 1000 ∧ 0 < a.length ∧ 2 ≤ n ∧ n ≤ 10000 ∧ (⟨(List.replicate n.toNat a.cps).foldl (· ++ ·) #[]⟩ : Str).length ≤ sizeLine ∧ Q (.str ⟨(List.replicate n.toNat a.cps).foldl (· ++ ·) #[]⟩) H) := by
  intro pins s σ H x y v u Q I rx ry h
  obtain ⟨a, n, rfl, rfl, h1, h0, h2, h3, hz, q⟩ := h
  obtain ⟨t, rfl⟩ := rx
  obtain ⟨t2, rfl⟩ := ry
  have e1 : ¬ n < 1 := by omega
  have e2 : ¬ (n == 1 || a.length == 0) = true := by
    rw [Bool.or_eq_true, not_or]
    refine ⟨fun z => ?_, fun z => ?_⟩
    · have := beq_iff_eq.mp z
      omega
    · have := beq_iff_eq.mp z
      omega
  refine PySem.P.mul_str ?_ (fun _ _ => ?_) (fun _ _ => ?_) ?_
  · rw [decide_eq_false (by omega), decide_eq_false (by omega)]
    rfl
  · have : (2 ^ 63 - 1) / n ≥ 1000 := Int.le_ediv_of_mul_le (by omega) (by omega)
    omega
  · have hm : a.length * n.toNat ≤ 1000 * 10000 := Nat.mul_le_mul h1 (by omega)
    exact decide_eq_false (by rw [sizeLine_eq]; omega)
  · rw [if_neg e1, if_neg e2]
    exact ⟨hz, .str _, H, I.tok _, ⟨_, rfl⟩, q⟩
end
/-! ### an own __eq__ -/
section
variable {M : Model} {prog : Program} {w : World} {A : Around} {E : Value → Shared → Prop} {s : Shared} {K : PySem.W.Frag} {x C L f : Addr} {h₀ : Heap} {m : Str → Option Value} {ox : Obj} {od : Option Obj} {name : Str} {b tb : Value}
theorem ifBound_B {id B : String} {args : List Value} {Q : Option Value → Shared → Prop} (S : PySem.Slot B name id) (X : K.In s.heap) (I : PySem.W.InstAt s.heap x ox C od) (hs : PySem.W.findIn K (.ref C) name = some (some (.builtin id)))
    (h : wpAny M A (call (.builtin id) (.ref x :: args)) (fun v => Q (some v)) E s) : wpAny M A (callSpecialIfBound? (.ref x) name args) Q E s := by
  simp only [callSpecialIfBound?, bindSpecialIfBound?]
  refine wpAny_holding (wpAny_bind (wpAny_bind (wpAny_bind (I.type.here ((PySem.W.looks_findIn X hs).here ?_)))))
  simp only [S.bind]
  refine wpAny_bind (wpAny_askSetting (wpAny_ite ?_))
  have fin : wpAny M A (call (.builtin id) ([.ref x] ++ args) >>= fun v => pure (some v)) Q E s := wpAny_bind (wpAny_mono h (fun v s' h' => wpAny_pure h') fun _ _ h' => h')
  split
  · exact wpAny_bind (wpAny_pure (wpAny_pure fin))
  · exact wpAny_tryCatch (wpAny_bind (wpAny_pure (wpAny_pure fin)))
theorem objNe_K (X : K.In s.heap) (I : PySem.W.InstAt s.heap x ox C od) (hs : PySem.W.findIn K (.ref C) "__eq__" = some (some (.ref f))) (hf : PySem.W.isFn K (.ref f) = true) (hu : A.units < cLine) {Q : Fin → Shared → Prop}
    (hcall : wpAny (model prog w) A (call (.ref f) [.ref x, b]) (fun v s' => ∃ k, v = .bool k ∧ Q (.done (.ret (.bool (!k)))) s') E s) :
    wpAny (model prog w) A (Builtin.«object.__ne__» ⟨[.ref x, b], []⟩) Q E s := by
  obtain ⟨hp, g, d, t, os⟩ := s
  unfold Builtin.«object.__ne__»
  repeat (first
    | with_reducible refine wpAny_cRoomFor hu ?_
    | (refine wpAny_bind (m := callSpecialIfBound? (.ref x) (Str.ofString "__eq__") [b])
        (PySem.W.ifBound_K X I hs hf (wpAny_mono hcall (fun r s' hr => by
          obtain ⟨b, rfl, hq⟩ := hr
          repeat (first | exact hq | exact wpAny_pure hq | exact wpAny_truthy_bool hq | (refine wpAny_bind (m := truthy (.bool _)) (wpAny_truthy_bool ?_)) | wp_step)) fun _ _ e => e)))
    | wp_step)
theorem ne_K {Q : Value → Shared → Prop} (hu : A.units + 1 < cLine) (X : K.In s.heap) (I : PySem.W.InstAt s.heap x ox C od) (hb : PySem.W.Looks (model prog w) s.heap (typeOf b) tb) (hn : PySem.W.notFirst K C tb = true)
    (hs : PySem.W.findIn K (.ref C) "__eq__" = some (some (.ref f))) (hf : PySem.W.isFn K (.ref f) = true) (hne : PySem.W.findIn K (.ref C) "__ne__" = some (some (.builtin "object.__ne__"))) (hob : PySem.W.subIn K (.ref C) (.type "object") = some true)
    (h : wpAny (model prog w) A.in1 (call (.ref f) [.ref x, b]) (fun v s' => ∃ k, v = .bool k ∧ Q (.bool (!k)) s') E s) : wpAny (model prog w) A (richCompare .NotEq (.ref x) b) Q E s := by
  have isO : PySem.W.Looks (model prog w) s.heap (isInstance (.ref x) (.type "object")) true := I.type.andThen (PySem.W.looks_subIn X hob)
  have one : wpAny (model prog w) A (tryCompare (.ref x) (cmpInfo .NotEq).2.1 b) (fun r s' => ∃ v, r = some v ∧ Q v s') E s := by
    unfold tryCompare
    refine wpAny_bind (ifBound_B PySem.F.cmp_object.ne X I hne (wpAny_call (codeAny_call_builtin PySem.F.cmp_object.ne.plain PySem.F.cmpEntry_ne
      (PySem.W.check_slot PySem.F.cmpKind_ne PySem.F.cmpSplit_ne isO (PySem.F.cmpArgs_ne _ _) (objNe_K (A := A.in1) X I hs hf hu (wpAny_mono h (fun v s' hv => ?_) fun _ _ e => e))))))
    obtain ⟨k, rfl, hq⟩ := hv
    first | exact ⟨k, rfl, wpAny_pure ⟨_, rfl, hq⟩⟩ | exact ⟨k, rfl, wpAny_pure (wpAny_pure ⟨_, rfl, hq⟩)⟩
  unfold richCompare
  simp only [oneThing_ref]
  refine wpAny_holding (wpAny_bind (wpAny_cRoomFor (Nat.lt_of_succ_lt hu) ?_))
  refine wpAny_bind (I.type.here (wpAny_bind (hb.here ?_)))
  split
  · rename_i q
    have e : PySem.W.subIn K tb (.ref C) = some false := by
      rcases Bool.or_eq_true_iff.mp hn with e | e
      · rw [beq_iff_eq.mp e] at q; simp at q
      · exact beq_iff_eq.mp e
    refine wpAny_bind ((PySem.W.looks_subIn X e).here ?_)
    simp only [Bool.false_eq_true, if_false]
    refine wpAny_bind (wpAny_mono one (fun r s' z => ?_) fun _ _ e => e)
    obtain ⟨v, rfl, hq⟩ := z
    exact wpAny_pure hq
  · refine wpAny_bind (wpAny_pure ?_)
    simp only [Bool.false_eq_true, if_false]
    refine wpAny_bind (wpAny_mono one (fun r s' z => ?_) fun _ _ e => e)
    obtain ⟨v, rfl, hq⟩ := z
    exact wpAny_pure hq
end
end Ver

namespace Ver
open PySem PySem.Spec PyProof.Rows L2
/-- what the written part tells of the class at C whose == is the def at f, against a value of the type t -/
structure OwnQ (K : PySem.W.Frag) (C f : Addr) (t : Value) : Prop where
  nf : PySem.W.notFirst K C t = true
  eq : PySem.W.findIn K (.ref C) "__eq__" = some (some (.ref f))
  fn : PySem.W.isFn K (.ref f) = true
  ne : PySem.W.findIn K (.ref C) "__ne__" = some (some (.builtin "object.__ne__"))
  ob : PySem.W.subIn K (.ref C) (.type "object") = some true
section
variable {X : Cx} {CX : CXT} {k : Nat} {f C : Addr} {sp : Sp} {E : XK} {pins : List (Addr × Obj)} {σ : L2.St} {H : Hp} {s : Shared} {Q : VK} {us : List Value} {vs : List V}
/-- the callee's run, one call further in -/
theorem runG1 (F : FnG X.prog X.w X.K X.mg X.base CX k f sp) (hr : Room (k + 1) X.A) (hgd : X.A.guards = some []) (hx : Passes CX X E) (I : Inv X pins σ H s) (r : Vals vs us) (h : sp vs H Q E) :
    wpAny (model X.prog X.w) X.A.in1 (call (.ref f) us) (EP X pins σ Q) X.xe s :=
  wpAny_call (codeAny_mono (F X.A.in1 X.stack s H us vs Q E hgd hr.in1 I.env0.in1 r h) fun rs s' hq => by
    match rs, hq with
    | .error e', hq => exact hx pins σ H s e' s' I hq
    | .ok (.ret u), hq => exact I.after hq
    | .ok .next, hq => exact hq.elim
    | .ok .brk, hq => exact hq.elim
    | .ok .cont, hq => exact hq.elim)
def rOwnQ (K : PySem.W.Frag) (f : Addr) (sp : Sp) (E : XK) (g : Bool → Bool) : R2 := fun x y H Q => ∃ (a C dx : Addr) (fs : List (Str × V)) (t : Value), x = .ref a ∧ H a = some (.ins C dx fs) ∧ TyX K H y t ∧ OwnQ K C f t ∧
  sp [x, y] H (fun z H' => ∃ b : Bool, z = .bl b ∧ Q (.bl (g b)) H') E
theorem op_eqOwn (F : FnG X.prog X.w X.K X.mg X.base CX k f sp) (hr : Room (k + 1) X.A) (hgd : X.A.guards = some []) (hx : Passes CX X E) : OpR X (compareOp .Eq) (rOwnQ X.K f sp E fun b => b) := by
  intro pins s σ H x y v u Q I rx ry h
  obtain ⟨a, C, dx, fs, t, rfl, ea, ty, O, q⟩ := h
  cases (show v = Value.ref a from rx)
  obtain ⟨mA, ob, r, wi, _, ho⟩ := ins_get I.hok ea
  obtain ⟨od, J, _⟩ := ob.look
  obtain ⟨P, kx, hp, _⟩ := kit_of I ry ty
  obtain ⟨m, hF⟩ := I.fr
  show wpAny _ _ (richCompare .Eq (.ref a) u) _ _ _
  refine PySem.W.cmp_K (op := .Eq) (tb := t) (Nat.lt_of_lt_of_le (Nat.lt_of_le_of_lt (Nat.le_add_right _ 64) hr.units) (Nat.le_refl _)) hF I.ok.mod.kin J (kx.ty _ _ I.kIn hp) O.nf O.eq O.fn ?_
  refine wpAny_mono (runG (us := [.ref a, u]) (vs := [.ref a, y]) F (hr.mono (Nat.le_succ k)) hgd hx I (.cons rfl (.cons ry .nil)) q) (fun w s' z => ?_) fun _ _ x => x
  obtain ⟨z', H', I', rz, b, rfl, qz⟩ := z
  cases (show w = Value.bool b from rz)
  exact ⟨.bl b, H', I', rfl, qz⟩
theorem op_neOwn (F : FnG X.prog X.w X.K X.mg X.base CX k f sp) (hr : Room (k + 1) X.A) (hgd : X.A.guards = some []) (hx : Passes CX X E) : OpR X (compareOp .NotEq) (rOwnQ X.K f sp E fun b => !b) := by
  intro pins s σ H x y v u Q I rx ry h
  obtain ⟨a, C, dx, fs, t, rfl, ea, ty, O, q⟩ := h
  cases (show v = Value.ref a from rx)
  obtain ⟨mA, ob, r, wi, _, ho⟩ := ins_get I.hok ea
  obtain ⟨od, J, _⟩ := ob.look
  obtain ⟨P, kx, hp, _⟩ := kit_of I ry ty
  show wpAny _ _ (richCompare .NotEq (.ref a) u) _ _ _
  refine ne_K (tb := t) (Nat.lt_of_le_of_lt (Nat.add_le_add_left (by decide) _) hr.units) I.kIn J (kx.ty _ _ I.kIn hp) O.nf O.eq O.fn O.ne O.ob ?_
  refine wpAny_mono (runG1 (us := [.ref a, u]) (vs := [.ref a, y]) F hr hgd hx I (.cons rfl (.cons ry .nil)) q) (fun w s' z => ?_) fun _ _ x => x
  obtain ⟨z', H', I', rz, b, rfl, qz⟩ := z
  cases (show w = Value.bool b from rz)
  exact ⟨b, rfl, .bl (!b), H', I', rfl, qz⟩
end
/-! ### a static method, read off its class; what is raised is caught here -/
/-- what the written part tells of a static method -/
structure StM (K : PySem.W.Frag) (C : Addr) (m : Str) (f : Addr) : Prop where
  ga : PySem.W.specialIn K (.ref C) "__getattribute__" = some (some (.builtin "type.__getattribute__"))
  ty : PySem.W.typeIn K (.ref C) = some (.type "type")
  rd : PySem.W.readsIn K C (.type "type") = true
  at_ : ∃ p, PySem.W.findCls K (.ref C) (.type "type") m = some (.get (.builtin "staticmethod.__get__") (.ref p) .none (.ref C)) ∧ ∃ rest, PySem.W.recIn K p "staticmethod" = some (.ref f :: rest)
  kp : PySem.W.keepIn K (.ref f) = true
section
variable {X : Cx} {CX : CXT} {k : Nat} {f C : Addr} {sp : Sp} {x m : Str} {p pos apos : Pos} {e : Expr} {es : List Expr} {t : TA}
/-- C.m(e, ..), what it raises is wished for at the slots -/
theorem pe_stcGS {E : L2.St → XK} {pl : Sem Bool} (S : StM X.K C m f) (hg : Gl X x) (hm : X.mg x = some (.ref C)) (F : FnG X.prog X.w X.K X.mg X.base CX k f sp) (hr : Room k X.A) (hgd : X.A.guards = some []) (hx : ∀ σ, PassesAt CX X σ (E σ)) (ha : PA X (e :: es) t)
    (hst : starEach (e :: es) X.env = (false, eval e X.env) :: starEach es X.env := by rfl) (hpl : (backTo pos (starEach es X.env)).any (·.1) = false := by rfl)
    (ht : eval (.Call (.Attribute (.Name x p) m apos) (e :: es) [] pos) X.env = (do
      let ov ← eval (.Name x p) X.env
      standAt apos.atName
      let (g, first) ← holding [ov] (getMethod ov m pl)
      callWith pos g first (backTo pos (starEach (e :: es) X.env)) (backToKw pos (keywordEach [] X.env))) := by rfl) (hdb : (x == ("__debug__" : Str)) = false := by decide) :
    PE X (.Call (.Attribute (.Name x p) m apos) (e :: es) [] pos) (fun σ H Q => t σ H fun vs H1 => sp vs H1 Q (E σ)) := by
  obtain ⟨pa, fc, rest, hp⟩ := S.at_
  refine ⟨fun pins s σ H Q I h => PySem.W.methodCall_KW (pl := pl) (ld_glob I hg hm ?_ hdb) ht⟩
  obtain ⟨mm, fr⟩ := I.fr
  refine PySem.W.method_of_cls fr I.ok.mod.kin S.ga (PySem.W.cls_sm fr I.ok.mod.kin S.ty S.rd fc hp (by rfl) ?_)
  have J := I.tok (s.toks + 1)
  refine PySem.W.callWith_K (first := []) (h₀ := X.base) I.ok.mod.kin S.kp (thn (ha.run pos pins _ σ H _ J h) fun us s1 z => ?_) hst hpl
  obtain ⟨vs, H1, I1, r, q⟩ := z
  refine ⟨I1.kIn, ?_⟩
  exact wpAny_call (codeAny_mono (F X.A X.stack s1 H1 us vs Q (E σ) hgd hr I1.env0 r q) fun rs s' hq => by
    match rs, hq with
    | .error e', hq => exact hx σ pins H1 s1 e' s' I1 hq
    | .ok (.ret u), hq => exact I1.after hq
    | .ok .next, hq => exact hq.elim
    | .ok .brk, hq => exact hq.elim
    | .ok .cont, hq => exact hq.elim)
/-- C(e, ..), what __init__ raises is wished for at the slots -/
def tMakeGS (C : Addr) (sp : Sp) (E : L2.St → XK) (t : TA) : TE := fun σ H Q => StX.tMakeR C sp (E σ) t σ H Q
theorem pe_makeGS {E : L2.St → XK} (M : Mk X.K C f) (F : FnG X.prog X.w X.K X.mg X.base CX k f sp) (hr : Room (k + 1) X.A) (hgd : X.A.guards = some []) (hg : Gl X x) (hm : X.mg x = some (.ref C)) (hx : ∀ σ, PassesAt CX X σ (E σ)) (ha : PA X (e :: es) t)
    (hdb : (x == ("__debug__" : Str)) = false := by decide) (he : starEach (e :: es) X.env = (false, eval e X.env) :: starEach es X.env := by rfl)
    (hpl : (backTo pos (starEach es X.env)).any (·.1) = false := by rfl) : PE X (.Call (.Name x p) (e :: es) [] pos) (tMakeGS C sp E t) := by
  refine ⟨fun pins s σ H Q I h => wpAny_Call_Name_kw (ld_glob I hg hm (PySem.W.callWith_K (h₀ := X.base) I.ok.mod.kin M.kp (thn (ha.run pos pins s σ H _ I h) fun us s1 z => ?_) he hpl) hdb)⟩
  obtain ⟨vs, H1, I1, r, q⟩ := z
  refine ⟨I1.kIn, wpAny_call (make_map (f := f) I1.kIn M.makes M.init (beq_iff_eq.mp M.fn) ?_)⟩
  have q2 := q (s1.heap.objs.size + 1) s1.heap.objs.size (I1.hok.fresh (Nat.le_succ _)) (I1.hok.fresh (Nat.le_refl _)) (Nat.ne_of_lt (Nat.lt_succ_self _))
  have I2 := Inv.made (C := C) I1
  refine codeAny_mono (F _ X.stack _ _ (Value.ref (s1.heap.objs.size + 1) :: us) (V.ref (s1.heap.objs.size + 1) :: vs) _ (E σ) (made_guards hgd C us) (hr.make C us []) (I2.env0.make C us []) (.cons rfl r) q2) fun rs s' hq => ?_
  match rs, hq with
  | .error e', hq => exact hx σ pins _ _ e' s' I2 hq
  | .ok (.ret u), hq =>
    obtain ⟨v, H', I3, rv, ev, q3⟩ := I2.after hq
    subst ev
    exact ⟨rv, V.ref (s1.heap.objs.size + 1), H', I3, rfl, q3⟩
  | .ok .next, hq => exact hq.elim
  | .ok .brk, hq => exact hq.elim
  | .ok .cont, hq => exact hq.elim
end
end Ver

namespace Ver
open PySem PySem.Spec PyProof.Rows L2
/-- isinstance(e, c), e the exception that the suite holds, its dict at dd -/
def rIsED (K : PySem.W.Frag) (D a dd : Addr) : List V → Hp → VK → Prop := fun xs H Q => ∃ (c : V) (cv : Value) (b : Bool) (fs : List (Str × V)), xs = [.ref a, c] ∧ (∀ u, RelV c u → u = cv) ∧ PySem.W.kitOne K (.ref D) cv = some b ∧ H dd = some (.xd fs) ∧ Q (.bl b) H
theorem call_isED {X : Cx} {a D dd : Addr} {oe : Obj} {pn : List (Addr × Obj)} (C : ExcC X.K D) (hz : Zc (.ref D) (some dd) oe) (hf : ∃ vs, oe.data = .fields vs) : CallR (X.suite a ((a, oe) :: pn)) (.builtin "isinstance") (rIsED X.K D a dd) := by
  intro pins s σ H xs us Q I r h
  obtain ⟨c, cv, b, fs, rfl, hcv, e, ea, q⟩ := h
  match us, r with
  | [_, _], .cons rx (.cons rt .nil) =>
    cases rx
    cases hcv _ rt
    obtain ⟨g, _⟩ := I.pin (a, oe) (List.mem_append_left _ List.mem_cons_self)
    obtain ⟨vs, hv⟩ := hf
    obtain ⟨mA, hns, _⟩ := show ObjOk X.prog X.w H s.heap dd (.xd fs) from I.hok dd _ ea
    obtain ⟨od, ho, _⟩ := lookIn_ns hns
    obtain ⟨cd, hc, _⟩ := PySem.W.any_some C.hd
    have J : PySem.W.InstAt s.heap a oe D (some od) := ⟨g, hz.1, by unfold PySem.W.notCls; rw [hv] <;> rfl, by rw [hz.2]; exact ho⟩
    exact PySem.W.kia_one (PySem.W.kitx_exc (by rw [hc]; rfl) C.hg C.hk C.hs C.ha C.hn C.ht C.hm) I.kIn J e (fun z => nomatch z) fun tk => ⟨.bl b, H, I.kept (t' := tk) fun _ _ z => z, rfl, q⟩
end Ver

namespace Ver
open PySem PySem.Spec PyProof.Rows L2 SeqAt
open AutoSeq1 (wpAny_loadPart')
/-! ### a dict and a text are never equal -/
theorem dict_no_str (l : Addr) (o : Obj) (b : Str) (u : Tok) :
    PySem.Meets (Builtin.«dict.__eq__» ⟨[.ref l, .str b u], []⟩) (fun _ R s => s.heap.get? l = some o ∧ R (.ok (.ret .notImplemented)) s) := .of_wp fun prog w A R s h => by
  obtain ⟨hp, g, d, tk, os⟩ := s
  have f1 := PySem.F.sub_str_dict
  wp_walk using wpAny_loadPart' h.1
  exact ⟨_, rfl, h.2⟩
theorem str_no_dict (l : Addr) (o : Obj) (b : Str) (u : Tok) (es : Array DictEntry) (ep : Nat) (hd : o.data = .dict es ep) :
    PySem.Meets (Builtin.«str.__eq__» ⟨[.str b u, .ref l], []⟩) (fun _ R s => s.heap.get? l = some o ∧ R (.ok (.ret .notImplemented)) s) := .of_wp fun prog w A R s h => by
  obtain ⟨hp, g, d, tk, os⟩ := s
  wp_walk using wpAny_loadPart' h.1, wpAny_load h.1
  rw [hd]
  wp_walk using wpAny_loadPart' h.1, wpAny_load h.1
  exact ⟨_, rfl, h.2⟩
section
variable {A : Around} {s : Shared} {l : Addr} {o : Obj} {es : Array DictEntry} {ep : Nat}
theorem rc_str_dict (b : Str) (u : Tok) (ho : s.heap.get? l = some o) (hc : o.cls = .type "dict") (hd : o.data = .dict es ep) (hu : A.units < cLine) : RcAt A s (.str b u) (.ref l) false := fun prog w E Q h =>
  rc_eq_decline_or (k := false) (typeIs_str s b u) ⟨_, ho, hc⟩ (by decide) PySem.F.sub_dict_str PySem.F.slot_str_eq PySem.F.slot_dict_eq_refl
    (fun _ q => call_meets PySem.F.slot_str_eq (typeIs_str s b u) PySem.F.entry_str_eq (PySem.F.args_str_eq_2 _ _) (str_no_dict l o b u es ep hd) ⟨ho, q⟩)
    (fun _ q => call_meets PySem.F.slot_dict_eq_refl ⟨_, ho, hc⟩ PySem.F.entry_dict_eq (PySem.F.args_dict_eq_2 _ _) (dict_no_str l o b u) ⟨ho, q⟩)
    (fun _ q => wpAny_of_eq (rfl : isSame (.str b u) (.ref l) = pure false) q) (.inr hu) h
theorem rc_dict_str (b : Str) (u : Tok) (ho : s.heap.get? l = some o) (hc : o.cls = .type "dict") (hd : o.data = .dict es ep) (hu : A.units < cLine) : RcAt A s (.ref l) (.str b u) false := fun prog w E Q h =>
  rc_eq_decline_or (k := false) ⟨_, ho, hc⟩ (typeIs_str s b u) (by decide) PySem.F.sub_str_dict PySem.F.slot_dict_eq PySem.F.slot_str_eq_refl
    (fun _ q => call_meets PySem.F.slot_dict_eq ⟨_, ho, hc⟩ PySem.F.entry_dict_eq (PySem.F.args_dict_eq_2 _ _) (dict_no_str l o b u) ⟨ho, q⟩)
    (fun _ q => call_meets PySem.F.slot_str_eq_refl (typeIs_str s b u) PySem.F.entry_str_eq (PySem.F.args_str_eq_2 _ _) (str_no_dict l o b u es ep hd) ⟨ho, q⟩)
    (fun _ q => wpAny_of_eq (rfl : isSame (.ref l) (.str b u) = pure false) q) (.inr hu) h
theorem ea_str_dict (b : Str) (u : Tok) (ho : s.heap.get? l = some o) (hc : o.cls = .type "dict") (hd : o.data = .dict es ep) (hu : A.units < cLine) : EqAt A s (.str b u) (.ref l) false := fun prog w E Q h => by
  unfold eqBool
  exact wpAny_holding (wpAny_ite_split (fun z => absurd (eq_of_beq z) nofun) fun _ => wpAny_bind (rc_str_dict b u ho hc hd hu prog w E _ (wpAny_truthy_bool h)))
end
section
variable {X : Cx}
/-- a dict == a text; a dict that is sought among texts -/
def rEqDS : R2 := fun x y H Q => ∃ (a : Addr) (kvs : List (Key × V)) (t : Str), x = .ref a ∧ y = .str t ∧ H a = some (.dK kvs) ∧ Q (.bl false) H
theorem op_eqDS (hu : X.A.units < cLine) : OpR X (compareOp .Eq) rEqDS := by
  intro pins s σ H x y v u Q I rx ry h
  obtain ⟨a, kvs, t, rfl, rfl, ea, q⟩ := h
  cases (show v = Value.ref a from rx)
  obtain ⟨tk, rfl⟩ := ry
  obtain ⟨_, _, vs, _, o, es, ep, ho, he, hd, _⟩ := dk_of I.hok ea
  show wpAny _ _ (richCompare .Eq (.ref a) (.str t tk)) _ _ _
  exact rc_dict_str t tk ho he.1 hd hu X.prog X.w _ _ ⟨.bl false, H, I, rfl, q⟩
def rNotInDS (K : PySem.W.Frag) : R2 := fun x y H Q => ∃ (a b : Addr) (kvs : List (Key × V)) (ts : List Str), x = .ref a ∧ y = .ref b ∧ H a = some (.dK kvs) ∧ SqL K H b (ts.map V.str) ∧ Q (.bl true) H
theorem op_notInDS (hu : X.A.units + 1 < cLine) : OpR X (compareOp .NotIn) (rNotInDS X.K) := by
  intro pins s σ H x y v u Q I rx ry h
  obtain ⟨a, b, kvs, ts, rfl, rfl, ea, hl, q⟩ := h
  cases (show v = Value.ref a from rx)
  cases (show u = Value.ref b from ry)
  obtain ⟨_, _, vs, _, o, es, ep, ho, he, hd, _⟩ := dk_of I.hok ea
  obtain ⟨its, rv, ⟨ob, n, hob, hoc, hdn, hdd⟩, _⟩ := I.list hl
  refine notIn_listAt (fun _ => false) ⟨ob, hob, hoc, n, hdd⟩ (fun z hz => ?_) ?_
  · obtain ⟨i, hi, e⟩ := Array.mem_iff_getElem.mp hz
    have hi2 : i < its.length := by simpa using hi
    have e2 : its[i] = z := by simpa using e
    have hlen := rv.length
    rw [List.length_map] at hlen
    obtain ⟨w2, hw, rw_⟩ := rv.get (i := i) (x := V.str ts[i]) (by rw [List.getElem?_map, List.getElem?_eq_getElem (by omega)]; rfl)
    rw [List.getElem?_eq_getElem hi2, e2] at hw
    cases hw
    obtain ⟨tk, rfl⟩ := rw_
    exact ea_str_dict ts[i] tk ho he.1 hd hu
  · have e : its.toArray.any (fun _ => false) = false := by simp
    rw [e]
    exact ⟨.bl true, H, I, rfl, q⟩
end
end Ver

namespace Num
theorem fmod_lt {a b : Int} (h : b ≠ 0) : (a.fmod b).natAbs < b.natAbs := by
  rw [Int.fmod_eq_emod]
  have h0 := Int.emod_nonneg a h
  by_cases c : 0 ≤ b
  · have h1 := Int.emod_lt_of_pos a (show 0 < b by omega)
    rw [if_pos (.inl c)]
    omega
  · have h1 := Int.emod_lt_of_neg a (show b < 0 by omega)
    by_cases d : b ∣ a
    · rw [if_pos (.inr d), Int.emod_eq_zero_of_dvd d]
      omega
    · have h2 : a % b ≠ 0 := fun z => d (Int.dvd_of_emod_eq_zero z)
      rw [if_neg (by rintro (z | z); exact c z; exact d z)]
      omega
theorem gcd_fmod (a b : Int) : Int.gcd b (a.fmod b) = Int.gcd a b := by
  rw [Int.fmod_def, Int.gcd_sub_mul_left_right, Int.gcd_comm]
end Num
namespace Ver
open PySem PySem.Spec PyProof.Rows L2
/-- a part that is not run -/
theorem pe_dead {X : Cx} {e : Expr} : PE X e (fun _ _ _ => False) := ⟨fun _ _ _ _ _ _ h => h.elim⟩
/-- C.m(e, ..), m a plain def of the class C itself or above it -/
theorem pe_clsG {X : Cx} {CX : CXT} {k : Nat} {f C : Addr} {sp : Sp} {E : XK} {x m : Str} {p pos apos : Pos} {e : Expr} {es : List Expr} {t : TA} {pl : Sem Bool} (hg : Gl X x) (hm : X.mg x = some (.ref C)) (rd : PySem.W.readsIn X.K C (.type "type") = true)
    (ga : PySem.W.specialIn X.K (.ref C) "__getattribute__" = some (some (.builtin "type.__getattribute__"))) (fi : PySem.W.findCls X.K (.ref C) (.type "type") m = some (.val (.ref f))) (hk : PySem.W.keepIn X.K (.ref f) = true)
    (F : FnG X.prog X.w X.K X.mg X.base CX k f sp) (hr : Room k X.A) (hgd : X.A.guards = some []) (hx : Passes CX X E) (ha : PA X (e :: es) t)
    (hst : starEach (e :: es) X.env = (false, eval e X.env) :: starEach es X.env := by rfl) (hpl : (backTo pos (starEach es X.env)).any (·.1) = false := by rfl)
    (ht : eval (.Call (.Attribute (.Name x p) m apos) (e :: es) [] pos) X.env = (do
      let ov ← eval (.Name x p) X.env
      standAt apos.atName
      let (g, first) ← holding [ov] (getMethod ov m pl)
      callWith pos g first (backTo pos (starEach (e :: es) X.env)) (backToKw pos (keywordEach [] X.env))) := by rfl) (hdb : (x == ("__debug__" : Str)) = false := by decide) :
    PE X (.Call (.Attribute (.Name x p) m apos) (e :: es) [] pos) (fun σ H Q => t σ H fun vs H1 => sp vs H1 Q E) := by
  refine ⟨fun pins s σ H Q I h => PySem.W.methodCall_KW (pl := pl) (ld_glob I hg hm ?_ hdb) ht⟩
  refine PySem.W.method_cls I.kIn ga (PySem.W.cls_value I.kIn rd fi rfl ?_)
  have J := I.tok (s.toks + 1)
  refine PySem.W.callWith_K (first := []) (h₀ := X.base) I.ok.mod.kin hk (thn (ha.run pos pins _ σ H _ J h) fun us s1 z => ?_) hst hpl
  obtain ⟨vs, H1, I1, r, q⟩ := z
  exact ⟨I1.kIn, runG F hr hgd hx I1 r q⟩
/-- lcm of two ints, great ones too -/
theorem cr_lcm {X : Cx} : CallR X (.builtin "math.lcm") (fun vs H Q => ∃ a b : Int, vs = [.int a, .int b] ∧ a.natAbs < 2 ^ 8000 ∧ b.natAbs < 2 ^ 8000 ∧ Q (.int ((Nat.lcm a.natAbs b.natAbs : Nat) : Int)) H) := by
  intro pins s σ H vs us Q I r h
  obtain ⟨a, b, rfl, ha, hb, q⟩ := h
  obtain ⟨t, u, rfl⟩ := Vals.int2 r
  have la := PySem.Flt.log2_lt_of (by decide) ha
  have lb := PySem.Flt.log2_lt_of (by decide) hb
  have h1 : (max 1 a.natAbs).log2 ≤ 8000 := by
    rcases Nat.le_total 1 a.natAbs with z | z
    · rw [Nat.max_eq_right z]; omega
    · rw [Nat.max_eq_left z]; decide
  have h2 : (max a.natAbs b.natAbs).log2 ≤ 8000 := by
    rcases Nat.le_total a.natAbs b.natAbs with z | z
    · rw [Nat.max_eq_right z]; omega
    · rw [Nat.max_eq_left z]; omega
  have e1 : Nat.lcm 1 a.natAbs = a.natAbs := Nat.lcm_one_left _
  have hs : ((((Nat.lcm 1 a.natAbs).lcm b.natAbs : Nat) : Int)).natAbs.log2 < bitsLine := by
    rw [e1]
    have l1 : Nat.lcm a.natAbs b.natAbs ≤ a.natAbs * b.natAbs := by
      rw [Nat.lcm]
      exact Nat.div_le_self _ _
    have l2 : a.natAbs * b.natAbs < 2 ^ (8000 + 8000) := by
      rw [Nat.pow_add]
      exact Nat.mul_lt_mul'' ha hb
    have l3 : (((Nat.lcm a.natAbs b.natAbs : Nat) : Int)).natAbs < 2 ^ (8000 + 8000) := Nat.lt_of_le_of_lt l1 l2
    have l4 := PySem.Flt.log2_lt_of (by decide) l3
    have e : bitsLine = 134217728 := by decide
    omega
  have g := PySem.W.mg_run_lcm a t b u (by omega) (by omega) hs
  rw [e1] at g
  exact PySem.call_function_meets PySem.W.MGF.kind_lcm PySem.W.MGF.plain_lcm PySem.W.MGF.entry_lcm (PySem.W.MGF.args_lcm _ _) g.meets ⟨.int _, H, I.tok _, ⟨_, rfl⟩, q⟩
section
variable {P : Program} {w : World} {K : PySem.W.Frag} {mg : Str → Option Value} {base : Heap} {CX : CXT} {k : Nat} {f : Addr} {sp sp1 sp2 : Sp}
theorem FnG.either (F1 : FnG P w K mg base CX k f sp1) (F2 : FnG P w K mg base CX k f sp2) (h : ∀ vs H Q E, sp vs H Q E → sp1 vs H Q E ∨ sp2 vs H Q E) : FnG P w K mg base CX k f sp := fun A outer s H us vs Q E g hr e0 r q =>
  (h vs H Q E q).elim (F1 A outer s H us vs Q E g hr e0 r) (F2 A outer s H us vs Q E g hr e0 r)
end
section
variable {X : Cx} {CX : CXT} {k : Nat} {f C : Addr} {sp : Sp} {E : XK} {x : Str} {p pos : Pos}
/-- C() -/
theorem pe_makeG0 (M : Mk X.K C f) (F : FnG X.prog X.w X.K X.mg X.base CX k f sp) (hr : Room (k + 1) X.A) (hgd : X.A.guards = some []) (hg : Gl X x) (hm : X.mg x = some (.ref C)) (hx : Passes CX X E)
    (hdb : (x == ("__debug__" : Str)) = false := by decide) : PE X (.Call (.Name x p) [] [] pos) (StX.tMakeR C sp E tNil) := by
  refine ⟨fun pins s σ H Q I q => wpAny_Call_Name_kw (ld_glob I hg hm (PySem.W.callWith_K0 I.kIn M.kp ?_) hdb)⟩
  show wpAny _ _ (call (.ref C) []) _ _ _
  refine wpAny_call (make_map (f := f) I.kIn M.makes M.init (beq_iff_eq.mp M.fn) ?_)
  have q2 := q (s.heap.objs.size + 1) s.heap.objs.size (I.hok.fresh (Nat.le_succ _)) (I.hok.fresh (Nat.le_refl _)) (Nat.ne_of_lt (Nat.lt_succ_self _))
  have I2 := Inv.made (C := C) I
  refine codeAny_mono (F _ X.stack _ _ (Value.ref (s.heap.objs.size + 1) :: []) (V.ref (s.heap.objs.size + 1) :: []) _ E (made_guards hgd C []) (hr.make C [] []) (I2.env0.make C [] []) (.cons rfl .nil) q2) fun rs s' hq => ?_
  match rs, hq with
  | .error e', hq => exact hx pins σ _ _ e' s' I2 hq
  | .ok (.ret u), hq =>
    obtain ⟨v, H', I3, rv, ev, q3⟩ := I2.after hq
    subst ev
    exact ⟨rv, V.ref (s.heap.objs.size + 1), H', I3, rfl, q3⟩
  | .ok .next, hq => exact hq.elim
  | .ok .brk, hq => exact hq.elim
  | .ok .cont, hq => exact hq.elim
end
end Ver

/-! Defs with a star parameter; the sum of a tuple. -/
namespace Ver
open PySem PySem.Spec PyProof.Rows L2
theorem preSum_take {ns : List Int} : ∀ n, n ≤ ns.length → preSum (fun i => ns.getD i 0) n = (ns.take n).sum
  | 0, _ => by rw [List.take_zero]; rfl
  | n + 1, h => by
    have e : ns[n]? = some (ns.getD n 0) := by
      rw [List.getD_eq_getElem?_getD, List.getElem?_eq_getElem (by omega)]
      rfl
    show preSum _ n + ns.getD n 0 = _
    rw [preSum_take n (by omega), sum_take e]
section
variable {prog : Program} {w : World} {A : Around} {E : Value → Shared → Prop} {s : Shared} {l : Addr} {its : List Value} {ns : List Int} {Q : Value → Shared → Prop}
theorem sum_tup (hh : A.handled = none) (hl : IsTup s.heap l its.toArray) (rv : Vals (ns.map V.int) its)
    (h : ∀ h' tk t', (∀ b o, s.heap.get? b = some o → h'.get? b = some o) → Q (.int ns.sum t') { s with heap := h', toks := tk }) : wpAny (model prog w) A (call (.builtin "sum") [.ref l]) Q E s := by
  have hne : l ≠ s.heap.objs.size := Nat.ne_of_lt (by obtain ⟨o, e, _⟩ := hl; exact Heap.lt_size e)
  have hlen := rv.length
  rw [List.length_map] at hlen
  have sz : (s.heap.push { cls := .type "tuple_iterator", data := .fields #[.ref l, .int 0 0] }).objs.size = s.heap.objs.size + 1 := Heap.size_push ..
  refine call_sum_walkG (wpAny_pyIter_tuple (show s.heap.IsTuple l its.toArray from hl) ?_)
  refine ⟨_, _, _, _, _, _, fun i => ns.getD i 0, rfl, Walks.tuple (A := A.in1) hh _ l hne its.toArray, ⟨⟨_, Heap.get?_push_size _ rfl, rfl, rfl⟩, ?_⟩, fun b hb => ?_, fun i v hv => ?_, fun h' tk t' hk => ?_⟩
  · obtain ⟨o, e, c⟩ := hl
    exact ⟨o, Heap.get?_push_of_some _ e, c⟩
  · show b < (s.heap.push _).objs.size
    rw [Heap.size_push]
    rcases List.mem_cons.mp hb with e | hb
    · rw [e]
      exact Nat.lt_succ_self _
    · rw [List.mem_singleton.mp hb]
      exact Nat.lt_succ_of_lt (by obtain ⟨o, e, _⟩ := hl; exact Heap.lt_size e)
  · have hi : its[i]? = some v := by simpa using hv
    have lt : i < ns.length := by
      have := (List.getElem?_eq_some_iff.mp hi).1
      omega
    obtain ⟨u, hu, t, ru⟩ := rv.get (i := i) (x := V.int ns[i]) (by rw [List.getElem?_map, List.getElem?_eq_getElem lt]; rfl)
    rw [hi] at hu
    refine ⟨t, ?_⟩
    have e2 : ns.getD i 0 = ns[i] := by
      rw [List.getD_eq_getElem?_getD, List.getElem?_eq_getElem lt]
      rfl
    rw [Option.some.inj hu, ru]
    show Value.int ns[i] t = Value.int (ns.getD i 0) t
    rw [e2]
  · have e : preSum (fun i => ns.getD i 0) its.toArray.size = ns.sum := by
      rw [List.size_toArray, ← hlen, preSum_take _ (Nat.le_refl _), List.take_length]
    rw [e]
    refine h h' tk t' fun b o ho => hk b o (fun z => ?_) (Heap.get?_push_of_some _ ho)
    rw [List.mem_singleton.mp z] at ho
    exact absurd (Heap.lt_size ho) (Nat.lt_irrefl _)
end
/-- sum(t), t a tuple of ints -/
theorem cr_sumT {X : Cx} (hc : X.calm = true) : CallR X (.builtin "sum") (fun vs H Q => ∃ (a : Addr) (ns : List Int), vs = [V.ref a] ∧ SqT X.K H a (ns.map V.int) ∧ Q (.int ns.sum) H) := by
  intro pins s σ H vs us Q I r h
  obtain ⟨a, ns, rfl, hs, q⟩ := h
  obtain ⟨its, rv, hl, _⟩ := I.tuple hs
  obtain ⟨u, rfl, ru⟩ := vals1 r
  cases (show u = Value.ref a from ru)
  exact sum_tup (I.ok.hd hc) hl rv fun h' tk t' hk => ⟨.int _, H, I.kept hk, ⟨_, rfl⟩, q⟩
/-- def f(a, .., *rest) -/
theorem okStar {P : Program} {w : World} {K : PySem.W.Frag} {mg : Str → Option Value} {base : Heap} {k : Nat} {f : Addr} {fd : FuncData} {sp : Sp} {x qual pr : Str} {params : Arguments} {body : List Stmt} {scope : Scope} {N ps : List Str} {kws : List (Str × V)}
    (F : FunD K x qual params body scope [] kws f fd) (S : FnScope N (ps ++ [pr]) scope)
    (hb : ∀ (kV doc pm : Value) (an : Option Addr) (cdv ct : Value) (us rest : List Value), us.length = ps.length → bindArgs (PySem.W.fnOf x qual params body scope .none kV doc pm an cdv ct) ⟨us ++ rest, []⟩ = (newTuple rest >>= fun t => pure (ps.zip us ++ [(pr, t)])))
    (hbody : ∀ (cdv : Value) (A : Around) (outer : List Env) (s : Shared) (H : Hp) (vs : List V) (Q : VK) (E : XK), A.guards = some [] → Room k (A.deeper (envOfC qual scope s.heap.objs.size f cdv)) → sp vs H Q E →
      ∃ t, PSs (cxOf CX0 P w K mg base N qual scope f cdv A outer s H E).nox body t ∧ t { nx := fun _ H' => Q .non H', rt := Q } (start N vs) H) :
    FnG P w K mg base CX0 (k + 1) f (fun vs H Q E => ∃ ws rest, vs = ws ++ rest ∧ ws.length = ps.length ∧ rest.length ≤ sizeLine ∧ ∀ p, H p = none → sp (ws ++ [V.ref p]) (upd H p (.tup rest)) Q E) := by
  obtain ⟨⟨oc, od, dV, kV, doc, pm, an, cdv, ct, osl, rfl, lk, hcd, hD, _⟩, _⟩ := F
  have eD : dV = .none := by
    rcases hD with ⟨_, e⟩ | ⟨e, _⟩
    · exact e
    · exact absurd rfl e
  subst eD
  intro A outer s H us vs Q E hg hr e0 r hsp
  obtain ⟨ws, rest, rfl, hl, hz, hq⟩ := hsp
  obtain ⟨u1, u2, rfl, r1, r2⟩ := StX.vals_split r
  have n0 : H s.heap.objs.size = none := e0.hok.fresh (Nat.le_refl _)
  have l1 : u1.length = ps.length := r1.length.symm.trans hl
  refine StX.run_bnd lk hcd S hr e0 (G := fun xs H2 => ∃ p, H p = none ∧ xs = ws ++ [V.ref p] ∧ H2 = upd H p (.tup rest)) (fun A' Ex Q' h => ?_) fun s2 H2 xs g hr' => ?_
  · rw [hb _ _ _ _ _ _ u1 u2 l1]
    have new : ObjOk P w (upd H s.heap.objs.size (.tup rest)) (s.heap.push ({ cls := .type "tuple", data := .seq u2.toArray } : Obj)) s.heap.objs.size (.tup rest) := ⟨hz, u2, r2, ⟨_, Heap.get?_push_size _ rfl, rfl, _, rfl⟩⟩
    have z := h _ _ (ws ++ [V.ref s.heap.objs.size]) (u1 ++ [Value.ref s.heap.objs.size]) (StX.env0_laid e0 new) (StX.un_laid (fs := frs outer) (s := s) n0) rfl (fun e s' q => q) (r1.append (.cons rfl .nil))
      (by rw [List.length_append, List.length_append, hl] <;> rfl) ⟨_, n0, rfl, rfl⟩
    rw [List.zip_append l1.symm] at z
    exact wpAny_bind (wpAny_newTuple (wpAny_pure z) (by rw [← r2.length]; exact hz))
  · obtain ⟨p, hp, rfl, rfl⟩ := g
    obtain ⟨t, ht, q⟩ := hbody cdv A outer s2 _ _ Q E hg hr' (hq p hp)
    exact ⟨t, ht.nox, q⟩
end Ver

/-! Sets of texts: made from a text's signs, sorted. -/
namespace Ver
open PySem PySem.Spec PyProof.Rows L2
open PySem.Froz (TxOk addTx sObj sing SD tailTx add_x add_ok)
/-- a set's table that can be walked -/
def TabW (w : World) (t : SetTable) : Prop := Ris t.place.toList ∧ (w.params.followText "set-order" = true ∨ t.led = true)
theorem tabW_tail {w : World} {ep : Nat} {es : Array (Int × Value)} {t : SetTable} {d : Bool} (h : TabW w t) : TabW w (tailTx ep es t d).2.2 := by
  unfold tailTx
  by_cases c : (!d && t.tooFull) = true
  · rw [if_pos c]
    exact ⟨relayAll_ris _ _ _, h.2.imp id fun z => (relayAll_led _ _ _).trans z⟩
  · rw [if_neg c]
    exact h
theorem tabW_add {w : World} {k : Int} {v : Value} {D : SD} (h : TabW w D.2.2) : TabW w (addTx k v D).2.2 := by
  have hr := layNew_ris D.2.2 D.1 k v h.1
  have hl := layNew_led D.2.2 D.1 k v
  unfold addTx
  refine tabW_tail ⟨?_, ?_⟩
  · split
    · exact hr
    · exact hr
  · refine h.2.imp id fun z => ?_
    split
    · exact hl.trans z
    · exact hl.trans z
/-- the set at a holds the texts l -/
def SetS (P : Program) (w : World) (h : Heap) (a : Addr) (l : List Str) : Prop :=
  ∃ D : SD, h.get? a = some (sObj "set" D) ∧ TxOk P w D l ∧ l.Nodup ∧ l.length < scanBound ∧ TabW w D.2.2
section
variable {P : Program} {w : World} {A : Around} {E : Value → Shared → Prop} {s : Shared} {a : Addr} {l : List Str}
theorem SetS.at {h h' : Heap} (R : SetS P w h a l) (k : ∀ o, h.get? a = some o → h'.get? a = some o) : SetS P w h' a l :=
  let ⟨D, ho, r⟩ := R
  ⟨D, k _ ho, r⟩
theorem setS_add {k : Str} {u : Tok} {Q : Bool → Shared → Prop} (R : SetS P w s.heap a l) (room : l.length + 1 < scanBound)
    (hQ : ∀ (b : Bool) (h' : Heap) (l' : List Str), Heap.SameBut a s.heap h' → (∀ j, j ∈ l' ↔ j = k ∨ j ∈ l) → l'.length ≤ l.length + 1 → SetS P w h' a l' → Q b { s with heap := h' }) :
    wpAny (model P w) A (setAddHashed a (.str k u) (hashStr w k)) Q E s := by
  obtain ⟨D, ho, F, nd, hb, tw⟩ := R
  by_cases hk : k ∈ l
  · obtain ⟨es, ep, t⟩ := D
    have data : (sObj "set" (es, ep, t)).data = .set es ep t := rfl
    have fit : t.fits es.size = true := F.fit
    have el : ElemsOf (strKind P w) es.toList := F.el
    have few : es.size < scanBound := by
      rw [show es.size = l.length from F.sz]
      exact hb
    have own : (strKind P w).is k (.str k u) = true := PySem.Froz.is_str k u
    obtain ⟨j, ej⟩ : ∃ j, List.findIdx? (fun e => (strKind P w).is k e.2) es.toList = some j := by
      obtain ⟨e, he, q⟩ := (F.mem k).mp hk
      cases h : List.findIdx? (fun e => (strKind P w).is k e.2) es.toList with
      | some j => exact ⟨j, rfl⟩
      | none => exact absurd q (by rw [List.findIdx?_eq_none_iff.mp h e he]; exact Bool.false_ne_true)
    have z := hQ false s.heap l (Heap.SameBut.refl a s.heap) (fun j => ⟨.inr, fun q => q.elim (fun e => e ▸ hk) id⟩) (Nat.le_succ _) ⟨_, ho, F, nd, hb, tw⟩
    unfold setAddHashed setAddHashedIn
    refine wpAny_holding (wpAny_bind (wpAny_setState_of ho data fit (s := s) ?_))
    dsimp only
    rw [byScan_of rfl few el]
    simp only [↓reduceIte]
    unfold setAddByScan
    refine wpAny_bind (wpAny_bind (wpAny_rule (wpAny_bind (wpAny_setScan_of (knd := strKind P w) (k := k) own ho data fit el ?_))))
    rw [ej]
    dsimp only
    exact wpAny_pure (wpAny_pure z)
  · refine add_x ho F hk room (hQ true _ (k :: l) (Heap.SameBut.update s.heap a _) (fun j => List.mem_cons) (Nat.le_of_eq List.length_cons) ⟨_, PySem.Froz.get_upd _ ho rfl, add_ok u F, List.nodup_cons.mpr ⟨hk, nd⟩, by rw [List.length_cons]; exact room, tabW_add tw⟩)
/-- the rest of a text's signs into the set -/
theorem upd_signs {I : Addr} {fp wr : List Addr} {G : Array GenState → Array GenState → Prop} {x : Str} {St : Nat → Shared → Prop} {R : Result → Shared → Prop}
    (W : WalksS P w A.in1 I fp wr G x.cps.size (SignAt x) St) (hSf : a ∉ fp) (hx : x.cps.size + 1 < scanBound) :
    ∀ (k i : Nat) (s : Shared) (l : List Str), x.cps.size - i = k → i ≤ x.cps.size → St i s → l.length ≤ i → SetS P w s.heap a l → (∀ j, j ∈ l ↔ ∃ c ∈ x.cps.toList.take i, j = sing c) →
      (∀ s' l', Moved (a :: wr) G s s' → SetS P w s'.heap a l' → l'.length ≤ x.cps.size → (∀ j, j ∈ l' ↔ ∃ c ∈ x.cps.toList, j = sing c) → R (.ok (.ret .none)) s') →
      codeAny (model P w) A (.builtin "set.update.loop" ⟨[.ref a, .ref I], []⟩) R s := by
  have aw : a ∉ wr := fun h => hSf (W.sub _ h)
  have up : ∀ b ∈ wr, b ∈ a :: wr := fun b hb => List.mem_cons_of_mem _ hb
  intro k
  induction k with
  | zero =>
    intro i s l hk hi hst hl hS hm hR
    have hin : i = x.cps.size := by omega
    subst hin
    refine codeAny_builtin PyProof.Rows.F.entry_set_update_loop (?_ : wpAny _ _ _ _ _ _)
    rw [Around.under_plainId PyProof.Rows.F.plain_set_update_loop _]
    show wpAny _ A.in1 (pyNext (.ref I) >>= fun _ => _) _ _ s
    refine wpAny_bind (W.done s _ _ hst fun s' mv => ?_)
    show wpAny _ A.in1 (ret Value.none : Sem _) _ _ s'
    refine wpAny_pure (hR s' l (mv.mono up) (hS.at fun o e => mv.heap a o aw e) hl fun j => ?_)
    rw [hm j, List.take_of_length_le (by rw [Array.length_toList]; omega)]
  | succ k ih =>
    intro i s l hk hi hst hl hS hm hR
    have hlt : i < x.cps.size := by omega
    refine codeAny_builtin PyProof.Rows.F.entry_set_update_loop (?_ : wpAny _ _ _ _ _ _)
    rw [Around.under_plainId PyProof.Rows.F.plain_set_update_loop _]
    show wpAny _ A.in1 (pyNext (.ref I) >>= fun _ => _) _ _ s
    refine wpAny_bind (W.item i s _ _ hlt hst fun v s' hP hst' mv => ?_)
    obtain ⟨c, t, hc, rfl⟩ := hP
    have hS' : SetS P w s'.heap a l := hS.at fun o e => mv.heap a o aw e
    show wpAny _ A.in1 (holding [Value.str (sing c) t] (setAdd a (.str (sing c) t)) >>= fun _ => _) _ _ s'
    refine wpAny_bind (wpAny_holding ?_)
    unfold setAdd
    refine wpAny_holding (wpAny_bind ((strKind P w).pyHash (k := sing c) (PySem.Froz.is_str _ _) ?_))
    refine setS_add (s := { s' with toks := s'.toks + 1 }) hS' (by omega) fun b h' l' sb hm' hl' hS2 => ?_
    refine wpAny_pure ⟨plainId_quiet PyProof.Rows.F.plain_set_update_loop _, ih (i + 1) _ l' (by omega) hlt (W.frame _ s' _ _ hst' (Nat.le_succ _) fun b hb o e => ?_) (by omega) hS2 (fun j => ?_) fun s'' l'' mv'' hS'' hl'' hm'' => ?_⟩
    · exact (sb.2 b fun z : b = a => hSf (z ▸ hb)).trans e
    · rw [hm' j, hm j, List.take_add_one, show x.cps.toList[i]? = some c by rw [Array.getElem?_toList]; exact hc]
      simp only [Option.toList, List.mem_append, List.mem_singleton]
      constructor
      · rintro (h | ⟨d, hd, e⟩)
        · exact ⟨c, .inr rfl, h⟩
        · exact ⟨d, .inl hd, e⟩
      · rintro ⟨d, hd | hd, e⟩
        · exact .inr ⟨d, hd, e⟩
        · exact .inl (hd ▸ e)
    · refine hR s'' l'' (Moved.trans W.gtrans ((mv.mono up).then_heap (Nat.le_succ _) fun b o hb e => ?_) mv'') hS'' hl'' hm''
      exact (sb.2 b fun z : b = a => hb (z ▸ List.mem_cons_self)).trans e
end
end Ver

namespace Ver
open PySem PySem.Spec PyProof.Rows L2
open PySem.Froz (TxOk addTx sObj sing SD tailTx add_x add_ok)
/-- a set as set() lays it -/
abbrev newS (w : World) : Obj := { cls := .type "set", dict := none, data := .set #[] 0 (.fresh 0 0 (!w.params.followText "set-order")) }
theorem setS_fresh {P : Program} {w : World} {h : Heap} {a : Addr} (ho : h.get? a = some (newS w)) : SetS P w h a [] :=
  ⟨(#[], 0, .fresh 0 0 (!w.params.followText "set-order")), ho, TxOk.nil rfl, List.nodup_nil, by decide, List.Pairwise.nil, by
    show _ ∨ (!w.params.followText "set-order") = true
    cases w.params.followText "set-order" <;> simp⟩
section
variable {P : Program} {w : World} {A : Around} {E : Value → Shared → Prop} {s : Shared}
set_option maxHeartbeats 8000000 in
theorem call_set_text {x : Str} {t : Tok} {Q : Value → Shared → Prop} (hh : A.handled = none) (ha : x.cps.all (· < 128) = true) (hb : x.cps.size + 1 < scanBound)
    (h : ∀ (h' : Heap) (tk : Nat) (l : List Str), SetS P w h' s.heap.objs.size l → l.length ≤ x.cps.size → (∀ j, j ∈ l ↔ ∃ c ∈ x.cps.toList, j = sing c) → (∀ b o, s.heap.get? b = some o → h'.get? b = some o) →
      Q (.ref s.heap.objs.size) { s with heap := h', toks := tk }) :
    wpAny (model P w) A (call (.type "set") [.str x t]) Q E s := by
  obtain ⟨c, tl, hmro⟩ := F.called_set.mro
  have m1 := F.called_set.made
  have m2 := F.called_set.sub
  refine wpAny_call (codeAny_of_tree (?_ : wpAny _ _ (callAny (.type "set") _) _ _ _))
  refine wpAny_pure ⟨Code.quiet_builtin _ (by decide +kernel), codeAny_builtin F.entry_type_call (?_ : wpAny _ _ _ _ _ _)⟩
  rw [Around.under_plain (weight_type_call_type "set" [.str x t] []) rfl]
  have m3 := F.called_set.notType
  have m4 := F.called_set.canCreate
  have m5 := F.typeCall_set_1 (.str x t)
  repeat (any_goals (first | assumption | wp_step))
  refine codeAny_mono (code_set_led1 (.str x t) (E := E) (Q₁ := fun obj s₁ => obj = .ref s.heap.objs.size ∧ s₁ = { s with heap := s.heap.push (newS w) }) ⟨rfl, rfl⟩) fun r s₁ hr => ?_
  match r, hr with
  | .error e, hr => exact hr
  | .ok .next, hr => exact hr.elim
  | .ok .brk, hr => exact hr.elim
  | .ok .cont, hr => exact hr.elim
  | .ok (.ret obj), hr =>
    obtain ⟨rfl, rfl⟩ := hr
    have at_ : (s.heap.push (newS w)).get? s.heap.objs.size = some (newS w) := Heap.get?_push_size _ rfl
    have tyS : Shared.TypeIs { s with heap := s.heap.push (newS w) } (.ref s.heap.objs.size) "set" := ⟨_, at_, rfl⟩
    have i1 := F.called_set.init.lookup
    have i2 := F.called_set.init.bind (.ref s.heap.objs.size)
    repeat (any_goals (first | assumption | wp_step))
    refine codeAny_mono (codeAny_call_builtin (R := wants (fun r s₂ => r = .none ∧ ∃ h' tk l, s₂ = { s with heap := h', toks := tk } ∧ SetS P w h' s.heap.objs.size l ∧ l.length ≤ x.cps.size ∧ (∀ j, j ∈ l ↔ ∃ c ∈ x.cps.toList, j = sing c) ∧
        (∀ b o, s.heap.get? b = some o → h'.get? b = some o)) E) F.called_set.init.plain F.entry_set_init (check_set_init_1 tyS ?_)) fun r₂ s₂ hr₂ => ?_
    · have n1 := F.sub_str_set
      have n2 := F.sub_str_frozenset
      have n3 : (Value.type "str" == Value.type "dict") = false := by decide
      have tyX : Shared.TypeIs { s with heap := s.heap.push (newS w) } (.str x t) "str" := typeIs_str _ x t
      unfold Builtin.«set.__init__» noKeywords Builtin.Frozenset.updateFrom
      generalize hPI : pyIter = PI
      wp_walk
      subst hPI
      refine wpAny_pyIter_ascii ha ?_
      refine wpAny_bind (wpAny_runValue ?_)
      have z1 : (s.heap.push (newS w)).objs.size = s.heap.objs.size + 1 := Heap.size_push ..
      have off : s.heap.objs.size ∉ [(s.heap.push (newS w)).objs.size] := by
        rw [z1]
        simp
      refine upd_signs (a := s.heap.objs.size) ((Walks.strAscii (by simp [hh]) (s.heap.push (newS w)).objs.size x t).toS) off hb (x.cps.size - 0) 0 _ [] (by omega) (Nat.zero_le _)
        ⟨_, Heap.get?_push_size _ rfl, rfl, rfl⟩ (Nat.zero_le _) (setS_fresh (Heap.get?_push_of_some _ at_)) (fun j => by simp) fun s' l' mv hS' hl' hm' => ?_
      obtain ⟨h', g2, d', tk', os'⟩ := s'
      have eg : g2 = s.gens := mv.gens
      have ed : d' = s.drawn := mv.drawn
      have eo : os' = s.os := mv.os
      subst eg; subst ed; subst eo
      refine wpAny_bind (wpAny_pure ?_)
      refine wpAny_pure (?_ : wpAny _ _ (ret Value.none) _ _ _)
      refine wpAny_pure ⟨rfl, h', tk', l', rfl, hS', hl', hm', fun b o e => ?_⟩
      have lt := Heap.lt_size e
      refine mv.heap b o ?_ (Heap.get?_push_of_some _ (Heap.get?_push_of_some _ e))
      rw [z1]
      simp only [List.mem_cons, List.not_mem_nil, or_false, not_or]
      exact ⟨Nat.ne_of_lt lt, Nat.ne_of_lt (Nat.lt_succ_of_lt lt)⟩
    · match r₂, hr₂ with
      | .error e, hr₂ => exact hr₂
      | .ok .next, hr₂ => exact hr₂.elim
      | .ok .brk, hr₂ => exact hr₂.elim
      | .ok .cont, hr₂ => exact hr₂.elim
      | .ok (.ret r), hr₂ =>
        obtain ⟨rfl, h', tk, l', rfl, q1, q2, q3, q4⟩ := hr₂
        repeat (any_goals (first | assumption | wp_step))
        exact h _ _ _ q1 q2 q3 q4
end
end Ver

namespace Ver
open PySem PySem.Spec PyProof.Rows L2
open PySem.Froz (TxOk sObj sing SD)
theorem perm_of_nodup {α : Type} [BEq α] [LawfulBEq α] : ∀ {l m : List α}, l.Nodup → (∀ x ∈ l, x ∈ m) → m.length ≤ l.length → m.Perm l
  | [], m, _, _, h => by rw [List.length_eq_zero_iff.mp (Nat.le_zero.mp h)]
  | x :: l, m, nd, hs, h => by
    obtain ⟨h1, h2⟩ := List.nodup_cons.mp nd
    have hx : x ∈ m := hs x List.mem_cons_self
    have p := List.perm_cons_erase hx
    have e := List.length_erase_of_mem hx
    have hp : 0 < m.length := List.length_pos_of_mem hx
    rw [List.length_cons] at h
    refine p.trans ((perm_of_nodup (l := l) (m := m.erase x) h2 (fun y hy => ?_) (by omega)).cons x)
    exact (List.mem_erase_of_ne (show y ≠ x from fun z => h1 (z ▸ hy))).mpr (hs y (List.mem_cons_of_mem _ hy))
theorem strs_of_all : ∀ (vs : List Value), (∀ v ∈ vs, ∃ x t, v = Value.str x t) → ∃ ss, StrsAre vs ss ∧ ∀ v ∈ vs, ∀ x t, v = Value.str x t → x ∈ ss
  | [], _ => ⟨[], .nil, fun v hv => by cases hv⟩
  | v :: vs, h => by
    obtain ⟨x, t, rfl⟩ := h v List.mem_cons_self
    obtain ⟨ss, h1, h2⟩ := strs_of_all vs fun u hu => h u (List.mem_cons_of_mem _ hu)
    refine ⟨x :: ss, .cons x t h1, fun u hu y q e => ?_⟩
    rcases List.mem_cons.mp hu with z | z
    · rw [e] at z
      cases z
      exact List.mem_cons_self
    · exact List.mem_cons_of_mem _ (h2 u z y q e)
section
variable {P : Program} {w : World} {A : Around} {E : Value → Shared → Prop} {s : Shared} {a : Addr} {l : List Str}
theorem setS_items {D : SD} (F : TxOk P w D l) (nd : l.Nodup) {vs : List Value} (pm : vs.Perm (D.1.toList.map (·.2))) : ∃ ss, StrsAre vs ss ∧ ss.Perm l := by
  have all : ∀ v ∈ vs, ∃ x t, v = Value.str x t := fun v hv => by
    obtain ⟨e, he, q⟩ := List.mem_map.mp (pm.mem_iff.mp hv)
    obtain ⟨⟨k, hk, _⟩, _⟩ := F.el e he
    rw [← q]
    have h : Value.isStrOf k e.2 = true := hk
    cases hv2 : e.2 with
    | str x t => exact ⟨x, t, rfl⟩
    | _ => rw [hv2] at h; simp [Value.isStrOf] at h
  obtain ⟨ss, h1, h2⟩ := strs_of_all vs all
  refine ⟨ss, h1, perm_of_nodup nd (fun x hx => ?_) ?_⟩
  · obtain ⟨e, he, q⟩ := (F.mem x).mp hx
    have hv : e.2 ∈ vs := pm.mem_iff.mpr (List.mem_map.mpr ⟨e, he, rfl⟩)
    obtain ⟨y, t, ey⟩ := all _ hv
    have h : Value.isStrOf x e.2 = true := q
    rw [ey] at h
    have xy : y = x := by
      simp [Value.isStrOf] at h
      exact h
    rw [← xy]
    exact h2 _ hv y t ey
  · have e1 := h1.length
    have e2 := pm.length_eq
    rw [List.length_map, Array.length_toList] at e2
    have e3 : D.1.size = l.length := F.sz
    exact Nat.le_of_eq (e1.symm.trans (e2.trans e3))
theorem sorted_setS {Q : Value → Shared → Prop} (R : SetS P w s.heap a l) (hh : A.handled = none) (h64 : l.length < 64)
    (hQ : ∀ s' p (out : Array Value) (c : Nat) (ys : List Str), (∀ b o, s.heap.get? b = some o → s'.heap.get? b = some o) → s'.gens = s.gens → s'.os = s.os → s.heap.objs.size ≤ p →
      s'.heap.get? p = some (seqObj "list" out c) → StrsAre out.toList ys → ys.Perm l → sortedS ys = true → Q (.ref p) s') :
    wpAny (model P w) A (call (.builtin "sorted") [.ref a]) Q E s := by
  obtain ⟨D, ho, F, nd, hb, tw⟩ := R
  have few : D.1.size < scanBound := by
    rw [show D.1.size = l.length from F.sz]
    exact hb
  refine Calls.call_function_entry kind_sorted plain_sorted entry_sorted (args_sorted1 _) ?_
  unfold Builtin.«sorted»
  refine wpAny_bind (m := checkCount "sorted" 1 1 _) (wpAny_pure (wpAny_bind (collect_set (A := A.in1) hh ⟨_, ho, rfl, rfl⟩ F.fit few tw.1 tw.2 fun s1 vs k1 hz g1 o1 pm => ?_)))
  obtain ⟨ss, hS, pl⟩ := setS_items F nd pm
  have vl : vs.length = l.length := by rw [hS.length, pl.length_eq]
  have v64 : vs.length < 64 := by rw [vl]; exact h64
  refine wpAny_bind (wpAny_newList (?_ : wpAny _ _ _ _ _ _) (by rw [sizeLine_eq]; omega))
  have hoL : (s1.heap.push (seqObj "list" vs.toArray 0)).get? s1.heap.objs.size = some (seqObj "list" vs.toArray 0) := Heap.get?_push_size _ rfl
  refine wpAny_bind (wpAny_holding (wpAny_call_entry slot_list_sort ⟨_, hoL, rfl⟩ entry_list_sort (list_sort_treeK strKind_oneLt hoL hS.keysOf (fun v₁ v₂ rest e => keyKind_strs (by rw [← e]; exact hS)) v64 fun st' hp hs => ⟨_, rfl, ?_⟩) (args_list_sort _)))
  obtain ⟨ys, y1, y2, y3⟩ := sorted_out_str hS hp hs
  obtain ⟨c, hc⟩ := sortedHeap_at (vs := vs) (out := (arrOf st').map (·.2)) hoL
  refine wpAny_pure ⟨_, rfl, hQ _ s1.heap.objs.size _ c ys (fun b u e => ?_) g1 o1 hz hc y1 (y2.trans pl) y3⟩
  have q := k1 b u e
  have lt := Heap.lt_size q
  refine (sortedHeap_old (Nat.ne_of_lt lt) (by rw [size_push']; exact Nat.lt_succ_of_lt lt)).trans ?_
  exact Heap.get?_push_of_some _ q
end
/-! ### over the layer -/
/-- the set of the texts l at a -/
def SetTx (P : Program) (w : World) (a : Addr) (l : List Str) : HO := .ext fun h => SetS P w h a l
section
variable {X : Cx}
theorem setTx_new {w : World} {P : Program} {H : Hp} {h : Heap} {a : Addr} {l : List Str} (R : SetS P w h a l) : ObjOk P w H h a (SetTx P w a l) :=
  ⟨R, let ⟨_, ho, _⟩ := R; ⟨_, ho⟩, fun h1 h2 p k => SetS.at p (k · )⟩
/-- set(text) -/
def rSetText (P : Program) (w : World) : List V → Hp → VK → Prop := fun vs H Q => ∃ x : Str, vs = [.str x] ∧ x.cps.all (· < 128) = true ∧ x.cps.size + 1 < scanBound ∧
  ∀ (l : List Str) (p : Addr), l.Nodup → l.length ≤ x.cps.size → (∀ j, j ∈ l ↔ ∃ c ∈ x.cps.toList, j = sing c) → H p = none → Q (.ref p) (upd H p (SetTx P w p l))
theorem cr_setText (hc : X.calm = true) : CallR X (.type "set") (rSetText X.prog X.w) := by
  intro pins s σ H vs us Q I r h
  obtain ⟨x, rfl, ha, hb, q⟩ := h
  obtain ⟨u, rfl, t, rfl⟩ := vals1 r
  refine call_set_text (I.ok.hd hc) ha hb fun h' tk l R hl hm kp => ?_
  have nd : l.Nodup := let ⟨_, _, _, nd, _⟩ := R; nd
  exact ⟨.ref s.heap.objs.size, _, I.laid (t' := tk) kp (Nat.le_refl _) (setTx_new R), rfl, q l _ nd hl hm (I.hok.fresh (Nat.le_refl _))⟩
/-- sorted(set) -/
def rSortedTx (P : Program) (w : World) : List V → Hp → VK → Prop := fun vs H Q => ∃ (a : Addr) (l : List Str), vs = [.ref a] ∧ H a = some (SetTx P w a l) ∧ l.length < 64 ∧
  ∀ (ys : List Str) (p : Addr), ys.Perm l → sortedS ys = true → H p = none → Q (.ref p) (upd H p (.lst (ys.map V.str)))
theorem cr_sortedTx (hc : X.calm = true) : CallR X (.builtin "sorted") (rSortedTx X.prog X.w) := by
  intro pins s σ H vs us Q I r h
  obtain ⟨a, l, rfl, ha, h64, q⟩ := h
  have R : SetS X.prog X.w s.heap a l := (I.hok a _ ha).1
  rw [Vals.ref1 r]
  refine sorted_setS R (I.ok.hd hc) h64 fun s' p out c ys k g o hp hg hi pm hs => ?_
  have hlen : (ys.map V.str).length ≤ sizeLine := by
    rw [List.length_map, pm.length_eq, sizeLine_eq]
    omega
  have hn : H p = none := I.hok.fresh hp
  have J : Inv X pins σ (upd H p (.lst (ys.map V.str))) { s with heap := s'.heap, gens := s'.gens, drawn := s'.drawn, toks := s'.toks } :=
    I.call (ch := []) (Un.laid k hp hn) (I.hok.laid k hp ⟨hlen, out.toList, c, vals_of_strs hi, hg⟩) (by rw [g]; exact I.bare) (fun _ z => nomatch z)
  have e : s' = { s with heap := s'.heap, gens := s'.gens, drawn := s'.drawn, toks := s'.toks } := by
    cases s'
    cases s
    cases o
    rfl
  rw [e]
  exact ⟨.ref p, _, J, rfl, q ys p pm hs hn⟩
end
end Ver

/-! f(.., **d): the keywords out of a dict, into a dict. -/
namespace Ver
open PySem PySem.Spec PyProof.Rows L2
theorem stored_fresh {κ : Type} [DecidableEq κ] {kvs : List (κ × Value)} {k : κ} {v : Value} (h : k ∉ kvs.map (·.1)) : stored kvs k v = kvs ++ [(k, v)] := by
  unfold stored
  refine if_neg fun z => ?_
  obtain ⟨x, hx, e⟩ := List.any_eq_true.mp z
  exact h (List.mem_map.mpr ⟨x, hx, of_decide_eq_true e⟩)
section
variable {P : Program} {w : World} {A : Around} {E : Value → Shared → Prop} {s : Shared} {d a : Addr} {vs : List (Key × Value)}
theorem dict_idx {es : Array DictEntry} {kvs : List (Key × Value)} (hp : Pairs (mixKind P w) es.toList kvs) {k : Key} (h : k ∉ kvs.map (·.1)) : (es.findIdx? fun e => (mixKind P w).is k e.key) = none := by
  have e := hp.findIdx k
  have e2 : (kvs.findIdx? fun kv => decide (kv.1 = k)) = none := by
    rw [List.findIdx?_eq_none_iff]
    exact fun x hx => decide_eq_false fun z => h (List.mem_map.mpr ⟨x, hx, z⟩)
  rw [e2] at e
  obtain ⟨l⟩ := es
  simpa using e
/-- a new key at the end -/
theorem put_fresh {k : Key} {key v : Value} {kvs : List (Key × Value)} {Q : Unit → Shared → Prop} (hkey : (mixKind P w).is k key = true) (hm : s.heap.DictOf (mixKind P w) d kvs) (hn : k ∉ kvs.map (·.1)) (hz : kvs.length ≤ sizeLine)
    (hQ : ∀ h', h'.DictOf (mixKind P w) d (kvs ++ [(k, v)]) → Heap.SameBut d s.heap h' → Q () { s with heap := h' }) :
    wpAny (model P w) A (dictPut d ((mixKind P w).hash k) key v) Q E s := by
  obtain ⟨o, es, ep, ho, hc, hd, hk, hp, hu⟩ := hm
  have hes : es.size ≤ sizeLine := by
    have e := hp.length
    rw [Array.length_toList] at e
    omega
  unfold dictPut
  refine wpAny_bind (wpAny_dictFind_of hkey ho hd hk ?_)
  rw [dict_idx hp hn]
  refine wpAny_updateDictKeys (hz := hes) ho hd (hQ _ ⟨_, _, ep + 1, Heap.get?_update_self _ ho (Obj.isFreed_of_dict (Obj.data_mapDictKeys hd _)), hc.mapDictKeys _, Obj.data_mapDictKeys hd _, hk.push hkey _, ?_, ?_⟩ (Heap.SameBut.update ..))
  · rw [Array.toList_push]
    exact hp.append hkey _ v
  · rw [List.map_append, List.nodup_append]
    refine ⟨hu, by simp, fun x hx y hy => ?_⟩
    rw [show y = k by simpa using hy]
    exact fun e => hn (e ▸ hx)
theorem key_no_ref {es : Array DictEntry} (hk : KeysOf (mixKind P w) es) {e : DictEntry} (he : e ∈ es) (b : Addr) : e.key ≠ .ref b := fun z => by
  obtain ⟨k, hk', _⟩ := hk e he
  rw [z] at hk'
  rcases keyIs_shape hk' with ⟨i, t, _, h⟩ | ⟨x, t, _, h⟩ <;> exact nomatch h
/-- a dict into a new one -/
theorem merge_new {Q : Unit → Shared → Prop} (hd : s.heap.DictOf (mixKind P w) d []) (ha : s.heap.DictOf (mixKind P w) a vs) (ne : d ≠ a) (hs : (a == sysModules) = false) (hz : vs.length ≤ sizeLine)
    (hQ : ∀ h', h'.DictOf (mixKind P w) d vs → Heap.SameBut d s.heap h' → Q () { s with heap := h' }) :
    wpAny (model P w) A (mergeMapping d (.ref a) true) Q E s := by
  obtain ⟨od, esd, epd, hod, hcd, hdd, hkd, hpd, hnd⟩ := id hd
  obtain ⟨oo, eso, epo, hoo, hco, hdo, hko, hpo, hno⟩ := id ha
  have hlen : vs.length = eso.size := by
    rw [← hpo.length, Array.length_toList]
  have esd0 : esd = #[] := by
    have e := hpd.length
    rw [Array.length_toList] at e
    exact Array.eq_empty_of_size_eq_zero e
  have tyA : s.TypeIs (.ref a) "dict" := ⟨oo, hoo, hco.1⟩
  unfold mergeMapping
  refine wpAny_bind (wpAny_isInstance tyA isSubtype_dict_dict ?_)
  simp only [if_true]
  refine wpAny_bind (wpAny_specialOf tyA F.slot_dict_iter.lookup (wpAny_bind (wpAny_pure ?_)))
  rw [beq_self_eq_true]
  dsimp only
  rw [if_neg (by rw [hs]; exact Bool.false_ne_true)]
  refine wpAny_bind (wpAny_dictEntries hod hdd ?_)
  rw [esd0, if_pos (by rfl)]
  refine wpAny_bind (wpAny_dictEntries hoo hdo (wpAny_bind ?_))
  refine PySem.wpAny_forIn_array' _ (fun rest _ s' => s' = s ∧ ∀ e ∈ rest, e ∈ eso) _ ?_ ?_ _ _ ⟨rfl, fun e he => Array.mem_toList_iff.mp he⟩
  · rintro e rest _ s' ⟨rfl, all⟩
    have he := all e List.mem_cons_self
    cases hkey : e.key with
    | ref b => exact absurd hkey (key_no_ref hko he b)
    | _ => exact wpAny_pure ⟨rfl, fun e' he' => all e' (List.mem_cons_of_mem _ he')⟩
  · rintro _ s' ⟨rfl, _⟩
    refine wpAny_bind (wpAny_dictEntries hoo hdo (wpAny_bind (wpAny_dictEpoch hoo hdo (wpAny_bind ?_))))
    rw [List.range_eq_range']
    refine wpAny_forIn_list _ (fun rest _ s2 => ∃ h' i, s2 = { s' with heap := h' } ∧ rest = List.range' i (eso.size - i) ∧ i ≤ eso.size ∧ h'.DictOf (mixKind P w) d (vs.take i) ∧ h'.get? a = some oo ∧ Heap.SameBut d s'.heap h') _ ?_ ?_ _ _
      ⟨s'.heap, 0, rfl, by simp, Nat.zero_le _, by rw [List.take_zero]; exact hd, hoo, Heap.SameBut.refl _ _⟩
    · rintro x rest _ s2 ⟨h', i, rfl, hr, hi, hd', hoo', sb⟩
      have hlt : i < eso.size := Classical.byContradiction fun z => by
        rw [Nat.sub_eq_zero_of_le (Nat.le_of_not_lt z)] at hr
        cases hr
      rw [show eso.size - i = (eso.size - (i + 1)) + 1 by omega, List.range'_succ] at hr
      obtain ⟨rfl, hrest⟩ := List.cons.inj hr
      refine wpAny_bind (wpAny_dictEntries hoo' hdo ?_)
      rw [Array.getElem?_eq_getElem hlt]
      obtain ⟨⟨k, v⟩, hkv⟩ : ∃ kv, vs[x]? = some kv := ⟨vs[x]'(by rw [hlen]; exact hlt), List.getElem?_eq_getElem _⟩
      obtain ⟨hkey, hval⟩ := hpo.get? (e := eso[x]) (by simp [hlt]) hkv
      obtain ⟨k', hkey', hhash⟩ := hko eso[x] (Array.getElem_mem hlt)
      obtain rfl : k' = k := (mixKind P w).inj _ _ _ hkey' hkey
      have fresh : k' ∉ (vs.take x).map (·.1) := fun z => by
        obtain ⟨y, hy, ey⟩ := List.mem_map.mp z
        obtain ⟨j, hj⟩ := List.getElem?_of_mem hy
        have jx : j < x := by
          have := (List.getElem?_eq_some_iff.mp hj).1
          rw [List.length_take] at this
          omega
        rw [List.getElem?_take_of_lt jx] at hj
        have n1 : (vs.map (·.1))[j]? = some k' := by rw [List.getElem?_map, hj]; exact congrArg some ey
        have n2 : (vs.map (·.1))[x]? = some k' := by rw [List.getElem?_map, hkv]; rfl
        exact absurd ((List.getElem?_inj (by rw [List.length_map, hlen]; omega) hno).mp (n1.trans n2.symm)) (Nat.ne_of_lt jx)
      have few : (vs.take x).length ≤ sizeLine := by
        rw [List.length_take]
        omega
      obtain ⟨o2, es2, ep2, ho2, hc2, hd2, hk2, hp2, hu2⟩ := id hd'
      show wpAny _ _ (holding [eso[x].key, eso[x].val] (dictFind d eso[x].key eso[x].hash >>= fun r => _) >>= fun _ => _) _ _ _
      rw [hhash]
      refine wpAny_bind (wpAny_holding (wpAny_bind (wpAny_dictFind_of hkey ho2 hd2 hk2 ?_)))
      rw [dict_idx hp2 fresh]
      simp only [Option.isSome_none, Bool.false_eq_true, if_false]
      rw [hval]
      refine put_fresh (s := { s' with heap := h' }) hkey hd' fresh few fun h'' hd'' sb2 => ?_
      have hoo'' : h''.get? a = some oo := (sb2.2 a (Ne.symm ne)).trans hoo'
      refine wpAny_bind (wpAny_dictEpoch hoo'' hdo ?_)
      rw [if_neg (by simp)]
      refine wpAny_pure ⟨h'', x + 1, rfl, hrest, hlt, ?_, hoo'', sb.trans sb2⟩
      rw [List.take_add_one, hkv]
      exact hd''
    · rintro _ s2 ⟨h', i, rfl, hr, hi, hd', _, sb⟩
      have hin : i = eso.size := Nat.le_antisymm hi (Nat.le_of_not_lt fun z => by
        rw [show eso.size - i = (eso.size - (i + 1)) + 1 by omega, List.range'_succ] at hr
        cases hr)
      rw [hin, ← hlen, List.take_length] at hd'
      exact wpAny_pure (hQ h' hd' sb)
end
end Ver

namespace Ver
open PySem PySem.Spec PyProof.Rows L2
/-- the entries of texts -/
abbrev tks (kws : List (Str × Value)) : List (Key × Value) := kws.map fun p => (Sum.inr p.1, p.2)
section
variable {P : Program} {w : World} {A : Around} {E : Value → Shared → Prop} {s : Shared} {d a : Addr} {vs : List (Key × Value)}
theorem ns_fresh {name : Str} {v : Value} {Q : Unit → Shared → Prop} (hm : s.heap.DictOf (mixKind P w) d vs) (hn : Sum.inr name ∉ vs.map (·.1))
    (hQ : ∀ h', h'.DictOf (mixKind P w) d (vs ++ [(Sum.inr name, v)]) → Heap.SameBut d s.heap h' → Q () { s with heap := h', toks := s.toks + 1 }) : wpAny (model P w) A (nsSet d name v) Q E s := fun Γ p hΓ => by
  obtain ⟨o, es, ep, ho, hc, hd, hk, hp, hu⟩ := hm
  have idx := dict_idx hp hn
  have shape : ∀ e ∈ es, e.key.isStr name = (mixKind P w).is (Sum.inr name) e.key := fun e he => by
    obtain ⟨k, hk', _⟩ := hk e he
    rcases keyIs_shape hk' with ⟨i, t, e1, e2⟩ | ⟨x, t, e1, e2⟩ <;> rw [e2] <;> simp [mixKind_is, keyIs, Value.isStr, Value.isStrOf] <;> exact eq_comm
  have hi : es.findIdx? (·.key.isStr name) = none := by
    rw [Array.findIdx?_eq_none_iff] at idx ⊢
    exact fun e he => (shape e he).trans (idx e he)
  have noref : es.any (·.refKey) = false := by
    rw [Array.any_eq_false']
    intro e he
    obtain ⟨k, hk', _⟩ := hk e he
    rcases keyIs_shape hk' with ⟨i, t, e1, e2⟩ | ⟨x, t, e1, e2⟩ <;> simp [DictEntry.refKey, e2]
  simp only [nsSet, strHash, Sem.wp_bind', Sem.wp_cmd_ask, Sem.wp_pure', Sem.wp_cmd_mkText]
  rw [Sem.wp_loadPart_of _ Γ _ p { s with toks := s.toks + 1 } (o := o) _ ho]
  simp only [hd, aRefKeyMayBeTheName_eq, aRefKeyMayBeTheNameByArray, noref, Bool.and_false, Bool.false_eq_true, if_false, Sem.wp_cmd_updatePart]
  have keyed : (mixKind P w).is (Sum.inr name) (.str name s.toks) = true := mixKind_str P w name _
  refine ⟨by rw [ho]; rfl, hQ _ ?_ (Heap.SameBut.update ..)⟩
  obtain ⟨c, dd, dt, sl⟩ := o
  subst hd
  refine ⟨_, _, ep + 1, Heap.get?_update_self _ ho (by simp only [Obj.putName_eq, Obj.putNameByArray, hi]; rfl), ?_, by simp only [Obj.putName_eq, Obj.putNameByArray, hi]; rfl, hk.push keyed _, ?_, ?_⟩
  · simp only [Obj.putName_eq, Obj.putNameByArray, hi]
    exact hc
  · rw [Array.toList_push]
    exact hp.append keyed _ v
  · rw [List.map_append, List.nodup_append]
    refine ⟨hu, by simp, fun x hx y hy => ?_⟩
    rw [show y = Sum.inr name by simpa using hy]
    exact fun e => hn (e ▸ hx)
/-- a run of them -/
theorem ns_run (f : (Str × Value) → PUnit → Sem (ForInStep PUnit)) (hf : ∀ x u, f x u = (do nsSet d x.1 x.2; pure (.yield ⟨⟩))) (Q : PUnit → Shared → Prop) :
    ∀ (kws done : List (Str × Value)) (s : Shared), s.heap.DictOf (mixKind P w) d (tks done) → ((done ++ kws).map (·.1)).Nodup →
      (∀ h' tk, h'.DictOf (mixKind P w) d (tks (done ++ kws)) → Heap.SameBut d s.heap h' → Q ⟨⟩ { s with heap := h', toks := tk }) → wpAny (model P w) A (forIn kws ⟨⟩ f) Q E s
  | [], done, s, hm, nd, hQ => by
    rw [List.forIn_nil]
    rw [List.append_nil] at hQ
    exact wpAny_pure (hQ s.heap s.toks hm (Heap.SameBut.refl _ _))
  | x :: kws, done, s, hm, nd, hQ => by
    rw [List.forIn_cons, hf]
    have e : done ++ x :: kws = (done ++ [x]) ++ kws := by simp
    have fresh : Sum.inr x.1 ∉ (tks done).map (·.1) := fun z => by
      obtain ⟨y, hy, ey⟩ := List.mem_map.mp z
      obtain ⟨q, hq, eq⟩ := List.mem_map.mp hy
      rw [List.map_append, List.map_cons, List.nodup_append] at nd
      refine nd.2.2 q.1 (List.mem_map.mpr ⟨q, hq, rfl⟩) x.1 List.mem_cons_self ?_
      rw [← eq] at ey
      exact Sum.inr.inj ey
    refine wpAny_bind (wpAny_bind (ns_fresh hm fresh fun h' hm' sb => wpAny_pure ?_))
    rw [e] at nd hQ
    refine ns_run f hf Q kws (done ++ [x]) _ ?_ nd fun h'' tk hm'' sb2 => hQ h'' tk hm'' (sb.trans sb2)
    rw [tks, List.map_append]
    exact hm'
/-- the keywords of one dict -/
theorem kw_merged {f : Value} {x : Sem Value} {Q : Addr → Shared → Prop}
    (h : wpAny (model P w) A x (fun v s1 => ∃ (a : Addr) (kvs : List (Str × Value)), v = .ref a ∧ s1.heap.DictOf (mixKind P w) s.heap.objs.size [] ∧ s1.heap.DictOf (mixKind P w) a (tks kvs) ∧ s.heap.objs.size ≠ a ∧ (a == sysModules) = false ∧ kvs.length ≤ sizeLine ∧
      ∀ h', h'.DictOf (mixKind P w) s.heap.objs.size (tks kvs) → Heap.SameBut s.heap.objs.size s1.heap h' → Q s.heap.objs.size { s1 with heap := h' }) (fun _ _ => False) { s with heap := s.heap.push { cls := .type "dict", data := .dict #[] } }) :
    wpAny (model P w) A (mergedKeywords f [(none, x)]) Q E s := by
  unfold mergedKeywords
  refine wpAny_bind (wpAny_alloc (wpAny_bind (wpAny_holding ?_)))
  dsimp only
  refine wpAny_bind ?_
  rw [List.forIn_cons]
  refine wpAny_bind ?_
  dsimp only
  rw [if_pos (by rfl)]
  refine wpAny_bind (wpAny_pure ?_)
  refine wpAny_bind (wpAny_mono h (fun v s1 z => ?_) fun _ _ z => z.elim)
  obtain ⟨a, kvs, rfl, hd, ha, ne, hs, hz, q⟩ := z
  refine wpAny_bind (wpAny_onRaise (wpAny_holding (wpAny_tryCatch (wpAny_onRaise (merge_new hd ha ne hs (by rw [List.length_map]; exact hz) fun h' hd' sb => ?_)))))
  refine wpAny_pure ?_
  dsimp only
  rw [List.forIn_nil]
  refine wpAny_pure ?_
  rw [if_pos (by rfl)]
  exact wpAny_pure (wpAny_pure (q h' hd' sb))
/-- the keywords in a dict -/
theorem kw_in {f : Value} {kvs : List (Str × Value)} {Q : List (Str × Value) → Shared → Prop} (hd : s.heap.DictOf (mixKind P w) d (tks kvs)) (q : Q kvs s) : wpAny (model P w) A (keywordsIn f d) Q E s := by
  obtain ⟨o, es, ep, ho, hc, hdd, hk, hp, hu⟩ := hd
  unfold keywordsIn
  refine wpAny_bind (wpAny_dictEntries ho hdd (wpAny_bind ?_))
  refine PySem.wpAny_forIn_array' _ (fun rest b s' => s' = s ∧ ∃ done left, kvs = done ++ left ∧ b = done ∧ Pairs (mixKind P w) rest (tks left)) _ ?_ ?_ _ _ ⟨rfl, [], kvs, rfl, rfl, hp⟩
  · rintro e rest b s' ⟨rfl, done, left, e1, rfl, hp'⟩
    cases left with
    | nil => cases hp'
    | cons p left =>
      cases hp' with
      | cons h1 h2 h3 =>
        rcases keyIs_shape (show keyIs (Sum.inr p.1) e.key = true from h1) with ⟨i, t, c, _⟩ | ⟨y, t, c, c2⟩
        · exact nomatch c
        · rw [c2]
          have c3 : p.1 = y := Sum.inr.inj c
          have c4 : e.val = p.2 := h2
          refine wpAny_pure ⟨rfl, b ++ [p], left, by rw [e1, List.append_assoc]; rfl, ?_, h3⟩
          rw [c4, ← c3]
  · rintro b s' ⟨rfl, done, left, e1, rfl, hp'⟩
    cases left with
    | cons p left => cases hp'
    | nil =>
      rw [List.append_nil] at e1
      subst e1
      exact wpAny_pure q
end
end Ver

namespace Ver
open PySem PySem.Spec PyProof.Rows L2
section
variable {P : Program} {w : World} {A : Around} {E : Value → Shared → Prop} {s : Shared} {d a : Addr} {vs : List (Key × Value)}
theorem dict_laid {h : Heap} : (h.push { cls := .type "dict", data := .dict #[] }).DictOf (mixKind P w) h.objs.size [] :=
  ⟨_, #[], 0, Heap.get?_push_size _ rfl, ⟨rfl, rfl, rfl⟩, rfl, fun e he => by simp at he, .nil, .nil⟩
/-- binding for def f(ps, **a) -/
theorem bind_kw {fd : FuncData} {args : List Arg} {ka : Arg} {us : List Value} {kws : List (Str × Value)} {Q : List (Str × Value) → Shared → Prop}
    (hp : fd.params = ⟨[], args, none, [], [], some ka, []⟩) (hdf : fd.defaults = .none) (hl : us.length = (args.map (·.arg)).length)
    (hz : (List.filterMap (fun n => (List.lookup n ((args.map (·.arg)).zip us)).map (n, ·)) (args.map (·.arg))) = (args.map (·.arg)).zip us)
    (hm : ((args.map (·.arg)).filter fun n => (((args.map (·.arg)).zip us).lookup n).isNone) = [])
    (hk : ∀ p ∈ kws, (args.map (·.arg)).contains p.1 = false) (few : kws.length ≤ sizeLine) (nd : (kws.map (·.1)).Nodup)
    (hQ : ∀ h' tk, h'.DictOf (mixKind P w) s.heap.objs.size (tks kws) → (∀ b o, s.heap.get? b = some o → h'.get? b = some o) → Q ((args.map (·.arg)).zip us ++ [(ka.arg, .ref s.heap.objs.size)]) { s with heap := h', toks := tk }) :
    wpAny (model P w) A (bindArgs fd ⟨us, kws⟩) Q E s := by
  unfold bindArgs
  simp only [hp, hdf, List.map_nil, List.nil_append, List.append_nil]
  generalize hps : args.map (·.arg) = ps at hl hz hm hk hQ ⊢
  refine wpAny_bind ?_
  refine wpAny_forIn_list _ (fun rest b s' => s' = s ∧ ∃ done, kws = done ++ rest ∧ b = (ps.zip us, done)) _ ?_ ?_ _ _ ⟨rfl, [], rfl, rfl⟩
  · rintro x rest b s' ⟨rfl, done, e1, rfl⟩
    have hx := hk x (by rw [e1]; exact List.mem_append_right _ List.mem_cons_self)
    rw [hx, if_neg (by simp), if_pos (by rfl)]
    exact wpAny_pure ⟨rfl, done ++ [x], by rw [e1, List.append_assoc]; rfl, rfl⟩
  · rintro b s' ⟨rfl, done, e1, rfl⟩
    rw [List.append_nil] at e1
    subst e1
    dsimp only
    refine wpAny_bind (wpAny_pure ?_)
    have n0 : ¬ us.length > ps.length := by omega
    simp only [Option.getD_none, List.length_nil, List.drop_nil, Nat.sub_zero, List.take_length, hm, List.isEmpty_nil, Bool.not_true, Bool.false_eq_true, if_false, decide_eq_false n0, Bool.false_and, List.drop_length, List.zip_nil_left, List.forIn_nil, pure_bind, hz]
    rw [if_neg (by omega)]
    refine wpAny_bind (wpAny_alloc ?_)
    have n1 : ({ s' with heap := s'.heap.push { cls := .type "dict", data := .dict #[] } } : Shared).heap.DictOf (mixKind P w) s'.heap.objs.size (tks []) := dict_laid
    refine wpAny_bind (ns_run _ (fun x u => rfl) _ kws [] _ n1 nd fun h' tk hm' sb => ?_)
    exact wpAny_pure (hQ h' tk hm' fun b o e => (sb.2 b (Nat.ne_of_lt (Heap.lt_size e))).trans (Heap.get?_push_of_some _ e))
end
/-! ### the promise of a def that takes keywords into a dict -/
/-- what it asks of: the values by place, the keywords, the heap -/
abbrev KSp := List V → List (Str × V) → Hp → VK → XK → Prop
def FnKw (P : Program) (w : World) (K : PySem.W.Frag) (mg : Str → Option Value) (base : Heap) (CX : CXT) (k : Nat) (f : Addr) (sp : KSp) : Prop :=
  ∀ (A : Around) (outer : List Env) (s : Shared) (H : Hp) (us : List Value) (vs : List V) (kws : List (Str × Value)) (kvs : List (Str × V)) (Q : VK) (E : XK), A.guards = some [] → Room k A →
    Env0 P w K mg base A outer s H → Vals vs us → KV kvs kws → sp vs kvs H Q E → codeAny (model P w) A (.call (.ref f) ⟨us, kws⟩) (CR CX outer P w H s Q E) s
theorem FnKw.mono {P : Program} {w : World} {K : PySem.W.Frag} {mg : Str → Option Value} {base : Heap} {CX : CXT} {j k : Nat} {f : Addr} {sp : KSp} (F : FnKw P w K mg base CX j f sp) (h : j ≤ k) : FnKw P w K mg base CX k f sp :=
  fun A outer s H us vs kws kvs Q E g hr e0 r rk q => F A outer s H us vs kws kvs Q E g (hr.mono h) e0 r rk q
/-- new objects ahead of a body: the place of one of them is tracked -/
theorem env0_new {P : Program} {w : World} {K : PySem.W.Frag} {mg : Str → Option Value} {base : Heap} {A : Around} {outer : List Env} {s : Shared} {H : Hp} {h' : Heap} {tk : Nat} {u : HO} (e0 : Env0 P w K mg base A outer s H)
    (kp : ∀ b x, s.heap.get? b = some x → h'.get? b = some x) (sz : s.heap.objs.size ≤ h'.objs.size) (new : ObjOk P w (upd H s.heap.objs.size u) h' s.heap.objs.size u) :
    Env0 P w K mg base A outer { s with heap := h', toks := tk } (upd H s.heap.objs.size u) := by
  refine ⟨e0.frames, e0.mod, fun b x e => ⟨kp b x (e0.bs b x e).1, ?_⟩, Nat.le_trans e0.bsz sz, Heap.FunFrames.of_keeps (fun b x e _ => ⟨x, kp b x e, rfl⟩) e0.funs, fun b hb => ?_, e0.hok.laid kp (Nat.le_refl _) new, e0.bare⟩
  · rw [upd_ne (Nat.ne_of_lt (Heap.lt_size (e0.bs b x e).1))]
    exact (e0.bs b x e).2
  · obtain ⟨_, x, hx, _⟩ := e0.funs.mem hb
    rw [upd_ne (Nat.ne_of_lt (Heap.lt_size hx))]
    exact e0.frf b hb
section
variable {CX : CXT} {P : Program} {w : World} {K : PySem.W.Frag} {mg : Str → Option Value} {base : Heap} {k : Nat} {f : Addr} {fd : FuncData} {name qual : Str} {args : List Arg} {ka : Arg} {body : List Stmt} {scope : Scope} {kws0 : List (Str × V)} {N : List Str} {sp : Sp}
theorem kv_tks {kvs : List (Str × V)} {kws : List (Str × Value)} (h : KV kvs kws) : KV (kvs.map fun p => ((Sum.inr p.1 : Key), p.2)) (tks kws) := by
  induction h with
  | nil => exact .nil
  | cons h1 _ ih => exact .cons ⟨congrArg Sum.inr h1.1, h1.2⟩ ih
theorem kv_names {kvs : List (Str × V)} {kws : List (Str × Value)} (h : KV kvs kws) : kvs.map (·.1) = kws.map (·.1) := by
  induction h with
  | nil => rfl
  | cons h1 _ ih => simp only [List.map_cons, ih, h1.1]
theorem kv_len {kvs : List (Str × V)} {kws : List (Str × Value)} (h : KV kvs kws) : kvs.length = kws.length := by
  have := congrArg List.length (kv_names h)
  simpa using this
/-- by its body: the keywords are a new dict at the last parameter -/
theorem okKw (F : FunD K name qual ⟨[], args, none, [], [], some ka, []⟩ body scope [] kws0 f fd) (S : FnScope N (args.map (·.arg) ++ [ka.arg]) scope) (hCX : StX.CXUp CX)
    (hz : ∀ us : List Value, us.length = (args.map (·.arg)).length → (List.filterMap (fun n => (List.lookup n ((args.map (·.arg)).zip us)).map (n, ·)) (args.map (·.arg))) = (args.map (·.arg)).zip us)
    (hm : ∀ us : List Value, us.length = (args.map (·.arg)).length → ((args.map (·.arg)).filter fun n => (((args.map (·.arg)).zip us).lookup n).isNone) = [])
    (hbody : ∀ (cdv : Value) (A : Around) (outer : List Env) (s : Shared) (H : Hp) (vs : List V) (Q : VK) (E : XK), A.guards = some [] → Room k (A.deeper (envOfC qual scope s.heap.objs.size f cdv)) → sp vs H Q E →
      ∃ t, PSs (cxOf CX P w K mg base N qual scope f cdv A outer s H E) body t ∧ t { nx := fun _ H' => Q .non H', rt := Q } (start N vs) H) :
    FnKw P w K mg base CX (k + 1) f (fun vs kvs H Q E => vs.length = (args.map (·.arg)).length ∧ kvs.length ≤ sizeLine ∧ (kvs.map (·.1)).Nodup ∧ (∀ p ∈ kvs, (args.map (·.arg)).contains p.1 = false) ∧
      ∀ p, H p = none → sp (vs ++ [V.ref p]) (upd H p (.dK (kvs.map fun q => (Sum.inr q.1, q.2)))) Q E) := by
  obtain ⟨⟨oc, od, dV, kV, doc, pm, an, cdv, ct, osl, rfl, lk, hcd, hD, _⟩, _⟩ := F
  intro A outer s H us vs kws kvs Q E hg hr e0 r rk ⟨hl, few, nd, off, hq⟩
  have dv : dV = .none := by
    rcases hD with ⟨_, e⟩ | ⟨e, _⟩
    · exact e
    · exact absurd rfl e
  subst dv
  have hn : H s.heap.objs.size = Option.none := e0.hok.fresh (Nat.le_refl _)
  have ul : us.length = (args.map (·.arg)).length := by rw [← r.length]; exact hl
  have nm := kv_names rk
  refine StX.run_bnd lk hcd S hr e0 (G := fun xs H2 => ∃ p, H p = none ∧ xs = vs ++ [V.ref p] ∧ H2 = upd H p (.dK (kvs.map fun q => (Sum.inr q.1, q.2)))) (fun A' Ex Q' h => ?_) fun s2 H2 xs ⟨p, hp, ex, eH⟩ hr' => ?_
  · refine bind_kw rfl rfl ul (hz us ul) (hm us ul) (fun p hp => ?_) (by rw [← kv_len rk]; exact few) (by rw [← nm]; exact nd) fun h' tk hd' kp => ?_
    · have : p.1 ∈ kvs.map (·.1) := by rw [nm]; exact List.mem_map.mpr ⟨p, hp, rfl⟩
      obtain ⟨q, hq', e⟩ := List.mem_map.mp this
      rw [← e]
      exact off q hq'
    · obtain ⟨o, es, ep, ho, _⟩ := id hd'
      have sz : s.heap.objs.size ≤ h'.objs.size := Nat.le_of_lt (Heap.lt_size ho)
      have big := StX.env0_big e0
      have new : ObjOk P w (upd H s.heap.objs.size (.dK (kvs.map fun q => (Sum.inr q.1, q.2)))) h' s.heap.objs.size (.dK (kvs.map fun q => (Sum.inr q.1, q.2))) :=
        dk_new (by rw [List.length_map]; exact few) (beq_eq_false_iff_ne.mpr (Ne.symm (Nat.ne_of_lt big))) (kv_tks rk) hd'
      have un : Un (frs outer) [] H (upd H s.heap.objs.size (.dK (kvs.map fun q => (Sum.inr q.1, q.2)))) s.heap h' := Un.laid kp (Nat.le_refl _) hn
      have z := h { s with heap := h', toks := tk } _ (vs ++ [V.ref s.heap.objs.size]) (us ++ [Value.ref s.heap.objs.size]) (env0_new e0 kp sz new) un rfl (fun e s' => hCX outer s H _ _ E e s' un kp rfl) (r.append (.cons rfl .nil))
        (by rw [List.length_append, List.length_append, hl] <;> rfl) ⟨_, hn, rfl, rfl⟩
      rw [List.zip_append ul.symm] at z
      exact z
  · subst ex eH
    exact hbody cdv A outer s2 _ _ Q E hg hr' (hq p hp)
end
end Ver

namespace Ver
open PySem PySem.Spec PyProof.Rows L2
section
variable {M : Model} {A : Around} {E : Value → Shared → Prop} {s : Shared} {K : PySem.W.Frag} {env : Env} {pos : Pos} {f : Value} {Q : Value → Shared → Prop} {x y : Sem Value} {args : List (Bool × Sem Value)}
/-- f(.., **x) -/
theorem callWith_dd (hk : PySem.W.keepIn K f = true) (hst : args.any (·.1) = false)
    (h : wpAny M A (spliced ((false, y) :: args)) (fun us s1 => wpAny M A (mergedKeywords f [(none, do let v ← x; standAt pos; pure v)]) (fun d s2 => wpAny M A (keywordsIn f d) (fun kw s3 => K.In s3.heap ∧ wpAny M A (call f us kw) Q E s3) E s2) E s1) E s) :
    wpAny M A (callWith pos f [] ((false, y) :: args) [(none, do let v ← x; standAt pos; pure v)]) Q E s := by
  unfold callWith evalArgs
  refine wpAny_bind (wpAny_holding ?_)
  dsimp only
  refine wpAny_bind (wpAny_mono h (fun us s1 z => wpAny_bind (wpAny_pure ?_)) fun _ _ z => z)
  refine wpAny_holding ?_
  dsimp only
  rw [if_neg (by simp)]
  refine wpAny_bind (wpAny_mono z (fun d s2 z2 => wpAny_bind (wpAny_pure ?_)) fun _ _ z => z)
  refine wpAny_bind (wpAny_holding (wpAny_mono z2 (fun kw s3 z3 => ?_) fun _ _ z => z))
  refine wpAny_pure (wpAny_bind (wpAny_standAt ?_))
  obtain ⟨k, hk', L⟩ := PySem.W.keeps_K (M := M) hk _ z3.1
  have st : (((false, y) :: args).any (·.1) || ([(none, do let v ← x; standAt pos; pure v)] : List (Option Str × Sem Value)).any (·.1.isNone)) = true := by simp
  dsimp only
  rw [st]
  refine wpAny_bind (L.here ?_)
  have tail : ∀ {t : Sem Value}, wpAny M A t Q E s3 → wpAny M A (t >>= fun r => holding [r] point >>= fun _ => pure r) Q E s3 :=
    fun ht => wpAny_bind (wpAny_mono ht (fun r s4 hr => wpAny_bind (wpAny_holding (wpAny_point (wpAny_pure hr)))) fun _ _ z => z)
  have z4 : wpAny M A (call f ([] ++ us) kw) Q E s3 := z3.2
  rcases hk' with rfl | rfl | rfl <;> dsimp only <;> first
    | exact tail (by unfold callMarked; exact Calls.wpAny_keep z4)
    | exact tail (wpAny_operating z4)
end
/-! ### C(e, .., **x) -/
/-- its reading: the values; a new dict for the keywords; x; then __init__ at the new instance -/
def tMakeD (C : Addr) (sp : KSp) (E : XK) (t : TA) (te : TE) : TE := fun σ H Q => t σ H fun vs H1 => ∀ d, H1 d = none → te σ (upd H1 d (.dK [])) fun y H2 => ∃ (a : Addr) (kvs : List (Str × V)), y = .ref a ∧ H2 d = some (.dK []) ∧
  H2 a = some (.dK (kvs.map fun q => (Sum.inr q.1, q.2))) ∧ d ≠ a ∧
  ∀ x dx, upd H2 d (.dK (kvs.map fun q => ((Sum.inr q.1 : Key), q.2))) x = none → upd H2 d (.dK (kvs.map fun q => ((Sum.inr q.1 : Key), q.2))) dx = none → dx ≠ x →
    sp (V.ref x :: vs) kvs (upd (upd (upd H2 d (.dK (kvs.map fun q => (Sum.inr q.1, q.2)))) dx (.own x)) x (.ins C dx [])) (fun v H3 => v = .non ∧ Q (.ref x) H3) E
theorem kv_untks : ∀ {kvs : List (Str × V)} {ws : List (Key × Value)}, KV (kvs.map fun q => ((Sum.inr q.1 : Key), q.2)) ws → ∃ kws, ws = tks kws ∧ KV kvs kws
  | [], ws, h => by
    cases h
    exact ⟨[], rfl, .nil⟩
  | p :: kvs, ws, h => by
    cases h with
    | cons h1 h2 =>
      rename_i q ws'
      obtain ⟨kws, e, r⟩ := kv_untks h2
      obtain ⟨q1, q2⟩ := q
      have e1 : Sum.inr p.1 = q1 := h1.1
      subst e1
      exact ⟨(p.1, q2) :: kws, by rw [e] <;> rfl, .cons ⟨rfl, h1.2⟩ r⟩
section
variable {X : Cx} {CX : CXT} {k : Nat} {f C : Addr} {sp : KSp} {E : XK} {x : Str} {p pos kpos : Pos} {e y : Expr} {es : List Expr} {t : TA} {te : TE}
theorem made_guards_kw {A : Around} (h : A.guards = some []) (C : Addr) (us : List Value) (kw : List (Str × Value)) : (A.under (.builtin "type.__call__" ⟨.ref C :: us, kw⟩)).guards = some [] := by
  show pushGuards (Code.builtin "type.__call__" ⟨.ref C :: us, kw⟩).guards A.guards = some []
  rw [h]
  first
    | rfl
    | decide +kernel
theorem run_makeKw {pins : List (Addr × Obj)} {σ : L2.St} {H : Hp} {s : Shared} {Q : VK} {us : List Value} {vs : List V} {kws : List (Str × Value)} {kvs : List (Str × V)} (M : Mk X.K C f) (F : FnKw X.prog X.w X.K X.mg X.base CX k f sp) (hr : Room (k + 1) X.A) (hgd : X.A.guards = some []) (hx : Passes CX X E)
    (I : Inv X pins σ H s) (r : Vals vs us) (rk : KV kvs kws)
    (h : ∀ x dx, H x = none → H dx = none → dx ≠ x → sp (V.ref x :: vs) kvs (upd (upd H dx (.own x)) x (.ins C dx [])) (fun v H2 => v = .non ∧ Q (.ref x) H2) E) :
    wpAny (model X.prog X.w) X.A (call (.ref C) us kws) (EP X pins σ Q) X.xe s := by
  have hq := h (s.heap.objs.size + 1) s.heap.objs.size (I.hok.fresh (Nat.le_succ _)) (I.hok.fresh (Nat.le_refl _)) (Nat.ne_of_lt (Nat.lt_succ_self _))
  have I2 := Inv.made (C := C) I
  refine wpAny_call (make_map (f := f) I.kIn M.makes M.init (beq_iff_eq.mp M.fn) (codeAny_mono (F _ X.stack _ _ (Value.ref (s.heap.objs.size + 1) :: us) (V.ref (s.heap.objs.size + 1) :: vs) kws kvs _ E (made_guards_kw hgd C us kws) (hr.make C us kws) (I2.env0.make C us kws) (.cons rfl r) rk hq) fun r s' hq' => ?_))
  match r, hq' with
  | .error e, hq' => exact hx pins σ _ _ e s' I2 hq'
  | .ok (.ret u), hq' =>
    obtain ⟨v, H', I3, rv, ev, q3⟩ := I2.after hq'
    subst ev
    exact ⟨rv, ⟨V.ref (s.heap.objs.size + 1), H', I3, rfl, q3⟩⟩
  | .ok .next, hq' => exact hq'.elim
  | .ok .brk, hq' => exact hq'.elim
  | .ok .cont, hq' => exact hq'.elim
theorem pe_makeD (M : Mk X.K C f) (F : FnKw X.prog X.w X.K X.mg X.base CX k f sp) (hr : Room (k + 1) X.A) (hgd : X.A.guards = some []) (hg : Gl X x) (hm : X.mg x = some (.ref C)) (hx : Passes CX X E) (ha : PA X (e :: es) t) (hy : PE X.nox y te)
    (hkw : backToKw pos (keywordEach [⟨none, y, kpos⟩] X.env) = [(none, do let v ← eval y X.env; standAt pos; pure v)] := by rfl)
    (hdb : (x == ("__debug__" : Str)) = false := by decide) (he : starEach (e :: es) X.env = (false, eval e X.env) :: starEach es X.env := by rfl) (hpl : (backTo pos (starEach es X.env)).any (·.1) = false := by rfl) :
    PE X (.Call (.Name x p) (e :: es) [⟨none, y, kpos⟩] pos) (tMakeD C sp E t te) := by
  refine ⟨fun pins s σ H Q I h => wpAny_Call_Name_kw (ld_glob I hg hm ?_ hdb)⟩
  have run := ha.run pos pins s σ H _ I h
  rw [he] at run
  rw [hkw, he]
  refine callWith_dd M.kp hpl (thn run fun us s1 ⟨vs, H1, I1, r, q⟩ => ?_)
  have n1 : H1 s1.heap.objs.size = none := I1.hok.fresh (Nat.le_refl _)
  have J1 : Inv X pins σ (upd H1 s1.heap.objs.size (.dK [])) { s1 with heap := s1.heap.push { cls := .type "dict", data := .dict #[] } } :=
    I1.laid (a := s1.heap.objs.size) (o := .dK []) (t' := s1.toks) (fun _ _ q => Heap.get?_push_of_some _ q) (Nat.le_refl _) (dk_empty s1.heap I1.big)
  refine kw_merged (wpAny_bind (wpAny_mono (hy.run pins _ σ _ _ (J1.wish _) (q _ n1)) (fun v s2 z => wpAny_bind (wpAny_standAt (wpAny_pure ?_))) fun _ _ z => z))
  obtain ⟨y', H2, I2', ry, a, kvs, rfl, hd2, ha2, ne, q2⟩ := z
  have I2 := I2'.unwish
  obtain rfl : v = Value.ref a := ry
  obtain ⟨z1, m1, ws1, r1, dd1⟩ := dk_of I2.hok hd2
  obtain ⟨z2, m2, ws2, r2, dd2⟩ := dk_of I2.hok ha2
  cases r1
  obtain ⟨kws, rfl, rk⟩ := kv_untks r2
  rw [List.length_map] at z2
  refine ⟨a, kws, rfl, dd1, dd2, ne, m2, by rw [← kv_len rk]; exact z2, fun h' hd' sb => ?_⟩
  obtain ⟨o', es', ep', ho', _⟩ := id hd'
  have I3 : Inv X pins σ (upd H2 s1.heap.objs.size (.dK (kvs.map fun q => (Sum.inr q.1, q.2)))) { s2 with heap := h' } :=
    d_write (t' := s2.toks) I2 (by rw [hd2]; exact True.intro) sb ⟨_, ho'⟩ (dk_new (by rw [List.length_map]; exact z2) m1 (kv_tks rk) hd')
  refine kw_in hd' ⟨I3.kIn, ?_⟩
  exact run_makeKw M F hr hgd hx I3 r rk q2
end
end Ver

namespace Ver
open PySem PySem.Spec PyProof.Rows L2
theorem kv_zip : ∀ (ks : List Str) {zs : List V} {ws : List Value}, Vals zs ws → KV (ks.zip zs) (ks.zip ws)
  | [], _, _, _ => .nil
  | _ :: _, _, _, .nil => .nil
  | k :: ks, _, _, .cons h1 h2 => .cons ⟨rfl, h1⟩ (kv_zip ks h2)
/-- C(e, .., k = v, ..) of an __init__ that takes its keywords into a dict -/
def tMakeW (C : Addr) (ks : List Str) (sp : KSp) (E : XK) (t tk : TA) : TE := fun σ H Q => t σ H fun vs H1 => tk σ H1 fun zs H2 =>
  ∀ x dx, H2 x = none → H2 dx = none → dx ≠ x → sp (V.ref x :: vs) (ks.zip zs) (upd (upd H2 dx (.own x)) x (.ins C dx [])) (fun v H3 => v = .non ∧ Q (.ref x) H3) E
section
variable {X : Cx} {CX : CXT} {k : Nat} {f C : Addr} {sp : KSp} {E : XK} {x : Str} {p pos : Pos} {e : Expr} {es : List Expr} {kws : List Keyword} {ks : List Str} {t tk : TA}
theorem pe_makeW (M : Mk X.K C f) (F : FnKw X.prog X.w X.K X.mg X.base CX k f sp) (hr : Room (k + 1) X.A) (hgd : X.A.guards = some []) (hg : Gl X x) (hm : X.mg x = some (.ref C)) (hx : Passes CX X E) (ha : PA X (e :: es) t) (hkw : PK X kws tk)
    (hall : (backToKw pos (keywordEach kws X.env)).all (·.1.isSome) = true := by rfl) (hks : (backToKw pos (keywordEach kws X.env)).filterMap (·.1) = ks := by rfl)
    (hdb : (x == ("__debug__" : Str)) = false := by decide) (he : starEach (e :: es) X.env = (false, eval e X.env) :: starEach es X.env := by rfl)
    (hpl : ((backTo pos (starEach (e :: es) X.env)).any (·.1) || (backToKw pos (keywordEach kws X.env)).any (·.1.isNone)) = false := by rfl) :
    PE X (.Call (.Name x p) (e :: es) kws pos) (tMakeW C ks sp E t tk) := by
  refine ⟨fun pins s σ H Q I h => wpAny_Call_Name_kw (ld_glob I hg hm ?_ hdb)⟩
  refine PySem.W.callWith_KW (h₀ := X.base) I.ok.mod.kin M.kp hall (thn (ha.run pos pins s σ H _ I h) fun us s1 ⟨vs, H1, I1, r, q⟩ => ?_) hpl he
  refine thn (hkw.run pos pins s1 σ H1 _ I1 q) fun ws s2 ⟨zs, H2, I2, rz, q2⟩ => ⟨I2.kIn, ?_⟩
  rw [hks]
  exact run_makeKw M F hr hgd hx I2 r (kv_zip ks rz) q2
end
end Ver

namespace Ver
open PySem PySem.Spec PyProof.Rows L2 ClX
/-- C.m(e, ..), m a class method -/
def tCMethG (C : Addr) (sp : Sp) (E : XK) (t : TA) : TE := fun σ H Q => t σ H fun vs H2 => sp (.ref C :: vs) H2 Q E
section
variable {X : Cx} {CX : CXT} {k : Nat} {C p g : Addr} {mc : Value} {sp : Sp} {E : XK} {e : Expr} {es : List Expr} {x m : Str} {xp pos apos : Pos} {t : TA} {pl : Sem Bool}
theorem pe_cmethG (hg : Gl X x) (hm : X.mg x = some (.ref C)) (r : CRead X.K C mc) (c : CMet X.K C mc m p g) (F : FnG X.prog X.w X.K X.mg X.base CX k g sp) (hr : Room k X.A) (hgd : X.A.guards = some []) (hx : Passes CX X E) (ha : PA X (e :: es) t)
    (hst : starEach (e :: es) X.env = (false, eval e X.env) :: starEach es X.env := by rfl) (hpl : (backTo pos (starEach es X.env)).any (·.1) = false := by rfl)
    (ht : eval (.Call (.Attribute (.Name x xp) m apos) (e :: es) [] pos) X.env = (do
      let ov ← eval (.Name x xp) X.env
      standAt apos.atName
      let (f, first) ← holding [ov] (getMethod ov m pl)
      callWith pos f first (backTo pos (starEach (e :: es) X.env)) (backToKw pos (keywordEach [] X.env))) := by rfl) (hdb : (x == ("__debug__" : Str)) = false := by decide) :
    PE X (.Call (.Attribute (.Name x xp) m apos) (e :: es) [] pos) (tCMethG C sp E t) := by
  refine ⟨fun pins s σ H Q I h => PySem.W.methodCall_KW (pl := pl) (ld_glob I hg hm ?_ hdb) ht⟩
  refine getmethcm_ok I r c fun s2 I2 => ?_
  refine callwith_cm I2 (base_none I (Nat.le_refl _)) c.fi (thn (ha.run pos _ s2 σ H _ I2 h) fun us s3 ⟨vs, H2, I3, rv, q2⟩ => ⟨⟨pin_at I3, I3.kIn⟩, ?_⟩) hst hpl
  exact thn (wpAny_call (PySem.W.method_call (pin_at I3) (codeAny_mono (F X.A X.stack s3 H2 (.ref C :: us) (.ref C :: vs) Q E hgd hr I3.env0 (.cons rfl rv) q2) fun rs s' hq => by
    match rs, hq with
    | .error e', hq => exact hx _ σ H2 s3 e' s' I3 hq
    | .ok (.ret u), hq => exact I3.after hq
    | .ok .next, hq => exact hq.elim
    | .ok .brk, hq => exact hq.elim
    | .ok .cont, hq => exact hq.elim))) fun _ _ y => unpinE y
end
end Ver

/-! o.m( *e ) of a def with a promise. -/
namespace Ver
open PySem PySem.Spec PyProof.Rows L2
theorem starcall1_of {M : Model} {A : Around} {E : Value → Shared → Prop} {s : Shared} {env : Env} {o e2 : Expr} {m : Str} {p apos pos : Pos} {Q : Value → Shared → Prop} (hbase : attributeBase o m env (eval o env) = eval o env)
    (hst : starEach [.Starred e2 p] env = [(true, eval e2 env)])
    (h : wpAny M A (eval o env) (fun ov s₁ => wpAny M A (getAttr ov m true) (fun f s₂ => wpAny M A (callWith pos f [] (backTo pos [(true, eval e2 env)]) []) Q E s₂) E s₁) E s) :
    wpAny M A (eval (.Call (.Attribute o m apos) [.Starred e2 p] [] pos) env) Q E s := by
  have a1 : backToKw pos (keywordEach [] env) = [] := rfl
  have a2 : methodCallForm ([Expr.Starred e2 p].length + ([] : List Keyword).length) (backTo pos [(true, eval e2 env)]) [] = false := rfl
  have a3 : methodCallPos false o env apos pos = pure pos := rfl
  have a4 : ∀ ov, calleeOf false o env ov m = (getAttr ov m true >>= fun v => pure (v, [])) := fun _ => rfl
  rw [arm_eval_Call, hbase, hst, a1]
  refine wpAny_bind (wpAny_mono h (fun ov s1 k => ?_) fun _ _ x => x)
  refine wpAny_bind (wpAny_standAt ?_)
  unfold methodCall
  rw [a2, a3, a4]
  exact wpAny_bind (wpAny_holding (wpAny_bind (wpAny_mono k (fun f s2 k2 => wpAny_pure (wpAny_bind (wpAny_pure k2))) fun _ _ x => x)))
def tMethGS1 (K : PySem.W.Frag) (C : Addr) (m : Str) (g : Addr) (sp : Sp) (E : XK) (ta t2 : TE) : TE := fun σ H Q => ta σ H fun x H1 => ∃ a dx fs, x = .ref a ∧ H1 a = some (.ins C dx fs) ∧ fs.lookup m = none ∧
  ∀ q, H1 q = none → t2 σ (upd H1 q (.met g a)) fun y2 H3 => ∃ b vs, y2 = .ref b ∧ (SqT K H3 b vs ∨ SqL K H3 b vs) ∧ H3 q = some (.met g a) ∧ sp (.ref a :: vs) H3 Q E
theorem pe_methGS1 {X : Cx} {CX : CXT} {k : Nat} {C g : Addr} {m : Str} {sp : Sp} {E : XK} {o e2 : Expr} {ta t2 : TE} {p apos pos : Pos} (he : PE X o ta) (c : Cls X.K C) (b : BMeth X.K C m g) (F : FnG X.prog X.w X.K X.mg X.base CX k g sp) (hr : Room k X.A) (hgd : X.A.guards = some [])
    (hx : Passes CX X E) (h2 : PE X e2 t2) (hbase : attributeBase o m X.env (eval o X.env) = eval o X.env := by rfl)
    (hst : starEach [.Starred e2 p] X.env = [(true, eval e2 X.env)] := by rfl) : PE X (.Call (.Attribute o m apos) [.Starred e2 p] [] pos) (tMethGS1 X.K C m g sp E ta t2) := by
  refine ⟨fun pins s σ H Q I h => ?_⟩
  refine starcall1_of hbase hst (thn (he.run pins s σ H _ I h) fun u s1 ⟨x, H1, I1, rx, a, dx, fs, ex, ea, l, q⟩ => ?_)
  subst ex
  obtain rfl : u = Value.ref a := rx
  refine getbound_ok I1 ea c b l fun q1 s2 hq1 I2 => ?_
  refine PySem.W.ks_call (P := PySem.W.MethP X.K q1 g (.ref a)) rfl (PySem.W.keeps_M b.fi) (PySem.W.ks_lone (thn (h2.run pins s2 σ _ _ I2 (q q1 hq1)) fun v2 s4 ⟨y2, H3, I4, ry2, t, vs, ey, ht, hm, hsp⟩ => ?_))
  subst ey
  obtain rfl : v2 = Value.ref t := ry2
  refine StX.star_any I4 ht fun us s5 I5 rv => ?_
  refine ⟨met_P I5 hm, wpAny_call (PySem.W.method_call (met_P I5 hm).1 ?_)⟩
  exact codeAny_mono (F X.A X.stack s5 H3 (Value.ref a :: us) (V.ref a :: vs) Q E hgd hr I5.env0 (.cons rfl rv) hsp) fun rs s' hq => by
    match rs, hq with
    | .error e', hq => exact hx pins σ H3 s5 e' s' I5 hq
    | .ok (.ret u), hq => exact I5.after hq
    | .ok .next, hq => exact hq.elim
    | .ok .brk, hq => exact hq.elim
    | .ok .cont, hq => exact hq.elim
end Ver

/-! Sets of tuples of ints and texts. -/
namespace Ver
open PySem PySem.Spec PyProof.Rows L2
abbrev mh (P : Program) (w : World) (k : List Key) : Int := tupleKeyHash (mixKind P w) k
abbrev MT (P : Program) (w : World) (h : Heap) (k : List Key) (a : Addr) : Prop := IsTupleKey (mixKind P w) h k a
abbrev KA := Addr × List Key
theorem plainV_class {v : Value} (h : carriedByValue v = true) (n : Nat) : ofAClassStatement n v = pure false := by
  cases v with
  | ref a => simp [carriedByValue] at h
  | _ => cases n <;> rfl
theorem plainV_hash {v : Value} (h : carriedByValue v = true) (n : Nat) : ∃ b, hashByValue n v = pure b := by
  cases v with
  | ref a => simp [carriedByValue] at h
  | _ => cases n <;> exact ⟨_, rfl⟩
section
variable {P : Program} {w : World} {A : Around} {E : Value → Shared → Prop} {s : Shared}
theorem mt_class {k : List Key} {b : Addr} {Q : Bool → Shared → Prop} (hk : MT P w s.heap k b) (h : Q false s) : wpAny (model P w) A (ofAClassStatement 8 (.ref b)) Q E s := by
  have hT := hk.typeIs
  obtain ⟨o, its, n, ho, _, hd, hi⟩ := hk
  have all := hi.byValue
  unfold ofAClassStatement
  refine wpAny_bind (wpAny_typeOf hT ?_)
  dsimp only
  have e : (("tuple" : String) == "tuple") = true := by decide
  simp only [e, if_true, Bool.not_true, Bool.false_eq_true, if_false]
  try refine wpAny_bind (wpAny_pure ?_)
  try simp only [Bool.not_true, Bool.false_eq_true, if_false]
  show wpAny _ _ (seqItems? (.ref b) >>= _) _ _ s
  refine wpAny_bind (wpAny_seqItems ho hd ?_)
  dsimp only
  refine wpAny_bind ?_
  show wpAny _ _ (forIn its _ _) _ _ s
  rw [← Array.forIn_toList]
  refine wpAny_forIn_list _ (fun rest r s' => r.1 = none ∧ s' = s ∧ ∀ v ∈ rest, carriedByValue v = true) _ ?_ ?_ _ _ ⟨rfl, rfl, all⟩
  · rintro v rest r s' ⟨hr, rfl, all'⟩
    rw [plainV_class (all' v List.mem_cons_self)]
    refine wpAny_bind (wpAny_pure ?_)
    simp only [Bool.false_eq_true, if_false]
    exact wpAny_pure ⟨rfl, rfl, fun u hu' => all' u (List.mem_cons_of_mem _ hu')⟩
  · rintro ⟨r1, r2⟩ s' ⟨hr, rfl, _⟩
    simp only at hr
    subst hr
    exact wpAny_pure h
theorem mt_hashBy {k : List Key} {b : Addr} {Q : Bool → Shared → Prop} (hk : MT P w s.heap k b) (h : ∀ c, Q c s) : wpAny (model P w) A (hashByValue 8 (.ref b)) Q E s := by
  have hT := hk.typeIs
  obtain ⟨o, its, n, ho, _, hd, hi⟩ := hk
  have all := hi.byValue
  unfold hashByValue
  refine wpAny_bind (wpAny_specialOf hT F.slot_tuple_hash.lookup ?_)
  show wpAny _ _ (seqItems? (.ref b) >>= _) _ _ s
  refine wpAny_bind (wpAny_seqItems ho hd ?_)
  refine wpAny_bind ?_
  show wpAny _ _ (forIn its _ _) _ _ s
  rw [← Array.forIn_toList]
  refine wpAny_forIn_list _ (fun rest r s' => r.1 = none ∧ s' = s ∧ ∀ v ∈ rest, carriedByValue v = true) _ ?_ ?_ _ _ ⟨rfl, rfl, all⟩
  · rintro v rest r s' ⟨hr, rfl, all'⟩
    obtain ⟨c, e⟩ := plainV_hash (all' v List.mem_cons_self) 7
    rw [e]
    refine wpAny_bind (wpAny_pure ?_)
    cases c with
    | true =>
      simp only [Bool.not_true, Bool.false_eq_true, if_false]
      exact wpAny_pure ⟨rfl, rfl, fun u hu' => all' u (List.mem_cons_of_mem _ hu')⟩
    | false =>
      simp only [Bool.not_false, if_true]
      exact wpAny_pure (wpAny_pure (h false))
  · rintro ⟨r1, r2⟩ s' ⟨hr, rfl, _⟩
    simp only at hr
    subst hr
    exact wpAny_pure (h true)
/-- what a search among such tuples shows: nothing -/
theorem mt_seen {k : List Key} {b : Addr} {Q : Bool → Shared → Prop} (hk : MT P w s.heap k b) {ys : List Value} (hy : ∀ y ∈ ys, ∃ k' c, y = Value.ref c ∧ MT P w s.heap k' c) (h : Q false s) :
    wpAny (model P w) A (searchCouldBeSeen (.ref b) ys) Q E s := by
  unfold searchCouldBeSeen
  refine wpAny_bind (wpAny_forIn_list _ (fun rest r s' => r.1 = none ∧ s' = s ∧ ∀ y ∈ rest, ∃ k' c, y = Value.ref c ∧ MT P w s.heap k' c) _ ?_ ?_ _ _ ⟨rfl, rfl, hy⟩)
  · rintro v rest r s' ⟨hr, rfl, all⟩
    obtain ⟨k', c, rfl, hc⟩ := all v List.mem_cons_self
    have more : ∀ y ∈ rest, ∃ k' c, y = Value.ref c ∧ MT P w s'.heap k' c := fun u hu' => all u (List.mem_cons_of_mem _ hu')
    dsimp only
    by_cases hv : (b == c || (carriedByValue (.ref b) && carriedByValue (.ref c))) = true
    · exact wp_if_pos hv (wpAny_pure ⟨rfl, rfl, more⟩)
    · refine wp_if_neg hv (wpAny_bind (wpAny_eqIsQuiet_tuple hk ?_))
      simp only [Bool.not_true, Bool.false_eq_true, if_false]
      refine wpAny_bind (wpAny_eqIsQuiet_tuple hc ?_)
      simp only [Bool.not_true, Bool.false_eq_true, if_false]
      refine wpAny_bind (mt_class hk ?_)
      simp only [Bool.false_eq_true, if_false]
      refine wpAny_bind (mt_class hc ?_)
      simp only [Bool.false_eq_true, if_false]
      exact wpAny_pure ⟨rfl, rfl, more⟩
  · rintro ⟨r1, r2⟩ s' ⟨hr, rfl, _⟩
    simp only at hr
    subst hr
    exact wpAny_pure h
/-! ### the set -/
def rowsM (P : Program) (w : World) (L : List KA) : List (Int × Value) := L.map fun p => (mh P w p.2, Value.ref p.1)
structure MSet (P : Program) (w : World) (h : Heap) (a : Addr) (L : List KA) (es : Array (Int × Value)) (ep : Nat) (t : SetTable) : Prop where
  ob : ∃ o, h.get? a = some o ∧ o.ExactSet ∧ o.data = .set es ep t
  rows : es.toList = rowsM P w L
  tab : TabOk t (L.map fun p => mh P w p.2)
  nd : (L.map (·.2)).Nodup
  tup : ∀ p ∈ L, MT P w h p.2 p.1
  led : w.params.followText "set-order" = true ∨ t.led = true
  room : L.length * 5 < t.mask * 3
  few : L.length < 64
variable {a : Addr} {L : List KA} {es : Array (Int × Value)} {ep : Nat} {t : SetTable}
theorem rowsM_size (h : es.toList = rowsM P w L) : es.size = L.length := by
  have := congrArg List.length h
  simpa [rowsM] using this
theorem MSet.size (R : MSet P w s.heap a L es ep t) : es.size = L.length := rowsM_size R.rows
theorem MSet.psize (R : MSet P w s.heap a L es ep t) : t.place.size = L.length := by
  have := R.tab.sz
  rwa [List.length_map] at this
theorem fits_of {t : SetTable} {n : Nat} (h1 : t.place.size = n) (h2 : t.dummies = #[]) (h3 : n ≤ t.mask) : t.fits n = true := by
  unfold SetTable.fits SetTable.fill
  rw [h2, Bool.and_eq_true, beq_iff_eq, decide_eq_true_eq]
  exact ⟨h1, by show t.place.size + 0 ≤ t.mask; omega⟩
theorem MSet.fits (R : MSet P w s.heap a L es ep t) : t.fits es.size = true :=
  fits_of (R.psize.trans R.size.symm) R.tab.dm (by have := R.room; rw [R.size]; omega)
theorem MSet.entry (R : MSet P w s.heap a L es ep t) {i : Nat} {p : KA} (h : L[i]? = some p) : es[i]? = some (mh P w p.2, Value.ref p.1) := by
  rw [← Array.getElem?_toList, R.rows]
  simp [rowsM, h]
theorem MSet.gw (R : MSet P w s.heap a L es ep t) : ¬ t.gaveWay = true := by
  unfold SetTable.gaveWay
  rw [mask_odd R.tab.mok]
  decide
/-- the c-th step of a way -/
abbrev stp (m : Nat) (h : Int) (c : Nat) : SetTable.Probe := nth m (runAt m (SetTable.bits h % (m + 1)) (SetTable.bits h)) c
theorem stp_add (m : Nat) (h : Int) (c q : Nat) : nth m (stp m h c) q = stp m h (c + q) := (nth_add m c _ q).symm
theorem nth_clean (m : Nat) : ∀ (n : Nat) (p : SetTable.Probe), p.dummy = none → (nth m p n).dummy = none
  | 0, _, h => h
  | n + 1, p, h => nth_clean m n (adv m p) (by unfold adv; split <;> exact h)
/-- the search from the c-th step on -/
theorem mset_seek (R : MSet P w s.heap a L es ep t) {x : Addr} {k : List Key} (hx : MT P w s.heap k x) (hu : A.units < cLine) {hk : Int} (ek : hk = mh P w k) {K : Nat} (hKf : K < 10 * SetTable.turns t.mask)
    (hK : way t.mask hk K ∉ t.place.toList) (hKb : ∀ c, c < K → way t.mask hk c ∈ t.place.toList) {Q : SetFound → Shared → Prop}
    (hin : k ∈ L.map (·.2) → Q (.there none) s) (hout : k ∉ L.map (·.2) → Q (.free (way t.mask hk K) false) s) :
    ∀ (f c : Nat) (stand : Option SetTable.Probe), stand.getD (t.probeStart hk) = stp t.mask hk c → c ≤ K → K - c < f →
      (∀ (i : Nat) p, L[i]? = some p → p.2 = k → ∃ c', c ≤ c' ∧ c' < K ∧ t.place.toList[i]? = some (way t.mask hk c')) →
      wpAny (model P w) A (setSearchFrom a (.ref x) hk true f stand) Q E s
  | 0, c, stand, _, _, hf, _ => absurd hf (Nat.not_lt_zero _)
  | f + 1, c, stand, hst, hc, hf, ahead => by
    obtain ⟨o, ho, hex, hd⟩ := R.ob
    have jj : ∀ q, (nth t.mask (stp t.mask hk c) q).j = way t.mask hk (c + q) := fun q => congrArg SetTable.Probe.j (stp_add t.mask hk c q)
    have stored : ∀ (i : Nat) p, L[i]? = some p → (fun i => (es[i]?.map (·.1)).getD 0) i = mh P w p.2 := fun i p hp => by
      show (es[i]?.map (·.1)).getD 0 = _
      rw [R.entry hp] <;> rfl
    have spec := go_spec t R.tab.ris R.tab.dm (fun i => (es[i]?.map (·.1)).getD 0) hk (10 * SetTable.turns t.mask) (K - c) (stp t.mask hk c) (nth_clean _ c _ rfl) (by omega)
      (fun q hq => by rw [jj]; exact hKb (c + q) (by omega)) (by rw [jj, show c + (K - c) = K by omega]; exact hK)
    -- one that has the key is not passed over
    have notpast : ∀ (n : Nat), (∀ (q i' : Nat), q < n → t.place.toList[i']? = some (nth t.mask (stp t.mask hk c) q).j → (fun i : Nat => ((es[i]?.map (·.1)).getD 0 : Int)) i' ≠ hk) → ∀ (i0 : Nat) (p0 : KA), L[i0]? = some p0 → p0.2 = k → ∀ c', c ≤ c' → t.place.toList[i0]? = some (way t.mask hk c') → c + n ≤ c' := by
      intro n hno i0 p0 h0 hk0 c' h1 h3
      rcases Nat.lt_or_ge c' (c + n) with z | z
      · refine absurd ((stored i0 p0 h0).trans (by rw [hk0, ek])) (hno (c' - c) i0 (by omega) ?_)
        rw [jj, show c + (c' - c) = c' by omega]
        exact h3
      · exact z
    rw [setSearchFrom_succ]
    refine wpAny_bind (wpAny_setState_of ho hd R.fits ?_)
    dsimp only
    refine wp_if_neg R.gw ?_
    try refine wpAny_bind (wpAny_pure ?_)
    rcases spec with ⟨q, i, hq, hi, hh, hno, hpr⟩ | ⟨hno, hpr⟩
    · have met : t.probe (fun i => (es[i]?.map (·.1)).getD 0) hk (stand.getD (t.probeStart hk)) = some (.candidate (way t.mask hk (c + q)) i (stp t.mask hk (c + (q + 1)))) := by
        rw [hst, ← jj, ← stp_add]
        exact hpr
      rw [met]
      dsimp only
      rw [jj] at hi
      have hil : i < L.length := by
        have h1 : i < t.place.toList.length := (List.getElem?_eq_some_iff.mp hi).1
        rw [Array.length_toList, R.psize] at h1
        exact h1
      have hp : L[i]? = some L[i] := List.getElem?_eq_getElem hil
      generalize hpe : L[i] = p at hp
      have hmem : p ∈ L := List.mem_of_getElem? hp
      have hsl : t.slot (way t.mask hk (c + q)) = .live i := slot_live R.tab.ris hi
      have go : wpAny (model P w) A (searchRest a (.ref x) hk true f es t (way t.mask hk (c + q)) i (stp t.mask hk (c + (q + 1)))) Q E s := by
        unfold searchRest
        rw [R.entry hp]
        dsimp only
        refine wpAny_bind (wpAny_holding (wpAny_eqBool_tuple hu (R.tup p hmem) hx (wpAny_bind (wpAny_setState_of ho hd R.fits ?_))))
        dsimp only
        by_cases same : p.2 = k
        · exact wp_if_pos (by simp [same]) (wpAny_pure (hin (List.mem_map.mpr ⟨p, hmem, same⟩)))
        · refine wp_if_neg (by simp [same]) ?_
          try refine wpAny_bind (wpAny_pure ?_)
          rw [sameMem]
          dsimp only
          simp only [if_true, hsl, R.entry hp]
          refine wpAny_bind (wpAny_isSame_ref_self (wpAny_bind (wpAny_pure ?_)))
          simp only [if_true]
          refine wp_if_neg (by simp [same]) ?_
          refine mset_seek R hx hu ek hKf hK hKb hin hout f (c + (q + 1)) _ rfl (by omega) (by omega) fun i0 p0 h0 hk0 => ?_
          obtain ⟨c', h1, h2, h3⟩ := ahead i0 p0 h0 hk0
          have h4 := notpast q hno i0 p0 h0 hk0 c' h1 h3
          refine ⟨c', ?_, h2, h3⟩
          rcases Nat.lt_or_ge (c + q) c' with z | z
          · omega
          · exfalso
            have ec : c' = c + q := Nat.le_antisymm z h4
            rw [ec] at h3
            have s0 := slot_live R.tab.ris h3
            rw [hsl] at s0
            injection s0 with s0
            rw [← s0, hp] at h0
            exact same ((congrArg Prod.snd (Option.some.inj h0)).trans hk0)
      by_cases hl : t.led = true
      · refine wp_if_neg (by simp [hl]) ?_
        try refine wpAny_bind (wpAny_pure ?_)
        exact go
      · refine wp_if_pos (by simp [hl]) ?_
        refine wpAny_bind (mt_seen hx (fun y hy => ?_) (wp_if_neg (by decide) ?_))
        · obtain ⟨e, he, ee⟩ := List.mem_map.mp hy
          have he1 : e ∈ es ∧ e.1 = hk := by simpa using he
          have he2 : e ∈ es.toList := by simpa using he1.1
          rw [R.rows] at he2
          obtain ⟨p2, hp2, e2⟩ := List.mem_map.mp he2
          exact ⟨p2.2, p2.1, by rw [← ee, ← e2], R.tup p2 hp2⟩
        · try refine wpAny_bind (wpAny_pure ?_)
          exact go
    · have met : t.probe (fun i => (es[i]?.map (·.1)).getD 0) hk (stand.getD (t.probeStart hk)) = some (.empty (way t.mask hk K) none) := by
        have e2 : way t.mask hk K = (nth t.mask (stp t.mask hk c) (K - c)).j := by
          rw [jj, show c + (K - c) = K by omega]
        rw [hst, e2]
        exact hpr
      rw [met]
      dsimp only
      refine wpAny_pure (hout fun hm => ?_)
      obtain ⟨p0, h0, hk0⟩ := List.mem_map.mp hm
      obtain ⟨i0, hi0, e0⟩ := List.getElem_of_mem h0
      have h00 : L[i0]? = some p0 := by rw [List.getElem?_eq_getElem hi0, e0]
      obtain ⟨c', h1, h2, h3⟩ := ahead i0 p0 h00 hk0
      have := notpast (K - c) hno i0 p0 h00 hk0 c' h1 h3
      omega
/-- the search when adding -/
theorem mset_search (R : MSet P w s.heap a L es ep t) {x : Addr} {k : List Key} (hx : MT P w s.heap k x) (hu : A.units < cLine) {Q : SetFound → Shared → Prop}
    (hin : k ∈ L.map (·.2) → Q (.there none) s)
    (hout : ∀ K, k ∉ L.map (·.2) → way t.mask (mh P w k) K ∉ t.place.toList → (∀ c, c < K → way t.mask (mh P w k) c ∈ t.place.toList) → Q (.free (way t.mask (mh P w k) K) false) s) :
    wpAny (model P w) A (setSearch a (.ref x) (mh P w k) true) Q E s := by
  have hroom := R.room
  obtain ⟨K, hKf, hK, hKb⟩ := R.tab.first (by rw [List.length_map]; omega) (mh P w k)
  have hbig : K < 100000 := by
    have : 10 * SetTable.turns t.mask ≤ 1420 := by
      unfold SetTable.turns
      rcases R.tab.mok with e | e | e <;> omega
    omega
  unfold setSearch
  refine mset_seek R hx hu rfl hKf hK hKb hin (fun hn => hout K hn hK hKb) 100000 0 none rfl (Nat.zero_le _) (by omega) fun i p hp hk => ?_
  have hi : (L.map fun p => mh P w p.2)[i]? = some (mh P w k) := by rw [List.getElem?_map, hp, ← hk] <;> rfl
  have hil : i < t.place.toList.length := by
    have h1 : i < L.length := (List.getElem?_eq_some_iff.mp hp).1
    rw [Array.length_toList, R.psize]
    exact h1
  have hj := List.getElem?_eq_getElem hil
  obtain ⟨c, hc, e⟩ := R.tab.before hK hi hj
  exact ⟨c, Nat.zero_le _, hc, by rw [hj, e]⟩
end
end Ver

namespace Ver
open PySem PySem.Spec PyProof.Rows L2
section
variable {P : Program} {w : World} {A : Around} {E : Value → Shared → Prop} {s : Shared}
theorem mt_same {h h' : Heap} {k : List Key} {a b : Addr} {o : Obj} {es : Array (Int × Value)} {ep : Nat} {t : SetTable} (hb : MT P w h k b) (ho : h.get? a = some o) (hd : o.data = .set es ep t) (hs : Heap.SameBut a h h') : MT P w h' k b := by
  obtain ⟨o', its, n, ho', hc, hd', hi⟩ := hb
  refine ⟨o', its, n, (hs.2 b fun e => ?_).trans ho', hc, hd', hi⟩
  rw [e, ho] at ho'
  cases ho'
  rw [hd] at hd'
  exact nomatch hd'
theorem mt_keep {h h' : Heap} {k : List Key} {b : Addr} (x : MT P w h k b) (hk : ∀ c o, h.get? c = some o → h'.get? c = some o) : MT P w h' k b :=
  let ⟨o, its, n, ho, r⟩ := x
  ⟨o, its, n, hk b o ho, r⟩
/-- the rows that an order of places picks -/
theorem rowsM_order (L : List KA) (es : Array (Int × Value)) (hr : es.toList = rowsM P w L) (ord : List Nat) (hp : ord.Perm (List.range L.length)) :
    ∃ L2 : List KA, ord.filterMap (fun i => es[i]?) = rowsM P w L2 ∧ L2.Perm L ∧ (L2.map fun p => mh P w p.2) = ord.map fun i => (es.map (·.1)).getD i 0 := by
  have ent : ∀ i, es[i]? = (L[i]?).map fun (p : KA) => (mh P w p.2, Value.ref p.1) := fun i => by
    rw [← Array.getElem?_toList, hr]
    unfold rowsM
    exact List.getElem?_map ..
  refine ⟨ord.filterMap (fun i => L[i]?), ?_, ?_, ?_⟩
  · unfold rowsM
    rw [List.map_filterMap]
    exact congrArg (fun f => ord.filterMap f) (funext fun i => ent i)
  · refine (hp.filterMap _).trans (List.Perm.of_eq ?_)
    have key : ∀ n, n ≤ L.length → (List.range n).filterMap (fun i => L[i]?) = L.take n := by
      intro n
      induction n with
      | zero => exact fun _ => rfl
      | succ n ih =>
        intro hn
        rw [List.range_succ, List.filterMap_append, ih (Nat.le_of_lt hn), take_next (List.getElem?_eq_getElem hn), List.filterMap_cons_some (List.getElem?_eq_getElem hn)] <;> rfl
    rw [key _ (Nat.le_refl _), List.take_length]
  · have all : ∀ i ∈ ord, i < L.length := fun i hi => List.mem_range.mp (hp.mem_iff.mp hi)
    clear hp
    induction ord with
    | nil => rfl
    | cons i ord ih =>
      have hi := all i List.mem_cons_self
      rw [List.filterMap_cons_some (List.getElem?_eq_getElem hi), List.map_cons, List.map_cons, ih fun j hj => all j (List.mem_cons_of_mem _ hj)]
      congr 1
      have e5 : (es.map (·.1))[i]? = some (mh P w (L[i]).2) := by rw [Array.getElem?_map, ent i, List.getElem?_eq_getElem hi] <;> rfl
      simp [Array.getD_eq_getD_getElem?, e5]
variable {a : Addr} {L : List KA} {es : Array (Int × Value)} {ep : Nat} {t : SetTable}
/-- the table laid anew -/
theorem mset_relay {o : Obj} (ho : s.heap.get? a = some o) (hex : o.ExactSet) (hd : o.data = .set es ep t) (hrows : es.toList = rowsM P w L) (hsz : t.place.size = es.size) (hdm : t.dummies = #[]) (hfl : es.size ≤ t.mask)
    (nd : (L.map (·.2)).Nodup) (tup : ∀ p ∈ L, MT P w s.heap p.2 p.1) (ld : w.params.followText "set-order" = true ∨ t.led = true) (few : L.length < 64) {wanted M : Nat}
    (hw : SetTable.sizeAbove wanted - 1 = M) (hM : MaskOk M) (hw2 : SetTable.sizeAbove wanted ≤ 128) (hn : L.length * 5 < M * 3) {Q : Unit → Shared → Prop}
    (hQ : ∀ h' L' es' ep' t', Heap.SameBut a s.heap h' → MSet P w h' a L' es' ep' t' → L'.Perm L → Q () { s with heap := h' }) : wpAny (model P w) A (setRelay a wanted) Q E s := by
  have hsl := rowsM_size hrows
  have hfits : t.fits es.size = true := fits_of hsz hdm hfl
  obtain ⟨t', order, e, hp, T, em, el, _, ed⟩ := relaid_ok t (hs := es.map (·.1)) (wanted := wanted) hw hM (by rw [Array.size_map, hsl]; omega)
  rw [Array.size_map, hsl] at hp
  obtain ⟨L2, r1, r2, r3⟩ := rowsM_order L es hrows order.toList hp
  rw [← r3] at T
  have r1' : (order.filterMap (es[·]?)).toList = rowsM P w L2 := by first | (rw [Array.toList_filterMap]; exact r1) | simpa using r1
  have hs2 : (order.filterMap (es[·]?)).size = es.size := by rw [rowsM_size r1', r2.length_eq, hsl]
  rw [setRelay_eq]
  refine wpAny_bind (wpAny_setState_of ho hd hfits ?_)
  dsimp only
  refine wp_if_neg (by rw [sizeLine_eq]; omega) ?_
  try refine wpAny_bind (wpAny_pure ?_)
  rw [e]
  dsimp only
  refine wpAny_bind (wp_if_neg (by rw [hs2]; simp) ?_)
  try refine wpAny_bind (wpAny_pure ?_)
  refine wpAny_pure ?_
  dsimp only
  refine wpAny_storeSet_of ho hd ?_ (by rw [hs2, hsl, sizeLine_eq]; omega)
  have sb : Heap.SameBut a s.heap (s.heap.update a (Obj.putSet (order.filterMap (es[·]?)) t')) := Heap.SameBut.update ..
  refine hQ _ L2 (order.filterMap (es[·]?)) (ep + 1) t' sb ⟨⟨_, store_at ho hd, ⟨hex.1, hex.2.1, hex.2.2⟩, rfl⟩, r1', T, ?_, fun p hpm => mt_same (tup p (r2.mem_iff.mp hpm)) ho hd sb, by rw [el]; exact ld, ?_, by rw [r2.length_eq]; exact few⟩ r2
  · exact (r2.map (·.2)).nodup_iff.mpr nd
  · rw [r2.length_eq, em]
    exact hn
theorem tabOk_plain {t : SetTable} {hs : List Int} (T : TabOk t hs) (b : Bool) : TabOk { t with plain := b } hs := ⟨T.ris, T.dm, T.sz, T.mok, T.bd, T.reach⟩
set_option maxHeartbeats 8000000 in
/-- one more into the set -/
theorem mset_add (R : MSet P w s.heap a L es ep t) {x : Addr} {k : List Key} (hx : MT P w s.heap k x) (hu : A.units < cLine) (hfew : L.length + 1 < 64) {Q : Bool → Shared → Prop}
    (hQ : ∀ b h' L' es' ep' t', Heap.SameBut a s.heap h' → MSet P w h' a L' es' ep' t' → (k ∈ L.map (·.2) → L' = L) → (k ∉ L.map (·.2) → L'.Perm ((x, k) :: L)) → Q b { s with heap := h' }) :
    wpAny (model P w) A (setAddHashed a (.ref x) (mh P w k)) Q E s := by
  obtain ⟨o, ho, hex, hd⟩ := R.ob
  have hsl := R.size
  have hroom := R.room
  unfold setAddHashed
  refine wpAny_holding ?_
  rw [show (100000 : Nat) = 99999 + 1 from rfl, setAddHashedIn_succ]
  refine wpAny_bind (wpAny_setState_of ho hd R.fits ?_)
  dsimp only
  refine wp_if_neg (by simp [byScan, Value.scannable]) ?_
  try refine wpAny_bind (wpAny_pure ?_)
  refine wpAny_bind (mset_search R hx hu (fun hm => ?_) fun K hm hK hb => ?_)
  · dsimp only
    exact wpAny_pure (hQ false s.heap L es ep t (Heap.SameBut.refl a s.heap) R (fun _ => rfl) fun z => absurd hm z)
  · dsimp only
    refine wpAny_bind (wpAny_setState_of ho hd R.fits ?_)
    dsimp only
    obtain ⟨q1, q2, q3, q4, q5, _, _, _, q9⟩ := R.tab.put hK hb
    generalize hpt : t.put (way t.mask (mh P w k) K) = pt at q1 q3 q4 q5 q9 ⊢
    obtain ⟨t1, p⟩ := pt
    dsimp only at q1 q3 q4 q5 q9 ⊢
    subst q1
    have hin : (SetTable.insertAt es (SetTable.below t.place (way t.mask (mh P w k) K)) (mh P w k, Value.ref x)).toList = rowsM P w (L.take (SetTable.below t.place (way t.mask (mh P w k) K)) ++ (x, k) :: L.drop (SetTable.below t.place (way t.mask (mh P w k) K))) := by
      rw [SetTable.toList_insertAt, R.rows]
      simp [rowsM, List.map_take, List.map_drop]
    generalize hpp : SetTable.below t.place (way t.mask (mh P w k) K) = p at q2 q3 hin ⊢
    have pm := put_perm L p (x, k)
    have hlen : (L.take p ++ (x, k) :: L.drop p).length = L.length + 1 := pm.length_eq
    have hhs : (L.take p ++ (x, k) :: L.drop p).map (fun p => mh P w p.2) = (L.map fun p => mh P w p.2).take p ++ mh P w k :: (L.map fun p => mh P w p.2).drop p := by
      rw [List.map_append, List.map_cons, List.map_take, List.map_drop]
    rw [← hhs] at q3
    have nd1 : ((L.take p ++ (x, k) :: L.drop p).map (·.2)).Nodup := by
      refine (pm.map (·.2)).nodup_iff.mpr ?_
      rw [List.map_cons]
      exact List.nodup_cons.mpr ⟨hm, R.nd⟩
    have hes := rowsM_size hin
    rw [hlen] at hes
    generalize SetTable.insertAt es p (mh P w k, Value.ref x) = es1 at hin hes ⊢
    generalize L.take p ++ (x, k) :: L.drop p = L1 at pm hlen q3 nd1 hin
    rw [List.length_map] at q9
    -- whatever is known of the table's hashes, what follows is the same
    have fin : ∀ b : Bool, wpAny (model P w) A (do
          let t := if b = true then t1 else { t1 with plain := false }
          storeSet a es1 t
          if !false && t.tooFull then setRelay a (SetTable.grown (es.size + 1))
          return true) Q E s := by
      intro b
      dsimp only
      have f3 : TabOk (if b = true then t1 else { t1 with plain := false }) (L1.map fun p => mh P w p.2) := by
        cases b
        · exact tabOk_plain q3 false
        · exact q3
      have f4 : (if b = true then t1 else { t1 with plain := false }).mask = t.mask := by cases b <;> exact q4
      have f5 : (if b = true then t1 else { t1 with plain := false }).led = t.led := by cases b <;> exact q5
      have f9 : (if b = true then t1 else { t1 with plain := false }).fill = L.length + 1 := by cases b <;> exact q9
      generalize (if b = true then t1 else { t1 with plain := false }) = t2 at f3 f4 f5 f9 ⊢
      refine wpAny_bind (wpAny_storeSet_of ho hd ?_ (by rw [hes, sizeLine_eq]; omega))
      have sb : Heap.SameBut a s.heap (s.heap.update a (Obj.putSet es1 t2)) := Heap.SameBut.update ..
      have ho1 := store_at (es' := es1) (t' := t2) ho hd
      generalize s.heap.update a (Obj.putSet es1 t2) = h1 at sb ho1 ⊢
      have tup1 : ∀ p ∈ L1, MT P w h1 p.2 p.1 := fun p hp => by
        rcases List.mem_cons.mp (pm.mem_iff.mp hp) with e | hp
        · rw [e]; exact mt_same hx ho hd sb
        · exact mt_same (R.tup p hp) ho hd sb
      have ld1 : w.params.followText "set-order" = true ∨ t2.led = true := by rw [f5]; exact R.led
      by_cases hf : t2.tooFull = true
      · first
          | (refine wpAny_bind ?_; refine wp_if_pos (by simp [hf]) ?_)
          | (refine wp_if_pos (by simp [hf]) ?_; refine wpAny_bind ?_)
        have hfull : (L.length + 1) * 5 ≥ t2.mask * 3 := by
          have h := hf
          unfold SetTable.tooFull at h
          rw [decide_eq_true_eq, f9] at h
          exact h
        rw [hsl]
        have hsz1 : t2.place.size = es1.size := by
          have h := f3.sz
          rw [List.length_map, hlen] at h
          rw [h, hes]
        have cases2 : L.length = 4 ∨ L.length = 18 := by
          rcases R.tab.mok with e | e | e
          · left; rw [f4, e] at hfull; rw [e] at hroom; omega
          · right; rw [f4, e] at hfull; rw [e] at hroom; omega
          · exfalso; rw [f4, e] at hfull; omega
        have go : ∀ M, SetTable.sizeAbove (SetTable.grown (L.length + 1)) - 1 = M → MaskOk M → SetTable.sizeAbove (SetTable.grown (L.length + 1)) ≤ 128 → (L.length + 1) * 5 < M * 3 →
            wpAny (model P w) A (setRelay a (SetTable.grown (L.length + 1))) (fun _ s' => wpAny (model P w) A (pure true) Q E s') E { s with heap := h1 } := fun M g1 g2 g3 g4 =>
          mset_relay (s := { s with heap := h1 }) ho1 ⟨hex.1, hex.2.1, hex.2.2⟩ rfl hin hsz1 f3.dm (by rw [hes, f4]; omega) nd1 tup1 ld1 (by rw [hlen]; exact hfew) g1 g2 g3 (by rw [hlen]; exact g4)
            fun h2 L2 es2 ep2 t3 sb2 R2 pm2 => wpAny_pure (hQ true h2 L2 es2 ep2 t3 (sb.trans sb2) R2 (fun z => absurd z hm) fun _ => pm2.trans pm)
        rcases cases2 with e2 | e2
        · exact go 31 (by rw [e2, size_20]) (.inr (.inl rfl)) (by rw [e2, size_20]; decide) (by omega)
        · exact go 127 (by rw [e2, size_76]) (.inr (.inr rfl)) (by rw [e2, size_76]; decide) (by omega)
      · first
          | refine wp_if_neg (by simp [hf]) ?_
          | (refine wpAny_bind ?_; refine wp_if_neg (by simp [hf]) ?_; refine wpAny_pure ?_)
        refine wpAny_pure (hQ true h1 L1 es1 (ep + 1) t2 sb ⟨⟨_, ho1, ⟨hex.1, hex.2.1, hex.2.2⟩, rfl⟩, hin, f3, nd1, tup1, ld1, ?_, by rw [hlen]; exact hfew⟩ (fun z => absurd z hm) fun _ => pm)
        have h := hf
        unfold SetTable.tooFull at h
        rw [decide_eq_true_eq, f9] at h
        rw [hlen]
        omega
    by_cases hpl : t1.plain = true
    · first
        | exact wp_if_pos hpl (wpAny_bind (mt_hashBy hx fun b => fin b))
        | exact wpAny_bind (wp_if_pos hpl (mt_hashBy hx fun b => fin b))
    · first
        | exact wp_if_neg hpl (wpAny_bind (wpAny_pure (fin true)))
        | exact wpAny_bind (wp_if_neg hpl (wpAny_pure (fin true)))
end
end Ver

namespace Ver
open PySem PySem.Spec PyProof.Rows L2
theorem mset_fresh {P : Program} {w : World} {h : Heap} {a : Addr} (ho : h.get? a = some (newS w)) : MSet P w h a [] #[] 0 (.fresh 0 0 (!w.params.followText "set-order")) where
  ob := ⟨_, ho, ⟨rfl, rfl, rfl⟩, rfl⟩
  rows := rfl
  tab := ⟨List.Pairwise.nil, rfl, rfl, .inl rfl, fun x hx => (by cases hx), fun i h j hi => (by simp at hi)⟩
  nd := List.nodup_nil
  tup := fun p hp => (by cases hp)
  led := by
    show _ ∨ (!w.params.followText "set-order") = true
    cases w.params.followText "set-order" <;> simp
  room := by
    show 0 * 5 < 7 * 3
    decide
  few := by
    show 0 < 64
    decide
/-- the set at a, its tuples not asked for -/
def MSet0 (P : Program) (w : World) (h : Heap) (a : Addr) (L : List KA) : Prop :=
  ∃ es ep t, (∃ o, h.get? a = some o ∧ o.ExactSet ∧ o.data = .set es ep t) ∧ es.toList = rowsM P w L ∧ TabOk t (L.map fun p => mh P w p.2) ∧ (L.map (·.2)).Nodup ∧
    (w.params.followText "set-order" = true ∨ t.led = true) ∧ L.length * 5 < t.mask * 3 ∧ L.length < 64
def MSetO (P : Program) (w : World) (a : Addr) (L : List KA) : HO := .ext fun h => MSet0 P w h a L
section
variable {P : Program} {w : World} {A : Around} {E : Value → Shared → Prop} {s : Shared} {a : Addr} {L : List KA} {es : Array (Int × Value)} {ep : Nat} {t : SetTable}
theorem MSet.zero {h : Heap} (R : MSet P w h a L es ep t) : MSet0 P w h a L := ⟨es, ep, t, R.ob, R.rows, R.tab, R.nd, R.led, R.room, R.few⟩
theorem MSet0.full {h : Heap} (R : MSet0 P w h a L) (ht : ∀ p ∈ L, MT P w h p.2 p.1) : ∃ es ep t, MSet P w h a L es ep t :=
  let ⟨es, ep, t, h1, h2, h3, h4, h5, h6, h7⟩ := R
  ⟨es, ep, t, h1, h2, h3, h4, ht, h5, h6, h7⟩
theorem msetO_new {H : Hp} {h : Heap} (R : MSet0 P w h a L) : ObjOk P w H h a (MSetO P w a L) := by
  have ⟨_, _, _, ⟨o, ho, _⟩, _⟩ := R
  exact ⟨R, ⟨o, ho⟩, fun h1 h2 ⟨es', ep', t', ⟨o', ho', r'⟩, q'⟩ k => ⟨es', ep', t', ⟨o', k o' ho', r'⟩, q'⟩⟩
/-! ### sorted -/
/-- a key as it is compared -/
def ordK : Key → Int ⊕ List Nat
  | .inl i => .inl i
  | .inr x => .inr x.cps.toList
def ltK (x y : List Key) : Bool := lexLt itemOrd (x.map ordK) (y.map ordK)
/-- which places are texts -/
def ShapeK (shape : Nat → Bool) : Nat → List Key → Prop
  | _, [] => True
  | i, .inl _ :: ks => shape i = false ∧ ShapeK shape (i + 1) ks
  | i, .inr _ :: ks => shape i = true ∧ ShapeK shape (i + 1) ks
theorem items_shape {shape : Nat → Bool} : ∀ {ks : List Key} {vs : List Value} (i : Nat), ItemsAre (mixKind P w) ks vs → ShapeK shape i ks → tupItems shape i vs = some (ks.map ordK)
  | [], [], i, _, _ => by simp [tupItems]
  | .inl n :: ks, v :: vs, i, .cons h t, ⟨e, r⟩ => by
    obtain ⟨tk, rfl⟩ := Value.isInt_shape (show Value.isInt n v = true from h)
    simp [tupItems, e, items_shape (i + 1) t r, ordK]
  | .inr x :: ks, v :: vs, i, .cons h t, ⟨e, r⟩ => by
    have h' : Value.isStrOf x v = true := h
    cases v with
    | str y tk =>
      have : y = x := by simpa [Value.isStrOf] using h'
      subst this
      simp [tupItems, e, items_shape (i + 1) t r, ordK]
    | _ => simp [Value.isStrOf] at h'
theorem mt_key {h : Heap} {shape : Nat → Bool} {k : List Key} {b : Addr} (x : MT P w h k b) (sh : ShapeK shape 0 k) : G.tupKeyC h shape (.ref b) = some (k.map ordK) := by
  obtain ⟨o, its, n, ho, hc, hd, hi⟩ := x
  have : tupKey h shape (.ref b) = some (k.map ordK) := by
    simp only [tupKey, ho, hd]
    exact items_shape 0 hi sh
  unfold G.tupKeyC
  rw [if_pos (by simp [G.isTupObj, ho, hc])]
  exact this
theorem mt_tupOf {h : Heap} {shape : Nat → Bool} {k : List Key} {b : Addr} (x : MT P w h k b) (sh : ShapeK shape 0 k) (ne : k ≠ []) : ∃ f, TupOf h shape (.ref b) f := by
  obtain ⟨o, its, n, ho, hc, hd, hi⟩ := x
  cases k with
  | nil => exact absurd rfl ne
  | cons y ks =>
    generalize hv : its.toList = vs at hi
    cases hi with
    | @cons _ v _ vs' h1 h2 =>
      have f0 : its[0]? = some v := by rw [← Array.getElem?_toList, hv] <;> rfl
      refine ⟨v, b, o, its, n, rfl, ho, hc, hd, f0, fun e => ?_, fun e => ?_⟩
      · cases y with
        | inl i =>
          obtain ⟨tk, rfl⟩ := Value.isInt_shape (show Value.isInt i v = true from h1)
          exact ⟨_, _, rfl⟩
        | inr z =>
          have := sh.1
          rw [e] at this
          cases this
      · cases y with
        | inl i =>
          have := sh.1
          rw [e] at this
          cases this
        | inr z =>
          have h' : Value.isStrOf z v = true := h1
          cases v with
          | str q tk => exact ⟨_, _, rfl⟩
          | _ => simp [Value.isStrOf] at h'
theorem refs_perm (one : ∀ q ∈ L, ∀ r ∈ L, q.1 = r.1 → q = r) (nd : L.Nodup) : ∀ (out : List Value), out.Perm (L.map fun q => Value.ref q.1) → ∃ L' : List KA, out = L'.map (fun q => Value.ref q.1) ∧ L'.Perm L := by
  intro out pm
  have ord : ∀ vs : List Value, (∀ v ∈ vs, ∃ q ∈ L, v = Value.ref q.1) → ∃ L1 : List KA, vs = L1.map (fun q => Value.ref q.1) ∧ ∀ q ∈ L1, q ∈ L := by
    intro vs
    induction vs with
    | nil => exact fun _ => ⟨[], rfl, fun q hq => by cases hq⟩
    | cons v vs ih =>
      intro hv
      obtain ⟨q, hq, e⟩ := hv v List.mem_cons_self
      obtain ⟨L1, e1, hs⟩ := ih fun u hu => hv u (List.mem_cons_of_mem _ hu)
      refine ⟨q :: L1, by rw [List.map_cons, e, e1], fun r hr => ?_⟩
      rcases List.mem_cons.mp hr with z | z
      · rw [z]; exact hq
      · exact hs r z
  obtain ⟨L', e, hs⟩ := ord out fun v hv => by
    obtain ⟨q, hq, e⟩ := List.mem_map.mp (pm.mem_iff.mp hv)
    exact ⟨q, hq, e.symm⟩
  subst e
  refine ⟨L', rfl, ?_⟩
  have nref : (L.map fun q => Value.ref q.1).Nodup := List.pairwise_map.mpr (List.Pairwise.imp_of_mem (fun {q r} hq hr hne z => by
    injection z with z
    exact hne (one q hq r hr z)) nd)
  refine (List.perm_ext_iff_of_nodup (nodup_of_map (pm.nodup_iff.mpr nref)) nd).mpr fun q => ⟨hs q, fun hq => ?_⟩
  obtain ⟨r, hr, e⟩ := List.mem_map.mp (pm.mem_iff.mpr (List.mem_map.mpr ⟨q, hq, rfl⟩))
  injection e with e
  rw [← one r (hs r hr) q hq e]
  exact hr
theorem sorted_mset {shape : Nat → Bool} {Q : Value → Shared → Prop} (R : MSet P w s.heap a L es ep t) (hh : A.handled = none) (hsh : ∀ p ∈ L, ShapeK shape 0 p.2 ∧ p.2 ≠ [])
    (hQ : ∀ s' p (out : Array Value) (c : Nat) (L' : List KA), (∀ b o, s.heap.get? b = some o → s'.heap.get? b = some o) → s'.gens = s.gens → s'.os = s.os → s.heap.objs.size ≤ p →
      s'.heap.get? p = some (seqObj "list" out c) → out.toList = L'.map (fun q => Value.ref q.1) → L'.Perm L → L'.Pairwise (fun q r => ltK r.2 q.2 = false) → Q (.ref p) s') :
    wpAny (model P w) A (call (.builtin "sorted") [.ref a]) Q E s := by
  obtain ⟨o, ho, hex, hd⟩ := R.ob
  have hsz := R.size
  have hfew := R.few
  refine Calls.call_function_entry kind_sorted plain_sorted entry_sorted (args_sorted1 _) ?_
  unfold Builtin.«sorted»
  refine wpAny_bind (m := checkCount "sorted" 1 1 _) (wpAny_pure (wpAny_bind (collect_set (A := A.in1) hh ⟨o, ho, hex.1, hd⟩ R.fits (by unfold scanBound; omega) R.tab.ris R.led fun s1 vs k1 hz g1 o1 pm => ?_)))
  have hes : es.toList.map (·.2) = L.map fun q => Value.ref q.1 := by
    rw [R.rows]
    unfold rowsM
    rw [List.map_map] <;> rfl
  rw [hes] at pm
  have one : ∀ q ∈ L, ∀ r ∈ L, q.1 = r.1 → q = r := fun q hq r hr e => by
    have a1 := R.tup q hq
    rw [e] at a1
    exact Prod.ext e (a1.inj (R.tup r hr))
  have nL : L.Nodup := nodup_of_map R.nd
  have hvl : vs.length ≤ sizeLine := by rw [pm.length_eq, List.length_map, sizeLine_eq]; omega
  refine wpAny_bind (wpAny_newList ?_ hvl)
  have hoL : (s1.heap.push (seqObj "list" vs.toArray 0)).get? s1.heap.objs.size = some (seqObj "list" vs.toArray 0) := Heap.get?_push_size _ rfl
  have tk : ∀ q ∈ L, MT P w (s1.heap.push (seqObj "list" vs.toArray 0)) q.2 q.1 := fun q hq => mt_keep (R.tup q hq) fun b u e => Heap.get?_push_of_some _ (k1 b u e)
  have ofv : ∀ v ∈ vs, ∃ q ∈ L, v = Value.ref q.1 := fun v hv => by
    obtain ⟨q, hq, e⟩ := List.mem_map.mp (pm.mem_iff.mp hv)
    exact ⟨q, hq, e.symm⟩
  obtain ⟨fs, ht⟩ : ∃ fs, TupsOf (s1.heap.push (seqObj "list" vs.toArray 0)) shape vs fs := by
    clear pm hvl hoL
    have all : ∀ v ∈ vs, ∃ f, TupOf (s1.heap.push (seqObj "list" vs.toArray 0)) shape v f := fun v hv => by
      obtain ⟨q, hq, rfl⟩ := ofv v hv
      exact mt_tupOf (tk q hq) (hsh q hq).1 (hsh q hq).2
    generalize s1.heap.push (seqObj "list" vs.toArray 0) = h1 at all
    clear ofv tk
    induction vs with
    | nil => exact ⟨[], .nil⟩
    | cons v vs ih =>
      obtain ⟨f, hf⟩ := all v List.mem_cons_self
      obtain ⟨fs, hfs⟩ := ih fun u hu => all u (List.mem_cons_of_mem _ hu)
      exact ⟨f :: fs, .cons hf hfs⟩
  refine wpAny_bind (wpAny_holding (wpAny_call_entry (s := { s1 with heap := s1.heap.push (seqObj "list" vs.toArray 0) }) slot_list_sort ⟨_, hoL, rfl⟩ entry_list_sort (G.list_sort_tups (shape := shape) hoL ht (fun v hv => ?_) hvl fun st' hp hs _ => ⟨_, rfl, ?_⟩) (args_list_sort _)))
  · obtain ⟨q, hq, rfl⟩ := ofv v hv
    exact ⟨_, mt_key (tk q hq) (hsh q hq).1⟩
  have hl : (arrOf st').toList.Perm (vs.zip vs) := by rw [← pairsOf_toList]; exact Array.perm_iff_toList_perm.mp hp
  have eqs : ∀ p, p ∈ (arrOf st').toList → p.1 = p.2 ∧ p.1 ∈ vs := fun p hp' => mem_zip_self (hl.mem_iff.mp hp')
  have eo : ((arrOf st').map (·.2)).toList = (arrOf st').toList.map (·.2) := Array.toList_map ..
  have po : ((arrOf st').map (·.2)).toList.Perm vs := by
    rw [eo]
    refine (hl.map (·.2)).trans ?_
    rw [List.map_snd_zip (Nat.le_refl _)]
  obtain ⟨L', e', pL⟩ := refs_perm one nL _ (po.trans pm)
  obtain ⟨c, hc⟩ := sortedHeap_at (vs := vs) (out := (arrOf st').map (·.2)) hoL
  refine wpAny_pure ⟨_, rfl, hQ _ s1.heap.objs.size _ c L' (fun b u e => ?_) g1 o1 hz hc e' pL ?_⟩
  · have q := k1 b u e
    have lt := Heap.lt_size q
    refine (sortedHeap_old (Nat.ne_of_lt lt) (by rw [size_push']; exact Nat.lt_succ_of_lt lt)).trans ?_
    exact Heap.get?_push_of_some _ q
  · rw [List.pairwise_iff_getElem]
    intro i j hi hj hij
    have zL : L'.length = (arrOf st').size := by
      have := congrArg List.length e'
      simpa using this.symm
    have at_ : ∀ (i : Nat) (h : i < L'.length), KK (G.tupKindC (s1.heap.push (seqObj "list" vs.toArray 0)) shape) (arrOf st') i = (L'[i]).2.map ordK := fun i h => by
      have h' : i < (arrOf st').size := by rw [← zL]; exact h
      have m := eqs (arrOf st')[i] (by simp)
      have e2 : ((arrOf st').map (·.2)).toList[i]? = some (Value.ref (L'[i]).1) := by rw [e']; simp [h]
      have e3 : ((arrOf st')[i]).2 = Value.ref (L'[i]).1 := by
        rw [Array.getElem?_toList, Array.getElem?_map, Array.getElem?_eq_getElem h'] at e2
        exact Option.some.inj e2
      have mem : L'[i] ∈ L := pL.mem_iff.mp (List.getElem_mem h)
      unfold KK
      rw [Array.getElem?_eq_getElem h']
      dsimp only
      rw [m.1, e3]
      show (G.tupKeyC _ shape (Value.ref (L'[i]).1)).getD _ = _
      rw [mt_key (tk _ mem) (hsh _ mem).1]
      rfl
    have h1 := hs i j (Nat.le_of_lt hij) (by rw [← hp.size_eq, ← zL]; exact hj)
    rw [at_ i hi, at_ j hj] at h1
    exact h1
end
end Ver

/-! Set comprehensions over any kind of set; sets of tuples in the layer. -/
namespace Ver
open PySem PySem.Spec PyProof.Rows L2
/-- what adding asks, in any context like X -/
def AddOk (X : Cx) (Add : Addr → V → Hp → (Hp → Prop) → Prop) : Prop :=
  ∀ (Y : Cx), Y.prog = X.prog → Y.w = X.w → Y.K = X.K → Y.A = X.A → ∀ pins σ H s D y z Nx, Inv Y pins σ H s → RelV y z → Add D y H Nx →
    wpAny (model Y.prog Y.w) Y.A (call (.builtin "set.add") [.ref D, z]) (fun _ s' => ∃ H', Inv Y pins σ H' s' ∧ Nx H') Y.xe s
/-- {elt for target in iter if ..} into a set that begins as ob -/
def tScG (ob : Addr → HO) (Add : Addr → V → Hp → (Hp → Prop) → Prop) (wi : TI) (g : TG) (tt : TT) (te : TE) (vs : List Nat) : TE := fun σ H Q => wi σ H fun J H1 => ∀ D, H1 D = none → ∃ W : Nat → Nat → Hp → Prop, (∃ m, W 0 m (upd H1 D (ob D))) ∧ ∀ i m H, W i m H →
  (J.stop i H ∧ Q (.ref D) H) ∨ (J.go i H ∧ ∃ Nx : Hp → Prop, (∀ H', Nx H' → ∃ m', m' < m ∧ W (i + 1) m' H') ∧ ∀ x H', J.yld i H x H' → g x (wipe σ vs) H' fun σ2 H2 => wipe σ2 vs = wipe σ vs ∧ tt σ2 H2 fun b H3 =>
    if b = true then te σ2 H3 fun y H4 => Add D y H4 Nx else Nx H3)
section
variable {X : Cx}
set_option maxHeartbeats 8000000 in
theorem scG_core {ob : Addr → HO} {Add : Addr → V → Hp → (Hp → Prop) → Prop} {pins : List (Addr × Obj)} {s : Shared} {σ : L2.St} {H : Hp} {Q : VK} {elt tg iter : Expr} {ifs : List Expr} {scope : Scope} {own : List (PySem.Str × Nat)} {pos pos' : Pos} {wi : TI} {g : TG} {tt : TT} {te : TE} {use : Option (Value → Sem Unit)} {Qf : Value → Shared → Prop}
    (hob : ∀ (H : Hp) (h : Heap) (a : Addr), h.get? a = some (newS X.w) → ObjOk X.prog X.w H h a (ob a)) (hadd : AddOk X Add)
    (hc : X.calm = true) (hN : X.N.Nodup) (I : Inv X pins σ H s) (hi : PI X tg iter wi) (ok : BlkOk X.N X.env.scope scope own)
    (hg : ∀ (s : Shared) (H : Hp) (C : Addr) (cl : List (PySem.Str × Addr)) (fp : List Addr), PG (X.blk s H scope (compEnvC scope cl C X.env) fp) tg g) (ht : ∀ (s : Shared) (H : Hp) (C : Addr) (cl : List (PySem.Str × Addr)) (fp : List Addr), PTs (X.blk s H scope (compEnvC scope cl C X.env) fp) ifs tt)
    (he : ∀ (s : Shared) (H : Hp) (C : Addr) (cl : List (PySem.Str × Addr)) (fp : List Addr), PE (X.blk s H scope (compEnvC scope cl C X.env) fp) elt te) (hs : ∀ x, foldedSetIterable iter X.env x = pure x)
    (h : tScG ob Add wi g tt te (own.map (·.2)) σ H Q)
    (hRR : ∀ D C s' m H', Inv X pins σ H' s' → Q (.ref D) H' → s'.heap.Ns C m → FpOk X pins H' C → compPost (model X.prog X.w) X.A X.xe use Qf (.ref D) C (.ok .next) s') :
    wpAny (model X.prog X.w) X.A (comprehension (.SetComp elt [⟨tg, iter, ifs, 0⟩] scope pos) scope X.env pos' (newSet (.type "set")) false (eval iter X.env) use) Qf X.xe s := by
  have hfree : ∀ y ∈ scope.names, y.2 = .free → ∃ c, X.env.cells.lookup y.1 = some c := fun y hy e =>
    (ok.free y hy e).elim (fun k => I.ok.has _ (.inl k)) fun k => I.ok.has _ (.inr k)
  refine wpAny_comprehension_free (use := use) rfl hs (closure_ok hfree) ok.kind (fun y hy e => by rw [ok.uniq y hy, e])
    (thn (hi.run pins s σ H _ I h) fun xv s1 hx => thn hx fun itv s2 h2 => ?_)
  obtain ⟨it, fp, tn, J, H2, e, I2, T, st2, f2, q⟩ := h2
  subst e
  refine PpSet.newSet_ok (newEnv_comp ?_)
  generalize hD : s2.heap.objs.size = D
  have hDn : H2 D = none := I2.hok.fresh (Nat.le_of_eq hD)
  obtain ⟨W, ⟨m0, w0⟩, turn⟩ := q D hDn
  generalize hs3 : ({ s2 with heap := s2.heap.push (newS X.w) } : Shared) = s3
  have h3 : s3.heap = s2.heap.push (newS X.w) := by rw [← hs3]
  have I3 : Inv X pins σ (upd H2 D (ob D)) s3 := by
    rw [← hs3]
    refine I2.laid (t' := s2.toks) (fun b o e => Heap.get?_push_of_some _ e) (Nat.le_of_eq hD) (hob _ _ D ?_)
    rw [← hD]
    exact Heap.get?_push_size _ rfl
  have sz : ∀ b ∈ fp, b < s2.heap.objs.size := fun b hb => by
    obtain ⟨o, e, _⟩ := T.obj _ _ st2 b hb
    exact Heap.lt_size e
  have f3 : ∀ b ∈ fp, FpOk X pins (upd H2 D (ob D)) b ∧ b < s3.heap.objs.size := fun b hb => by
    have hlt := sz b hb
    refine ⟨⟨?_, (f2 b hb).2⟩, by rw [h3, Heap.size_push]; exact Nat.lt_succ_of_lt hlt⟩
    rw [upd_ne (by rw [← hD]; exact Nat.ne_of_lt hlt)]
    exact (f2 b hb).1
  have st3 : tn 0 s3.heap := T.keep _ _ _ st2 fun b _ o e => by rw [h3]; exact Heap.get?_push_of_some _ e
  have I4 := block_start I3 ok hN f3
  have pg := hg s3 (upd H2 D (ob D)) s3.heap.objs.size (cellsFrom (s3.heap.objs.size + 1) scope.names (cloFrom X.env.cells scope.names [])) fp
  have pt := ht s3 (upd H2 D (ob D)) s3.heap.objs.size (cellsFrom (s3.heap.objs.size + 1) scope.names (cloFrom X.env.cells scope.names [])) fp
  have pe := he s3 (upd H2 D (ob D)) s3.heap.objs.size (cellsFrom (s3.heap.objs.size + 1) scope.names (cloFrom X.env.cells scope.names [])) fp
  show codeAny _ _ (.compStart (.SetComp elt [⟨tg, iter, ifs, 0⟩] scope pos) 0 (.ref it) (.ref D) (compEnvC scope (cellsFrom (s3.heap.objs.size + 1) scope.names (cloFrom X.env.cells scope.names [])) s3.heap.objs.size X.env)) (compPost (model X.prog X.w) X.A X.xe use Qf (.ref D) s3.heap.objs.size) { s3 with heap := pushCells (s3.heap.push { cls := .type "dict", data := .dict #[] }) scope.names }
  have nfp : ∀ b ∈ fp, (upd H2 D (ob D)) b = none := fun b hb => (f3 b hb).1.1
  generalize hce : compEnvC scope (cellsFrom (s3.heap.objs.size + 1) scope.names (cloFrom X.env.cells scope.names [])) s3.heap.objs.size X.env = ce at I4 pg pt pe ⊢
  have cL : ce.locals = s3.heap.objs.size := by subst hce; rfl
  generalize hH3 : upd H2 D (ob D) = H3 at I3 I4 pg pt pe w0 nfp f3
  generalize hs4 : ({ s3 with heap := pushCells (s3.heap.push { cls := .type "dict", data := .dict #[] }) scope.names } : Shared) = s4 at I4 ⊢
  have st4 : tn 0 s4.heap := T.keep _ _ _ st3 fun b _ o e => by rw [← hs4]; exact pushCells_keeps _ _ _ _ (Heap.get?_push_of_some _ e)
  have stat : ∀ {σ' : L2.St} {H' : Hp} {s' : Shared}, Inv (X.blk s3 H3 scope ce fp) [] σ' H' s' → (∀ b ∈ fp, H' b = none) → ∀ b ∈ fp, FpOk (X.blk s3 H3 scope ce fp) [] H' b := fun {σ' H' s'} I' hn b hb =>
    ⟨hn b hb, (I'.ok.exf b hb).1, I'.ok.exfs b hb, .inl hb, fun x c e => (I'.ok.exf b hb).2 x c e, fun p hp => absurd (show p ∈ ([] : List (Addr × Obj)) ++ [] from hp) (by simp)⟩
  have loop : codeAny (model X.prog X.w) X.A (.compLoop (.SetComp elt [⟨tg, iter, ifs, 0⟩] scope pos) 0 (.ref it) (.ref D) ce) (compPost (model X.prog X.w) X.A X.xe use Qf (.ref D) s3.heap.objs.size) s4 := by
    refine PpSet.compLoopS_any (fun n s' => ∃ i H', Inv (X.blk s3 H3 scope ce fp) [] (wipe σ (own.map (·.2))) H' s' ∧ tn i s'.heap ∧ (∀ b ∈ fp, H' b = none) ∧ W i n H') ?_ m0 ⟨0, H3, I4, st4, nfp, w0⟩
    rintro n s5 ⟨i, H5, I5, st5, n5, w5⟩
    rcases turn i n H5 w5 with ⟨stop, qq⟩ | ⟨go, Nx, hNx, step⟩
    · refine thnF (T.done (X.blk s3 H3 scope ce fp) rfl rfl rfl hc i [] s5 _ H5 (fun _ _ => False) I5 (stat I5 n5) st5 stop) fun r s6 ⟨hr, I6⟩ => ?_
      subst hr
      have I7 : Inv X pins σ H5 s6 := I3.call' (ch := fp) I6.os I6.base I6.hok I6.bare fun b hb => ⟨(f3 b hb).1.2.2.2.1, (f3 b hb).1.2.1, (f3 b hb).1.2.2.2.2.1, (f3 b hb).1.2.2.2.2.2⟩
      have nC : H5 s3.heap.objs.size = none := by
        have z : H5 ce.locals = none := I6.free
        rwa [cL] at z
      obtain ⟨m, hn, _⟩ := I6.loc
      have hn : s6.heap.Ns ce.locals m := hn
      rw [cL] at hn
      exact hRR D s3.heap.objs.size s6 m H5 I7 qq hn (I3.fpOk (Nat.le_refl _) nC)
    · refine thnF (T.item (X.blk s3 H3 scope ce fp) rfl rfl rfl hc i [] s5 _ H5 (fun _ _ => False) I5 (stat I5 n5) st5 go) fun r s6 ⟨u, hr, h6⟩ => ?_
      subst hr
      refine thnF h6 fun _ s7 ⟨x, H7, I7, r7, y7, st7, n7⟩ => ?_
      refine thnF (pg.run _ s7 _ H7 x u _ (I7.pinned (stat I7 n7) (T.obj _ _ st7)) r7 (step x H7 y7)) fun _ s8 ⟨σ8, H8, I8, hw8, q8⟩ => ?_
      refine thnF (pt.run _ s8 σ8 H8 _ I8 q8) fun b s9 ⟨H9, I9, q9⟩ => ?_
      have fin : ∀ {s' : Shared} {H' : Hp}, Inv (X.blk s3 H3 scope ce fp) ([] ++ pinsAt fp s7.heap) σ8 H' s' → Nx H' → ∃ m, m < n ∧ ∃ i H', Inv (X.blk s3 H3 scope ce fp) [] (wipe σ (own.map (·.2))) H' s' ∧ tn i s'.heap ∧ (∀ b ∈ fp, H' b = none) ∧ W i m H' := fun {s' H'} I' nx => by
        obtain ⟨m', hm, w'⟩ := hNx H' nx
        have pin' : ∀ b ∈ fp, ∀ o, s7.heap.get? b = some o → s'.heap.get? b = some o ∧ H' b = none := fun b hb o e =>
          let z := I'.pin (b, o) (List.mem_append_right _ (List.mem_append_right _ (mem_pinsAt hb e)))
          ⟨z.1, z.2.1⟩
        have hl : (wipe σ (own.map (·.2))).length = σ8.length := by rw [← hw8, wipe_length]
        refine ⟨m', hm, i + 1, H', (I'.unpinned (pins := [])).weak hl (fun j v e => ?_), T.keep _ _ _ st7 fun b hb o e => (pin' b hb o e).1, fun b hb => ?_, w'⟩
        · rw [← hw8] at e
          exact (wipe_some e).1
        · obtain ⟨o, e, _⟩ := T.obj _ _ st7 b hb
          exact (pin' b hb o e).2
      cases b with
      | false =>
        simp only [Bool.false_eq_true, if_false] at q9 ⊢
        exact fin I9 q9
      | true =>
        simp only [if_true] at q9 ⊢
        refine thnF (pe.run _ s9 σ8 H9 _ I9 q9) fun z s10 ⟨yv, H10, I10, r10, ad⟩ => ?_
        exact thnF (hadd (X.blk s3 H3 scope ce fp) rfl rfl rfl rfl _ _ _ _ D yv z Nx I10 r10 ad) fun _ s11 ⟨H11, I11, nx⟩ => fin I11 nx
  exact PpSet.codeAny_compStart_set loop (T.self X.A 0 _ _ _ st4 loop)
theorem pe_scG {ob : Addr → HO} {Add : Addr → V → Hp → (Hp → Prop) → Prop} {elt tg iter : Expr} {ifs : List Expr} {scope : Scope} {own : List (PySem.Str × Nat)} {pos : Pos} {wi : TI} {g : TG} {tt : TT} {te : TE}
    (hob : ∀ (H : Hp) (h : Heap) (a : Addr), h.get? a = some (newS X.w) → ObjOk X.prog X.w H h a (ob a)) (hadd : AddOk X Add) (hc : X.calm = true) (hN : X.N.Nodup) (hi : PI X tg iter wi) (ok : BlkOk X.N X.env.scope scope own)
    (hg : ∀ (s : Shared) (H : Hp) (C : Addr) (cl : List (PySem.Str × Addr)) (fp : List Addr), PG (X.blk s H scope (compEnvC scope cl C X.env) fp) tg g) (ht : ∀ (s : Shared) (H : Hp) (C : Addr) (cl : List (PySem.Str × Addr)) (fp : List Addr), PTs (X.blk s H scope (compEnvC scope cl C X.env) fp) ifs tt)
    (he : ∀ (s : Shared) (H : Hp) (C : Addr) (cl : List (PySem.Str × Addr)) (fp : List Addr), PE (X.blk s H scope (compEnvC scope cl C X.env) fp) elt te) (hs : ∀ x, foldedSetIterable iter X.env x = pure x := by intro _; rfl) :
    PE X (.SetComp elt [⟨tg, iter, ifs, 0⟩] scope pos) (tScG ob Add wi g tt te (own.map (·.2))) := by
  refine ⟨fun pins s σ H Q I h => ?_⟩
  rw [PpSet.eval_SetComp]
  refine scG_core hob hadd hc hN I hi ok hg ht he hs h fun D C s' m H' I' q hn f => ⟨m, hn, fun h'' sb => ?_⟩
  obtain ⟨f0, f1, f2, f3, f4, f5⟩ := f
  exact ⟨.ref D, H', I'.turned (t' := s'.toks) (fun b o hb e => (sb.2 b hb).trans e) f0 f1 f3 f4 f5, rfl, q⟩
/-! ### sets of tuples -/
theorem isM {pins : List (Addr × Obj)} {σ : L2.St} {H : Hp} {s : Shared} {b : Addr} {k : List Key} (I : Inv X pins σ H s) (h : SqT X.K H b (k.map kV)) : MT X.prog X.w s.heap k b := by
  obtain ⟨its, r, ⟨o, ho, hc, n, hd⟩, _⟩ := I.tuple h
  exact ⟨o, its.toArray, n, ho, hc, hd, by simpa using items_are r⟩
/-- the tuple y goes into the set D -/
def AddM (K : PySem.W.Frag) (P : Program) (w : World) : Addr → V → Hp → (Hp → Prop) → Prop := fun D y H Nx => ∃ (q : Addr) (k : List Key) (L : List KA), y = .ref q ∧ SqT K H q (k.map kV) ∧ H D = some (MSetO P w D L) ∧ (∀ p ∈ L, SqT K H p.1 (p.2.map kV)) ∧ L.length + 1 < 64 ∧
  ∀ L', (k ∈ L.map (·.2) → L' = L) → (k ∉ L.map (·.2) → L'.Perm ((q, k) :: L)) → Nx (upd H D (MSetO P w D L'))
theorem addM_ok (hu : X.A.units + 64 < cLine) : AddOk X (AddM X.K X.prog X.w) := by
  intro Y e1 e2 e3 e4 pins σ H s D y z Nx I r h
  obtain ⟨q, k, L, rfl, hq, hD, hL, hf, nx⟩ := h
  cases r
  rw [← e1, ← e2] at hD nx
  rw [← e3] at hq hL
  rw [← e4] at hu
  have R0 : MSet0 Y.prog Y.w s.heap D L := (I.hok D _ hD).1
  obtain ⟨es, ep, t, R⟩ := R0.full fun p hp => isM I (hL p hp)
  obtain ⟨o, ho, hex, hd⟩ := R.ob
  have hx := isM I hq
  refine wpAny_call_entry F.slot_set_add ⟨o, ho, hex.1⟩ F.entry_set_add ?_ (F.args_set_add_2 _ _)
  unfold Builtin.«set.add» Builtin.Frozenset.oneOther
  simp only [List.isEmpty_nil, bind_assoc]
  unfold Builtin.Frozenset.addrOf setAdd
  refine wpAny_bind (wpAny_pure ?_)
  try dsimp only
  refine wpAny_bind (wpAny_pure ?_)
  try dsimp only
  refine wpAny_bind (wpAny_holding (wpAny_bind (wpAny_pyHash_tuple (by show Y.A.units + 1 < cLine; omega) hx ?_)))
  refine mset_add (s := { s with toks := s.toks + (k.length + 1) }) R hx (by show Y.A.units + 1 < cLine; omega) hf fun b h' L' es' ep' t' sb R' g1 g2 => ?_
  show wpAny _ _ (ret Value.none) _ _ _
  refine wpAny_pure ⟨_, rfl, _, I.write (e := D) (t' := s.toks + (k.length + 1)) (by rw [hD]; trivial) (.inl rfl) (fun b u hb hu => (sb.2 b hb).trans hu) ?_ (msetO_new R'.zero), nx L' g1 g2⟩
  obtain ⟨o', ho', _⟩ := R'.ob
  exact ⟨o', ho'⟩
theorem msetO_fresh (H : Hp) (h : Heap) (a : Addr) (ho : h.get? a = some (newS X.w)) : ObjOk X.prog X.w H h a (MSetO X.prog X.w a []) := msetO_new (mset_fresh ho).zero
/-- sorted(set of such tuples) -/
def rSortedM (K : PySem.W.Frag) (P : Program) (w : World) (shape : Nat → Bool) : List V → Hp → VK → Prop := fun vs H Q => ∃ (a : Addr) (L : List KA), vs = [V.ref a] ∧ H a = some (MSetO P w a L) ∧ (∀ p ∈ L, SqT K H p.1 (p.2.map kV)) ∧ (∀ p ∈ L, ShapeK shape 0 p.2 ∧ p.2 ≠ []) ∧
  ∀ (L' : List KA) (p : Addr), L'.Perm L → (L'.map (·.2)).Nodup → L'.Pairwise (fun q r => ltK r.2 q.2 = false) → H p = none → Q (.ref p) (upd H p (.lst (L'.map fun q => V.ref q.1)))
theorem cr_sortedM (shape : Nat → Bool) (hc : X.calm = true) : CallR X (.builtin "sorted") (rSortedM X.K X.prog X.w shape) := by
  intro pins s σ H vs us Q I r h
  obtain ⟨a, L, rfl, ha, hk, hsh, q⟩ := h
  have R0 : MSet0 X.prog X.w s.heap a L := (I.hok a _ ha).1
  obtain ⟨es, ep, t, R⟩ := R0.full fun p hp => isM I (hk p hp)
  rw [Vals.ref1 r]
  refine sorted_mset R (I.ok.hd hc) hsh fun s' p out c L' k g o hp hg hout pm pw => ?_
  have hfew := R.few
  have hlen : (L'.map fun q => V.ref q.1).length ≤ sizeLine := by rw [List.length_map, pm.length_eq, sizeLine_eq]; omega
  have hn : H p = none := I.hok.fresh hp
  have hv : ∀ l : List KA, Vals (l.map fun q => V.ref q.1) (l.map fun q => Value.ref q.1) := fun l => by
    induction l with
    | nil => exact .nil
    | cons x l ih => exact .cons rfl ih
  have J : Inv X pins σ (upd H p (.lst (L'.map fun q => V.ref q.1))) { s with heap := s'.heap, gens := s'.gens, drawn := s'.drawn, toks := s'.toks } :=
    I.call (ch := []) (Un.laid k hp hn) (I.hok.laid k hp ⟨hlen, out.toList, c, by rw [hout]; exact hv L', hg⟩) (by rw [g]; exact I.bare) (fun _ z => nomatch z)
  have e : s' = { s with heap := s'.heap, gens := s'.gens, drawn := s'.drawn, toks := s'.toks } := by
    cases s'
    cases s
    cases o
    rfl
  rw [e]
  exact ⟨.ref p, _, J, rfl, q L' p pm ((pm.map (·.2)).nodup_iff.mpr R.nd) pw hn⟩
end
end Ver

namespace K84
open PySem PySem.Spec PyProof.Rows L2 Ver Num
/-- the names of the text's own defs and classes; the built-in names that it reads -/
def gl : List Str := (["is_integer", "is_between", "is_letters", "divisor_of", "few_costs", "_law_pen", "_law_draw", "_law_pick", "_law_shuffled", "_law_letters", "law", "Order", "InvalidText"] : List Str) ++
  (["write_order", "read_order", "order_of", "_law_letters_read", "_law_order_read", "_law_order_text", "_law_bent_line", "_law_line_met"] : List Str)
def fr : List Str := ["isinstance", "int", "bool", "str", "dict", "set", "sorted", "all", "any", "len", "abs", "list", "range", "min", "repr", "ValueError"]
def fa : List He.Fa := gl.map He.Fa.glo ++ fr.map He.Fa.free
/-- an error with one field, made by its own __init__ -/
structure EC (K : PySem.W.Frag) (C : Addr) (f : Str) : Prop where
  ox : OexC K C
  nf : PySem.W.findIn K (.ref C) f = some none
  iC : PySem.W.findIn K (.ref C) "__init__" = some (some (.ref (He.ma K C "__init__")))
  tI : PySem.W.typeIn K (.ref (He.ma K C "__init__")) = some (.type "function")
  xf : XfC K C
  ec : ExcC K C
  te : PySem.W.exmOne K (.ref C) (.ref C) = some true
  isV : PySem.W.kitOne K (.ref C) (.type "ValueError") = some true
def ofs : List Str := ["_letters", "_costs", "_divisor", "_few"]
abbrev OC (K : PySem.W.Frag) : Addr := He.ga K "Order"
/-- the class of orders -/
structure OrdC (K : PySem.W.Frag) : Prop where
  cl : Cls K (OC K)
  na : ∀ f ∈ ofs, NoAttr K (OC K) f
  mkr : Mk K (OC K) (He.ma K (OC K) "__init__")
  rd : ClX.CRead K (OC K) (.type "type")
  oc : ∃ p g fd, ClX.CMet K (OC K) (.type "type") "of_costs" p g ∧ FunD K "of_costs" "Order.of_costs" (defArgs s_Order_of_costs) (defBody s_Order_of_costs) (defScope s_Order_of_costs) [] [] g fd
/-- the law's code object and its table -/
def lawC (K : PySem.W.Frag) : Addr × Addr := He.cT K ("law", none)
/-- what the top has left -/
structure Tx (K : PySem.W.Frag) (mg : Str → Option Value) : Prop where
  d : He.SaysD fa fn K
  g : ∀ x ∈ gl, mg x = some (.ref (He.ga K x))
  z : ∀ x ∈ fr, mg x = none
  ml : ∃ t, mg "MOST_LETTERS" = some (.int 4 t)
  gc : ∃ t, mg "GREATEST_COST" = some (.int 9 t)
  st : ∃ t, mg "SETTLED" = some (.int 56 t)
  gcd : mg "gcd" = some (.builtin "math.gcd")
  sm : Sm K
  pc : ∃ p g fd, PropOf K (OC K) "costs" p g ∧ FunD K "costs" "Order.costs" (defArgs s_Order_costs) (defBody s_Order_costs) (defScope s_Order_costs) [] [] g fd
  ow : OwnQ K (OC K) (He.ma K (OC K) "__eq__") (.ref (OC K))
  isO : PySem.W.kitOne K (.ref (OC K)) (.ref (OC K)) = some true
  ccO : PySem.W.findIn K (.ref (OC K)) "__class__" = some (some (.builtin "object.__class__"))
  obO : PySem.W.mroIn K (OC K) (.type "object") = some true
  clS : PySem.W.specialIn K (.builtin "object.__class__") "__get__" = some (some (.builtin "getset_descriptor.__get__"))
  clT : PySem.W.takesIn K (.builtin "object.__class__") = some true
  cs : ∃ t, mg "COSTS" = some (.str "123456789" t)
  dgN : PySem.W.nsIn K PySem.cStatics "sys.int_max_str_digits" = some none
  eX : EC K (He.ga K "InvalidText") "line"
  vV : PySem.W.findCls K (.type "ValueError") (.type "type") "__init__" = some (.val (.builtin "ValueError.__init__"))
  o : OrdC K
theorem ifT {c : Bool} {A B : Prop} (h : c = true) (q : A) : if c = true then A else B := by
  rw [if_pos h]
  exact q
theorem ifF {c : Bool} {A B : Prop} (h : c = false) (q : B) : if c = true then A else B := by
  rw [if_neg (by rw [h]; exact Bool.false_ne_true)]
  exact q
theorem iEq (a b : Int) : decide (V.int a = V.int b) = decide (a = b) := by
  by_cases h : a = b
  · rw [decide_eq_true h, decide_eq_true (by rw [h])]
  · rw [decide_eq_false h, decide_eq_false fun z => h (V.int.inj z)]
theorem sEq (a b : Str) : decide (V.str a = V.str b) = decide (a = b) := by
  by_cases h : a = b
  · rw [decide_eq_true h, decide_eq_true (by rw [h])]
  · rw [decide_eq_false h, decide_eq_false fun z => h (V.str.inj z)]
theorem same_up {H : Hp} {p : Addr} {o : HO} (h : H p = none) : Same H (upd H p o) := fun b x e => by
  rw [upd_ne (ne_of_none e h)]
  exact e
end K84

namespace K84
open PySem PySem.Spec PyProof.Rows L2 Ver Num
/-! ### the head: what it tells -/
abbrev R : PySem.W.OpenRow := PySem.W.OpenLaw.row PySem.Challenge.rw_firstanswers_k84_whole_texts_of_orders
def ads (g : Addr → Option Obj) : List Addr := (PySem.cStatics :: sysModules :: He.asD g 5).eraseDups
def KF (g : Addr → Option Obj) : PySem.W.Frag := He.frT g (ads g)
/-- the module table -/
def smTB (K : PySem.W.Frag) : Bool := match K.lookup sysModules with
  | some o => match o.cls with
    | .type s => decide (s = "dict")
    | _ => false
  | none => false
theorem smTB_ok {K : PySem.W.Frag} (h : smTB K = true) : Sm K := by
  unfold smTB at h
  split at h
  · rename_i o e
    split at h
    · rename_i s e2
      exact ⟨o, e, by rw [e2, of_decide_eq_true h]⟩
    · cases h
  · cases h
/-- what stands at g, a def -/
def fnA (K : PySem.W.Frag) (g : Addr) : He.FnW := match K.lookup g with
  | some ⟨_, _, .func u, _⟩ => some (u.name, u.qualname, u.params, u.body, u.scope, u.globals, u.closure, u.builtins)
  | _ => none
def okA (K : PySem.W.Frag) (g : Addr) (q : Str) : Bool := PySem.W.keepIn K (.ref g) && match K.lookup g with
  | some ⟨_, _, .func u, _⟩ => (PySem.W.codeIn K u.code q && He.dflB K u.defaults []) && He.kwdB K u.kwdefaults []
  | _ => false
theorem fun_at {K : PySem.W.Frag} {g : Addr} {x q : Str} {st : Stmt} (e : fnA K g = (⟨("Field", some x), x, q, defArgs st, defBody st, defScope st, [], []⟩ : He.DefD).val) (c : okA K g q = true) : ∃ fd, FunD K x q (defArgs st) (defBody st) (defScope st) [] [] g fd := by
  obtain ⟨kp, c2⟩ := He.ba c
  unfold fnA at e
  split at c2
  · rename_i oc od u osl hl
    rw [hl] at e
    obtain ⟨u1, u2, u3, u4, u5, u6, u7, u8, u9, u10, u11, u12, u13, u14, u15⟩ := u
    obtain ⟨c3, k4⟩ := He.ba c2
    obtain ⟨k1, k3⟩ := He.ba c3
    have e2 := Option.some.inj e
    simp only [Prod.mk.injEq] at e2
    obtain ⟨rfl, rfl, rfl, rfl, rfl, rfl, rfl, rfl⟩ := e2
    exact ⟨_, ⟨oc, od, u8, u9, u10, u11, u12, u13, u14, osl, rfl, hl, k1, He.dflB_ok k3, He.kwdB_ok k4⟩, kp⟩
  · cases c2
def gA (K : PySem.W.Frag) (p : Addr) (k : String) : Addr := match PySem.W.recIn K p k with
  | some (.ref g :: _) => g
  | _ => 0
def gOk (K : PySem.W.Frag) (p : Addr) (k : String) : Bool := match PySem.W.recIn K p k with
  | some (.ref _ :: _) => true
  | _ => false
theorem gOk_ex {K : PySem.W.Frag} {p : Addr} {k : String} (h : gOk K p k = true) : ∃ rest, PySem.W.recIn K p k = some (.ref (gA K p k) :: rest) := by
  unfold gOk at h
  split at h
  · rename_i g rest e
    refine ⟨rest, ?_⟩
    have eg : gA K p k = g := by
      unfold gA
      rw [e]
    rw [eg]
    exact e
  · cases h
def oexB (K : PySem.W.Frag) (C : Addr) : Bool := match K.lookup C with
  | some ⟨.type T, _, .cls cd, sl⟩ => (match cd.mro, sl.toList with
    | .ref C' :: bm, [_, _, _, _, some (.builtin n), _] => decide (T = "type") && (decide (C' = C) && (decide (n = "ValueError.__new__") && (!cd.hasDel && (cd.hasDict && PySem.HandSPX.refsVE bm))))
    | _, _ => false)
  | _ => false
theorem oexB_ok {K : PySem.W.Frag} {C : Addr} (h : oexB K C = true) : ∃ nm q N bs bm sn sub ab col dd k0 k1 k2 k3 k5, K.lookup C = some (excClassObj nm q C N bs bm true sn sub ab col dd k0 k1 k2 k3 k5 "ValueError.__new__") ∧ PySem.HandSPX.refsVE bm = true := by
  unfold oexB at h
  split at h
  · rename_i T dd cd sl ho
    obtain ⟨nm, bs, mro, ns, qn, hd, sn, sb, ab, col, del⟩ := cd
    obtain ⟨l⟩ := sl
    split at h
    · rename_i C' bm k0 k1 k2 k3 n k5 hm hs
      obtain ⟨h0, h⟩ := He.ba h
      obtain ⟨h1, h⟩ := He.ba h
      obtain ⟨h2, h⟩ := He.ba h
      obtain ⟨h3, h⟩ := He.ba h
      obtain ⟨h4, h5⟩ := He.ba h
      have e0 := of_decide_eq_true h0
      have e1 := of_decide_eq_true h1
      have e2 := of_decide_eq_true h2
      have e3 : del = false := by simpa using h3
      have e4 : hd = true := h4
      have em : mro = .ref C' :: bm := hm
      have es : l = [k0, k1, k2, k3, some (.builtin n), k5] := hs
      subst e0 e1 e2 e3 e4 em es
      exact ⟨nm, qn, ns, bs, bm, sn, sb, ab, col, dd, k0, k1, k2, k3, k5, ho, h5⟩
    · cases h
  · cases h
def xe (K : PySem.W.Frag) (x f : Str) : List Bool := [oexB K (He.ga K x), He.eqO (PySem.W.findIn K (.ref (He.ga K x)) "__setattr__") (some (some (.builtin "object.__setattr__"))), decide (PySem.W.subIn K (.ref (He.ga K x)) (.type "BaseException") = some true),
  decide (PySem.W.typeIn K (.ref (He.ga K x)) = some (.type "type")), PySem.W.keepIn K (.ref (He.ga K x)), He.eqO (PySem.W.findIn K (.ref (He.ga K x)) f) (some none),
  He.eqO (PySem.W.findIn K (.ref (He.ga K x)) "__init__") (some (some (.ref (He.ma K (He.ga K x) "__init__")))), decide (PySem.W.typeIn K (.ref (He.ma K (He.ga K x) "__init__")) = some (.type "function")),
  He.eqO (PySem.W.findIn K (.ref (He.ga K x)) "__getattribute__") (some (some (.builtin "BaseException.__getattribute__"))), He.eqO (PySem.W.findIn K (.ref (He.ga K x)) "__getattr__") (some none), PySem.W.hasDictIn K (He.ga K x),
  He.eqO (PySem.W.findIn K (.ref (He.ga K x)) "__class__") (some (some (.builtin "object.__class__"))), decide (PySem.W.mroIn K (He.ga K x) (.type "object") = some true), decide (PySem.W.exmOne K (.ref (He.ga K x)) (.ref (He.ga K x)) = some true),
  decide (PySem.W.kitOne K (.ref (He.ga K x)) (.type "ValueError") = some true)]
def vvB (K : PySem.W.Frag) : Bool := match PySem.W.findCls K (.type "ValueError") (.type "type") "__init__" with
  | some (.val (.builtin n)) => decide (n = "ValueError.__init__")
  | _ => false
theorem vvB_ok {K : PySem.W.Frag} (h : vvB K = true) : PySem.W.findCls K (.type "ValueError") (.type "type") "__init__" = some (.val (.builtin "ValueError.__init__")) := by
  unfold vvB at h
  split at h
  · rename_i n e
    rw [e, of_decide_eq_true h]
  · cases h
def pA_costs (K : PySem.W.Frag) : Addr := He.ma K (OC K) "costs"
def xp_costs (K : PySem.W.Frag) : List Bool := [He.eqO (PySem.W.findIn K (.ref (OC K)) "costs") (some (some (.ref (pA_costs K)))),
  He.eqO (PySem.W.specialIn K (.ref (pA_costs K)) "__get__") (some (some (.builtin "property.__get__"))), decide (PySem.W.takesIn K (.ref (pA_costs K)) = some true), gOk K (pA_costs K) "property", okA K (gA K (pA_costs K) "property") "Order.costs"]
/-- the class of orders -/
def ofA (K : PySem.W.Frag) : Addr := He5.wf K (OC K) "classmethod" "of_costs"
def xo (K : PySem.W.Frag) : List Bool := [(He.Fa.cls "Order").ok K,
  ofs.all fun f => (He.Fa.noat "Order" f).ok K,
  (He.Fa.mkr "Order").ok K,
  PySem.W.readsIn K (OC K) (.type "type"),
  He.eqO (PySem.W.specialIn K (.ref (OC K)) "__getattribute__") (some (some (.builtin "type.__getattribute__"))),
  He5.wrapB K (OC K) "classmethod" "classmethod.__get__" "of_costs",
  PySem.W.fnIn K (ofA K),
  okA K (ofA K) "Order.of_costs"]
def x1 (K : PySem.W.Frag) : List Bool := [(He.Fa.int "MOST_LETTERS" 4).ok K,
  (He.Fa.int "GREATEST_COST" 9).ok K,
  (He.Fa.int "SETTLED" 56).ok K,
  (He.Fa.str "COSTS" "123456789").ok K,
  He.eqO (PySem.W.nsIn K mainGlobals "gcd") (some (some (.builtin "math.gcd"))),
  smTB K,
  He.eqO (PySem.W.nsIn K PySem.cStatics "sys.int_max_str_digits") (some none),
  vvB K,
  He.eqO (PySem.W.specialIn K (.builtin "object.__class__") "__get__") (some (some (.builtin "getset_descriptor.__get__"))),
  decide (PySem.W.takesIn K (.builtin "object.__class__") = some true),
  decide (PySem.W.kitOne K (.ref (OC K)) (.ref (OC K)) = some true),
  He.eqO (PySem.W.findIn K (.ref (OC K)) "__class__") (some (some (.builtin "object.__class__"))),
  decide (PySem.W.mroIn K (OC K) (.type "object") = some true)]
def xq (K : PySem.W.Frag) : List Bool := [PySem.W.notFirst K (OC K) (.ref (OC K)), He.eqO (PySem.W.findIn K (.ref (OC K)) "__eq__") (some (some (.ref (He.ma K (OC K) "__eq__")))), PySem.W.isFn K (.ref (He.ma K (OC K) "__eq__")),
  He.eqO (PySem.W.findIn K (.ref (OC K)) "__ne__") (some (some (.builtin "object.__ne__"))), decide (PySem.W.subIn K (.ref (OC K)) (.type "object") = some true)]
def ex (K : PySem.W.Frag) : Bool := ((x1 K).all id && ((xo K).all id && ((xp_costs K).all id && ((xe K "InvalidText" "line").all id && (xq K).all id))))
abbrev W2 : Type := He.FnW × He.FnW
def f1 (K : PySem.W.Frag) : W2 := (fnA K (ofA K), fnA K (gA K (pA_costs K) "property"))
def v1 : W2 := ((⟨("Order", some "of_costs"), "of_costs", "Order.of_costs", defArgs s_Order_of_costs, defBody s_Order_of_costs, defScope s_Order_of_costs, [], []⟩ : He.DefD).val,
  (⟨("Order", some "costs"), "costs", "Order.costs", defArgs s_Order_costs, defBody s_Order_costs, defScope s_Order_costs, [], []⟩ : He.DefD).val)
def tl : List He.Defn := [("law", none)]
structure Says (h : Heap) (K : PySem.W.Frag) : Prop where
  d : He.SaysD fa fn K
  more : ex K = true
  hd : PySem.W.codeHdIn K (lawC K).1 (lawC K).2 = true
  out : K.lookup (lawC K).2 = none
  empty : h.get? (lawC K).2 = some noTab
  v : f1 K = v1
theorem says_of {h : Heap} (e : (He.obsD fa fn (KF h.get?), ex (KF h.get?) && He.tabsB h.get? tl (KF h.get?), f1 (KF h.get?)) = (He.valD fn, true, v1)) : Says h (KF h.get?) := by
  have e1 : He.obsD fa fn (KF h.get?) = He.valD fn := congrArg (fun z : He.AlD × Bool × W2 => z.1) e
  have e2 : (ex (KF h.get?) && He.tabsB h.get? tl (KF h.get?)) = true := congrArg (fun z : He.AlD × Bool × W2 => z.2.1) e
  have e3 : f1 (KF h.get?) = v1 := congrArg (fun z : He.AlD × Bool × W2 => z.2.2) e
  obtain ⟨h1, h2⟩ := He.ba e2
  obtain ⟨h3, h4⟩ := He.ba (List.all_eq_true.mp h2 ("law", none) List.mem_cons_self)
  cases q : h.get? (lawC (KF h.get?)).2 with
  | none =>
    have q' : h.get? (He.cT (KF h.get?) ("law", none)).2 = none := q
    rw [q'] at h4
    cases h4
  | some o =>
    have q' : h.get? (He.cT (KF h.get?) ("law", none)).2 = some o := q
    rw [q'] at h4
    exact ⟨e1, h1, h3, He.frT_none q h4, by rw [q, He.emptyTab_eq h4], e3⟩
def hook : PySem.W.Hook where
  α := He.AlD × Bool × W2
  obs := fun s => (He.obsD fa fn (KF s.heap.get?), ex (KF s.heap.get?) && He.tabsB s.heap.get? tl (KF s.heap.get?), f1 (KF s.heap.get?))
  val := fun _ => (He.valD fn, true, v1)
  says := fun _ h => ∃ K : PySem.W.Frag, K.In h ∧ Says h K
  of := fun _ _ e => ⟨_, He.frT_in, says_of e⟩
  keeps := fun _ _ _ ⟨K, hK, c⟩ k => ⟨K, PySem.W.Frag.In.keeps hK k, ⟨c.d, c.more, c.hd, c.out, k _ _ c.empty, c.v⟩⟩
def ob (s : PySem.W.SharedT) : He.AlD × Bool × W2 := (He.obsD fa fn (KF (HandSHeadRun.getT s)), ex (KF (HandSHeadRun.getT s)) && He.tabsB (HandSHeadRun.getT s) tl (KF (HandSHeadRun.getT s)), f1 (KF (HandSHeadRun.getT s)))
theorem ob_eq (s : PySem.W.SharedT) : ob s = hook.obs s.abs := by
  have e : HandSHeadRun.getT s = s.abs.heap.get? := funext (HandSHeadRun.getT_eq s)
  unfold ob
  rw [e]
  rfl
def lo : List Str := (["_wall", "LONGEST_WORD", "MOST_LETTERS", "is_integer", "is_between", "is_letters", "is_word", "InvalidLetters", "InvalidCost", "InvalidWord", "InvalidText", "GREATEST_COST", "SETTLED", "Order", "divisor_of", "few_costs"] : List Str) ++
  (["COSTS", "write_order", "read_order", "order_of", "_law_pen", "_law_draw", "_law_pick", "_law_shuffled", "_law_letters", "_law_letters_read", "_law_order_read", "_law_order_text", "_law_bent_line", "_law_line_met"] : List Str)
abbrev qv : Program := PySem.W.view R.prog [0, 36]
end K84

namespace K84
open PySem PySem.Spec PyProof.Rows L2 Ver Num
/-! ### the run, part by part -/
theorem run1 (w : World) : (HandSHeadRun.wholeF (fun p => HandSHeadRun.stepQ (HandSHeadRun.denQ HandSHeadRun.tabQ) p w) HandSHeadRun.fenceQ 8000 R.prog).map (fun x => HandSHeadRun.looksF R.prog x.1.heap x.2.abs) = some true := by
  kernel_rfl
theorem run2 (w : World) : (HandSHeadRun.wholeF (fun p => HandSHeadRun.stepQ (HandSHeadRun.denQ HandSHeadRun.tabQ) p w) HandSHeadRun.fenceQ 8000 R.prog).map (fun x => HandSHeadRun.seenQ qv lo (importedModules R.prog.main.body) (fun s => PySem.W.xlAt qv [] s && PySem.W.recOk R.toRowW.records s) x.2.abs) = some (PySem.W.openGood qv lo) := by
  kernel_rfl
theorem run3 (w : World) : (HandSHeadRun.wholeF (fun p => HandSHeadRun.stepQ (HandSHeadRun.denQ HandSHeadRun.tabQ) p w) HandSHeadRun.fenceQ 8000 R.prog).map (fun x => ((fa.all fun f => f.ok (KF (HandSHeadRun.getT x.2))) && fn.all fun d => d.ok (KF (HandSHeadRun.getT x.2)))) = some true := by
  kernel_rfl
theorem run4 (w : World) : (HandSHeadRun.wholeF (fun p => HandSHeadRun.stepQ (HandSHeadRun.denQ HandSHeadRun.tabQ) p w) HandSHeadRun.fenceQ 8000 R.prog).map (fun x => fn.map fun d => He.fnW (KF (HandSHeadRun.getT x.2)) d.at_) = some (fn.map He.DefD.val) := by
  kernel_rfl
theorem run5 (w : World) : (HandSHeadRun.wholeF (fun p => HandSHeadRun.stepQ (HandSHeadRun.denQ HandSHeadRun.tabQ) p w) HandSHeadRun.fenceQ 8000 R.prog).map (fun x => ex (KF (HandSHeadRun.getT x.2)) && He.tabsB (HandSHeadRun.getT x.2) tl (KF (HandSHeadRun.getT x.2))) = some true := by
  kernel_rfl
theorem run6 (w : World) : (HandSHeadRun.wholeF (fun p => HandSHeadRun.stepQ (HandSHeadRun.denQ HandSHeadRun.tabQ) p w) HandSHeadRun.fenceQ 8000 R.prog).map (fun x => f1 (KF (HandSHeadRun.getT x.2))) = some v1 := by
  kernel_rfl
theorem map6 {α β γ δ ε ζ η : Type} {o : Option α} {f : α → β} {g : α → γ} {h : α → δ} {i : α → ε} {j : α → ζ} {k : α → η} {a : β} {b : γ} {c : δ} {d : ε} {e : ζ} {e' : η} (h1 : o.map f = some a) (h2 : o.map g = some b) (h3 : o.map h = some c) (h4 : o.map i = some d) (h5 : o.map j = some e) (h6 : o.map k = some e') :
    o.map (fun x => (f x, g x, ((h x, i x), j x, k x))) = some (a, b, ((c, d), e, e')) := by
  cases o with
  | none => cases h1
  | some x =>
    have e1 : f x = a := Option.some.inj h1
    have e2 : g x = b := Option.some.inj h2
    have e3 : h x = c := Option.some.inj h3
    have e4 : i x = d := Option.some.inj h4
    have e5 : j x = e := Option.some.inj h5
    have e6 : k x = e' := Option.some.inj h6
    show some (f x, g x, ((h x, i x), j x, k x)) = some (a, b, ((c, d), e, e'))
    rw [e1, e2, e3, e4, e5, e6]
theorem run (w : World) : HandSHeadRun.RunEqI R qv hook ob 8000 lo w := map6 (run1 w) (run2 w) (run3 w) (run4 w) (run5 w) (run6 w)
end K84

namespace K84
open PySem PySem.Spec PyProof.Rows L2 Ver Num
/-! ### the pen: a dict of the script's cells, a place, a rest -/
def penL (c : Addr) (b l : Int) : List (Key × V) := [(.inr "cells", .ref c), (.inr "begun", .int b), (.inr "left", .int l)]
structure PenAt (H : Hp) (d : Addr) (k : Int) : Prop where
  ex : ∃ (c : Addr) (cells : List Int) (b l : Int), H d = some (.dK (penL c b l)) ∧ H c = some (.lst (cells.map V.int)) ∧ cells.length ≤ 63 ∧ 0 ≤ b ∧ b ≤ k ∧ 0 ≤ l
/-- all but what stands at d is kept; the pen's list of cells is the same object -/
def But (d : Addr) (H H' : Hp) : Prop := (∀ b o, H b = some o → b ≠ d → H' b = some o) ∧ ∀ c b l, H d = some (.dK (penL c b l)) → ∃ b' l', H' d = some (.dK (penL c b' l'))
theorem But.refl {d : Addr} {H : Hp} : But d H H := ⟨fun _ _ e _ => e, fun c b l e => ⟨b, l, e⟩⟩
theorem But.trans {d : Addr} {H H1 H2 : Hp} (a : But d H H1) (b : But d H1 H2) : But d H H2 := ⟨fun c o e n => b.1 c o (a.1 c o e n) n, fun c x l e => by
  obtain ⟨b1, l1, e1⟩ := a.2 c x l e
  exact b.2 c b1 l1 e1⟩
theorem But.same {d : Addr} {H H1 : Hp} (s : Same H H1) : But d H H1 := ⟨fun c o e _ => s c o e, fun c b l e => ⟨b, l, s _ _ e⟩⟩
theorem pen_inj {c c2 : Addr} {b b2 l l2 : Int} (h : penL c b l = penL c2 b2 l2) : c = c2 := by
  have h1 := (List.cons.inj h).1
  exact V.ref.inj (congrArg Prod.snd h1)
theorem but_up {d c : Addr} {H : Hp} {b l b' l' : Int} (h : H d = some (.dK (penL c b l))) : But d H (upd H d (.dK (penL c b' l'))) := ⟨fun b u e n => by rw [upd_ne n]; exact e, fun c2 b2 l2 e => by
  rw [h] at e
  have e2 : penL c b l = penL c2 b2 l2 := HO.dK.inj (Option.some.inj e)
  have ec := pen_inj e2
  subst ec
  exact ⟨b', l', upd_same⟩⟩
/-- the pen with its list of cells told -/
structure PenC (H : Hp) (d c : Addr) (k : Int) : Prop where
  ex : ∃ (cells : List Int) (b l : Int), H d = some (.dK (penL c b l)) ∧ H c = some (.lst (cells.map V.int)) ∧ cells.length ≤ 63 ∧ 0 ≤ b ∧ b ≤ k ∧ 0 ≤ l
theorem PenAt.c {H : Hp} {d : Addr} {k : Int} (p : PenAt H d k) : ∃ c, PenC H d c k := by
  obtain ⟨c, cells, b, l, h⟩ := p.ex
  exact ⟨c, cells, b, l, h⟩
theorem PenC.at_ {H : Hp} {d c : Addr} {k : Int} (p : PenC H d c k) : PenAt H d k := by
  obtain ⟨cells, b, l, h⟩ := p.ex
  exact ⟨c, cells, b, l, h⟩
theorem PenC.on {H H' : Hp} {d c : Addr} {k k' : Int} (p : PenC H d c k) (bt : But d H H') (q : PenAt H' d k') : PenC H' d c k' := by
  obtain ⟨cells, b, l, h1, _⟩ := p.ex
  obtain ⟨b1, l1, e1⟩ := bt.2 c b l h1
  obtain ⟨c2, cells2, b2, l2, g1, g⟩ := q.ex
  have e2 : penL c b1 l1 = penL c2 b2 l2 := HO.dK.inj (Option.some.inj (e1.symm.trans g1))
  have ec := pen_inj e2
  subst ec
  exact ⟨cells2, b2, l2, g1, g⟩
theorem PenC.up {H : Hp} {d c D : Addr} {k : Int} {o : HO} (p : PenC H d c k) (n1 : d ≠ D) (n2 : c ≠ D) : PenC (upd H D o) d c k := by
  obtain ⟨cells, b, l, h1, h2, h⟩ := p.ex
  exact ⟨cells, b, l, by rw [upd_ne n1]; exact h1, by rw [upd_ne n2]; exact h2, h⟩
theorem PenAt.same {H H' : Hp} {d : Addr} {k : Int} (p : PenAt H d k) (s : Same H H') : PenAt H' d k := by
  obtain ⟨c, cells, b, l, h1, h2, r⟩ := p.ex
  exact ⟨c, cells, b, l, s _ _ h1, s _ _ h2, r⟩
theorem PenAt.mono {H : Hp} {d : Addr} {j k : Int} (p : PenAt H d j) (h : j ≤ k) : PenAt H d k := by
  obtain ⟨c, cells, b, l, h1, h2, h3, h4, h5, h6⟩ := p.ex
  exact ⟨c, cells, b, l, h1, h2, h3, h4, by omega, h6⟩
theorem ks1 : ¬ (("cells" : Str) = "begun") := by decide +kernel
theorem ks2 : ¬ (("cells" : Str) = "left") := by decide +kernel
theorem ks3 : ¬ (("begun" : Str) = "left") := by decide +kernel
theorem nk {a b : Str} (h : ¬ a = b) : ¬ ((Sum.inr a : Key) = (Sum.inr b : Key)) := fun z => h (Sum.inr.inj z)
theorem pen_cells (c : Addr) (b l : Int) : valV (penL c b l) (.inr "cells") = some (.ref c) := valV_pos rfl
theorem pen_begun (c : Addr) (b l : Int) : valV (penL c b l) (.inr "begun") = some (.int b) := (valV_neg (nk ks1)).trans (valV_pos rfl)
theorem pen_left (c : Addr) (b l : Int) : valV (penL c b l) (.inr "left") = some (.int l) := (valV_neg (nk ks2)).trans ((valV_neg (nk ks3)).trans (valV_pos rfl))
theorem put_begun (c : Addr) (b l b' : Int) : putK (penL c b l) (.inr "begun") (.int b') = penL c b' l := by
  have n1 := nk ks1
  have n2 := nk (Ne.symm ks3)
  simp [putK, penL, n1, n2]
theorem put_left (c : Addr) (b l l' : Int) : putK (penL c b l) (.inr "left") (.int l') = penL c b l' := by
  have n1 := nk ks2
  have n2 := nk ks3
  simp [putK, penL, n1, n2]
theorem get_cells {H : Hp} {d c : Addr} {b l : Int} (h : H d = some (.dK (penL c b l))) : DGet H d (.str "cells") (some (.ref c)) := by
  have z := DGet.k (k := Sum.inr "cells") h
  rwa [pen_cells] at z
theorem get_begun {H : Hp} {d c : Addr} {b l : Int} (h : H d = some (.dK (penL c b l))) : DGet H d (.str "begun") (some (.int b)) := by
  have z := DGet.k (k := Sum.inr "begun") h
  rwa [pen_begun] at z
theorem get_left {H : Hp} {d c : Addr} {b l : Int} (h : H d = some (.dK (penL c b l))) : DGet H d (.str "left") (some (.int l)) := by
  have z := DGet.k (k := Sum.inr "left") h
  rwa [pen_left] at z
theorem dput_begun {H : Hp} {d c : Addr} {b l b' : Int} (h : H d = some (.dK (penL c b l))) : DPut H d (.str "begun") (.int b') (upd H d (.dK (penL c b' l))) := by
  have z := DPut.k (k := Sum.inr "begun") (v := .int b') h (by show 3 < sizeLine; decide)
  rwa [put_begun] at z
theorem dput_left {H : Hp} {d c : Addr} {b l l' : Int} (h : H d = some (.dK (penL c b l))) : DPut H d (.str "left") (.int l') (upd H d (.dK (penL c b l'))) := by
  have z := DPut.k (k := Sum.inr "left") (v := .int l') h (by show 3 < sizeLine; decide)
  rwa [put_left] at z
theorem merge_pen (c : Addr) (b l : Int) : mergeK [] (penL c b l) = penL c b l := by
  have n1 := nk ks1
  have n2 := nk ks2
  have n3 := nk ks3
  simp [mergeK, putK, penL, n1, n2, n3]
/-! ### lists of ints as data -/
theorem dp_ints {K : PySem.W.Frag} {H : Hp} : ∀ ns : List Int, DpAll K H (ns.map V.int) (ns.map PyData.int)
  | [] => .nil
  | n :: ns => .cons (.int n) (dp_ints ns)
theorem ints_depth : ∀ ns : List Int, PyData.depthAll (ns.map PyData.int) ≤ 1
  | [] => by simp [PyData.depthAll]
  | n :: ns => by
    have := ints_depth ns
    simp only [List.map_cons, PyData.depthAll, PyData.depth]
    omega
theorem ints_can : ∀ ns : List Int, PyData.canLayAll0 (ns.map PyData.int) = true
  | [] => by simp [PyData.canLayAll0]
  | n :: ns => by simp only [List.map_cons, PyData.canLayAll0, PyData.canLay0, ints_can ns, Bool.and_true]
theorem ints_shaped (ns : List Int) : SeqAt.shaped (.list (ns.map PyData.int)) = true := by
  unfold SeqAt.shaped
  have h1 := ints_depth ns
  have h2 := ints_can ns
  have e1 : (PyData.list (ns.map PyData.int)).canLay0 = true := by simp only [PyData.canLay0, h2]
  have e2 : (PyData.list (ns.map PyData.int)).depth ≤ 64 := by
    simp only [PyData.depth]
    omega
  rw [e1, decide_eq_true e2]
  rfl
theorem ints_empty : ∀ ns : List Int, PyData.eqv (.list (ns.map PyData.int)) (.list []) = decide (ns = [])
  | [] => by simp [PyData.eqv, PyData.eqvAll]
  | n :: ns => by simp [PyData.eqv, PyData.eqvAll]
end K84

namespace K84
open PySem PySem.Spec PyProof.Rows L2 Ver Num
section
variable {P : Program} {w : World} {K : PySem.W.Frag} {mg : Str → Option Value} {base : Heap}
/-! ### _law_pen -/
theorem cut_ints (ns : List Int) (lo hi : Option Int) : cutV (ns.map V.int) lo hi = ((ns.drop (HT.sIx ns.length 0 lo)).take (HT.sIx ns.length ns.length hi - HT.sIx ns.length 0 lo)).map V.int := by
  unfold cutV
  rw [List.length_map, List.map_take, List.map_drop]
def spPen (K : PySem.W.Frag) : Sp := fun vs H Q _ => ∃ (a : Addr) (ns : List Int), vs = [.ref a] ∧ SqL K H a (ns.map V.int) ∧ ns.length ≤ 63 ∧ ∀ (d : Addr) (H' : Hp), Same H H' → H d = none → PenAt H' d 0 → Q (.ref d) H'
theorem ok_pen (T : Tx K mg) : FnG P w K mg base CX0 1 (He.ga K "_law_pen") (spPen K) := by
  refine mk__law_pen T.d (fun vs H Q E h => ?_) (fun cdv A outer s H vs Q E hg hr h => ?_)
  · obtain ⟨a, ns, rfl, _⟩ := h
    rfl
  · obtain ⟨a, ns, rfl, hs, hl, q⟩ := h
    refine ⟨_, pss_one (ps_ret (pe_disp (pps_cons pe_str (pe_callTy call_list_of (by rfl) (T.z "list" (by decide +kernel)) (by decide +kernel) (pa_cons (pe_slice sl_list (pv 0) po_none (po_some pe_int)) pa_nil))
      (pps_cons pe_str pe_int (pps_cons pe_str pe_int pps_nil))) (by rfl) (by rfl) (fun z => by cases z) (by decide))), ?_⟩
    intro d nd
    have s0 := same_up (o := .dK []) nd
    refine ⟨_, rfl, 63, rfl, a, _, rfl, s0.seq hs, fun m nm => ?_⟩
    have s1 := same_up (o := .lst (cutV (ns.map V.int) none (some 63))) nm
    refine ⟨m, _, rfl, .inl (.inl (.inl upd_same)), fun c nc => ?_⟩
    have s2 := same_up (o := .lst (cutV (ns.map V.int) none (some 63))) nc
    have sa := (s0.trans s1).trans s2
    have dd : H d = none := nd
    have dm : d ≠ m := ne_of_none upd_same nm
    have dc : d ≠ c := fun z => by
      rw [← z, upd_ne dm, upd_same] at nc
      cases nc
    refine ⟨?_, penL c 0 0, rfl, by show 3 ≤ 15; decide, ?_⟩
    · rw [upd_ne dc, upd_ne dm, upd_same]
    · rw [merge_pen]
      refine q d _ (fun b o e => ?_) nd ⟨c, (ns.drop (HT.sIx ns.length 0 none)).take (HT.sIx ns.length ns.length (some 63) - HT.sIx ns.length 0 none), 0, 0, upd_same, ?_, ?_, by omega, by omega, by omega⟩
      · rw [upd_ne (ne_of_none e nd)]
        exact sa _ _ e
      · rw [upd_ne (Ne.symm dc), upd_same, cut_ints]
      · rw [List.length_take, List.length_drop]
        omega
/-! ### _law_draw -/
theorem em1 {X m : Int} (h : 0 < m) (h2 : m ≤ 2 ^ 64) : -(2 ^ 64) < X % m ∧ X % m < 2 ^ 64 := by
  have a := Int.emod_nonneg X (show m ≠ 0 by omega)
  have b := Int.emod_lt_of_pos X h
  omega
def spDraw : Sp := fun vs H Q _ => ∃ (d : Addr) (k n : Int), vs = [.ref d, .int n] ∧ PenAt H d k ∧ k < 1000000000000 ∧ 0 < n ∧ n < 1073741824 ∧
  ∀ (i : Int) (H' : Hp), But d H H' → PenAt H' d (k + 1) → 0 ≤ i → i < n → Q (.int i) H'
theorem ok_draw (T : Tx K mg) : FnG P w K mg base CX0 1 (He.ga K "_law_draw") spDraw := by
  refine mk__law_draw T.d (fun vs H Q E h => ?_) (fun cdv A outer s H vs Q E hg hr h => ?_)
  · obtain ⟨d, k, n, rfl, _⟩ := h
    rfl
  · obtain ⟨d, k, n, rfl, pen, k9, n0, n9, q⟩ := h
    have hu := hu_of hr
    have nd := sc__law_draw.nd
    have zi := T.z "int" (by decide +kernel)
    have zl := T.z "len" (by decide +kernel)
    have za := T.z "abs" (by decide +kernel)
    have bi : bootBuiltins "int" = some (.type "int") := by decide +kernel
    have bl : bootBuiltins "len" = some (.builtin "len") := by decide +kernel
    have ba : bootBuiltins "abs" = some (.builtin "abs") := by decide +kernel
    obtain ⟨c, cells, b, l, hd, hc, cl, b0, bk, l0⟩ := pen.ex
    have dc : d ≠ c := ne_of hd hc (by intro z; cases z)
    refine ⟨_, pss_cons (ps_if (pt_cmpR op_gt (pe_dget hu (pv 0) pe_str (fun _ _ => rfl)) pe_int (nomark _))
        (pss_cons (ps_set (i := 2) nd rfl (Or.inl rfl) (pe_op op_mod (pe_callTy call_int1 (by rfl) zi bi (pa_cons (pe_dget hu (pv 0) pe_str (fun _ _ => rfl)) pa_nil)) (pv 1)))
        (pss_cons (ps_dput hu (pv 0) pe_str (pe_op op_fdiv (pe_dget hu (pv 0) pe_str (fun _ _ => rfl)) (pv 1)) rfl)
        (pss_one (ps_ret (pv 2))))) pss_nil)
      (pss_cons (ps_set (i := 3) nd rfl (Or.inl rfl) (pe_dget hu (pv 0) pe_str (fun _ _ => rfl)))
      (pss_cons (ps_dput hu (pv 0) pe_str (pe_op op_add (pv 3) pe_int) rfl)
      (pss_cons (ps_set (i := 4) nd rfl (Or.inl rfl) (pe_op op_add (pe_op op_mul pe_int (pv 3)) pe_int))
      (pss_cons (ps_if (pt_cmpR (op_neD hr.units) (pe_dget hu (pv 0) pe_str (fun _ _ => rfl)) (pe_lst pa_nil) (nomark _))
        (pss_one (ps_set (i := 4) nd rfl (Or.inl rfl) (pe_ix ix_list (pe_dget hu (pv 0) pe_str (fun _ _ => rfl))
          (pe_op op_mod (pe_callTy call_int1 (by rfl) zi bi (pa_cons (pv 3) pa_nil)) (pe_callB call_len_seq (by rfl) zl bl (pa_cons (pe_dget hu (pv 0) pe_str (fun _ _ => rfl)) pa_nil))) (fun _ _ => rfl)))) pss_nil)
      (pss_cons (ps_if (PW.pt (pw_and (pt_cmpR op_lt (pv 3) (pe_callB call_len_seq (by rfl) zl bl (pa_cons (pe_dget hu (pv 0) pe_str (fun _ _ => rfl)) pa_nil)) (nomark _))
          (pw_and1 (pt_cmpR op_ge (pe_callB call_abs (by rfl) za ba (pa_cons (pv 4) pa_nil)) (pe_op op_pow pe_int pe_int) (nomark _)))))
        (pss_cons (ps_dput hu (pv 0) pe_str (pe_op op_fdiv (pe_op op_sub (pe_callB call_abs (by rfl) za ba (pa_cons (pv 4) pa_nil)) (pe_op op_pow pe_int pe_int)) (pv 1)) rfl)
        (pss_one (ps_ret (pe_op op_mod (pe_callTy call_int1 (by rfl) zi bi (pa_cons (pe_op op_sub (pe_callB call_abs (by rfl) za ba (pa_cons (pv 4) pa_nil)) (pe_op op_pow pe_int pe_int)) pa_nil)) (pv 1))))) pss_nil)
      (pss_cons (ps_set (i := 5) nd rfl (Or.inl rfl) (pe_op op_mul (pe_op op_mod (pe_callTy call_int1 (by rfl) zi bi (pa_cons (pv 4) pa_nil)) pe_int) pe_int))
      (pss_cons (ps_set (i := 6) nd rfl (Or.inl rfl) (pe_op op_mod (pe_callTy call_int1 (by rfl) zi bi (pa_cons (pe_op op_add (pe_op op_add (pv 5) (pe_op op_mul (pv 3) (pe_op op_add (pe_op op_mul pe_int (pv 3)) pe_int))) pe_int) pa_nil)) pe_int))
      (pss_cons (ps_set (i := 6) nd rfl (Or.inl rfl) (pe_op op_mod (pe_callTy call_int1 (by rfl) zi bi (pa_cons (pe_op op_add (pe_op op_add (pe_op op_add (pe_op op_mul (pv 6) (pv 6)) (pe_op op_mul pe_int (pv 6))) (pe_op op_mul pe_int (pv 3))) pe_int) pa_nil)) pe_int))
      (pss_one (ps_ret (pe_op op_mod (pe_callTy call_int1 (by rfl) zi bi (pa_cons (pe_op op_fdiv (pe_op op_mod (pe_callTy call_int1 (by rfl) zi bi (pa_cons (pe_op op_mul (pv 6) (pe_op op_add (pv 6) pe_int)) pa_nil)) pe_int) pe_int) pa_nil)) (pv 1)))))))))))), ?_⟩
    refine ⟨_, rfl, d, _, rfl, get_left hd, _, _, rfl, rfl, _, rfl, ?_⟩
    refine ite2 (fun hz => ?_) (fun hz => ?_)
    · -- the rest of a great cell
      refine ⟨_, rfl, d, _, rfl, get_left hd, .inl ⟨_, rfl, _, rfl, _, _, rfl, rfl, (by show 0 < n; omega), ?_⟩⟩
      refine ⟨_, rfl, d, _, rfl, get_left hd, _, rfl, _, _, rfl, rfl, ⟨by show 0 < n; omega, by show n < 1073741824; omega⟩, _, rfl, d, _, rfl, dput_left hd, ?_⟩
      refine ⟨_, rfl, q _ _ (but_up hd) ⟨c, cells, b, l / n, upd_same, by rw [upd_ne (Ne.symm dc)]; exact hc, cl, b0, by omega, Int.ediv_nonneg l0 (by omega)⟩ (Int.emod_nonneg _ (by omega)) (Int.emod_lt_of_pos _ n0)⟩
    · -- a new cell
      have hd1 : (upd H d (.dK (penL c (b + 1) l))) d = some (.dK (penL c (b + 1) l)) := upd_same
      have hc1 : (upd H d (.dK (penL c (b + 1) l))) c = some (.lst (cells.map V.int)) := by rw [upd_ne (Ne.symm dc)]; exact hc
      refine ⟨_, rfl, d, _, rfl, get_begun hd, ?_⟩
      refine ⟨_, rfl, _, _, rfl, rfl, _, rfl, d, _, rfl, dput_begun hd, ?_⟩
      refine ⟨_, rfl, _, _, rfl, rfl, .inl ⟨by decide, by decide⟩, _, _, rfl, rfl, ?_⟩
      refine ⟨_, rfl, d, _, rfl, get_cells hd1, Nat.zero_le _, fun z nz => ?_⟩
      have sz := same_up (o := .lst []) nz
      have hd2 := sz _ _ hd1
      have hc2 := sz _ _ hc1
      have bt : But d H (upd (upd H d (.dK (penL c (b + 1) l))) z (.lst [])) := (but_up hd).trans (But.same sz)
      refine ⟨.list (cells.map PyData.int), .list [], .lst (SqL.of hc2) (dp_ints cells), .lst (SqL.of upd_same) .nil, ints_shaped cells, ints_shaped [], _, rfl, ?_⟩
      rw [ints_empty]
      generalize upd (upd H d (.dK (penL c (b + 1) l))) z (.lst []) = H2 at hd2 hc2 bt
      have pen2 : ∀ l' : Int, 0 ≤ l' → PenAt (upd H2 d (.dK (penL c (b + 1) l'))) d (k + 1) := fun l' z0 => ⟨c, cells, b + 1, l', upd_same, by rw [upd_ne (Ne.symm dc)]; exact hc2, cl, by omega, by omega, z0⟩
      have pen0 : PenAt H2 d (k + 1) := ⟨c, cells, b + 1, l, hd2, hc2, cl, by omega, by omega, l0⟩
      by_cases he : cells = []
      all_goals
        first
        | (refine ifF (by rw [decide_eq_true he]; rfl) ?_)
        | (have hlen : 0 < (cells.map V.int).length := by
            rw [List.length_map]
            exact List.length_pos_iff.mpr he
           have hm0 := Int.emod_nonneg b (show (((cells.map V.int).length : Nat) : Int) ≠ 0 by omega)
           have hm1 := Int.emod_lt_of_pos b (show (0 : Int) < (((cells.map V.int).length : Nat) : Int) by omega)
           obtain ⟨j, hj⟩ : ∃ j : Nat, b % (((cells.map V.int).length : Nat) : Int) = (j : Int) := ⟨(b % (((cells.map V.int).length : Nat) : Int)).toNat, by omega⟩
           have jl : j < cells.length := by
            rw [hj, List.length_map] at hm1
            omega
           have hat : atI (cells.map V.int) (b % (((cells.map V.int).length : Nat) : Int)) = some (V.int cells[j]) := by
            rw [hj]
            exact atI_nat (by rw [List.getElem?_map, List.getElem?_eq_getElem jl]; rfl)
           refine ifT (by rw [decide_eq_false he]; rfl) ?_
           refine ⟨_, rfl, d, _, rfl, get_cells hd2, _, rfl, .inl ⟨_, rfl, _, rfl, d, _, rfl, get_cells hd2, c, _, rfl, .inl (SqL.of hc2), _, _, rfl, rfl, (by show (0 : Int) < (((cells.map V.int).length : Nat) : Int); omega), c, _, _, _, rfl, rfl, SqL.of hc2, hat, ?_⟩⟩)
        refine ⟨_, rfl, _, rfl, d, _, rfl, get_cells hd2, c, _, rfl, .inl (SqL.of hc2), _, _, rfl, rfl, _, rfl, ?_⟩
        refine ite2 (fun h1 => ?_) (fun h1 => iteF ?_)
        all_goals
          first
          | (refine ⟨_, rfl, _, rfl, _, _, rfl, rfl, ⟨by decide, by decide, by decide⟩, _, _, rfl, rfl, _, rfl, ?_⟩
             refine ite2 (fun h2 => ?_) (fun h2 => ?_))
          | skip
        all_goals
          first
          | (have h3 := of_decide_eq_true h2
             refine ⟨_, rfl, _, rfl, _, _, rfl, rfl, ⟨by decide, by decide, by decide⟩, _, _, rfl, rfl, _, rfl, _, _, rfl, rfl, ⟨by show 0 < n; omega, by show n < 1073741824; omega⟩, _, rfl, d, _, rfl, dput_left hd2, ?_⟩
             refine ⟨_, rfl, _, rfl, _, _, rfl, rfl, ⟨by decide, by decide, by decide⟩, _, _, rfl, rfl, .inl ⟨_, rfl, _, rfl, _, _, rfl, rfl, (by show 0 < n; omega), ?_⟩⟩
             exact q _ _ (bt.trans (but_up hd2)) (pen2 _ (Int.ediv_nonneg (Int.sub_nonneg.mpr h3) (by omega))) (Int.emod_nonneg _ (by omega)) (Int.emod_lt_of_pos _ n0))
          | (refine ⟨_, rfl, .inl ⟨_, rfl, _, _, rfl, rfl, (by show (0 : Int) < 4294967197; decide), _, _, rfl, rfl, .inr ⟨by decide, by decide⟩, ?_⟩⟩
             refine ⟨_, rfl, _, rfl, _, rfl, _, _, rfl, rfl, .inl ⟨by decide, by decide⟩, _, _, rfl, rfl, _, _, rfl, rfl, .inl ⟨by show -(2 ^ 64) < b; omega, by show b < 2 ^ 64; omega⟩, _, _, rfl, rfl, _, _, rfl, rfl, .inl ⟨_, rfl, _, _, rfl, rfl, (by show (0 : Int) < 4294967189; decide), ?_⟩⟩
             refine ⟨_, rfl, _, rfl, _, _, rfl, rfl, .inl (em1 (by decide) (by decide)), _, rfl, _, _, rfl, rfl, .inl ⟨by decide, by decide⟩, _, _, rfl, rfl, _, rfl, _, _, rfl, rfl, .inl ⟨by decide, by decide⟩, _, _, rfl, rfl, _, _, rfl, rfl, .inl ⟨_, rfl, _, _, rfl, rfl, (by show (0 : Int) < 4294967161; decide), ?_⟩⟩
             refine ⟨_, rfl, _, rfl, _, _, rfl, rfl, _, _, rfl, rfl, .inl (em1 (by decide) (by decide)), .inl ⟨_, rfl, _, _, rfl, rfl, (by show (0 : Int) < 4294967143; decide), _, _, rfl, rfl, ⟨by decide, by decide⟩, .inl ⟨_, rfl, _, rfl, _, _, rfl, rfl, (by show 0 < n; omega), ?_⟩⟩⟩
             exact q _ _ bt pen0 (Int.emod_nonneg _ (by omega)) (Int.emod_lt_of_pos _ n0))
end
end K84

namespace K84
open PySem PySem.Spec PyProof.Rows L2 Ver Num
section
variable {P : Program} {w : World} {K : PySem.W.Frag} {mg : Str → Option Value} {base : Heap}
theorem pen_ne {H : Hp} {d a : Addr} {k : Int} {xs : List V} (p : PenAt H d k) (h : H a = some (.lst xs)) : a ≠ d := by
  obtain ⟨c, cells, b, l, h1, _⟩ := p.ex
  exact ne_of h h1 (by intro z; cases z)
/-! ### _law_pick, _law_prime, _law_number -/
def spPick : Sp := fun vs H Q _ => ∃ (d a : Addr) (k : Int) (xs : List V), vs = [.ref d, .ref a] ∧ PenAt H d k ∧ k < 1000000000000 ∧ H a = some (.lst xs) ∧ 0 < xs.length ∧ xs.length < 1000 ∧
  ∀ (x : V) (H' : Hp), x ∈ xs → But d H H' → PenAt H' d (k + 1) → Q x H'
theorem ok_pick (T : Tx K mg) : FnG P w K mg base CX0 2 (He.ga K "_law_pick") spPick := by
  refine mk__law_pick T.d (fun vs H Q E h => ?_) (fun cdv A outer s H vs Q E hg hr h => ?_)
  · obtain ⟨d, a, k, xs, rfl, _⟩ := h
    rfl
  · obtain ⟨d, a, k, xs, rfl, pen, k9, ha, l0, l9, q⟩ := h
    refine ⟨_, pss_one (ps_ret (pe_ix ix_list (pv 1) (pe_callG (ok_draw T) hr hg (by rfl) (T.g "_law_draw" (by decide +kernel)) (kp__law_draw T.d) pass0
      (pa_cons (pv 0) (pa_cons (pe_callB call_len_seq (by rfl) (T.z "len" (by decide +kernel)) (by decide +kernel) (pa_cons (pv 1) pa_nil)) pa_nil))) (fun _ _ => rfl))), ?_⟩
    refine ⟨_, rfl, _, rfl, _, rfl, a, xs, rfl, .inl (SqL.of ha), d, k, _, rfl, pen, k9, by omega, by omega, fun i H1 bt pen1 i0 i1 => ?_⟩
    have ha1 := bt.1 a _ ha (pen_ne pen ha)
    obtain ⟨j, rfl⟩ : ∃ j : Nat, i = (j : Int) := ⟨i.toNat, by omega⟩
    have jl : j < xs.length := by omega
    refine ⟨a, xs, _, xs[j], rfl, rfl, SqL.of ha1, atI_nat (List.getElem?_eq_getElem jl), q _ H1 (List.getElem_mem jl) bt pen1⟩
end
end K84

namespace Ver
open PySem PySem.Spec PyProof.Rows L2
section
variable {X : Cx}
/-! ### == and != and in of data without dicts, any texts -/
def rEqP (K : PySem.W.Frag) : R2 := fun x y H Q => ∃ d e, Do K H x d ∧ Do K H y e ∧ d.plain = true ∧ e.plain = true ∧ d.depth ≤ 64 ∧ Q (.bl (PyData.eqv d e)) H
def rNeP (K : PySem.W.Frag) : R2 := fun x y H Q => ∃ d e, Do K H x d ∧ Do K H y e ∧ d.plain = true ∧ e.plain = true ∧ d.depth ≤ 64 ∧ Q (.bl (!PyData.eqv d e)) H
theorem op_eqP (sm : Sm X.K) (hu : X.A.units + 64 < cLine) : OpR X (compareOp .Eq) (rEqP X.K) := by
  intro pins s σ H x y v u Q I rx ry h
  obtain ⟨d, e, hd, he, sd, se, dd, q⟩ := h
  obtain ⟨as, r1, _⟩ := Do.reads sm I d x v hd rx
  obtain ⟨bs, r2, _⟩ := Do.reads sm I e y u he ry
  exact SeqAt.eq_plain r1 r2 sd se (by omega) ⟨.bl _, H, I, rfl, q⟩
theorem op_neP (sm : Sm X.K) (hu : X.A.units + 64 < cLine) : OpR X (compareOp .NotEq) (rNeP X.K) := by
  intro pins s σ H x y v u Q I rx ry h
  obtain ⟨d, e, hd, he, sd, se, dd, q⟩ := h
  obtain ⟨as, r1, _⟩ := Do.reads sm I d x v hd rx
  obtain ⟨bs, r2, _⟩ := Do.reads sm I e y u he ry
  exact SeqAt.ne_plain r1 r2 sd se (by omega) ⟨.bl _, H, I, rfl, q⟩
end
end Ver
namespace K84
open PySem PySem.Spec PyProof.Rows L2 Ver Num
/-! ### lists of texts and ints -/
def flatD : V → Option PyData
  | .int i => some (.int i)
  | .str s => some (.str s)
  | _ => none
def FlatL (xs : List V) : Prop := ∀ x ∈ xs, (flatD x).isSome = true
def datL (xs : List V) : List PyData := xs.filterMap flatD
theorem flat_int (ns : List Int) : FlatL (ns.map V.int) := fun x hx => by
  obtain ⟨i, _, rfl⟩ := List.mem_map.mp hx
  rfl
theorem flat_str (ss : List Str) : FlatL (ss.map V.str) := fun x hx => by
  obtain ⟨i, _, rfl⟩ := List.mem_map.mp hx
  rfl
theorem datL_cons {x : V} {xs : List V} (h : FlatL (x :: xs)) : ∃ d, flatD x = some d ∧ datL (x :: xs) = d :: datL xs ∧ d.plain = true ∧ d.depth = 0 ∧ ∀ {K : PySem.W.Frag} {H : Hp}, Do K H x d := by
  have hx := h x List.mem_cons_self
  cases x with
  | int i => exact ⟨.int i, rfl, rfl, rfl, by simp [PyData.depth], fun {K H} => .int i⟩
  | str s => exact ⟨.str s, rfl, rfl, rfl, by simp [PyData.depth], fun {K H} => .str s⟩
  | _ => cases hx
theorem flat_tail {x : V} {xs : List V} (h : FlatL (x :: xs)) : FlatL xs := fun y hy => h y (List.mem_cons_of_mem _ hy)
theorem do_flat {K : PySem.W.Frag} {H : Hp} : ∀ {xs : List V}, FlatL xs → DoAll K H xs (datL xs)
  | [], _ => .nil
  | x :: xs, h => by
    obtain ⟨d, _, e, _, _, hd⟩ := datL_cons h
    rw [e]
    exact .cons hd (do_flat (flat_tail h))
theorem plain_flat : ∀ {xs : List V}, FlatL xs → PyData.plainAll (datL xs) = true
  | [], _ => rfl
  | x :: xs, h => by
    obtain ⟨d, _, e, p, _, _⟩ := datL_cons h
    rw [e]
    show (d.plain && PyData.plainAll (datL xs)) = true
    rw [p, plain_flat (flat_tail h)]
    rfl
theorem depth_flat : ∀ {xs : List V}, FlatL xs → PyData.depthAll (datL xs) ≤ 1
  | [], _ => by simp [datL, PyData.depthAll]
  | x :: xs, h => by
    obtain ⟨d, _, e, _, z, _⟩ := datL_cons h
    have := depth_flat (flat_tail h)
    rw [e]
    simp only [PyData.depthAll]
    omega
theorem eqv_flat {xs : List V} (h : FlatL xs) : PyData.eqv (.list (datL xs)) (.list []) = xs.isEmpty := by
  cases xs with
  | nil => exact SeqAt.eqv_refl_plain _ rfl
  | cons x xs =>
    obtain ⟨d, _, e, _⟩ := datL_cons h
    rw [e]
    simp [PyData.eqv, PyData.eqvAll]
theorem flat_erase {xs : List V} (h : FlatL xs) (k : Nat) : FlatL (xs.eraseIdx k) := fun x hx => h x (List.mem_of_mem_eraseIdx hx)
theorem perm_erase {α : Type} : ∀ {xs : List α} {k : Nat} {y : α}, xs[k]? = some y → (y :: xs.eraseIdx k).Perm xs
  | x :: xs, 0, y, h => by
    cases h
    exact List.Perm.refl _
  | x :: xs, k + 1, y, h => by
    have ih := perm_erase (xs := xs) (k := k) (y := y) h
    rw [List.eraseIdx_cons_succ]
    exact (List.Perm.swap x y _).trans (ih.cons x)
  | [], k, y, h => by simp at h
theorem seq_at {i : Int} {n : Nat} (h0 : 0 ≤ i) (h1 : i < (n : Int)) : seqIndex? i n = some i.toNat := by
  unfold seqIndex?
  simp
  omega
section
variable {P : Program} {w : World} {K : PySem.W.Frag} {mg : Str → Option Value} {base : Heap}
theorem PenC.same {H H' : Hp} {d c : Addr} {k : Int} (p : PenC H d c k) (s : Same H H') : PenC H' d c k := p.on (But.same s) (p.at_.same s)
theorem PenC.mono {H : Hp} {d c : Addr} {j k : Int} (p : PenC H d c j) (h : j ≤ k) : PenC H d c k := by
  obtain ⟨cells, b, l, h1, h2, h3, h4, h5, h6⟩ := p.ex
  exact ⟨cells, b, l, h1, h2, h3, h4, by omega, h6⟩
theorem But.up {d D : Addr} {H H' : Hp} {o : HO} (b : But d H H') (n : H D = none) (nd : d ≠ D) : But d H (upd H' D o) :=
  ⟨fun x u e ne => by rw [upd_ne (ne_of_none e n)]; exact b.1 x u e ne, fun c b0 l e => by
    obtain ⟨b', l', e'⟩ := b.2 c b0 l e
    exact ⟨b', l', by rw [upd_ne nd]; exact e'⟩⟩
/-! ### _law_shuffled -/
def spShuf (K : PySem.W.Frag) : Sp := fun vs H Q _ => ∃ (d a : Addr) (k : Int) (xs : List V), vs = [.ref d, .ref a] ∧ PenAt H d k ∧ k < 1000000000 ∧ SqL K H a xs ∧ FlatL xs ∧ xs.length ≤ 100 ∧
  ∀ (p : Addr) (ys : List V) (H' : Hp), ys.Perm xs → H' p = some (.lst ys) → But d H H' → PenAt H' d (k + (xs.length : Int)) → Q (.ref p) H'
theorem ok_shuf (T : Tx K mg) : FnG P w K mg base CX0 2 (He.ga K "_law_shuffled") (spShuf K) := by
  refine mk__law_shuffled T.d (fun vs H Q E h => ?_) (fun cdv A outer s H vs Q E hg hr h => ?_)
  · obtain ⟨d, a, k, xs, rfl, _⟩ := h
    rfl
  · obtain ⟨d, a, k, xs, rfl, pen, k9, ha, fx, lx, q⟩ := h
    have nd := sc__law_shuffled.nd
    have hu := hr.units
    refine ⟨_, pss_cons (ps_par (i := 2) (j := 3) rfl nd rfl rfl (by decide) rfl rfl (pa_cons (pe_callTy call_list_of (by rfl) (T.z "list" (by decide +kernel)) (by decide +kernel) (pa_cons (pv 1) pa_nil)) (pa_cons (pe_lst pa_nil) pa_nil)) rfl)
      (pss_cons (ps_while PassesOwn.never (pt_cmpR (op_neP T.sm hu) (pv 2) (pe_lst pa_nil) (nomark _))
        (pss_one (ps_expr (pe_bm PySem.F.plainAttrs_list PySem.F.slot_list_append PySem.F.type_list_append mt_append (pv 3) (pa_cons
          (pe_bm PySem.F.plainAttrs_list PySem.F.slot_list_pop PySem.F.type_list_pop mt_popAt (pv 2) (pa_cons (pe_callG (ok_draw T) hr hg (by rfl) (T.g "_law_draw" (by decide +kernel)) (kp__law_draw T.d) pass0
            (pa_cons (pv 0) (pa_cons (pe_callB call_len_seq (by rfl) (T.z "len" (by decide +kernel)) (by decide +kernel) (pa_cons (pv 2) pa_nil)) pa_nil))) pa_nil)) pa_nil)))))
      (pss_one (ps_ret (pv 3)))), ?_⟩
    refine ⟨_, rfl, a, xs, rfl, .inl ha, fun r nr => ⟨by show 0 ≤ sizeLine; decide, fun f nf => ⟨_, _, rfl, ?_⟩⟩⟩
    obtain ⟨c, penC⟩ := pen.c
    obtain ⟨cells, b0, l0, hd, hc, _⟩ := id penC.ex
    have s1 := same_up (o := .lst xs) nr
    have s2 := same_up (o := .lst []) nf
    have dr : d ≠ r := ne_of_none hd nr
    have cr : c ≠ r := ne_of_none hc nr
    have nf0 : H f = none := by
      cases e : H f with
      | none => rfl
      | some o =>
        have := s1 _ _ e
        rw [nf] at this
        cases this
    have df : d ≠ f := ne_of_none hd nf0
    have cf : c ≠ f := ne_of_none hc nf0
    have rf : r ≠ f := ne_of_none (upd_same (a := r)) nf
    refine ⟨fun n σ H' => ∃ (xs' ys : List V), n = xs'.length ∧ H' r = some (.lst xs') ∧ H' f = some (.lst ys) ∧ FlatL xs' ∧ (ys ++ xs').Perm xs ∧ But d H H' ∧ PenC H' d c (k + (ys.length : Int)) ∧ σ = [some (.ref d), some (.ref a), some (.ref r), some (.ref f)],
      ⟨xs.length, xs, [], rfl, s2 _ _ upd_same, upd_same, fx, List.Perm.refl _, But.same (s1.trans s2), PenC.mono (PenC.same penC (s1.trans s2)) (by simp), rfl⟩, ?_⟩
    rintro n σ H' ⟨xs', ys, rfl, hr', hf', fx', pm, bt, pc, rfl⟩
    refine ⟨_, rfl, by show 0 ≤ sizeLine; decide, fun z nz => ?_⟩
    have s3 := same_up (o := .lst []) nz
    have dep := depth_flat fx'
    refine ⟨.list (datL xs'), .list [], .lst (SqL.of (s3 _ _ hr')) (do_flat fx'), .lst (SqL.of upd_same) .nil, by show PyData.plainAll _ = true; exact plain_flat fx', rfl, by simp only [PyData.depth]; omega, _, rfl, ?_⟩
    rw [eqv_flat fx']
    cases xs' with
    | nil =>
      refine ifF rfl ⟨_, rfl, ?_⟩
      rw [List.append_nil] at pm
      exact q f ys _ pm (s3 _ _ hf') (bt.trans (But.same s3)) (((PenC.same pc s3).at_).mono (by rw [pm.length_eq]; omega))
    | cons x0 xr =>
      refine ifT rfl ?_
      have hr3 := s3 _ _ hr'
      have hf3 := s3 _ _ hf'
      have lxs := pm.length_eq
      rw [List.length_append, List.length_cons] at lxs
      refine ⟨fun σ' H'' => ∃ (xs2 ys2 : List V), xs2.length < (x0 :: xr).length ∧ H'' r = some (.lst xs2) ∧ H'' f = some (.lst ys2) ∧ FlatL xs2 ∧ (ys2 ++ xs2).Perm xs ∧ But d H H'' ∧ PenC H'' d c (k + (ys2.length : Int)) ∧ σ' = [some (.ref d), some (.ref a), some (.ref r), some (.ref f)], ?_, ?_⟩
      · rintro σ' H'' ⟨xs2, ys2, hlt, e1, e2, e3, e4, e5, e6, e7⟩
        exact ⟨_, hlt, xs2, ys2, rfl, e1, e2, e3, e4, e5, e6, e7⟩
      · refine ⟨_, rfl, .inl ⟨rfl, _, SqL.of hf3⟩, ?_⟩
        refine ⟨_, rfl, .inl ⟨rfl, _, SqL.of hr3⟩, ?_⟩
        refine ⟨_, rfl, _, rfl, r, _, rfl, .inl (SqL.of hr3), ?_⟩
        have pc3 := PenC.same pc s3
        refine ⟨d, _, _, rfl, pc3.at_, by omega, by rw [List.length_cons]; omega, by rw [List.length_cons]; omega, fun i H4 bt4 pen4 i0 i1 => ?_⟩
        have pc4 := pc3.on bt4 pen4
        have hr4 := bt4.1 r _ hr3 (Ne.symm dr)
        have hf4 := bt4.1 f _ hf3 (Ne.symm df)
        obtain ⟨y, hy⟩ : ∃ y, (x0 :: xr)[i.toNat]? = some y := ⟨_, List.getElem?_eq_getElem (by omega)⟩
        refine ⟨r, x0 :: xr, i, i.toNat, y, rfl, rfl, hr4, by omega, by rw [List.length_cons] at i1; omega, seq_at i0 i1, hy, ?_⟩
        refine ⟨f, ys, y, rfl, rfl, by rw [upd_ne (Ne.symm rf)]; exact hf4, by rw [sizeLine_eq]; omega, ?_⟩
        have pm2 : ((ys ++ [y]) ++ (x0 :: xr).eraseIdx i.toNat).Perm xs := by
          rw [List.append_assoc]
          exact ((perm_erase hy).append_left ys).trans pm
        have le := pm2.length_eq
        rw [List.length_append, List.length_append] at le
        have l1 : [y].length = 1 := rfl
        refine ⟨_, _, ?_, by rw [upd_ne rf, upd_same], upd_same, flat_erase fx' _, pm2, ?_, ?_, rfl⟩
        · rw [List.length_cons]
          omega
        · exact ((bt.trans (But.same s3)).trans bt4 |>.up (by exact nr) dr).up nf0 df
        · exact PenC.mono ((pc4.up dr cr).up df cf) (by rw [List.length_append]; omega)
end
end K84

namespace Ver
open PySem PySem.Spec PyProof.Rows L2
/-- list(e.values()) -/
def tListVals (te : TE) : TE := fun σ H Q => te σ H fun x H1 => ∃ (d : Addr) (kvs : List (Key × V)), x = .ref d ∧ H1 d = some (.dK kvs) ∧ ∀ q, H1 q = none → Q (.ref q) (upd H1 q (.lst (kvs.map (·.2))))
section
variable {X : Cx} {e : Expr} {te : TE} {p apos cpos pos : Pos}
theorem pe_listVals (hc : X.calm = true) (he : PE X e te) (hg : Gl X "list") (hm : X.mg "list" = none) (hv : bootBuiltins "list" = some (.type "list")) (hbase : attributeBase e "values" X.env (eval e X.env) = eval e X.env := by rfl) (hline : (apos.endLine == cpos.line) = true := by rfl)
    (hs : starEach [.Call (.Attribute e "values" apos) [] [] cpos] X.env = (false, eval (.Call (.Attribute e "values" apos) [] [] cpos) X.env) :: starEach [] X.env := by rfl) :
    PE X (.Call (.Name "list" p) [.Call (.Attribute e "values" apos) [] [] cpos] [] pos) (tListVals te) := by
  refine ⟨fun pins s σ H Q I hq => wpAny_Call_Name_kw (ld_blt I hg hm hv (PyProof.Rows.callWith_type1 ?_ hs rfl))⟩
  rw [hs]
  refine (Calls.spliced_cons ?_ : wpAny _ _ (spliced ((false, eval (.Call (.Attribute e "values" apos) [] [] cpos) X.env) :: backTo pos (starEach [] X.env))) _ _ s)
  refine wpAny_Call_method (T := "dict") (id := "dict.values") hbase rfl hline F.plainAttrs_dict F.slot_dict_values F.type_dict_values (thn (he.run pins s σ H _ I hq) fun u s1 ⟨x, H1, I1, rx, d, kvs, ex, hd, q⟩ => ?_)
  subst ex
  obtain rfl : u = Value.ref d := rx
  obtain ⟨hz, lo, vs, rk, hdo⟩ := dk_of I1.hok hd
  obtain ⟨ep, hat⟩ := hdo.dictAt
  have hl : kvs.length = vs.length := Paired.length rk
  refine ⟨hdo.typeIs, hdo.mapOf.noDict, ?_⟩
  refine (method_meetsIn F.slot_dict_values F.entry_dict_values rfl (PySem.evalArgs_none ⟨rfl, hdo.typeIs, F.args_dict_values_1 _, _, meets_dict_values (mixKind X.prog X.w) d lo, ⟨vs, hdo⟩, ?_⟩) : wpAny _ _ (callWith cpos (.builtin "dict.values") [.ref d] [] []) _ X.xe s1)
  refine Calls.spliced_nil ?_
  have I2 : Inv X pins σ H1 { s1 with heap := s1.heap.push { cls := .type "dict_values", data := .fields #[.ref d] } } := I1.kept (t' := s1.toks) fun b ob q => Heap.get?_push_of_some _ q
  refine PySem.W.kdl_call (PySem.W.kdl_values (knd := mixKind X.prog X.w) (kvs := vs) (ep := ep)) (I1.ok.hd hc) ⟨⟨_, Heap.get?_push_size _ rfl, rfl, rfl⟩, hat.push _⟩ (by rw [← hl]; exact hz) fun h' tk acc' c' kp hS hacc => ?_
  refine ⟨.ref _, upd H1 _ (.lst (kvs.map (·.2))), I2.laid kp (Nat.le_refl _) (show ObjOk X.prog X.w _ _ _ (.lst (kvs.map (·.2))) from ⟨by rw [List.length_map]; exact hz, acc'.toList, c', ?_, ?_⟩), rfl, q _ (I2.hok.fresh (Nat.le_refl _))⟩
  · have el : acc'.toList.length = acc'.size := Array.length_toList
    refine vals_of_at (by rw [List.length_map, el, hacc.1, hl]) fun j x v h1 h2 => ?_
    obtain ⟨k, hky⟩ := hacc.2 j v (by rw [← Array.getElem?_toList]; exact h2)
    rw [List.getElem?_map] at h1
    cases hj : kvs[j]? with
    | none =>
      rw [hj] at h1
      cases h1
    | some q =>
      rw [hj] at h1
      cases h1
      obtain ⟨y, e1, e2⟩ := LiI.paired_get rk hj
      rw [hky] at e1
      cases e1
      exact e2.2
  · rw [Array.toArray_toList]
    exact hS
/-- sorted of texts, as many as there are -/
def rSortedSA (K : PySem.W.Frag) : List V → Hp → VK → Prop := fun vs H Q => ∃ (a : Addr) (xs : List Str), vs = [V.ref a] ∧ SqL K H a (xs.map V.str) ∧
  ∀ (ys : List Str) (p : Addr), ys.Perm xs → sortedS ys = true → H p = none → Q (.ref p) (upd H p (.lst (ys.map V.str)))
theorem cr_sortedSA : CallR X (.builtin "sorted") (rSortedSA X.K) := by
  intro pins s σ H vs us Q I r h
  obtain ⟨a, xs, rfl, hs, q⟩ := h
  obtain ⟨its, rv, hl, hz⟩ := I.list hs
  rw [Vals.ref1 r]
  have len := rv.length
  rw [List.length_map] at len
  refine PyProof.Rows.sorted_strsAny hl.isList rv.strs (by rw [← len, ← List.length_map (f := V.str)]; exact hz) fun out ys h1 h2 h3 => ?_
  obtain ⟨ep, hat⟩ := PyProof.Rows.sortedAll_at s.heap its out
  have few : (ys.map V.str).length ≤ sizeLine := by
    rw [List.length_map, h2.length_eq, ← List.length_map (f := V.str)]
    exact hz
  exact ⟨.ref _, upd H (s.heap.objs.size + 1) (.lst (ys.map V.str)), I.laid (t' := s.toks) (fun _ _ => PyProof.Rows.sortedAll_old) (Nat.le_succ _) ⟨few, out.toList, ep, vals_of_strs h1, hat⟩, rfl, q ys _ h2 h3 (I.hok.fresh (Nat.le_succ _))⟩
end
end Ver
namespace Ver
open PySem PySem.Spec PyProof.Rows L2
/-- list(text) -/
def rListText : List V → Hp → VK → Prop := fun vs H Q => ∃ x : Str, vs = [.str x] ∧ x.cps.size ≤ 16000000 ∧ ∀ q, H q = none → Q (.ref q) (upd H q (.lst (x.cps.toList.map fun c => V.str ⟨#[c]⟩)))
theorem cr_listText {X : Cx} (hc : X.calm = true) : CallR X (.type "list") rListText := by
  intro pins s σ H vs us Q I r h
  obtain ⟨x, rfl, hz, q⟩ := h
  obtain ⟨u, rfl, t, rfl⟩ := vals1 r
  have few : x.cps.size ≤ sizeLine := by rw [sizeLine_eq]; omega
  refine PySem.call_list_str (I.ok.hd hc) x t (fun h' tk acc c kp hS hacc => ?_) few
  refine ⟨.ref s.heap.objs.size, upd H s.heap.objs.size (.lst (x.cps.toList.map fun c => V.str ⟨#[c]⟩)), I.laid kp (Nat.le_refl _) (show ObjOk X.prog X.w _ _ _ (.lst _) from ⟨by rw [List.length_map, Array.length_toList]; exact few, acc.toList, c, ?_, ?_⟩), rfl, q _ (I.hok.fresh (Nat.le_refl _))⟩
  · refine vals_of_at (by rw [List.length_map, Array.length_toList, Array.length_toList, hacc.1]) fun j y v h1 h2 => ?_
    obtain ⟨k, tk2, e1, e2⟩ := hacc.2 j v (by rw [← Array.getElem?_toList]; exact h2)
    rw [List.getElem?_map, Array.getElem?_toList, e1] at h1
    cases h1
    exact ⟨tk2, e2⟩
  · rw [Array.toArray_toList]
    exact hS
end Ver

/-! Lists of numbers, of texts of one sign, in order. -/
namespace Ver
open PySem PySem.Spec PyProof.Rows L2 SX
theorem perm_map {α β : Type} {f : α → β} (g : β → α) (hg : ∀ a, g (f a) = a) {ys : List β} {zs : List α} (h : ys.Perm (zs.map f)) : ∃ zs' : List α, ys = zs'.map f ∧ zs'.Perm zs := by
  refine ⟨ys.map g, ?_, ?_⟩
  · rw [List.map_map]
    refine (List.map_id ys).symm.trans (List.map_congr_left fun y hy => ?_)
    obtain ⟨z, _, rfl⟩ := List.mem_map.mp (h.mem_iff.mp hy)
    show f z = f (g (f z))
    rw [hg]
  · have e := h.map g
    rw [List.map_map] at e
    have e2 : zs.map (g ∘ f) = zs := by
      conv => rhs; rw [← List.map_id zs]
      exact List.map_congr_left fun z _ => hg z
    rwa [e2] at e
def unI : V → Int
  | .int i => i
  | _ => 0
def unS : V → Str
  | .str s => s
  | _ => S []
def un1 (s : Str) : Nat := s.cps.toList.headD 0
theorem ints_perm {ys : List V} {ns : List Int} (h : ys.Perm (ns.map V.int)) : ∃ ns' : List Int, ys = ns'.map V.int ∧ ns'.Perm ns := perm_map unI (fun _ => rfl) h
theorem strs_perm {ys : List V} {ns : List Str} (h : ys.Perm (ns.map V.str)) : ∃ ns' : List Str, ys = ns'.map V.str ∧ ns'.Perm ns := perm_map unS (fun _ => rfl) h
abbrev ones (cs : List Nat) : List Str := cs.map fun c => S [c]
theorem ones_perm {ys : List Str} {cs : List Nat} (h : ys.Perm (ones cs)) : ∃ ds : List Nat, ys = ones ds ∧ ds.Perm cs := perm_map un1 (fun _ => rfl) h
theorem le_of_rising : ∀ (ds : List Nat) (p : Nat), risingS (S [p]) (ones ds) = true → (p :: ds).Pairwise (· ≤ ·)
  | [], p, _ => List.pairwise_singleton _ _
  | d :: ds, p, h => by
    have h : (!ltCps [d] [p] && risingS (S [d]) (ones ds)) = true := h
    rw [Bool.and_eq_true] at h
    have ih := le_of_rising ds d h.2
    have e : p ≤ d := by
      have h1 := h.1
      simp [ltCps] at h1
      exact h1
    refine List.pairwise_cons.mpr ⟨fun x hx => ?_, ih⟩
    rcases List.mem_cons.mp hx with rfl | hx
    · exact e
    · exact Nat.le_trans e ((List.pairwise_cons.mp ih).1 x hx)
theorem le_of_sorted {ds : List Nat} (h : sortedS (ones ds) = true) : ds.Pairwise (· ≤ ·) := by
  cases ds with
  | nil => exact List.Pairwise.nil
  | cons d ds => exact le_of_rising ds d h
theorem asc_eq {ds cs : List Nat} (p : ds.Perm cs) (h : ds.Pairwise (· ≤ ·)) (h2 : cs.Pairwise (· < ·)) : ds = cs :=
  List.Perm.eq_of_pairwise (fun a b _ _ h1 h2 => Nat.le_antisymm h1 h2) h (h2.imp Nat.le_of_lt) p
theorem asc_nodup {cs : List Nat} (h : cs.Pairwise (· < ·)) : cs.Nodup := h.imp (S := fun a b => a ≠ b) fun h => Nat.ne_of_lt h
theorem lt_of_le_nodupN : ∀ {l : List Nat}, l.Pairwise (· ≤ ·) → l.Nodup → l.Pairwise (· < ·)
  | [], _, _ => List.Pairwise.nil
  | x :: l, h, d => by
    obtain ⟨h1, h2⟩ := List.pairwise_cons.mp h
    obtain ⟨d1, d2⟩ := List.nodup_cons.mp d
    exact List.pairwise_cons.mpr ⟨fun y hy => Nat.lt_of_le_of_ne (h1 y hy) fun e => d1 (e ▸ hy), lt_of_le_nodupN h2 d2⟩
/-- texts of one sign in order, from any arrangement -/
theorem ones_sorted {ys : List Str} {cs : List Nat} (p : ys.Perm (ones cs)) (h : sortedS ys = true) (asc : cs.Pairwise (· < ·)) : ys = ones cs := by
  obtain ⟨ds, rfl, pd⟩ := ones_perm p
  rw [asc_eq pd (le_of_sorted h) asc]
theorem joinL_ones : ∀ cs : List Nat, TL.joinL [] (cs.map fun c => [c]) = cs
  | [] => rfl
  | [c] => rfl
  | c :: d :: cs => by
    have ih := joinL_ones (d :: cs)
    show [c] ++ ([] ++ TL.joinL [] ((d :: cs).map fun c => [c])) = c :: d :: cs
    rw [ih]
    rfl
theorem join_ones (cs : List Nat) : Txt.join (S []) (ones cs) = S cs := by
  have e : ones cs = (cs.map fun c => [c]).map S := by
    rw [List.map_map]
    rfl
  rw [e, join_S, joinL_ones]
theorem ones_len (cs : List Nat) : ((ones cs).map (·.length)).sum = cs.length := by
  induction cs with
  | nil => rfl
  | cons c cs ih =>
    show (S [c]).length + ((ones cs).map (·.length)).sum = _
    rw [ih, S_len, List.length_cons, List.length_cons, List.length_nil]
    omega
theorem chars_S (cs : List Nat) : (S cs).cps.toList = cs := by simp
end Ver

/-! Comprehensions whose parts only read. -/
namespace Ver
open PySem PySem.Spec PyProof.Rows L2
section
variable {J : It} {n : Nat} {G : Hp → Prop} {Y : Nat → V → Prop}
theorem same_new {Hb H : Hp} {D : Addr} {o : HO} (nD : Hb D = none) (s : Same Hb H) : Same Hb (upd H D o) := fun b u e => by
  rw [upd_ne (ne_of_none e nD)]
  exact s b u e
/-- [e for x in ..]: x in slot j, the i-th result is y i -/
theorem lc_one (w : Walk J n G (fun i H x H' => H' = H ∧ Y i x)) {te : TE} {j : Nat} {σ : L2.St} {Hb : Hp} {D : Addr} {Qd : Hp → Prop} (y : Nat → V) (nD : Hb D = none) (few : n ≤ 20000) (hG : ∀ H, Same Hb H → G H)
    (hs : ∀ i x H (R : V → Hp → Prop), i < n → Same Hb H → Y i x → R (y i) H → te ((wipe σ [j]).set j (some x)) H R)
    (hd : ∀ H, Same Hb H → H D = some (.lst ((List.range n).map y)) → Qd H) (hw : ∀ x : V, wipe ((wipe σ [j]).set j (some x)) [j] = wipe σ [j] := by intro _; rfl) :
    ∃ W : Nat → Nat → Hp → Prop, (∃ m, W 0 m (upd Hb D (.lst []))) ∧ ∀ i m H, W i m H →
      (J.stop i H ∧ Qd H) ∨ (J.go i H ∧ ∃ Nx : Hp → Prop, (∀ H', Nx H' → ∃ m', m' < m ∧ W (i + 1) m' H') ∧ ∀ x H', J.yld i H x H' → gName j x (wipe σ [j]) H' fun σ2 H2 => wipe σ2 [j] = wipe σ [j] ∧ tYes σ2 H2 fun b H3 =>
        if b = true then te σ2 H3 fun y H4 => ∃ acc, H4 D = some (.lst acc) ∧ acc.length < sizeLine ∧ Nx (upd H4 D (.lst (acc ++ [y]))) else Nx H3) := by
  refine lc_it w (fun i H => Same Hb H ∧ H D = some (.lst ((List.range i).map y))) ⟨same_new nD (fun _ _ e => e), upd_same⟩ (fun i H _ p => hG H p.1) (fun i x H H' hi p hy => ?_) fun H p => hd H p.1 p.2
  obtain ⟨rfl, hy⟩ := hy
  refine ⟨hw x, ?_⟩
  unfold tYes
  dsimp only
  rw [if_pos rfl]
  refine hs i x _ _ hi p.1 hy ⟨_, p.2, ?_, same_new nD p.1, ?_⟩
  · rw [List.length_map, List.length_range, sizeLine_eq]
    omega
  · rw [upd_same, List.range_succ, List.map_append]
    rfl
/-- [e for x in .. if t] -/
theorem lc_some (w : Walk J n G (fun i H x H' => H' = H ∧ Y i x)) {tt : TT} {te : TE} {j : Nat} {σ : L2.St} {Hb : Hp} {D : Addr} {Qd : Hp → Prop} (y : Nat → V) (keep : Nat → Bool) (nD : Hb D = none) (few : n ≤ 20000) (hG : ∀ H, Same Hb H → G H)
    (ht : ∀ i x H (R : Bool → Hp → Prop), i < n → Same Hb H → Y i x → R (keep i) H → tt ((wipe σ [j]).set j (some x)) H R)
    (hs : ∀ i x H (R : V → Hp → Prop), i < n → keep i = true → Same Hb H → Y i x → R (y i) H → te ((wipe σ [j]).set j (some x)) H R)
    (hd : ∀ H, Same Hb H → H D = some (.lst (((List.range n).filter keep).map y)) → Qd H) (hw : ∀ x : V, wipe ((wipe σ [j]).set j (some x)) [j] = wipe σ [j] := by intro _; rfl) :
    ∃ W : Nat → Nat → Hp → Prop, (∃ m, W 0 m (upd Hb D (.lst []))) ∧ ∀ i m H, W i m H →
      (J.stop i H ∧ Qd H) ∨ (J.go i H ∧ ∃ Nx : Hp → Prop, (∀ H', Nx H' → ∃ m', m' < m ∧ W (i + 1) m' H') ∧ ∀ x H', J.yld i H x H' → gName j x (wipe σ [j]) H' fun σ2 H2 => wipe σ2 [j] = wipe σ [j] ∧ tt σ2 H2 fun b H3 =>
        if b = true then te σ2 H3 fun y H4 => ∃ acc, H4 D = some (.lst acc) ∧ acc.length < sizeLine ∧ Nx (upd H4 D (.lst (acc ++ [y]))) else Nx H3) := by
  refine lc_it w (fun i H => Same Hb H ∧ H D = some (.lst (((List.range i).filter keep).map y))) ⟨same_new nD (fun _ _ e => e), upd_same⟩ (fun i H _ p => hG H p.1) (fun i x H H' hi p hy => ?_) fun H p => hd H p.1 p.2
  obtain ⟨rfl, hy⟩ := hy
  refine ⟨hw x, ht i x _ _ hi p.1 hy ?_⟩
  have r1 : List.range (i + 1) = List.range i ++ [i] := List.range_succ
  cases hk : keep i with
  | true =>
    rw [if_pos rfl]
    refine hs i x _ _ hi hk p.1 hy ⟨_, p.2, ?_, same_new nD p.1, ?_⟩
    · have l1 := List.length_filter_le keep (List.range i)
      rw [List.length_range] at l1
      rw [List.length_map, sizeLine_eq]
      omega
    · rw [upd_same, r1, List.filter_append, List.map_append, show List.filter keep [i] = [i] by simp [hk]]
      rfl
  | false =>
    rw [if_neg Bool.false_ne_true]
    refine ⟨p.1, ?_⟩
    rw [r1, List.filter_append, show List.filter keep [i] = [] by simp [hk], List.append_nil]
    exact p.2
end
section
variable {K : PySem.W.Frag} {a d : Addr} {xs : List V} {o : Obj}
theorem wk_list : Walk (Itl K a) xs.length (fun H => SqL K H a xs) (fun i H x H' => H' = H ∧ xs[i]? = some x) := walk_list
theorem wk_tup : Walk (Itt K a) xs.length (fun H => SqT K H a xs) (fun i H x H' => H' = H ∧ xs[i]? = some x) := walk_tup
theorem wk_range {n : Nat} : Walk (Itr 0 n) n (fun _ => True) (fun i H x H' => H' = H ∧ x = .int (0 + (i : Int))) := walk_range
theorem wk_str {z : Str} : Walk (Its z) z.cps.size (fun _ => True) (fun i H x H' => H' = H ∧ ∃ c, z.cps[i]? = some c ∧ x = .str ⟨#[c]⟩) := walk_str
theorem wk_keys {kvs : List (Key × V)} : Walk (Itk d o kvs) kvs.length (fun H => H d = some (.frz o (.dK kvs))) (fun i H x H' => H' = H ∧ ∃ k v, kvs[i]? = some (k, v) ∧ x = kV k) := walk_keys
end
theorem range_map {α β : Type} [Inhabited α] (xs : List α) (f : α → β) (y : Nat → β) (h : ∀ i x, xs[i]? = some x → y i = f x) : (List.range xs.length).map y = xs.map f := by
  refine List.ext_getElem (by rw [List.length_map, List.length_map, List.length_range]) fun i h1 h2 => ?_
  rw [List.length_map] at h2
  rw [List.getElem_map, List.getElem_map, List.getElem_range]
  exact h i _ (List.getElem?_eq_getElem h2)
end Ver
namespace Ver
open PySem PySem.Spec PyProof.Rows L2
theorem valV_no {κ : Type} [DecidableEq κ] : ∀ {kvs : List (κ × V)} {k : κ}, k ∉ kvs.map (·.1) → valV kvs k = none
  | [], _, _ => rfl
  | p :: kvs, k, h => by
    rw [List.map_cons, List.mem_cons, not_or] at h
    exact (valV_neg fun z => h.1 z.symm).trans (valV_no h.2)
/-- {k: v for x in ..}, new keys -/
theorem dc_one {J : It} {n : Nat} {G : Hp → Prop} {Y : Nat → V → Prop} (w : Walk J n G (fun i H x H' => H' = H ∧ Y i x)) {tk tv : TE} {j : Nat} {σ : L2.St} {Hb : Hp} {D : Addr} {Qd : Hp → Prop} (kf : Nat → Key) (y : Nat → V) (inj : ∀ a b, a < n → b < n → kf a = kf b → a = b) (nD : Hb D = none) (few : n ≤ 20000) (hG : ∀ H, Same Hb H → G H)
    (hs : ∀ i x H (R : V → Hp → Prop), i < n → Same Hb H → Y i x → R (kV (kf i)) H → tk ((wipe σ [j]).set j (some x)) H R)
    (hv : ∀ i x H (R : V → Hp → Prop), i < n → Same Hb H → Y i x → R (y i) H → tv ((wipe σ [j]).set j (some x)) H R)
    (hd : ∀ H, Same Hb H → H D = some (.dK ((List.range n).map fun i => (kf i, y i))) → Qd H) (hw : ∀ x : V, wipe ((wipe σ [j]).set j (some x)) [j] = wipe σ [j] := by intro _; rfl) :
    ∃ W : Nat → Nat → Hp → Prop, (∃ m, W 0 m (upd Hb D (.dK []))) ∧ ∀ i m H, W i m H →
      (J.stop i H ∧ Qd H) ∨ (J.go i H ∧ ∃ Nx : Hp → Prop, (∀ H', Nx H' → ∃ m', m' < m ∧ W (i + 1) m' H') ∧ ∀ x H', J.yld i H x H' → gName j x (wipe σ [j]) H' fun σ2 H2 => wipe σ2 [j] = wipe σ [j] ∧ tYes σ2 H2 fun b H3 =>
        if b = true then tk σ2 H3 fun y H4 => tv σ2 H4 fun z H5 => ∃ kvs k, y = kV k ∧ H5 D = some (.dK kvs) ∧ kvs.length < sizeLine ∧ Nx (upd H5 D (.dK (putK kvs k z))) else Nx H3) := by
  refine ⟨fun i m H => m = n - i ∧ i ≤ n ∧ Same Hb H ∧ H D = some (.dK ((List.range i).map fun i => (kf i, y i))), ⟨n, by simp, Nat.zero_le _, same_new nD (fun _ _ e => e), upd_same⟩, ?_⟩
  rintro i m H ⟨rfl, hi, p⟩
  by_cases hlt : i < n
  · refine .inr ⟨w.goes i H hlt (hG H p.1), fun H => Same Hb H ∧ H D = some (.dK ((List.range (i + 1)).map fun i => (kf i, y i))), fun H' p' => ⟨n - (i + 1), by omega, rfl, hlt, p'⟩, fun x H' yy => ?_⟩
    obtain ⟨rfl, hy⟩ := w.yields i H x H' hlt (hG H p.1) yy
    refine ⟨hw x, ?_⟩
    unfold tYes
    dsimp only
    rw [if_pos rfl]
    refine hs i x _ _ hlt p.1 hy (hv i x _ _ hlt p.1 hy ⟨_, kf i, rfl, p.2, ?_, same_new nD p.1, ?_⟩)
    · rw [List.length_map, List.length_range, sizeLine_eq]
      omega
    · rw [upd_same, putK_new, List.range_succ, List.map_append]
      · rfl
      · refine valV_no fun z => ?_
        rw [List.map_map] at z
        obtain ⟨m, hm, e⟩ := List.mem_map.mp z
        have hm := List.mem_range.mp hm
        exact absurd (inj m i (by omega) hlt e) (by omega)
  · have e : i = n := by omega
    subst e
    exact .inl ⟨w.stops H (hG H p.1), hd H p.1 p.2⟩
end Ver
namespace Ver
open PySem PySem.Spec PyProof.Rows L2
/-- [(a, b) for x in ..]: the i-th result is a new pair -/
theorem lc_pair {J : It} {n : Nat} {G : Hp → Prop} {Y : Nat → V → Prop} (w : Walk J n G (fun i H x H' => H' = H ∧ Y i x)) {te : TE} {j : Nat} {σ : L2.St} {Hb : Hp} {D : Addr} {Qd : Hp → Prop} (a b : Nat → V) (nD : Hb D = none) (few : n ≤ 20000) (hG : ∀ H, Same Hb H → G H)
    (hs : ∀ i x H (R : V → Hp → Prop), i < n → Same Hb H → Y i x → (∀ t, H t = none → R (.ref t) (upd H t (.tup [a i, b i]))) → te ((wipe σ [j]).set j (some x)) H R)
    (hd : ∀ H (ts : List Addr), Same Hb H → H D = some (.lst (ts.map V.ref)) → ts.length = n → (∀ i t, ts[i]? = some t → H t = some (.tup [a i, b i]) ∧ Hb t = none) → Qd H) (hw : ∀ x : V, wipe ((wipe σ [j]).set j (some x)) [j] = wipe σ [j] := by intro _; rfl) :
    ∃ W : Nat → Nat → Hp → Prop, (∃ m, W 0 m (upd Hb D (.lst []))) ∧ ∀ i m H, W i m H →
      (J.stop i H ∧ Qd H) ∨ (J.go i H ∧ ∃ Nx : Hp → Prop, (∀ H', Nx H' → ∃ m', m' < m ∧ W (i + 1) m' H') ∧ ∀ x H', J.yld i H x H' → gName j x (wipe σ [j]) H' fun σ2 H2 => wipe σ2 [j] = wipe σ [j] ∧ tYes σ2 H2 fun b H3 =>
        if b = true then te σ2 H3 fun y H4 => ∃ acc, H4 D = some (.lst acc) ∧ acc.length < sizeLine ∧ Nx (upd H4 D (.lst (acc ++ [y]))) else Nx H3) := by
  refine lc_it w (fun i H => Same Hb H ∧ ∃ ts : List Addr, H D = some (.lst (ts.map V.ref)) ∧ ts.length = i ∧ ∀ j t, ts[j]? = some t → H t = some (.tup [a j, b j]) ∧ Hb t = none) ⟨same_new nD (fun _ _ e => e), [], upd_same, rfl, fun j t h => by simp at h⟩ (fun i H _ p => hG H p.1) (fun i x H H' hi p hy => ?_) fun H ⟨p, ts, h1, h2, h3⟩ => hd H ts p h1 h2 h3
  obtain ⟨rfl, hy⟩ := hy
  obtain ⟨sm, ts, h1, h2, h3⟩ := p
  refine ⟨hw x, ?_⟩
  unfold tYes
  dsimp only
  rw [if_pos rfl]
  refine hs i x _ _ hi sm hy fun t nt => ?_
  have tD : D ≠ t := ne_of_none h1 nt
  refine ⟨_, by rw [upd_ne tD]; exact h1, ?_, ?_, ts ++ [t], ?_, ?_, ?_⟩
  · rw [List.length_map, h2, sizeLine_eq]
    omega
  · exact fun c u e => by
      rw [upd_ne (ne_of_none e nD), upd_ne (ne_of_none (sm c u e) nt)]
      exact sm c u e
  · rw [upd_same, List.map_append]
    rfl
  · rw [List.length_append, h2]
    rfl
  · intro k u hk
    by_cases hkl : k < ts.length
    · rw [List.getElem?_append_left hkl] at hk
      obtain ⟨e1, e2⟩ := h3 k u hk
      have uD : u ≠ D := fun z => by
        rw [z, h1] at e1
        cases e1
      exact ⟨by rw [upd_ne uD, upd_ne (ne_of_none e1 nt)]; exact e1, e2⟩
    · have hk2 : k = ts.length := by
        have := (List.getElem?_eq_some_iff.mp hk).1
        rw [List.length_append, List.length_cons, List.length_nil] at this
        omega
      subst hk2
      have : u = t := by
        rw [List.getElem?_append_right (Nat.le_refl _)] at hk
        simp at hk
        exact hk.symm
      subst this
      refine ⟨?_, ?_⟩
      · rw [upd_ne (Ne.symm tD), upd_same, h2]
      · cases e : Hb u with
        | none => rfl
        | some o =>
          have := sm u o e
          rw [nt] at this
          cases this
end Ver

namespace K84
open PySem PySem.Spec PyProof.Rows L2 Ver Num SX
/-! ### letters with costs -/
abbrev LC := List (Nat × Int)
structure LOk (L : LC) : Prop where
  pos : 1 ≤ L.length
  few : L.length ≤ 4
  asc : (L.map (·.1)).Pairwise (· < ·)
  rng : ∀ p ∈ L, 97 ≤ p.1 ∧ p.1 ≤ 122
  cost : ∀ p ∈ L, 1 ≤ p.2 ∧ p.2 ≤ 9
/-- letters -/
structure CsOk (cs : List Nat) : Prop where
  pos : 1 ≤ cs.length
  few : cs.length ≤ 4
  asc : cs.Pairwise (· < ·)
  rng : ∀ c ∈ cs, 97 ≤ c ∧ c ≤ 122
theorem LOk.cs {L : LC} (o : LOk L) : CsOk (L.map (·.1)) := ⟨by rw [List.length_map]; exact o.pos, by rw [List.length_map]; exact o.few, o.asc, fun c hc => by
  obtain ⟨p, hp, rfl⟩ := List.mem_map.mp hc
  exact o.rng p hp⟩
/-- the dict from letters to costs -/
abbrev dOf (L : LC) : List (Key × V) := L.map fun p => (Sum.inr (S [p.1]), V.int p.2)
/-- the value at a letter -/
theorem valV_mem : ∀ {L : LC}, (L.map (·.1)).Nodup → ∀ {p : Nat × Int}, p ∈ L → valV (dOf L) (.inr (S [p.1])) = some (.int p.2)
  | q :: L, nd, p, hp => by
    obtain ⟨n1, n2⟩ := List.nodup_cons.mp nd
    rcases List.mem_cons.mp hp with rfl | h
    · exact valV_pos rfl
    · refine (valV_neg fun z => ?_).trans (valV_mem n2 h)
      have e : S [q.1] = S [p.1] := Sum.inr.inj z
      have e2 : q.1 = p.1 := (List.cons.inj (S_inj e)).1
      exact n1 (List.mem_map.mpr ⟨p, h, e2.symm⟩)
theorem keys_dOf (L : LC) : ((dOf L).map fun kv => kV kv.1) = (ones (L.map (·.1))).map V.str := by
  rw [List.map_map, List.map_map, List.map_map]
  rfl
theorem valV_off : ∀ {L : LC} {c : Nat}, c ∉ L.map (·.1) → valV (dOf L) (.inr (S [c])) = none
  | [], _, _ => rfl
  | q :: L, c, h => by
    rw [List.map_cons, List.mem_cons, not_or] at h
    exact (valV_neg fun z => h.1 (List.cons.inj (S_inj (Sum.inr.inj z))).1.symm).trans (valV_off h.2)
theorem merge_fresh : ∀ (M L : LC), ((L ++ M).map (·.1)).Nodup → mergeK (dOf L) (dOf M) = dOf (L ++ M)
  | [], L, _ => by
    rw [List.append_nil]
    rfl
  | p :: M, L, nd => by
    have e : L ++ p :: M = (L ++ [p]) ++ M := by simp
    have hp : putK (dOf L) (.inr (S [p.1])) (.int p.2) = dOf (L ++ [p]) := by
      rw [putK_new _ ?_]
      · rw [dOf, dOf, List.map_append]
        rfl
      · refine valV_off fun z => ?_
        rw [List.map_append, List.map_cons, List.nodup_append] at nd
        exact nd.2.2 p.1 z p.1 List.mem_cons_self rfl
    show mergeK (putK (dOf L) (.inr (S [p.1])) (.int p.2)) (dOf M) = _
    rw [hp, e]
    exact merge_fresh M (L ++ [p]) (by rw [← e]; exact nd)
section
variable {P : Program} {w : World} {K : PySem.W.Frag} {mg : Str → Option Value} {base : Heap}
/-! ### _law_pick out of a text -/
def spPickS : Sp := fun vs H Q _ => ∃ (d : Addr) (k : Int) (cs : List Nat), vs = [.ref d, .str (S cs)] ∧ PenAt H d k ∧ k < 1000000000000 ∧ 0 < cs.length ∧ cs.length < 1000 ∧
  ∀ (c : Nat) (H' : Hp), c ∈ cs → But d H H' → PenAt H' d (k + 1) → Q (.str (S [c])) H'
theorem sl_of {n : Nat} (h : n ≤ 20000) : n ≤ sizeLine := by rw [sizeLine_eq]; omega
theorem ok_pickS (T : Tx K mg) : FnG P w K mg base CX0 2 (He.ga K "_law_pick") spPickS := by
  refine mk__law_pick T.d (fun vs H Q E h => ?_) (fun cdv A outer s H vs Q E hg hr h => ?_)
  · obtain ⟨d, k, cs, rfl, _⟩ := h
    rfl
  · obtain ⟨d, k, cs, rfl, pen, k9, l0, l9, q⟩ := h
    refine ⟨_, pss_one (ps_ret (pe_ix ix_str (pv 1) (pe_callG (ok_draw T) hr hg (by rfl) (T.g "_law_draw" (by decide +kernel)) (kp__law_draw T.d) pass0
      (pa_cons (pv 0) (pa_cons (pe_callB call_len_str (by rfl) (T.z "len" (by decide +kernel)) (by decide +kernel) (pa_cons (pv 1) pa_nil)) pa_nil))) (fun _ _ => rfl))), ?_⟩
    have ls := S_len cs
    have sl : (S cs).length ≤ sizeLine := by rw [ls]; exact sl_of (by omega)
    refine ⟨_, rfl, _, rfl, _, rfl, _, rfl, sl, d, k, _, rfl, pen, k9, by omega, by omega, fun i H1 bt pen1 i0 i1 => ?_⟩
    obtain ⟨j, rfl⟩ : ∃ j : Nat, i = (j : Int) := ⟨i.toNat, by omega⟩
    have jl : j < cs.length := by omega
    refine ⟨_, _, _, rfl, rfl, sl, ?_, q _ H1 (List.getElem_mem jl) bt pen1⟩
    rw [chars_S]
    exact atI_nat (List.getElem?_eq_getElem jl)
/-! ### _law_letters -/
def alpha : Str := "abcdefghijklmnopqrstuvwxyz"
theorem alpha_eq : alpha.cps.toList = (List.range 26).map (97 + ·) := by decide +kernel
theorem alpha_at {j : Nat} (h : j < 26) : atI alpha.cps.toList (j : Int) = some (97 + j) := by
  refine atI_nat ?_
  rw [alpha_eq, List.getElem?_map, List.getElem?_range h]
  rfl
def codeI (i : Int) : Nat := 97 + i.toNat
theorem cs_of {ns ms ms' : List Int} {i : Int} (pn : ns.Perm ((List.range 26).map fun i : Nat => (i : Int))) (i0 : 0 ≤ i) (i1 : i < 4) (em : ms = ns.take (1 + i).toNat) (pm : ms'.Perm ms) (srt : ms'.Pairwise (· ≤ ·)) :
    (∀ x ∈ ms', 0 ≤ x ∧ x < 26) ∧ ms'.length ≤ 4 ∧ CsOk (ms'.map codeI) := by
  have nl : ns.length = 26 := by rw [pn.length_eq, List.length_map, List.length_range]
  have ml : ms'.length = (1 + i).toNat := by
    rw [pm.length_eq, em, List.length_take]
    omega
  have rg : ∀ x ∈ ms', 0 ≤ x ∧ x < 26 := fun x hx => by
    have h := pm.mem_iff.mp hx
    rw [em] at h
    obtain ⟨j, hj, rfl⟩ := List.mem_map.mp (pn.mem_iff.mp (List.mem_of_mem_take h))
    have := List.mem_range.mp hj
    omega
  have nd0 : ((List.range 26).map fun i : Nat => (i : Int)).Nodup := by decide
  have nd : ms'.Nodup := by
    rw [pm.nodup_iff, em]
    exact (List.take_sublist _ _).nodup ((pn.nodup_iff).mpr nd0)
  refine ⟨rg, by omega, ⟨by rw [List.length_map]; omega, by rw [List.length_map]; omega, ?_, fun c hc => ?_⟩⟩
  · rw [List.pairwise_map]
    refine List.Pairwise.imp_of_mem (fun {a b} ha hb h => ?_) (srt.and nd)
    have h1 := rg a ha
    have h2 := rg b hb
    have h3 := h.1
    have h4 : a ≠ b := h.2
    unfold codeI
    omega
  · obtain ⟨x, hx, rfl⟩ := List.mem_map.mp hc
    have := rg x hx
    unfold codeI
    omega
def spLetters : Sp := fun vs H Q _ => ∃ (d : Addr) (k : Int), vs = [.ref d, .int 4] ∧ PenAt H d k ∧ k < 100000000 ∧
  ∀ (cs : List Nat) (H' : Hp), CsOk cs → But d H H' → PenAt H' d (k + 27) → Q (.str (S cs)) H'
theorem ok_letters (T : Tx K mg) : FnG P w K mg base CX0 3 (He.ga K "_law_letters") spLetters := by
  refine mk__law_letters T.d (fun vs H Q E h => ?_) (fun cdv A outer s H vs Q E hg hr h => ?_)
  · obtain ⟨d, k, rfl, _⟩ := h
    rfl
  · obtain ⟨d, k, rfl, pen, k9, q⟩ := h
    have nd := sc__law_letters.nd
    refine ⟨_, pss_cons (ps_set (i := 2) nd rfl (Or.inl rfl) (pe_callB cr_sorted (by rfl) (T.z "sorted" (by decide +kernel)) (by decide +kernel) (pa_cons
        (pe_slice sl_list (pe_callG (ok_shuf T) hr hg (by rfl) (T.g "_law_shuffled" (by decide +kernel)) (kp__law_shuffled T.d) pass0 (pa_cons (pv 0) (pa_cons (pe_listRg rfl (by rfl) (T.z "list" (by decide +kernel)) (prg_1 (by rfl) (T.z "range" (by decide +kernel)) pe_int)) pa_nil)))
          po_none (po_some (pe_op op_add pe_int (pe_callG (ok_draw T) (hr.mono (by decide)) hg (by rfl) (T.g "_law_draw" (by decide +kernel)) (kp__law_draw T.d) pass0 (pa_cons (pv 0) (pa_cons (pv 1) pa_nil)))))) pa_nil)))
      (pss_one (ps_ret (pe_join pe_str (pe_lc (own := [("_law_place", 3)]) (g := gName 3) (tt := tYes) rfl nd (pi_list (pv 2)) (blkOk_by (N := n__law_letters) (sc := defScope s__law_letters) (by decide +kernel)) (fun _ _ _ _ _ => pg_name (i := 3) nd rfl (Or.inl rfl)) (fun _ _ _ _ _ => pts_nil)
        (fun _ _ _ _ _ => pe_ix ix_str pe_str (pv 3) (fun _ _ => rfl)))))), ?_⟩
    have e26 : rgV 0 26 = ((List.range 26).map fun i : Nat => (i : Int)).map V.int := by
      unfold rgV
      rw [List.map_map]
      refine List.map_congr_left fun i _ => ?_
      show V.int (0 + (i : Int)) = V.int (i : Int)
      rw [Int.zero_add]
    have l26 : (rgV 0 26).length = 26 := by rw [rgV_length]; rfl
    refine ⟨_, rfl, 26, rfl, ⟨by decide, by decide, by decide, by decide, by decide⟩, fun q0 nq => ?_⟩
    have s1 := same_up (o := .lst (rgV 0 26)) nq
    refine ⟨d, q0, k, rgV 0 26, rfl, pen.same s1, by omega, SqL.of upd_same, by rw [e26]; exact flat_int _, by omega, fun p ys H1 pm hp bt1 pen1 => ?_⟩
    rw [l26] at pen1
    have pm' := pm
    rw [e26] at pm'
    obtain ⟨ns, rfl, pn⟩ := ints_perm pm'
    refine ⟨_, rfl, _, rfl, d, _, 4, rfl, pen1, by omega, by decide, by decide, fun i H2 bt2 pen2 i0 i1 => ?_⟩
    have hp2 := bt2.1 p _ hp (pen_ne pen1 hp)
    refine ⟨_, _, rfl, rfl, _, rfl, p, _, rfl, .inl (.inl hp2), fun r nr => ?_⟩
    have ec : cutV (ns.map V.int) none (some (1 + i)) = (ns.take (1 + i).toNat).map V.int := by
      have nl : ns.length = 26 := by rw [pn.length_eq, List.length_map, List.length_range]
      rw [cut_ints, HT.sIx_none, List.drop_zero, Nat.sub_zero]
      have e : HT.sIx ns.length ns.length (some (1 + i)) = (1 + i).toNat := by
        obtain ⟨j, hj⟩ : ∃ j : Nat, 1 + i = (j : Int) := ⟨(1 + i).toNat, by omega⟩
        rw [hj, HT.sIx_nat]
        omega
      rw [e]
    have s2 := same_up (o := .lst (cutV (ns.map V.int) none (some (1 + i)))) nr
    rw [ec] at s2 ⊢
    refine ⟨r, _, rfl, SqL.of upd_same, by rw [List.length_take]; omega, fun ms' p2 pm2 srt np2 => ?_⟩
    obtain ⟨rg, ml, co⟩ := cs_of pn i0 i1 rfl pm2 srt
    have s3 := same_up (o := .lst (ms'.map V.int)) np2
    refine ⟨⟨_, rfl⟩, _, rfl, p2, rfl, ⟨_, SqL.of upd_same⟩, fun D nD => lc_one wk_list (fun i => .str (S [codeI (ms'.getD i 0)])) nD (by rw [List.length_map]; omega) (fun H' s' => s'.seq (SqL.of upd_same)) (fun j x H' R hj s' hx hR => ?_) (fun H' s' hD => ?_)⟩
    · rw [List.getElem?_map] at hx
      cases hm : ms'[j]? with
      | none =>
        rw [hm] at hx
        cases hx
      | some m =>
        rw [hm] at hx
        cases hx
        have hmm := rg m (List.mem_of_getElem? hm)
        refine ⟨_, rfl, _, m, 97 + m.toNat, rfl, rfl, by decide, ?_, ?_⟩
        · obtain ⟨u, rfl⟩ : ∃ u : Nat, m = (u : Int) := ⟨m.toNat, by omega⟩
          exact alpha_at (by omega)
        · have e : ms'.getD j 0 = m := by
            rw [List.getD_eq_getElem?_getD, hm]
            rfl
          rw [e] at hR
          exact hR
    · have e : ((List.range (ms'.map V.int).length).map fun i => V.str (S [codeI (ms'.getD i 0)])) = (ones (ms'.map codeI)).map V.str := by
        rw [List.length_map, range_map ms' (fun m => V.str (S [codeI m])) _ fun i x hx => by rw [List.getD_eq_getElem?_getD, hx]; rfl]
        rw [List.map_map, List.map_map]
        rfl
      rw [e] at hD
      refine ⟨_, D, _, rfl, rfl, .inl (SqL.of hD), ?_, ?_⟩
      · rw [ones_len, List.length_map, List.length_map, List.length_map]
        rw [show ("" : Str).length = 0 from rfl, Nat.mul_zero]
        omega
      · rw [show ("" : Str) = S [] from rfl, Ver.join_ones]
        have bt := (((But.same s1).trans bt1).trans bt2).trans (But.same ((s2.trans s3).trans s'))
        exact q _ _ co bt ((pen2.same ((s2.trans s3).trans s')).mono (by omega))
end
end K84

namespace K84
open PySem PySem.Spec PyProof.Rows L2 Ver Num
section
variable {P : Program} {w : World} {K : PySem.W.Frag} {mg : Str → Option Value} {base : Heap}
/-- an int that is no bool -/
def isI : PyData → Bool
  | .int _ => true
  | _ => false
theorem isI_is (d : PyData) : (is_int d && !is_bool d) = isI d := by cases d <;> rfl
def spInt (K : PySem.W.Frag) : Sp := fun vs H Q _ => ∃ (x : V) (d : PyData), vs = [x] ∧ Do K H x d ∧ Q (.bl (isI d)) H
theorem ok_is_integer (T : Tx K mg) : FnG P w K mg base CX0 1 (He.ga K "is_integer") (spInt K) := by
  refine mk_is_integer T.d (fun vs H Q E h => ?_) (fun cdv A outer s H vs Q E hg hr h => ?_)
  · obtain ⟨x, d, rfl, _⟩ := h
    rfl
  · obtain ⟨x, d, rfl, hd, q⟩ := h
    have zi := T.z "isinstance" (by decide +kernel)
    rw [← isI_is] at q
    refine ⟨_, pss_one (ps_ret (pe_and (pe_callB call_isi (by rfl) zi (by decide +kernel) (pa_cons (pv 0) (pa_cons (pe_bltn (v := .ty "int") (by rfl) (T.z "int" (by decide +kernel)) (by decide +kernel) rfl) pa_nil)))
      (pe_one (pe_not (pe_callB call_isi (by rfl) zi (by decide +kernel) (pa_cons (pv 0) (pa_cons (pe_bltn (v := .ty "bool") (by rfl) (T.z "bool" (by decide +kernel)) (by decide +kernel) rfl) pa_nil))))))), ?_⟩
    refine ⟨_, rfl, _, _, _, _, _, rfl, .ty "int", hd.ty, kit_int d, _, rfl, ?_⟩
    cases e : is_int d with
    | false =>
      rw [e] at q
      exact ifF rfl q
    | true =>
      rw [e] at q
      exact ifT rfl ⟨_, rfl, _, _, _, _, _, rfl, .ty "bool", hd.ty, kit_bool d, _, rfl, q⟩
def btw (lo hi : Int) : PyData → Bool
  | .int i => decide (lo ≤ i) && decide (i ≤ hi)
  | _ => false
def spBtw (K : PySem.W.Frag) : Sp := fun vs H Q _ => ∃ (x : V) (d : PyData) (lo hi : Int), vs = [x, .int lo, .int hi] ∧ Do K H x d ∧ Q (.bl (btw lo hi d)) H
theorem btw_not {lo hi : Int} {d : PyData} (h : isI d = false) : btw lo hi d = false := by cases d <;> first | rfl | cases h
theorem ok_is_between (T : Tx K mg) : FnG P w K mg base CX0 2 (He.ga K "is_between") (spBtw K) := by
  refine mk_is_between T.d (fun vs H Q E h => ?_) (fun cdv A outer s H vs Q E hg hr h => ?_)
  · obtain ⟨x, d, lo, hi, rfl, _⟩ := h
    rfl
  · obtain ⟨x, d, lo, hi, rfl, hd, q⟩ := h
    refine ⟨_, pss_one (ps_ret (pe_and (pe_callG (ok_is_integer T) hr hg (by rfl) (T.g "is_integer" (by decide +kernel)) (kp_is_integer T.d) pass0 (pa_cons (pv 0) pa_nil))
      (pe_one (pe_chain op_le op_le (pv 1) (pv 0) (pv 2))))), ?_⟩
    refine ⟨_, rfl, x, d, rfl, hd, _, rfl, ?_⟩
    cases e : isI d with
    | false =>
      rw [btw_not e] at q
      exact ifF rfl q
    | true =>
      cases hd with
      | int i =>
        refine ifT rfl ⟨_, rfl, _, rfl, _, _, rfl, rfl, _, rfl, ?_⟩
        have q : Q (.bl (decide (lo ≤ i) && decide (i ≤ hi))) H := q
        by_cases h : lo ≤ i
        · rw [decide_eq_true h] at q
          exact ifT (decide_eq_true h) ⟨_, rfl, _, _, rfl, rfl, q⟩
        · rw [decide_eq_false h] at q
          exact ifF (decide_eq_false h) q
      | _ => cases e
end
end K84

namespace K84
open PySem PySem.Spec PyProof.Rows L2 Ver Num SX
section
variable {P : Program} {w : World} {K : PySem.W.Frag} {mg : Str → Option Value} {base : Heap}
/-! ### is_letters -/
theorem eqv_same {d : PyData} (h : d.plain = true) : PyData.eqv d d = true := SeqAt.eqv_refl_plain d h
def spIsL : Sp := fun vs H Q _ => ∃ cs : List Nat, vs = [.str (S cs)] ∧ CsOk cs ∧ ∀ H', Same H H' → Q (.bl true) H'
theorem sing_in {cs : List Nat} {j : Str} : (∃ c ∈ (S cs).cps.toList, j = PySem.Froz.sing c) ↔ j ∈ ones cs := by
  rw [chars_S, List.mem_map]
  exact ⟨fun ⟨c, hc, e⟩ => ⟨c, hc, e.symm⟩, fun ⟨c, hc, e⟩ => ⟨c, hc, e.symm⟩⟩
theorem one_lt {a b : Nat} : ([a] : List Nat) < [b] ↔ a < b := by
  rw [List.cons_lt_cons_iff]
  constructor
  · rintro (h | ⟨_, h⟩)
    · exact h
    · exact absurd h (List.not_lt_nil _)
  · exact .inl
theorem ones_nodup {cs : List Nat} (h : cs.Nodup) : (ones cs).Nodup := by
  rw [List.nodup_iff_pairwise_ne, List.pairwise_map]
  exact (List.nodup_iff_pairwise_ne.mp h).imp fun h e => h (List.cons.inj (S_inj e)).1
theorem ok_is_letters (T : Tx K mg) : FnG P w K mg base CX0 1 (He.ga K "is_letters") spIsL := by
  refine mk_is_letters T.d (fun vs H Q E h => ?_) (fun cdv A outer s H vs Q E hg hr h => ?_)
  · obtain ⟨cs, rfl, _⟩ := h
    rfl
  · obtain ⟨cs, rfl, co, q⟩ := h
    have nd := sc_is_letters.nd
    have hu := hr.units
    obtain ⟨tm, gm⟩ := T.ml
    refine ⟨_, pss_cons (ps_if (PW.pt (pw_or (pt_not (pt_val (pe_callB call_isi (by rfl) (T.z "isinstance" (by decide +kernel)) (by decide +kernel) (pa_cons (pv 0) (pa_cons (pe_bltn (v := .ty "str") (by rfl) (T.z "str" (by decide +kernel)) (by decide +kernel) rfl) pa_nil)))))
        (pw_or1 (pt_not (pt_chain op_le op_le pe_int (pe_callB call_len_str (by rfl) (T.z "len" (by decide +kernel)) (by decide +kernel) (pa_cons (pv 0) pa_nil)) (pe_glob (v := .int 4) (by rfl) gm ⟨_, rfl⟩)))))) (pss_one (ps_ret pe_bl)) pss_nil)
      (pss_one (ps_ret (pe_and (pe_cmpR (op_eqP T.sm hu) (pe_callTy (cr_listText rfl) (by rfl) (T.z "list" (by decide +kernel)) (by decide +kernel) (pa_cons (pv 0) pa_nil))
          (pe_callB (cr_sortedTx rfl) (by rfl) (T.z "sorted" (by decide +kernel)) (by decide +kernel) (pa_cons (pe_callTy (cr_setText rfl) (by rfl) (T.z "set" (by decide +kernel)) (by decide +kernel) (pa_cons (pv 0) pa_nil)) pa_nil)) (nomark _))
        (pe_one (pe_callB (cr_all rfl) (by rfl) (T.z "all" (by decide +kernel)) (by decide +kernel) (pa_cons
          (pe_lc (own := [("letter", 1)]) (g := gName 1) (tt := tYes) rfl nd (pi_str (pv 0)) (blkOk_by (N := n_is_letters) (sc := defScope s_is_letters) (by decide +kernel)) (fun _ _ _ _ _ => pg_name (i := 1) nd rfl (Or.inl rfl)) (fun _ _ _ _ _ => pts_nil)
            (fun _ _ _ _ _ => pe_chain op_le_str op_le_str pe_str (pv 1) pe_str)) pa_nil)))))), ?_⟩
    have ls := S_len cs
    have l1 := co.pos
    have l4 := co.few
    have sl : (S cs).length ≤ sizeLine := by rw [ls]; exact sl_of (by omega)
    have asz : (S cs).cps.size = cs.length := by simp
    have ascii : (S cs).cps.all (· < 128) = true := by
      rw [← Array.all_toList, chars_S, List.all_eq_true]
      intro c hc
      have := co.rng c hc
      exact decide_eq_true (by omega)
    have kS : PySem.W.kitOne K (.type "str") (.type "str") = some true := kit_str (.str (S cs))
    refine ⟨_, rfl, _, _, _, _, true, rfl, .ty "str", (Do.str (S cs) : Do K H _ _).ty, kS, _, rfl, ifF rfl ?_⟩
    refine ⟨_, rfl, _, rfl, sl, _, _, rfl, rfl, _, rfl, ?_⟩
    rw [ls]
    refine ifT (decide_eq_true (by omega)) ⟨_, _, rfl, rfl, _, rfl, ?_⟩
    rw [decide_eq_true (show (cs.length : Int) ≤ 4 by omega)]
    refine ifF rfl ?_
    refine ⟨_, rfl, S cs, rfl, by rw [asz]; omega, fun p np => ?_⟩
    have eL : ((S cs).cps.toList.map fun c => V.str ⟨#[c]⟩) = (ones cs).map V.str := by
      rw [chars_S, List.map_map]
      rfl
    rw [eL]
    have s1 := same_up (o := .lst ((ones cs).map V.str)) np
    refine ⟨_, rfl, S cs, rfl, ascii, by rw [asz]; unfold scanBound; omega, fun l g ndl ll hl ng => ?_⟩
    have s2 := same_up (o := SetTx P w g l) ng
    have pl : l.Perm (ones cs) := by
      refine perm_of_nodup (ones_nodup (asc_nodup co.asc)) (fun x hx => (hl x).mpr (sing_in.mpr hx)) ?_
      rw [List.length_map]
      rw [asz] at ll
      exact ll
    refine ⟨g, l, rfl, upd_same, by rw [asz] at ll; omega, fun ys p2 py srt np2 => ?_⟩
    have ey := ones_sorted (py.trans pl) srt co.asc
    rw [ey]
    have s3 := same_up (o := .lst ((ones cs).map V.str)) np2
    have fl := flat_str (ones cs)
    have dep := depth_flat fl
    have pln : (PyData.list (datL ((ones cs).map V.str))).plain = true := plain_flat fl
    refine ⟨.list (datL ((ones cs).map V.str)), .list (datL ((ones cs).map V.str)), .lst (SqL.of ((s2.trans s3) _ _ upd_same)) (do_flat fl), .lst (SqL.of upd_same) (do_flat fl), pln, pln, by simp only [PyData.depth]; omega, _, rfl, ?_⟩
    rw [eqv_same pln]
    refine ifT rfl ⟨_, rfl, S cs, rfl, fun D nD => lc_one wk_str (fun _ => .bl true) nD (by rw [asz]; omega) (fun _ _ => trivial) (fun j x H' R hj s' hx hR => ?_) (fun H' s' hD => ?_)⟩
    · obtain ⟨c, hc, rfl⟩ := hx
      rw [← Array.getElem?_toList, chars_S] at hc
      have rg := co.rng c (List.mem_of_getElem? hc)
      refine ⟨_, rfl, _, _, rfl, rfl, _, rfl, ?_⟩
      have h1 : (!decide ((⟨#[c]⟩ : Str).cps.toList < ("a" : Str).cps.toList)) = true := by
        have e : ("a" : Str).cps.toList = [97] := by decide +kernel
        rw [e, decide_eq_false (show ¬ ([c] : List Nat) < [97] from fun z => by have := one_lt.mp z; omega)]
        rfl
      refine ifT h1 ⟨_, _, rfl, rfl, ?_⟩
      have h2 : (!decide (("z" : Str).cps.toList < (⟨#[c]⟩ : Str).cps.toList)) = true := by
        have e : ("z" : Str).cps.toList = [122] := by decide +kernel
        rw [e, decide_eq_false (show ¬ ([122] : List Nat) < [c] from fun z => by have := one_lt.mp z; omega)]
        rfl
      rw [h2]
      exact hR
    · have e : ((List.range (S cs).cps.size).map fun _ => V.bl true) = (List.replicate cs.length true).map V.bl := by
        rw [asz, List.map_replicate, List.map_const', List.length_range]
      rw [e] at hD
      refine ⟨D, _, rfl, SqL.of hD, ?_⟩
      rw [show (List.replicate cs.length true).all id = true by simp]
      exact q H' (((s1.trans s2).trans s3).trans s')
end
end K84

namespace K84
open PySem PySem.Spec PyProof.Rows L2 Ver Num SX
section
variable {P : Program} {w : World} {K : PySem.W.Frag} {mg : Str → Option Value} {base : Heap}
/-! ### divisor_of, few_costs -/
def divN (ns : List Int) : Int := ns.foldl (fun a b => ((Nat.gcd a.natAbs b.natAbs : Nat) : Int)) 0
def spDiv (K : PySem.W.Frag) : Sp := fun vs H Q _ => ∃ (a : Addr) (ns : List Int), vs = [.ref a] ∧ SqL K H a (ns.map V.int) ∧ ∀ H', Same H H' → Q (.int (divN ns)) H'
theorem ok_div (T : Tx K mg) : FnG P w K mg base CX0 1 (He.ga K "divisor_of") (spDiv K) := by
  refine mk_divisor_of T.d (fun vs H Q E h => ?_) (fun cdv A outer s H vs Q E hg hr h => ?_)
  · obtain ⟨a, ns, rfl, _⟩ := h
    rfl
  · obtain ⟨a, ns, rfl, ha, q⟩ := h
    have nd := sc_divisor_of.nd
    refine ⟨_, pss_cons (ps_set (i := 1) nd rfl (Or.inl rfl) pe_int)
      (pss_cons (ps_for PassesOwn.never rfl (pi_list (pv 0)) (pg_name (i := 2) nd rfl (.inl rfl))
        (pss_one (ps_set (i := 1) nd rfl (Or.inl rfl) (pe_callBfun cr_gcd (by rfl) T.gcd (pa_cons (pv 1) (pa_cons (pv 2) pa_nil))))))
      (pss_one (ps_ret (pv 1)))), ?_⟩
    refine ⟨_, rfl, a, rfl, ⟨_, ha⟩, for_list (K := K) (a := a) (xs := ns.map V.int) (fun i σ H' => ∃ v : Option V, σ = [some (.ref a), some (.int (divN (ns.take i))), v] ∧ Same H H') ⟨none, rfl, Same.refl H⟩ (fun i σ H' _ ⟨_, _, sm⟩ => sm.seq ha) ?_ ?_⟩
    · rintro i x σ H' hx ⟨v, rfl, sm⟩
      rw [List.getElem?_map] at hx
      cases hn : ns[i]? with
      | none =>
        rw [hn] at hx
        cases hx
      | some n =>
        rw [hn] at hx
        cases hx
        refine ⟨_, rfl, _, rfl, _, _, rfl, ⟨some (.int n), ?_, sm⟩⟩
        have e : divN (ns.take (i + 1)) = ((Nat.gcd (divN (ns.take i)).natAbs n.natAbs : Nat) : Int) := by
          unfold divN
          rw [List.take_add_one, hn, List.foldl_append]
          rfl
        rw [e]
        rfl
    · rintro σ H' ⟨v, rfl, sm⟩
      refine ⟨_, rfl, ?_⟩
      rw [List.length_map, List.take_length]
      exact q H' sm
/-- which of the costs up to n are sums of steps -/
def fewL (st : List Int) : Nat → List Bool
  | 0 => [true]
  | n + 1 => fewL st n ++ [st.any fun s => decide (s ≤ ((n + 1 : Nat) : Int)) && (fewL st n).getD (((n + 1 : Nat) : Int) - s).toNat false]
theorem fewL_len (st : List Int) : ∀ n, (fewL st n).length = n + 1
  | 0 => rfl
  | n + 1 => by
    show (fewL st n ++ [_]).length = _
    rw [List.length_append, fewL_len st n]
    rfl
def spFew (K : PySem.W.Frag) : Sp := fun vs H Q _ => ∃ (a : Addr) (st : List Int), vs = [.ref a] ∧ SqL K H a (st.map V.int) ∧ (∀ s ∈ st, 1 ≤ s) ∧ st.length ≤ 10 ∧
  ∀ (p : Addr) (H' : Hp), Same H H' → H' p = some (.lst ((fewL st 55).map V.bl)) → H p = none → Q (.ref p) H'
theorem ok_few (T : Tx K mg) : FnG P w K mg base CX0 1 (He.ga K "few_costs") (spFew K) := by
  refine mk_few_costs T.d (fun vs H Q E h => ?_) (fun cdv A outer s H vs Q E hg hr h => ?_)
  · obtain ⟨a, st, rfl, _⟩ := h
    rfl
  · obtain ⟨a, st, rfl, ha, pos, l10, q⟩ := h
    have nd := sc_few_costs.nd
    obtain ⟨ts, gs⟩ := T.st
    refine ⟨_, pss_cons (ps_set (i := 1) nd rfl (Or.inr rfl) (pe_lst (pa_cons pe_bl pa_nil)))
      (pss_cons (ps_for PassesOwn.never rfl (pi_range2 (by rfl) (T.z "range" (by decide +kernel)) (pa_cons pe_int (pa_cons (pe_glob (v := .int 56) (by rfl) gs ⟨_, rfl⟩) pa_nil))) (pg_name (i := 2) nd rfl (.inr rfl))
        (pss_one (ps_expr (pe_bm PySem.F.plainAttrs_list PySem.F.slot_list_append PySem.F.type_list_append mt_append (pv 1) (pa_cons
          (pe_callB (cr_any rfl) (by rfl) (T.z "any" (by decide +kernel)) (by decide +kernel) (pa_cons
            (pe_lc (own := [("step", 3)]) (g := gName 3) (tt := tYes) rfl nd (pi_list (pv 0)) (blkOk_by (N := n_few_costs) (sc := defScope s_few_costs) (by decide +kernel)) (fun _ _ _ _ _ => pg_name (i := 3) nd rfl (Or.inl rfl)) (fun _ _ _ _ _ => pts_nil)
              (fun _ _ _ _ _ => pe_and (pe_cmpR op_le (pv 3) (pv 2) (nomark _)) (pe_one (pe_ix (r := rIxL K) ix_list (pv 1) (pe_op op_sub (pv 2) (pv 3)) (fun _ _ => rfl))))) pa_nil)) pa_nil)))))
      (pss_one (ps_ret (pv 1)))), ?_⟩
    refine ⟨by show 1 ≤ sizeLine; decide, fun p np => ?_⟩
    have s1 := same_up (o := .lst [.bl true]) np
    refine ⟨1, 56, rfl, ⟨by decide, by decide, by decide, by decide⟩, for_range (lo := 1) (n := 55) (fun i σ H' => ∃ v2 : Option V, σ = [some (.ref a), some (.ref p), v2, none] ∧ Same H H' ∧ H' p = some (.lst ((fewL st i).map V.bl))) ⟨none, rfl, s1, upd_same⟩ ?_ ?_⟩
    · rintro i σ H' hi ⟨v2, rfl, sm, hp⟩
      have hi : i < 55 := hi
      refine ⟨_, rfl, .inl ⟨rfl, _, SqL.of hp⟩, ?_⟩
      have ap : SqL K H' a (st.map V.int) := sm.seq ha
      refine ⟨_, rfl, a, rfl, ⟨_, ap⟩, fun D nD => lc_one wk_list (fun j => .bl (decide (st.getD j 0 ≤ ((i + 1 : Nat) : Int)) && (fewL st i).getD (((i + 1 : Nat) : Int) - st.getD j 0).toNat false)) nD (by rw [List.length_map]; omega) (fun H2 s2 => s2.seq ap) (fun j x H2 R hj s2 hx hR => ?_) (fun H2 s2 hD => ?_)⟩
      · rw [List.getElem?_map] at hx
        cases hn : st[j]? with
        | none =>
          rw [hn] at hx
          cases hx
        | some n =>
          rw [hn] at hx
          cases hx
          have en : st.getD j 0 = n := by
            rw [List.getD_eq_getElem?_getD, hn]
            rfl
          rw [en] at hR
          have n1 := pos n (List.mem_of_getElem? hn)
          have ei : (1 : Int) + (i : Int) = ((i + 1 : Nat) : Int) := by omega
          refine ⟨_, rfl, _, rfl, _, _, rfl, rfl, _, rfl, ?_⟩
          rw [ei]
          by_cases hle : n ≤ ((i + 1 : Nat) : Int)
          · rw [decide_eq_true hle] at hR ⊢
            refine ifT rfl ⟨_, rfl, _, rfl, _, rfl, _, _, rfl, rfl, ?_⟩
            obtain ⟨u, hu⟩ : ∃ u : Nat, ((i + 1 : Nat) : Int) - n = (u : Int) := ⟨(((i + 1 : Nat) : Int) - n).toNat, by omega⟩
            have ul : u < (fewL st i).length := by
              rw [fewL_len]
              omega
            dsimp only
            rw [hu]
            rw [hu, Int.toNat_natCast, Bool.true_and, List.getD_eq_getElem?_getD, List.getElem?_eq_getElem ul] at hR
            refine ⟨p, _, _, _, rfl, rfl, SqL.of (s2 _ _ hp), atI_nat (by rw [List.getElem?_map, List.getElem?_eq_getElem ul]; rfl), hR⟩
          · rw [decide_eq_false hle] at hR ⊢
            exact ifF rfl hR
      · have e : ((List.range (st.map V.int).length).map fun j => V.bl (decide (st.getD j 0 ≤ ((i + 1 : Nat) : Int)) && (fewL st i).getD (((i + 1 : Nat) : Int) - st.getD j 0).toNat false)) =
            (st.map fun s => decide (s ≤ ((i + 1 : Nat) : Int)) && (fewL st i).getD (((i + 1 : Nat) : Int) - s).toNat false).map V.bl := by
          rw [List.length_map, range_map st (fun s => V.bl (decide (s ≤ ((i + 1 : Nat) : Int)) && (fewL st i).getD (((i + 1 : Nat) : Int) - s).toNat false)) _ fun i x hx => by rw [List.getD_eq_getElem?_getD, hx]; rfl]
          rw [List.map_map]
          rfl
        rw [e] at hD
        refine ⟨D, _, rfl, SqL.of hD, ?_⟩
        have hp2 := s2 _ _ hp
        refine ⟨p, _, _, rfl, rfl, hp2, by rw [List.length_map, fewL_len, sizeLine_eq]; omega, _, rfl, ?_, ?_⟩
        · exact same_new np (sm.trans s2)
        · rw [upd_same, List.any_map]
          show some (HO.lst _) = some (HO.lst ((fewL st i ++ [_]).map V.bl))
          rw [List.map_append]
          rfl
    · rintro σ H' ⟨v2, rfl, sm, hp⟩
      exact ⟨_, rfl, q p H' sm hp np⟩
end
end K84

namespace K84
open PySem PySem.Spec PyProof.Rows L2 Ver Num SX
/-! ### orders -/
def costOf (M : LC) (c : Nat) : Int := match valV (dOf M) (.inr (S [c])) with
  | some (.int i) => i
  | _ => 1
abbrev withC (cs : List Nat) (M : LC) : LC := cs.map fun c => (c, costOf M c)
/-- the order at o -/
structure OrdAt (K : PySem.W.Frag) (H : Hp) (o : Addr) (L : LC) : Prop where
  ok : LOk L
  ex : ∃ dx dc fw, H o = some (.ins (OC K) dx [("_letters", .str (S (L.map (·.1)))), ("_costs", .ref dc), ("_divisor", .int (divN (L.map (·.2)))), ("_few", .ref fw)]) ∧ H dc = some (.dK (dOf L)) ∧
    H fw = some (.lst ((fewL (L.map (·.2)) 55).map V.bl))
theorem OrdAt.same {K : PySem.W.Frag} {H H' : Hp} {o : Addr} {L : LC} (h : OrdAt K H o L) (s : Same H H') : OrdAt K H' o L := ⟨h.ok, by
  obtain ⟨dx, dc, fw, h1, h2, h3⟩ := h.ex
  exact ⟨dx, dc, fw, s _ _ h1, s _ _ h2, s _ _ h3⟩⟩
theorem costOf_mem {M : LC} (nd : (M.map (·.1)).Nodup) {p : Nat × Int} (hp : p ∈ M) : costOf M p.1 = p.2 := by
  unfold costOf
  rw [valV_mem nd hp]
theorem costOf_rng {M : LC} (nd : (M.map (·.1)).Nodup) (h : ∀ p ∈ M, 1 ≤ p.2 ∧ p.2 ≤ 9) (c : Nat) : 1 ≤ costOf M c ∧ costOf M c ≤ 9 := by
  by_cases hc : c ∈ M.map (·.1)
  · obtain ⟨p, hp, rfl⟩ := List.mem_map.mp hc
    rw [costOf_mem nd hp]
    exact h p hp
  · unfold costOf
    rw [valV_off hc]
    exact ⟨by decide, by decide⟩
theorem val_int : ∀ {M : LC} {k : Key} {v : V}, valV (dOf M) k = some v → ∃ i, v = .int i
  | [], _, _, e => by cases e
  | p :: M, k, v, e => by
    by_cases h : (Sum.inr (S [p.1]) : Key) = k
    · have e2 : valV (dOf (p :: M)) k = some (.int p.2) := valV_pos h
      rw [e2] at e
      cases e
      exact ⟨_, rfl⟩
    · have e2 : valV (dOf (p :: M)) k = valV (dOf M) k := valV_neg h
      rw [e2] at e
      exact val_int e
theorem getD_cost {M : LC} (c : Nat) : (valV (dOf M) (.inr (S [c]))).getD (.int 1) = .int (costOf M c) := by
  unfold costOf
  cases e : valV (dOf M) (.inr (S [c])) with
  | none => rfl
  | some v =>
    obtain ⟨i, rfl⟩ := val_int e
    rfl
theorem nodup_len {α : Type} [BEq α] [LawfulBEq α] : ∀ {l m : List α}, l.Nodup → (∀ x ∈ l, x ∈ m) → l.length ≤ m.length
  | [], m, _, _ => Nat.zero_le _
  | x :: l, m, nd, hs => by
    obtain ⟨h1, h2⟩ := List.nodup_cons.mp nd
    have hx : x ∈ m := hs x List.mem_cons_self
    have e := List.length_erase_of_mem hx
    have hp : 0 < m.length := List.length_pos_of_mem hx
    have ih := nodup_len (l := l) (m := m.erase x) h2 fun y hy => (List.mem_erase_of_ne (show y ≠ x from fun z => h1 (z ▸ hy))).mpr (hs y (List.mem_cons_of_mem _ hy))
    rw [List.length_cons]
    omega
section
variable {P : Program} {w : World} {K : PySem.W.Frag} {mg : Str → Option Value} {base : Heap}
/-! ### Order.__init__ -/
abbrev kwOf (M : LC) : List (Str × V) := M.map fun p => (S [p.1], V.int p.2)
theorem kw_dOf (M : LC) : (kwOf M).map (fun q => ((Sum.inr q.1 : Key), q.2)) = dOf M := by
  rw [List.map_map]
  rfl
structure InitOk (cs : List Nat) (M : LC) : Prop where
  lt : CsOk cs
  nd : (M.map (·.1)).Nodup
  mem : ∀ p ∈ M, p.1 ∈ cs
  rng : ∀ p ∈ M, 1 ≤ p.2 ∧ p.2 ≤ 9
theorem InitOk.few {cs : List Nat} {M : LC} (o : InitOk cs M) : M.length ≤ 4 := by
  have h : (M.map (·.1)).length ≤ cs.length := by
    have sub : ∀ x ∈ M.map (·.1), x ∈ cs := fun x hx => by
      obtain ⟨p, hp, rfl⟩ := List.mem_map.mp hx
      exact o.mem p hp
    exact nodup_len o.nd sub
  rw [List.length_map] at h
  exact Nat.le_trans h o.lt.few
theorem InitOk.lok {cs : List Nat} {M : LC} (o : InitOk cs M) : LOk (withC cs M) := by
  have e : (withC cs M).map (·.1) = cs := by
    rw [List.map_map]
    exact List.map_id cs
  refine ⟨by rw [List.length_map]; exact o.lt.pos, by rw [List.length_map]; exact o.lt.few, by rw [e]; exact o.lt.asc, fun p hp => ?_, fun p hp => ?_⟩
  · obtain ⟨c, hc, rfl⟩ := List.mem_map.mp hp
    exact o.lt.rng c hc
  · obtain ⟨c, hc, rfl⟩ := List.mem_map.mp hp
    exact costOf_rng o.nd o.rng c
/-- all but what stands at o is kept -/
def Off (o : Addr) (H H' : Hp) : Prop := ∀ b u, H b = some u → b ≠ o → H' b = some u
theorem Off.same {o : Addr} {H H' : Hp} (s : Same H H') : Off o H H' := fun b u e _ => s b u e
theorem Off.trans {o : Addr} {H H1 H2 : Hp} (a : Off o H H1) (b : Off o H1 H2) : Off o H H2 := fun c u e n => b c u (a c u e n) n
theorem Off.up {o : Addr} {H : Hp} {u : HO} : Off o H (upd H o u) := fun b x e n => by
  rw [upd_ne n]
  exact e
def bodyInit (K : PySem.W.Frag) : Sp := fun vs H Q _ => ∃ (o dx p : Addr) (cs : List Nat) (M : LC), vs = [.ref o, .str (S cs), .ref p] ∧ InitOk cs M ∧ H o = some (.ins (OC K) dx []) ∧ H p = some (.dK (dOf M)) ∧
  ∀ H', Off o H H' → OrdAt K H' o (withC cs M) → Q .non H'
theorem init_body (T : Tx K mg) (cdv : Value) (A : Around) (outer : List Env) (s : Shared) (H : Hp) (vs : List V) (Q : VK) (E : XK) (hg : A.guards = some []) (hr : Room 2 (A.deeper (envOfC "Order.__init__" (defScope s_Order___init__) s.heap.objs.size (He.ma K (He.ga K "Order") "__init__") cdv)))
    (h : bodyInit K vs H Q E) : ∃ t, PSs (cxOf CX0 P w K mg base n_Order___init__ "Order.__init__" (defScope s_Order___init__) (He.ma K (He.ga K "Order") "__init__") cdv A outer s H E).nox (defBody s_Order___init__) t ∧
      t { nx := fun _ H' => Q .non H', rt := Q } (start n_Order___init__ vs) H := by
  obtain ⟨o, dx, p, cs, M, rfl, ok, ho, hp, q⟩ := h
  have nd := sc_Order___init__.nd
  have hu := hu_of hr
  obtain ⟨tg, gg⟩ := T.gc
  have zl := T.z "list" (by decide +kernel)
  have bl : bootBuiltins "list" = some (.type "list") := by decide +kernel
  refine ⟨_, pss_cons (ps_if (pt_not (pt_val (pe_callG (ok_is_letters T) (hr.mono (by decide)) hg (by rfl) (T.g "is_letters" (by decide +kernel)) (kp_is_letters T.d) pass0 (pa_cons (pv 1) pa_nil)))) pss_never pss_nil)
    (pss_cons (ps_for PassesOwn.never rfl (pi_list (pe_callB cr_sortedS (by rfl) (T.z "sorted" (by decide +kernel)) (by decide +kernel) (pa_cons (pe_callTy (call_list_dK rfl) (by rfl) zl bl (pa_cons (pv 2) pa_nil)) pa_nil))) (pg_name (i := 3) nd rfl (.inl rfl))
      (pss_one (ps_if (PW.pt (pw_or (pt_cmpR op_notIn_seq (pv 3) (pe_callTy (cr_listText rfl) (by rfl) zl bl (pa_cons (pv 1) pa_nil)) (by rfl))
        (pw_or1 (pt_not (pt_val (pe_callG (ok_is_between T) hr hg (by rfl) (T.g "is_between" (by decide +kernel)) (kp_is_between T.d) pass0 (pa_cons (pe_dget hu (pv 2) (pv 3) (fun _ _ => rfl)) (pa_cons pe_int (pa_cons (pe_glob (v := .int 9) (by rfl) gg ⟨_, rfl⟩) pa_nil))))))))) pss_never pss_nil)))
    (pss_cons (ps_fld (pv 0) (pv 1) rfl)
    (pss_cons (ps_fld (pv 0) (pe_dc (own := [("letter", 4)]) (g := gName 4) (tt := tYes) rfl nd (pi_str (pv 1)) (blkOk_by (N := n_Order___init__) (sc := defScope s_Order___init__) (by decide +kernel)) (fun _ _ _ _ _ => pg_name (i := 4) nd rfl (Or.inl rfl)) (fun _ _ _ _ _ => pts_nil)
      (fun _ _ _ _ _ => pv 4) (fun _ _ _ _ _ => pe_dget2 hu (pv 2) (pv 4) pe_int ⟨rfl, rfl, rfl, rfl⟩)) rfl)
    (pss_cons (ps_fld (pv 0) (pe_callG (ok_div T) (hr.mono (by decide)) hg (by rfl) (T.g "divisor_of" (by decide +kernel)) (kp_divisor_of T.d) pass0 (pa_cons (pe_listVals rfl (pe_fld (pv 0) rfl) (by rfl) zl bl) pa_nil)) rfl)
    (pss_one (ps_fld (pv 0) (pe_callG (ok_few T) (hr.mono (by decide)) hg (by rfl) (T.g "few_costs" (by decide +kernel)) (kp_few_costs T.d) pass0 (pa_cons (pe_listVals rfl (pe_fld (pv 0) rfl) (by rfl) zl bl) pa_nil)) rfl))))))
    , ?_⟩
  have ls := S_len cs
  have l1 := ok.lt.pos
  have l4 := ok.lt.few
  have m4 := ok.few
  have asz : (S cs).cps.size = cs.length := by simp
  have eL : ((S cs).cps.toList.map fun c => V.str ⟨#[c]⟩) = (ones cs).map V.str := by
    rw [chars_S, List.map_map]
    rfl
  refine ⟨_, rfl, cs, rfl, ok.lt, fun H1 s1 => ⟨_, rfl, ifF rfl ?_⟩⟩
  refine ⟨_, rfl, p, dOf M, rfl, s1 _ _ hp, fun a1 n1 => ?_⟩
  rw [keys_dOf]
  have s2 := same_up (o := .lst ((ones (M.map (·.1))).map V.str)) n1
  refine ⟨a1, _, rfl, SqL.of upd_same, by rw [List.length_map, List.length_map]; omega, fun ys a2 py srt n2 => ?_⟩
  have s3 := same_up (o := .lst (ys.map V.str)) n2
  have s13 := (s1.trans s2).trans s3
  refine ⟨a2, rfl, ⟨_, SqL.of upd_same⟩, for_list (K := K) (a := a2) (xs := ys.map V.str) (fun i σ H' => ∃ v : Option V, σ = [some (.ref o), some (.str (S cs)), some (.ref p), v, none] ∧ Same H H' ∧ H' a2 = some (.lst (ys.map V.str))) ⟨none, rfl, s13, upd_same⟩ (fun i σ H' _ ⟨_, _, _, h⟩ => SqL.of h) ?_ ?_⟩
  · rintro i x σ H' hx ⟨v, rfl, sm, hl⟩
    rw [List.getElem?_map] at hx
    cases hn : ys[i]? with
    | none =>
      rw [hn] at hx
      cases hx
    | some y =>
      rw [hn] at hx
      cases hx
      obtain ⟨c, hc, rfl⟩ := List.mem_map.mp (py.mem_iff.mp (List.mem_of_getElem? hn))
      obtain ⟨pc, hpc, rfl⟩ := List.mem_map.mp hc
      have hcs := ok.mem pc hpc
      have hrg := ok.rng pc hpc
      refine ⟨_, rfl, _, rfl, S cs, rfl, by rw [asz]; omega, fun l nl => ?_⟩
      rw [eL]
      have s4 := same_up (o := .lst ((ones cs).map V.str)) nl
      refine ⟨l, _, rfl, .inl (SqL.of upd_same), rfl, ?_, _, rfl, ?_⟩
      · rw [List.all_map, List.all_eq_true]
        exact fun _ _ => rfl
      · have hin : inV (V.str (S [pc.1])) ((ones cs).map V.str) = true := by
          refine List.any_eq_true.mpr ⟨V.str (S [pc.1]), List.mem_map.mpr ⟨_, List.mem_map.mpr ⟨pc.1, hcs, rfl⟩, rfl⟩, ?_⟩
          show (S [pc.1] == S [pc.1]) = true
          exact beq_self_eq_true _
        refine ifF (by show (!inV _ _) = false; rw [hin]; rfl) ?_
        have hp4 := s4 _ _ (sm _ _ hp)
        have hv := DGet.k (k := Sum.inr (S [pc.1])) hp4
        rw [valV_mem ok.nd hpc] at hv
        refine ⟨_, rfl, _, rfl, p, _, rfl, hv, _, _, 1, 9, rfl, .int pc.2, ?_⟩
        have hb : btw 1 9 (.int pc.2) = true := by
          show (decide (1 ≤ pc.2) && decide (pc.2 ≤ 9)) = true
          rw [decide_eq_true hrg.1, decide_eq_true hrg.2]
          rfl
        rw [hb]
        exact ⟨_, rfl, ifF rfl ⟨_, rfl, sm.trans s4, s4 _ _ hl⟩⟩
  · rintro σ H2 ⟨v, rfl, sm, _⟩
    have ho2 := sm _ _ ho
    have hp2 := sm _ _ hp
    have po : p ≠ o := ne_of hp ho (by intro z; cases z)
    have nf : ∀ f ∈ ofs, NoAttr K (OC K) f := T.o.na
    -- _letters
    refine ⟨_, rfl, _, rfl, o, _, dx, _, rfl, ho2, T.o.cl, nf _ (by decide +kernel), by show 0 < 1000; decide, ?_⟩
    -- _costs
    generalize hHb : upd H2 o (.ins (OC K) dx (putF "_letters" (.str (S cs)) [])) = Hb at *
    have off1 : Off o H Hb := (Off.same sm).trans (by rw [← hHb]; exact Off.up)
    have hpb : Hb p = some (.dK (dOf M)) := off1 _ _ hp po
    have hob : Hb o = some (.ins (OC K) dx [("_letters", .str (S cs))]) := by rw [← hHb, upd_same]; rfl
    have inj : ∀ a b, a < (S cs).cps.size → b < (S cs).cps.size → (Sum.inr (S [cs.getD a 0]) : Key) = .inr (S [cs.getD b 0]) → a = b := fun a b ha hb e => by
      rw [asz] at ha hb
      have e2 : cs.getD a 0 = cs.getD b 0 := (List.cons.inj (S_inj (Sum.inr.inj e))).1
      rw [List.getD_eq_getElem?_getD, List.getD_eq_getElem?_getD, List.getElem?_eq_getElem ha, List.getElem?_eq_getElem hb] at e2
      exact (List.getElem_inj (asc_nodup ok.lt.asc)).mp e2
    refine ⟨_, rfl, S cs, rfl, fun D nD => dc_one wk_str (fun i => .inr (S [cs.getD i 0])) (fun i => .int (costOf M (cs.getD i 0))) inj nD (by rw [asz]; omega) (fun _ _ => trivial) (fun j x H' R hj s' hx hR => ?_) (fun j x H' R hj s' hx hR => ?_) (fun H3 s3b hD => ?_)⟩
    · obtain ⟨c, hc, rfl⟩ := hx
      rw [← Array.getElem?_toList, chars_S] at hc
      have e : cs.getD j 0 = c := by rw [List.getD_eq_getElem?_getD, hc]; rfl
      rw [e] at hR
      exact ⟨_, rfl, hR⟩
    · obtain ⟨c, hc, rfl⟩ := hx
      rw [← Array.getElem?_toList, chars_S] at hc
      have e : cs.getD j 0 = c := by rw [List.getD_eq_getElem?_getD, hc]; rfl
      rw [e, ← getD_cost] at hR
      exact ⟨_, rfl, p, rfl, .inl ⟨_, .inl (s' _ _ hpb)⟩, _, rfl, _, DGet.k (k := Sum.inr (S [c])) (s' _ _ hpb), hR⟩
    · have eD : ((List.range (S cs).cps.size).map fun i => ((.inr (S [cs.getD i 0]) : Key), V.int (costOf M (cs.getD i 0)))) = dOf (withC cs M) := by
        rw [asz, range_map cs (fun c => ((.inr (S [c]) : Key), V.int (costOf M c))) _ fun i x hx => by rw [List.getD_eq_getElem?_getD, hx]; rfl]
        rw [dOf, List.map_map]
        rfl
      rw [eD] at hD
      have oD : o ≠ D := ne_of_none hob nD
      have Do : D ≠ o := Ne.symm oD
      refine ⟨_, rfl, o, _, dx, _, rfl, s3b _ _ hob, T.o.cl, nf _ (by decide +kernel), by show 1 < 1000; decide, ?_⟩
      generalize hH4 : upd H3 o (.ins (OC K) dx (putF "_costs" (.ref D) [("_letters", .str (S cs))])) = H4 at *
      have off4 : Off o H H4 := (off1.trans (Off.same s3b)).trans (by rw [← hH4]; exact Off.up)
      have ho4 : H4 o = some (.ins (OC K) dx [("_letters", .str (S cs)), ("_costs", .ref D)]) := by rw [← hH4, upd_same]; rfl
      have hD4 : H4 D = some (.dK (dOf (withC cs M))) := by rw [← hH4, upd_ne Do]; exact hD
      have ev : ((dOf (withC cs M)).map (·.2)) = ((withC cs M).map (·.2)).map V.int := by
        rw [List.map_map, List.map_map, List.map_map, List.map_map]
        rfl
      -- _divisor
      refine ⟨_, rfl, o, _, dx, _, _, rfl, ho4, T.o.cl, nf _ (by decide +kernel), rfl, D, _, rfl, hD4, fun q1 nq1 => ?_⟩
      rw [ev]
      have s5 := same_up (o := .lst (((withC cs M).map (·.2)).map V.int)) nq1
      refine ⟨q1, _, rfl, SqL.of upd_same, fun H5 s5' => ?_⟩
      have s45 := s5.trans s5'
      refine ⟨_, rfl, o, _, dx, _, rfl, s45 _ _ ho4, T.o.cl, nf _ (by decide +kernel), by show 2 < 1000; decide, ?_⟩
      generalize hH6 : upd H5 o (.ins (OC K) dx (putF "_divisor" (.int (divN ((withC cs M).map (·.2)))) [("_letters", .str (S cs)), ("_costs", .ref D)])) = H6 at *
      have off6 : Off o H H6 := (off4.trans (Off.same s45)).trans (by rw [← hH6]; exact Off.up)
      have ho6 : H6 o = some (.ins (OC K) dx [("_letters", .str (S cs)), ("_costs", .ref D), ("_divisor", .int (divN ((withC cs M).map (·.2))))]) := by rw [← hH6, upd_same]; rfl
      have hD6 : H6 D = some (.dK (dOf (withC cs M))) := by rw [← hH6, upd_ne Do]; exact s45 _ _ hD4
      -- _few
      refine ⟨_, rfl, o, _, dx, _, _, rfl, ho6, T.o.cl, nf _ (by decide +kernel), rfl, D, _, rfl, hD6, fun q2 nq2 => ?_⟩
      rw [ev]
      have s7 := same_up (o := .lst (((withC cs M).map (·.2)).map V.int)) nq2
      have lo := ok.lok
      refine ⟨q2, _, rfl, SqL.of upd_same, fun s hs => ?_, by rw [List.length_map, List.length_map]; omega, fun fw H8 s8 hfw nfw => ?_⟩
      · obtain ⟨pc, hpc, rfl⟩ := List.mem_map.mp hs
        exact (lo.cost pc hpc).1
      have s78 := s7.trans s8
      refine ⟨_, rfl, o, _, dx, _, rfl, s78 _ _ ho6, T.o.cl, nf _ (by decide +kernel), by show 3 < 1000; decide, ?_⟩
      have of : o ≠ fw := ne_of_none (s7 _ _ ho6) nfw
      refine q _ ((off6.trans (Off.same s78)).trans Off.up) ⟨lo, dx, D, fw, ?_, ?_, ?_⟩
      · rw [upd_same]
        have e : (withC cs M).map (·.1) = cs := by
          rw [List.map_map]
          exact List.map_id cs
        rw [e]
        rfl
      · rw [upd_ne Do]
        exact s78 _ _ hD6
      · rw [upd_ne (Ne.symm of)]
        exact hfw
end
end K84

namespace K84
open PySem PySem.Spec PyProof.Rows L2 Ver Num SX
section
variable {P : Program} {w : World} {K : PySem.W.Frag} {mg : Str → Option Value} {base : Heap}
def spInitK (K : PySem.W.Frag) : KSp := fun vs kvs H Q _ => ∃ (o dx : Addr) (cs : List Nat) (M : LC), vs = [.ref o, .str (S cs)] ∧ kvs = kwOf M ∧ InitOk cs M ∧ H o = some (.ins (OC K) dx []) ∧
  ∀ H', Off o H H' → OrdAt K H' o (withC cs M) → Q .non H'
theorem sing_ne {c : Nat} : (["self", "letters"] : List Str).contains (S [c]) = false := by
  have h : ∀ t ∈ (["self", "letters"] : List Str), t ≠ S [c] := fun t ht z => by
    have l : t.length = 1 := by rw [z, S_len]; rfl
    have : ∀ t ∈ (["self", "letters"] : List Str), t.length ≠ 1 := by decide +kernel
    exact this t ht l
  rw [List.contains_eq_any_beq, List.any_eq_false]
  intro t ht z
  exact h t ht (beq_iff_eq.mp z).symm
theorem ok_init (T : Tx K mg) : FnKw P w K mg base CX0 3 (He.ma K (OC K) "__init__") (spInitK K) := by
  obtain ⟨fd, F⟩ := T.d.def_ 3 (d := d_Order___init__) rfl
  have G := okKw (P := P) (w := w) (mg := mg) (base := base) (CX := CX0) (k := 2) (sp := bodyInit K) F sc_Order___init__ StX.cxUp_none (fun us hl => by
      match us, hl with
      | [_, _], _ => rfl) (fun us hl => by
      match us, hl with
      | [_, _], _ => rfl) fun cdv A outer s H vs Q E hg hr h => by
    obtain ⟨t, ht, q⟩ := init_body T cdv A outer s H vs Q E hg hr h
    exact ⟨t, ht.nox, q⟩
  intro A outer s H us vs kws kvs Q E hg hr e0 r rk h
  obtain ⟨o, dx, cs, M, rfl, rfl, ok, ho, q⟩ := h
  have m4 := ok.few
  refine G A outer s H us _ kws _ Q E hg hr e0 r rk ⟨rfl, by rw [List.length_map]; exact sl_of (by omega), ?_, fun p hp => ?_, fun p np => ?_⟩
  · have h1 := ones_nodup ok.nd
    have e : (kwOf M).map (·.1) = ones (M.map (·.1)) := by
      rw [List.map_map]
      show _ = (M.map (·.1)).map _
      rw [List.map_map]
      rfl
    rw [e]
    exact h1
  · obtain ⟨pc, hpc, rfl⟩ := List.mem_map.mp hp
    exact sing_ne
  · rw [kw_dOf]
    have s1 := same_up (o := .dK (dOf M)) np
    exact ⟨o, dx, p, cs, M, rfl, ok, s1 _ _ ho, upd_same, fun H' off at_ => q H' ((Off.same s1).trans off) at_⟩
/-! ### Order.of_costs -/
theorem withC_perm {L M : LC} (ok : LOk L) (pm : M.Perm L) : InitOk (L.map (·.1)) M ∧ withC (L.map (·.1)) M = L := by
  have ndM : (M.map (·.1)).Nodup := (pm.map (·.1)).nodup_iff.mpr (asc_nodup ok.asc)
  refine ⟨⟨ok.cs, ndM, fun p hp => List.mem_map.mpr ⟨p, pm.mem_iff.mp hp, rfl⟩, fun p hp => ok.cost p (pm.mem_iff.mp hp)⟩, ?_⟩
  rw [withC, List.map_map]
  conv => rhs; rw [← List.map_id L]
  refine List.map_congr_left fun p hp => ?_
  show (p.1, costOf M p.1) = p
  rw [costOf_mem ndM (pm.mem_iff.mpr hp)]
def spOf (K : PySem.W.Frag) : Sp := fun vs H Q _ => ∃ (C : V) (a : Addr) (L M : LC), vs = [C, .ref a] ∧ LOk L ∧ M.Perm L ∧ H a = some (.dK (dOf M)) ∧
  ∀ (o : Addr) (H' : Hp), Same H H' → OrdAt K H' o L → H o = none → Q (.ref o) H'
theorem sc_of_costs : FnScope ["cls", "costs", "name", "letters"] ["cls", "costs"] (defScope s_Order_of_costs) := ⟨rfl, rfl, rfl, by decide +kernel, rfl, by decide +kernel, by decide +kernel⟩
theorem ok_of_costs (T : Tx K mg) {g : Addr} {fd : FuncData} (FD : FunD K "of_costs" "Order.of_costs" (defArgs s_Order_of_costs) (defBody s_Order_of_costs) (defScope s_Order_of_costs) [] [] g fd) : FnG P w K mg base CX0 5 g (spOf K) := by
  refine ok0 FD sc_of_costs (FD.bindsA fun _ _ _ _ _ _ us hl => match us, hl with | [_, _], _ => rfl) (fun vs H Q E h => ?_) (fun cdv A outer s H vs Q E hg hr h => ?_)
  · obtain ⟨C, a, L, M, rfl, _⟩ := h
    rfl
  · obtain ⟨C, a, L, M, rfl, ok, pm, ha, q⟩ := h
    have nd := sc_of_costs.nd
    have zi := T.z "isinstance" (by decide +kernel)
    have bi : bootBuiltins "isinstance" = some (.builtin "isinstance") := by decide +kernel
    refine ⟨_, pss_cons (ps_if (PW.pt (pw_or (pt_not (pt_val (pe_callB call_isi (by rfl) zi bi (pa_cons (pv 1) (pa_cons (pe_bltn (v := .ty "dict") (by rfl) (T.z "dict" (by decide +kernel)) (by decide +kernel) rfl) pa_nil)))))
        (pw_or1 (pt_not (pt_val (pe_callB (cr_all rfl) (by rfl) (T.z "all" (by decide +kernel)) (by decide +kernel) (pa_cons
          (pe_lock (pe_lc (own := [("name", 2)]) (g := gName 2) (tt := tYes) rfl nd (pi_keys (pv 1)) (blkOk_by (N := ["cls", "costs", "name", "letters"]) (sc := defScope s_Order_of_costs) (by decide +kernel)) (fun _ _ _ _ _ => pg_name (i := 2) nd rfl (Or.inl rfl)) (fun _ _ _ _ _ => pts_nil)
            (fun _ _ _ _ _ => pe_and (pe_callB (r := rIsi K) call_isi (by rfl) zi bi (pa_cons (pv 2) (pa_cons (pe_bltn (v := .ty "str") (by rfl) (T.z "str" (by decide +kernel)) (by decide +kernel) rfl) pa_nil)))
              (pe_one (pe_cmpR op_eq (pe_callB call_len_str (by rfl) (T.z "len" (by decide +kernel)) (by decide +kernel) (pa_cons (pv 2) pa_nil)) pe_int (nomark _)))))) pa_nil))))))) pss_never pss_nil)
      (pss_cons (ps_set (i := 3) nd rfl (Or.inl rfl) (pe_join pe_str (pe_callB cr_sortedS (by rfl) (T.z "sorted" (by decide +kernel)) (by decide +kernel) (pa_cons (pe_callTy (call_list_dK rfl) (by rfl) (T.z "list" (by decide +kernel)) (by decide +kernel) (pa_cons (pv 1) pa_nil)) pa_nil))))
      (pss_cons (ps_if (pt_not (pt_val (pe_callG (ok_is_letters T) (hr.mono (by decide)) hg (by rfl) (T.g "is_letters" (by decide +kernel)) (kp_is_letters T.d) pass0 (pa_cons (pv 3) pa_nil)))) pss_never pss_nil)
      (pss_one (ps_ret (pe_makeD T.o.mkr (ok_init T) hr hg (by rfl) (T.g "Order" (by decide +kernel)) pass0 (pa_cons (pv 3) pa_nil) (pv 1)))))), ?_⟩
    have l1 := ok.pos
    have l4 := ok.few
    have ml := pm.length_eq
    have dl : (dOf M).length = M.length := List.length_map _
    have kD : PySem.W.kitOne K (.type "dict") (.type "dict") = some true := kit_dict (.dict [])
    have kS : PySem.W.kitOne K (.type "str") (.type "str") = some true := kit_str (.str "")
    refine ⟨_, rfl, _, _, _, _, true, rfl, .ty "dict", ?_, kD, _, rfl, ifF rfl ?_⟩
    · exact .base (.dK ha)
    refine ⟨a, _, ha, trivial, fun od => ?_⟩
    refine ⟨_, rfl, a, od, rfl, .inl ⟨dOf M, upd_same, fun D nD => lc_one wk_keys (fun _ => .bl true) nD (by rw [dl]; omega) (fun H' s' => s' _ _ upd_same) (fun j x H' R hj s' hx hR => ?_) (fun H1 s1 hD => ?_)⟩⟩
    · obtain ⟨k, v, hk, rfl⟩ := hx
      rw [List.getElem?_map] at hk
      cases hm : M[j]? with
      | none =>
        rw [hm] at hk
        cases hk
      | some p =>
        rw [hm] at hk
        cases hk
        refine ⟨_, rfl, _, _, _, _, true, rfl, .ty "str", (Do.str (S [p.1]) : Do K H' _ _).ty, kS, _, rfl, ifT rfl ⟨_, rfl, _, rfl, ?_, rfl, ?_⟩⟩
        · rw [S_len]
          exact sl_of (by show 1 ≤ 20000; decide)
        · have e : decide (V.int ((S [p.1]).length : Int) = V.int 1) = true := by
            rw [S_len]
            rfl
          rw [e]
          exact hR
    · refine ⟨s1 _ _ upd_same, ?_⟩
      have aD : a ≠ D := ne_of_none upd_same nD
      have sH : Same H (upd H1 a (.dK (dOf M))) := fun b u e => by
        by_cases hb : b = a
        · rw [hb, upd_same, ← ha, ← hb, e]
        · rw [upd_ne hb]
          refine s1 _ _ ?_
          rw [upd_ne hb]
          exact e
      have hD2 : upd H1 a (.dK (dOf M)) D = some (.lst (((List.range (dOf M).length).map fun _ => V.bl true))) := by
        rw [upd_ne (Ne.symm aD)]
        exact hD
      generalize upd H1 a (.dK (dOf M)) = H2 at sH hD2
      have e : ((List.range (dOf M).length).map fun _ => V.bl true) = (List.replicate M.length true).map V.bl := by
        rw [dl, List.map_replicate, List.map_const', List.length_range]
      rw [e] at hD2
      refine ⟨D, _, rfl, SqL.of hD2, _, rfl, ?_⟩
      rw [show (List.replicate M.length true).all id = true by simp]
      refine ifF rfl ?_
      -- letters
      refine ⟨⟨_, rfl⟩, _, rfl, a, dOf M, rfl, sH _ _ ha, fun q1 n1 => ?_⟩
      rw [keys_dOf]
      have s2 := same_up (o := .lst ((ones (M.map (·.1))).map V.str)) n1
      refine ⟨q1, _, rfl, SqL.of upd_same, by rw [List.length_map, List.length_map]; omega, fun ys q2 py srt n2 => ?_⟩
      have s3 := same_up (o := .lst (ys.map V.str)) n2
      have ey : ys = ones (L.map (·.1)) := ones_sorted (py.trans ((pm.map (·.1)).map _)) srt ok.asc
      subst ey
      refine ⟨_, q2, _, rfl, rfl, .inl (SqL.of upd_same), ?_, ?_⟩
      · rw [ones_len, List.length_map, List.length_map, show ("" : Str).length = 0 from rfl, Nat.mul_zero]
        omega
      · rw [show ("" : Str) = S [] from rfl, Ver.join_ones]
        refine ⟨_, rfl, _, rfl, ok.cs, fun H5 s5 => ⟨_, rfl, ifF rfl ?_⟩⟩
        have sA := ((sH.trans s2).trans s3).trans s5
        refine ⟨_, rfl, fun d nd2 => ?_⟩
        have s6 := same_up (o := .dK []) nd2
        obtain ⟨io, ew⟩ := withC_perm ok pm
        refine ⟨_, rfl, a, kwOf M, rfl, upd_same, ?_, (ne_of_none (sA _ _ ha) nd2).symm, fun x dx nx ndx ne => ?_⟩
        · rw [kw_dOf]
          exact s6 _ _ (sA _ _ ha)
        · rw [kw_dOf] at nx ndx ⊢
          refine ⟨x, dx, L.map (·.1), M, rfl, rfl, io, upd_same, fun H' off at_ => ⟨rfl, ?_⟩⟩
          rw [ew] at at_
          refine q x H' (fun b u e => ?_) at_ ?_
          · have h1 := sA _ _ e
            have bd : b ≠ d := ne_of_none h1 nd2
            have h2 : upd (upd H5 d (.dK [])) d (.dK (dOf M)) b = some u := by rw [upd_ne bd, upd_ne bd]; exact h1
            refine off b u ?_ (ne_of_none h2 nx)
            rw [upd_ne (ne_of_none h2 nx), upd_ne (ne_of_none h2 ndx)]
            exact h2
          · cases e : H x with
            | none => rfl
            | some u =>
              have h1 := sA _ _ e
              have bd : x ≠ d := ne_of_none h1 nd2
              rw [upd_ne bd, upd_ne bd, h1] at nx
              cases nx
end
end K84

namespace K84
open PySem PySem.Spec PyProof.Rows L2 Ver Num SX
/-! ### is_letters of any text -/
instance csDec (cs : List Nat) : Decidable (CsOk cs) :=
  decidable_of_iff (1 ≤ cs.length ∧ cs.length ≤ 4 ∧ cs.Pairwise (· < ·) ∧ ∀ c ∈ cs, 97 ≤ c ∧ c ≤ 122) ⟨fun ⟨a, b, c, d⟩ => ⟨a, b, c, d⟩, fun h => ⟨h.pos, h.few, h.asc, h.rng⟩⟩
def azB (c : Nat) : Bool := decide (97 ≤ c) && decide (c ≤ 122)
theorem cs_dec {cs : List Nat} (h1 : 1 ≤ cs.length) (h4 : cs.length ≤ 4) (h : cs.Pairwise (· < ·)) : decide (CsOk cs) = cs.all azB := by
  by_cases h5 : cs.all azB = true
  · rw [h5]
    refine decide_eq_true ⟨h1, h4, h, fun c hc => ?_⟩
    have := List.all_eq_true.mp h5 c hc
    unfold azB at this
    rw [Bool.and_eq_true, decide_eq_true_eq, decide_eq_true_eq] at this
    exact this
  · rw [Bool.eq_false_iff.mpr h5]
    refine decide_eq_false fun z => h5 (List.all_eq_true.mpr fun c hc => ?_)
    have := z.rng c hc
    unfold azB
    rw [decide_eq_true this.1, decide_eq_true this.2]
    rfl
theorem eqv_strs : ∀ (xs ys : List Str), PyData.eqvAll (datL (xs.map V.str)) (datL (ys.map V.str)) = decide (xs = ys)
  | [], [] => by simp [datL, PyData.eqvAll]
  | [], y :: ys => by simp [datL, flatD, PyData.eqvAll]
  | x :: xs, [] => by simp [datL, flatD, PyData.eqvAll]
  | x :: xs, y :: ys => by
    have ih := eqv_strs xs ys
    have e1 : datL ((x :: xs).map V.str) = .str x :: datL (xs.map V.str) := rfl
    have e2 : datL ((y :: ys).map V.str) = .str y :: datL (ys.map V.str) := rfl
    rw [e1, e2]
    simp only [PyData.eqvAll, PyData.eqv]
    rw [ih]
    by_cases h : x = y
    · by_cases h2 : xs = ys
      · subst h h2
        simp
      · simp [h, h2]
    · have hb : (x == y) = false := beq_eq_false_iff_ne.mpr h
      rw [hb]
      simp [h]
theorem eqv_strL (xs ys : List Str) : PyData.eqv (.list (datL (xs.map V.str))) (.list (datL (ys.map V.str))) = decide (xs = ys) := by
  have e : PyData.eqv (.list (datL (xs.map V.str))) (.list (datL (ys.map V.str))) = PyData.eqvAll (datL (xs.map V.str)) (datL (ys.map V.str)) := by simp only [PyData.eqv]
  rw [e, eqv_strs]
section
variable {P : Program} {w : World} {K : PySem.W.Frag} {mg : Str → Option Value} {base : Heap}
def spIsLB : Sp := fun vs H Q _ => ∃ cs : List Nat, vs = [.str (S cs)] ∧ (∀ c ∈ cs, c < 128) ∧ cs.length ≤ 2000 ∧ ∀ H', Same H H' → Q (.bl (decide (CsOk cs))) H'
theorem ok_is_lettersB (T : Tx K mg) : FnG P w K mg base CX0 1 (He.ga K "is_letters") spIsLB := by
  refine mk_is_letters T.d (fun vs H Q E h => ?_) (fun cdv A outer s H vs Q E hg hr h => ?_)
  · obtain ⟨cs, rfl, _⟩ := h
    rfl
  · obtain ⟨cs, rfl, asc, l2, q⟩ := h
    have nd := sc_is_letters.nd
    have hu := hr.units
    obtain ⟨tm, gm⟩ := T.ml
    refine ⟨_, pss_cons (ps_if (PW.pt (pw_or (pt_not (pt_val (pe_callB call_isi (by rfl) (T.z "isinstance" (by decide +kernel)) (by decide +kernel) (pa_cons (pv 0) (pa_cons (pe_bltn (v := .ty "str") (by rfl) (T.z "str" (by decide +kernel)) (by decide +kernel) rfl) pa_nil)))))
        (pw_or1 (pt_not (pt_chain op_le op_le pe_int (pe_callB call_len_str (by rfl) (T.z "len" (by decide +kernel)) (by decide +kernel) (pa_cons (pv 0) pa_nil)) (pe_glob (v := .int 4) (by rfl) gm ⟨_, rfl⟩)))))) (pss_one (ps_ret pe_bl)) pss_nil)
      (pss_one (ps_ret (pe_and (pe_cmpR (op_eqP T.sm hu) (pe_callTy (cr_listText rfl) (by rfl) (T.z "list" (by decide +kernel)) (by decide +kernel) (pa_cons (pv 0) pa_nil))
          (pe_callB (cr_sortedTx rfl) (by rfl) (T.z "sorted" (by decide +kernel)) (by decide +kernel) (pa_cons (pe_callTy (cr_setText rfl) (by rfl) (T.z "set" (by decide +kernel)) (by decide +kernel) (pa_cons (pv 0) pa_nil)) pa_nil)) (nomark _))
        (pe_one (pe_callB (cr_all rfl) (by rfl) (T.z "all" (by decide +kernel)) (by decide +kernel) (pa_cons
          (pe_lc (own := [("letter", 1)]) (g := gName 1) (tt := tYes) rfl nd (pi_str (pv 0)) (blkOk_by (N := n_is_letters) (sc := defScope s_is_letters) (by decide +kernel)) (fun _ _ _ _ _ => pg_name (i := 1) nd rfl (Or.inl rfl)) (fun _ _ _ _ _ => pts_nil)
            (fun _ _ _ _ _ => pe_chain op_le_str op_le_str pe_str (pv 1) pe_str)) pa_nil)))))), ?_⟩
    have ls := S_len cs
    have sl : (S cs).length ≤ sizeLine := by rw [ls]; exact sl_of (by omega)
    have asz : (S cs).cps.size = cs.length := by simp
    have ascii : (S cs).cps.all (· < 128) = true := by
      rw [← Array.all_toList, chars_S, List.all_eq_true]
      intro c hc
      exact decide_eq_true (asc c hc)
    have kS : PySem.W.kitOne K (.type "str") (.type "str") = some true := kit_str (.str (S cs))
    refine ⟨_, rfl, _, _, _, _, true, rfl, .ty "str", (Do.str (S cs) : Do K H _ _).ty, kS, _, rfl, ifF rfl ?_⟩
    refine ⟨_, rfl, _, rfl, sl, _, _, rfl, rfl, _, rfl, ?_⟩
    rw [ls]
    by_cases l1 : 1 ≤ cs.length
    case neg =>
      have z := q H (Same.refl H)
      rw [decide_eq_false fun z : CsOk cs => l1 z.pos] at z
      exact ifF (decide_eq_false (by omega)) ⟨_, rfl, ifT rfl z⟩
    refine ifT (decide_eq_true (by omega)) ⟨_, _, rfl, rfl, _, rfl, ?_⟩
    by_cases l4 : cs.length ≤ 4
    case neg =>
      have z := q H (Same.refl H)
      rw [decide_eq_false fun z : CsOk cs => l4 z.few] at z
      rw [decide_eq_false (show ¬ (cs.length : Int) ≤ 4 by omega)]
      exact ifT rfl z
    rw [decide_eq_true (show (cs.length : Int) ≤ 4 by omega)]
    refine ifF rfl ?_
    refine ⟨_, rfl, S cs, rfl, by rw [asz]; omega, fun p np => ?_⟩
    have eL : ((S cs).cps.toList.map fun c => V.str ⟨#[c]⟩) = (ones cs).map V.str := by
      rw [chars_S, List.map_map]
      rfl
    rw [eL]
    have s1 := same_up (o := .lst ((ones cs).map V.str)) np
    refine ⟨_, rfl, S cs, rfl, ascii, by rw [asz]; unfold scanBound; omega, fun l g ndl ll hl ng => ?_⟩
    have s2 := same_up (o := SetTx P w g l) ng
    refine ⟨g, l, rfl, upd_same, by rw [asz] at ll; omega, fun ys p2 py srt np2 => ?_⟩
    have s3 := same_up (o := .lst (ys.map V.str)) np2
    have fl := flat_str (ones cs)
    have fl2 := flat_str ys
    have dep := depth_flat fl
    have pln : (PyData.list (datL ((ones cs).map V.str))).plain = true := plain_flat fl
    have pln2 : (PyData.list (datL (ys.map V.str))).plain = true := plain_flat fl2
    refine ⟨.list (datL ((ones cs).map V.str)), .list (datL (ys.map V.str)), .lst (SqL.of ((s2.trans s3) _ _ upd_same)) (do_flat fl), .lst (SqL.of upd_same) (do_flat fl2), pln, pln2, by simp only [PyData.depth]; omega, _, rfl, ?_⟩
    rw [eqv_strL]
    have ss := (s1.trans s2).trans s3
    by_cases up : cs.Pairwise (· < ·)
    case neg =>
      have z := q _ ss
      rw [decide_eq_false fun z : CsOk cs => up z.asc] at z
      have ne : ¬ ones cs = ys := fun e => by
        subst e
        have nd1 : (ones cs).Nodup := py.nodup_iff.mpr ndl
        have nd2 : cs.Nodup := by
          have h := List.nodup_iff_pairwise_ne.mp nd1
          rw [List.pairwise_map] at h
          exact List.nodup_iff_pairwise_ne.mpr (h.imp fun hab e => hab (by rw [e]))
        exact up (lt_of_le_nodupN (le_of_sorted srt) nd2)
      exact ifF (decide_eq_false ne) z
    have pl : l.Perm (ones cs) := by
      refine perm_of_nodup (ones_nodup (asc_nodup up)) (fun x hx => (hl x).mpr (sing_in.mpr hx)) ?_
      rw [List.length_map]
      rw [asz] at ll
      exact ll
    have ey := ones_sorted (py.trans pl) srt up
    refine ifT (decide_eq_true ey.symm) ⟨_, rfl, S cs, rfl, fun D nD => lc_one wk_str (fun i => .bl (azB (cs.getD i 0))) nD (by rw [asz]; omega) (fun _ _ => trivial) (fun j x H' R hj s' hx hR => ?_) (fun H' s' hD => ?_)⟩
    · obtain ⟨c, hc, rfl⟩ := hx
      rw [← Array.getElem?_toList, chars_S] at hc
      have e : cs.getD j 0 = c := by rw [List.getD_eq_getElem?_getD, hc]; rfl
      rw [e] at hR
      refine ⟨_, rfl, _, _, rfl, rfl, _, rfl, ?_⟩
      have ea : ("a" : Str).cps.toList = [97] := by decide +kernel
      have ez : ("z" : Str).cps.toList = [122] := by decide +kernel
      have h1 : (!decide ((⟨#[c]⟩ : Str).cps.toList < ("a" : Str).cps.toList)) = decide (97 ≤ c) := by
        rw [ea]
        by_cases h : 97 ≤ c
        · rw [decide_eq_true h, decide_eq_false (show ¬ ([c] : List Nat) < [97] from fun z => by have := one_lt.mp z; omega)]
          rfl
        · rw [decide_eq_false h, decide_eq_true (show ([c] : List Nat) < [97] from one_lt.mpr (by omega))]
          rfl
      have h2 : (!decide (("z" : Str).cps.toList < (⟨#[c]⟩ : Str).cps.toList)) = decide (c ≤ 122) := by
        rw [ez]
        by_cases h : c ≤ 122
        · rw [decide_eq_true h, decide_eq_false (show ¬ ([122] : List Nat) < [c] from fun z => by have := one_lt.mp z; omega)]
          rfl
        · rw [decide_eq_false h, decide_eq_true (show ([122] : List Nat) < [c] from one_lt.mpr (by omega))]
          rfl
      unfold azB at hR
      rw [h1]
      by_cases h : 97 ≤ c
      · rw [decide_eq_true h] at hR ⊢
        refine ifT rfl ⟨_, _, rfl, rfl, ?_⟩
        rw [h2]
        exact hR
      · rw [decide_eq_false h] at hR ⊢
        exact ifF rfl hR
    · have e : ((List.range (S cs).cps.size).map fun i => V.bl (azB (cs.getD i 0))) = (cs.map azB).map V.bl := by
        rw [asz, range_map cs (fun c => V.bl (azB c)) _ fun i x hx => by rw [List.getD_eq_getElem?_getD, hx]; rfl]
        exact (List.map_map ..).symm
      rw [e] at hD
      refine ⟨D, _, rfl, SqL.of hD, ?_⟩
      have z := q H' (ss.trans s')
      rw [cs_dec l1 l4 up] at z
      rw [List.all_map]
      exact z
end
end K84

namespace K84
open PySem PySem.Spec PyProof.Rows L2 Ver Num SX
/-! ### texts of orders -/
abbrev Cd := List Nat
/-- the pieces of a line -/
def pcs (u : Cd) : List Cd := TL.spl [32] 0 [] u
theorem split_pcs (u : Cd) : Txt.split (S u) " " = (pcs u).map S := split_S (a := u) (b := [32]) (by decide) (by decide)
theorem spl_ne : ∀ (k : Nat) (acc l : Cd), TL.spl [32] k acc l ≠ []
  | k, acc, [] => by rw [TL.spl_nil]; exact List.cons_ne_nil _ _
  | 0, acc, c :: r => by
    cases h : TL.pre [32] (c :: r) with
    | true => rw [TL.spl_hit h]; exact List.cons_ne_nil _ _
    | false => rw [TL.spl_miss h]; exact spl_ne 0 _ r
  | k + 1, acc, c :: r => by
    rw [TL.spl_pass]
    show TL.spl [32] 0 acc (r.drop k) ≠ []
    have : (r.drop k).length ≤ r.length := by rw [List.length_drop]; omega
    exact spl_ne 0 acc (r.drop k)
termination_by k acc l => l.length
theorem pcs_ne (u : Cd) : pcs u ≠ [] := spl_ne 0 [] u
/-- all signs and one for each piece -/
def wt (ps : List Cd) : Nat := (ps.map (·.length)).sum + ps.length
theorem wt_cons (p : Cd) (ps : List Cd) : wt (p :: ps) = p.length + 1 + wt ps := by
  unfold wt
  rw [List.map_cons, List.sum_cons, List.length_cons]
  omega
theorem wt_app (a b : List Cd) : wt (a ++ b) = wt a + wt b := by
  unfold wt
  rw [List.map_append, List.sum_append, List.length_append]
  omega
theorem pre32 {c : Nat} {r : Cd} : TL.pre [32] (c :: r) = decide (c = 32) := by
  show ((c :: r).take 1 == [32]) = _
  rw [List.take_succ_cons, List.take_zero]
  by_cases h : c = 32
  · subst h
    rfl
  · rw [decide_eq_false h]
    exact beq_eq_false_iff_ne.mpr fun z => h (List.cons.inj z).1
theorem wt_spl : ∀ (l acc : Cd), wt (TL.spl [32] 0 acc l) = acc.length + l.length + 1
  | [], acc => by
    rw [TL.spl_nil, wt_cons]
    rfl
  | c :: r, acc => by
    by_cases h : c = 32
    · rw [TL.spl_hit (by rw [pre32]; exact decide_eq_true h), wt_cons]
      show _ + wt (TL.spl [32] 0 [] r) = _
      rw [wt_spl r [], List.length_nil, List.length_cons]
      omega
    · rw [TL.spl_miss (by rw [pre32]; exact decide_eq_false h), wt_spl r _, List.length_append, List.length_cons, List.length_cons, List.length_nil]
      omega
theorem wt_pcs (u : Cd) : wt (pcs u) = u.length + 1 := by
  unfold pcs
  rw [wt_spl, List.length_nil]
  omega
theorem mem_spl {x : Nat} : ∀ (l acc : Cd) (p : Cd), p ∈ TL.spl [32] 0 acc l → x ∈ p → x ∈ acc ∨ x ∈ l
  | [], acc, p, hp, hx => by
    rw [TL.spl_nil, List.mem_singleton] at hp
    subst hp
    exact .inl hx
  | c :: r, acc, p, hp, hx => by
    by_cases h : c = 32
    · rw [TL.spl_hit (by rw [pre32]; exact decide_eq_true h)] at hp
      rcases List.mem_cons.mp hp with rfl | hp
      · exact .inl hx
      · rcases mem_spl r [] p hp hx with z | z
        · cases z
        · exact .inr (List.mem_cons_of_mem _ z)
    · rw [TL.spl_miss (by rw [pre32]; exact decide_eq_false h)] at hp
      rcases mem_spl r _ p hp hx with z | z
      · rcases List.mem_append.mp z with z | z
        · exact .inl z
        · rw [List.mem_singleton] at z
          subst z
          exact .inr List.mem_cons_self
      · exact .inr (List.mem_cons_of_mem _ z)
theorem mem_pcs {x : Nat} {u p : Cd} (hp : p ∈ pcs u) (hx : x ∈ p) : x ∈ u := by
  rcases mem_spl u [] p hp hx with z | z
  · cases z
  · exact z
theorem joinL_wt : ∀ ps : List Cd, (TL.joinL [32] ps).length ≤ wt ps
  | [] => Nat.zero_le _
  | [p] => by
    rw [wt_cons]
    show p.length ≤ _
    omega
  | p :: q :: r => by
    have ih := joinL_wt (q :: r)
    rw [wt_cons]
    show (p ++ ([32] ++ TL.joinL [32] (q :: r))).length ≤ _
    rw [List.length_append, List.length_append, List.length_singleton]
    omega
theorem mem_joinL {x : Nat} : ∀ {ps : List Cd}, x ∈ TL.joinL [32] ps → x = 32 ∨ ∃ p ∈ ps, x ∈ p
  | [], h => by cases h
  | [p], h => .inr ⟨p, List.mem_cons_self, h⟩
  | p :: q :: r, h => by
    have h : x ∈ p ++ ([32] ++ TL.joinL [32] (q :: r)) := h
    rcases List.mem_append.mp h with z | z
    · exact .inr ⟨p, List.mem_cons_self, z⟩
    · rcases List.mem_append.mp z with z | z
      · exact .inl (List.mem_singleton.mp z)
      · rcases mem_joinL z with z | ⟨p', h1, h2⟩
        · exact .inl z
        · exact .inr ⟨p', List.mem_cons_of_mem _ h1, h2⟩
/-! ### what a line says -/
/-- a piece that is a letter with its cost -/
def okP : Cd → Bool
  | [_, b, c] => decide (b = 58) && (decide (49 ≤ c) && decide (c ≤ 57))
  | _ => false
def hd (p : Cd) : Nat := p.getD 0 0
def dg (p : Cd) : Int := (p.getD 2 48 : Int) - 48
theorem okP_at {p : Cd} (h : okP p = true) : ∃ a c : Nat, p = [a, 58, c] ∧ 49 ≤ c ∧ c ≤ 57 := by
  match p, h with
  | [a, b, c], h =>
    have h : (decide (b = 58) && (decide (49 ≤ c) && decide (c ≤ 57))) = true := h
    rw [Bool.and_eq_true, Bool.and_eq_true, decide_eq_true_eq, decide_eq_true_eq, decide_eq_true_eq] at h
    exact ⟨a, c, by rw [h.1], h.2.1, h.2.2⟩
/-- the costs that a line tells, if it tells any -/
def readO (u : Cd) : Option LC := if (pcs u).all okP && decide (CsOk ((pcs u).map hd)) then some ((pcs u).map fun p => (hd p, dg p)) else none
theorem readO_ok {u : Cd} {L : LC} (h : readO u = some L) : (pcs u).all okP = true ∧ CsOk ((pcs u).map hd) ∧ L = (pcs u).map (fun p => (hd p, dg p)) ∧ LOk L := by
  unfold readO at h
  split at h
  · rename_i z
    rw [Bool.and_eq_true, decide_eq_true_eq] at z
    have e := (Option.some.inj h).symm
    refine ⟨z.1, z.2, e, ?_⟩
    have e1 : L.map (·.1) = (pcs u).map hd := by
      rw [e, List.map_map]
      rfl
    have el : L.length = ((pcs u).map hd).length := by rw [e, List.length_map, List.length_map]
    refine ⟨by rw [el]; exact z.2.pos, by rw [el]; exact z.2.few, by rw [e1]; exact z.2.asc, fun p hp => ?_, fun p hp => ?_⟩
    · refine z.2.rng p.1 ?_
      rw [← e1]
      exact List.mem_map.mpr ⟨p, hp, rfl⟩
    · rw [e] at hp
      obtain ⟨q, hq, rfl⟩ := List.mem_map.mp hp
      obtain ⟨a, c, rfl, h1, h2⟩ := okP_at (List.all_eq_true.mp z.1 q hq)
      show 1 ≤ ((c : Int) - 48) ∧ ((c : Int) - 48) ≤ 9
      omega
  · cases h
theorem readO_no {u : Cd} (h : readO u = none) : (pcs u).all okP = false ∨ ¬ CsOk ((pcs u).map hd) := by
  unfold readO at h
  split at h
  · cases h
  · rename_i z
    cases h1 : (pcs u).all okP with
    | false => exact .inl rfl
    | true =>
      refine .inr fun h2 => z ?_
      rw [h1, decide_eq_true h2]
      rfl
/-- a letter with its cost, written -/
def pw (p : Nat × Int) : Cd := [p.1, 58, 48 + p.2.toNat]
def lineO (L : LC) : Cd := TL.joinL [32] (L.map pw)
theorem pcs_line {L : LC} (ok : LOk L) : pcs (lineO L) = L.map pw := by
  refine spl_join (c := 32) (sep := []) ?_ fun p hp => ?_
  · intro z
    have := ok.pos
    rw [List.map_eq_nil_iff] at z
    rw [z] at this
    cases this
  · obtain ⟨q, hq, rfl⟩ := List.mem_map.mp hp
    have r1 := ok.rng q hq
    have r2 := ok.cost q hq
    intro z
    unfold pw at z
    simp only [List.mem_cons, List.not_mem_nil, or_false] at z
    omega
theorem read_line {L : LC} (ok : LOk L) : readO (lineO L) = some L := by
  have e1 : (pcs (lineO L)).map hd = L.map (·.1) := by
    rw [pcs_line ok, List.map_map]
    rfl
  have e2 : (pcs (lineO L)).all okP = true := by
    rw [pcs_line ok, List.all_map, List.all_eq_true]
    intro q hq
    have r2 := ok.cost q hq
    show (decide (58 = 58) && (decide (49 ≤ 48 + q.2.toNat) && decide (48 + q.2.toNat ≤ 57))) = true
    rw [decide_eq_true rfl, decide_eq_true (by omega), decide_eq_true (by omega)]
    rfl
  have e3 : (pcs (lineO L)).map (fun p => (hd p, dg p)) = L := by
    rw [pcs_line ok, List.map_map]
    conv => rhs; rw [← List.map_id L]
    refine List.map_congr_left fun q hq => ?_
    have r2 := ok.cost q hq
    show (q.1, (((48 + q.2.toNat : Nat) : Int) - 48)) = q
    rw [show (((48 + q.2.toNat : Nat) : Int) - 48) = q.2 by omega]
  unfold readO
  rw [e1, e2, e3, decide_eq_true ok.cs]
  rfl
theorem line_len {L : LC} (ok : LOk L) : (lineO L).length ≤ 16 := by
  have h := joinL_wt (L.map pw)
  have h4 := ok.few
  have e : wt (L.map pw) = 4 * L.length := by
    have : ∀ M : LC, wt (M.map pw) = 4 * M.length := fun M => by
      induction M with
      | nil => rfl
      | cons p M ih =>
        rw [List.map_cons, wt_cons, ih, List.length_cons]
        show 3 + 1 + _ = _
        omega
    exact this L
  unfold lineO
  omega
def As (u : Cd) : Prop := ∀ c ∈ u, c < 128
theorem line_as {L : LC} (ok : LOk L) : As (lineO L) := fun c hc => by
  rcases mem_joinL hc with rfl | ⟨p, hp, h⟩
  · decide
  · obtain ⟨q, hq, rfl⟩ := List.mem_map.mp hp
    have r1 := ok.rng q hq
    have r2 := ok.cost q hq
    unfold pw at h
    simp only [List.mem_cons, List.not_mem_nil, or_false] at h
    omega
end K84

namespace K84
open PySem PySem.Spec PyProof.Rows L2 Ver Num SX
section
variable {P : Program} {w : World} {K : PySem.W.Frag} {mg : Str → Option Value} {base : Heap}
theorem FnG.down {CX : CXT} {k : Nat} {f : Addr} {sp : Sp} (F : FnG P w K mg base (L2.CX P w) k f sp) : FnG P w K mg base CX k f (fun vs H Q _ => sp vs H Q fun _ _ _ => False) :=
  fun A outer s H us vs Q E g hr e0 r q => codeAny_mono (F A outer s H us vs Q _ g hr e0 r q) fun rs s' z => by
    match rs, z with
    | .error _, ⟨_, _, _, _, _, _, _, _, _, _, _, _, z⟩ => exact z.elim
    | .ok (.ret _), z => exact z
    | .ok .next, z => exact z.elim
    | .ok .brk, z => exact z.elim
    | .ok .cont, z => exact z.elim
/-- a def that raises nothing, where something may be raised -/
theorem FnG.up {k : Nat} {f : Addr} {sp : Sp} (F : FnG P w K mg base CX0 k f sp) : FnG P w K mg base (L2.CX P w) k f sp :=
  fun A outer s H us vs Q E g hr e0 r q => codeAny_mono (F A outer s H us vs Q E g hr e0 r q) fun rs s' z => by
    match rs, z with
    | .error _, z => exact z.elim
    | .ok (.ret _), z => exact z
    | .ok .next, z => exact z.elim
    | .ok .brk, z => exact z.elim
    | .ok .cont, z => exact z.elim
/-- the promise of an __init__ that keeps one field -/
def spErr (C : Addr) (f : Str) : Sp := fun vs H Q _ => ∃ (a : Addr) (x : V), vs = [.ref a, x] ∧ H a = some (exo a C none) ∧ ∀ dx, H dx = none → dx ≠ a → Q .non (upd (upd H dx (exd dx [(f, x)])) a (exo a C (some dx)))
theorem ok_InvalidText (T : Tx K mg) : ∃ fd, FnOk P w K mg base CX0 1 (He.ma K (He.ga K "InvalidText") "__init__") fd ["self", "line"] (spErr (He.ga K "InvalidText") "line") ∧ Binds K fd ["self", "line"] [] := by
  have EC := T.eX
  obtain ⟨fd, FD⟩ := T.d.def_ 7 (d := d_InvalidText___init__) rfl
  have hb : Binds K fd ["self", "line"] [] := FD.bindsN fun _ _ _ _ _ _ us hl => match us, hl with | [_, _], _ => rfl
  obtain ⟨⟨oc, od, dV, kV, doc, pm, an, cdv, ct, osl, rfl, lk, hcd, _⟩, _⟩ := FD
  refine ⟨_, fn_of lk hcd sc_InvalidText___init__ (fun vs H Q E h => ?_) (fun A outer s H vs Q E hr h => ?_), hb⟩
  · obtain ⟨a, x, rfl, _⟩ := h
    rfl
  · obtain ⟨a, x, rfl, ea, q⟩ := h
    refine ⟨_, PSs.nox (pss_cons (ps_expr (pe_veinit (by rfl) (T.z "ValueError" (by decide +kernel)) T.vV (pa_cons (pv 0) (pa_cons (pv 1) pa_nil)))) (pss_one (ps_ost (pv 0) (pv 1)))), ?_⟩
    exact ⟨_, rfl, _, rfl, a, He.ga K "InvalidText", [x], rfl, by show 1 ≤ 1000; decide, EC.ox, ea, _, rfl, _, rfl, a, He.ga K "InvalidText", rfl, EC.ox, EC.nf, .inl ⟨ea, q⟩⟩
/-- what a raise of such an error leaves -/
theorem err_mk {C : Addr} {f : Str} {x : V} {H : Hp} {a : Addr} {Q : XK} (na : H a = none) (q : ∀ (dd : Addr) (H' : Hp), Same H H' → H' dd = some (.xd [(f, x)]) → Q (.ref C) (some dd) H') :
    spErr C f [.ref a, x] (upd H a (exo a C none)) (fun v H2 => v = .non ∧ ∃ (d : Addr) (fs : List (Str × V)), H2 a = some (exo a C (some d)) ∧ H2 d = some (exd d fs) ∧ H d = none ∧ Q (.ref C) (some d) (upd (del H2 a) d (.xd fs))) (fun _ _ _ => False) := by
  refine ⟨a, x, rfl, upd_same, fun dx hd ne => ⟨rfl, dx, [(f, x)], upd_same, by rw [upd_ne ne]; exact upd_same, ?_, q dx _ (fun b o e => ?_) upd_same⟩⟩
  · rw [upd_ne ne] at hd
    exact hd
  · have hdx : H dx = none := by
      rw [upd_ne ne] at hd
      exact hd
    rw [upd_ne (ne_of_none e hdx), del_ne (ne_of_none e na), upd_ne (ne_of_none e na), upd_ne (ne_of_none e hdx), upd_ne (ne_of_none e na)]
    exact e
/-! ### Order.costs, ==, write_order -/
def getCosts (K : PySem.W.Frag) : Sp := fun vs H Q _ => ∃ (o : Addr) (L : LC), vs = [.ref o] ∧ OrdAt K H o L ∧ ∀ (p : Addr) (H' : Hp), H' p = some (.dK (dOf L)) → H p = none → Same H H' → Q (.ref p) H'
theorem dOf_nodup {L : LC} (h : (L.map (·.1)).Nodup) : ((dOf L).map (·.1)).Nodup := by
  rw [List.map_map]
  have e : L.map ((fun q : Key × V => q.1) ∘ fun p => ((Sum.inr (S [p.1]) : Key), V.int p.2)) = (L.map (·.1)).map fun c => (Sum.inr (S [c]) : Key) := by
    rw [List.map_map]
    rfl
  rw [e, List.nodup_iff_pairwise_ne, List.pairwise_map]
  exact (List.nodup_iff_pairwise_ne.mp h).imp fun h e => h (List.cons.inj (S_inj (Sum.inr.inj e))).1
theorem merge0 {L : LC} (h : (L.map (·.1)).Nodup) : mergeK [] (dOf L) = dOf L := merge_fresh L [] (by rw [List.nil_append]; exact h)
theorem ok_costsP (T : Tx K mg) : ∃ p g fd, PropOf K (OC K) "costs" p g ∧ FnOk P w K mg base CX0 1 g fd ["self"] (getCosts K) ∧ Binds K fd ["self"] [] := by
  obtain ⟨p, g, fd, hp, FD⟩ := T.pc
  have hb : Binds K fd ["self"] [] := FD.bindsN fun _ _ _ _ _ _ us hl => match us, hl with | [_], _ => rfl
  obtain ⟨⟨oc, od, dV, kV, doc, pm, an, cdv, ct, osl, rfl, lk, hcd, _⟩, _⟩ := FD
  refine ⟨p, g, _, hp, fn_of lk hcd sc_Order_costs (fun vs H Q E h => ?_) (fun A outer s H vs Q E hr h => ?_), hb⟩
  · obtain ⟨o, L, rfl, _⟩ := h
    rfl
  · obtain ⟨o, L, rfl, at_, q⟩ := h
    refine ⟨_, PSs.nox (pss_one (ps_ret (pe_callTy call_dictD (by rfl) (T.z "dict" (by decide +kernel)) (by decide +kernel) (pa_cons (pe_fld (pv 0) rfl) pa_nil)))), ?_⟩
    obtain ⟨dx, dc, fw, ho, hd, _⟩ := id at_.ex
    refine ⟨_, rfl, o, _, dx, _, _, rfl, ho, T.o.cl, T.o.na _ (by decide +kernel), rfl, ?_⟩
    exact ⟨dc, _, rfl, .inl hd, fun p np => q p _ upd_same np (same_up np)⟩
def spEqO (K : PySem.W.Frag) : Sp := fun vs H Q _ => ∃ (o o' : Addr) (L : LC), vs = [.ref o, .ref o'] ∧ OrdAt K H o L ∧ OrdAt K H o' L ∧ Q (.bl true) H
theorem Tx.tyO (T : Tx K mg) {H : Hp} {o : Addr} {L : LC} (h : OrdAt K H o L) : TyX K H (.ref o) (.ref (OC K)) := by
  obtain ⟨dx, dc, fw, ho, _⟩ := h.ex
  exact .base (.ins ho T.o.cl T.ccO T.clS T.clT T.obO)
theorem ok_eqO (T : Tx K mg) : FnG P w K mg base CX0 1 (He.ma K (OC K) "__eq__") (spEqO K) := by
  refine mk_Order___eq__ T.d (fun vs H Q E h => ?_) (fun cdv A outer s H vs Q E hg hr h => ?_)
  · obtain ⟨o, o', L, rfl, _⟩ := h
    rfl
  · obtain ⟨o, o', L, rfl, a1, a2, q⟩ := h
    have hu := hu_of hr
    refine ⟨_, pss_one (ps_ret (pe_and (pe_callB call_isi (by rfl) (T.z "isinstance" (by decide +kernel)) (by decide +kernel) (pa_cons (pv 1) (pa_cons (pe_glob (v := .ref (He.ga K "Order")) (by rfl) (T.g "Order" (by decide +kernel)) rfl) pa_nil)))
      (pe_one (pe_cmpR (op_eq_dict (Nat.lt_of_le_of_lt (Nat.le_add_right _ 1) hu)) (pe_fld (pv 0) rfl) (pe_fld (pv 1) rfl) (nomark _))))), ?_⟩
    obtain ⟨dx, dc, fw, ho, hd, _⟩ := id a1.ex
    obtain ⟨dx2, dc2, fw2, ho2, hd2, _⟩ := id a2.ex
    refine ⟨_, rfl, _, _, _, _, true, rfl, .own _, T.tyO a2, T.isO, _, rfl, ifT rfl ?_⟩
    refine ⟨_, rfl, o, _, dx, _, _, rfl, ho, T.o.cl, T.o.na _ (by decide +kernel), rfl, _, rfl, o', _, dx2, _, _, rfl, ho2, T.o.cl, T.o.na _ (by decide +kernel), rfl, dc, dc2, dOf L, rfl, rfl, hd, hd2, dOf_nodup (asc_nodup a1.ok.asc), fun p hp => ?_, q⟩
    obtain ⟨x, _, rfl⟩ := List.mem_map.mp hp
    rfl
theorem getDK {H : Hp} {a : Addr} {kvs : List (Key × V)} {k : Key} {o : Obj} (e : H a = some (.frz o (.dK kvs))) : DGet H a (kV k) (valV kvs k) := .inl ⟨kvs, k, .inr ⟨o, e⟩, rfl, rfl⟩
theorem lock_same {H H1 : Hp} {a : Addr} {od : Obj} {u : HO} (ha : H a = some u) (s : Same (upd H a (.frz od u)) H1) : Same H (upd H1 a u) := fun b o e => by
  by_cases hb : b = a
  · rw [hb, upd_same, ← ha, ← hb, e]
  · rw [upd_ne hb]
    refine s _ _ ?_
    rw [upd_ne hb]
    exact e
theorem pw_text {p : Nat × Int} (h : 1 ≤ p.2 ∧ p.2 ≤ 9) : ((Str.empty ++ S [p.1]) ++ (":" : Str)) ++ (toString p.2 : Str) = S (pw p) := by
  obtain ⟨c, i⟩ := p
  have h : 1 ≤ i ∧ i ≤ 9 := h
  have e : ∀ k : Fin 10, Str.ofString (toString ((k.val : Nat) : Int)) = S [48 + k.val] := by decide +kernel
  have e2 := e ⟨i.toNat, by omega⟩
  have e3 : ((i.toNat : Nat) : Int) = i := by omega
  have e4 : Str.ofString (toString i) = S [48 + i.toNat] := by
    rw [← e3]
    exact e2
  rw [e4, show (Str.empty : Str) = S [] from rfl, show (":" : Str) = S [58] from rfl, S_cat, S_cat, S_cat]
  rfl
def teW : TE := fun σ H Q => tJs [tFmt (tVar 2), tC (.str ":"), tFmt (tDGet (tVar 1) (tVar 2))] Str.empty σ H fun out H1 => Q (.str out) H1
def spWO (K : PySem.W.Frag) : Sp := fun vs H Q _ => ∃ (o : Addr) (L : LC), vs = [.ref o] ∧ OrdAt K H o L ∧ ∀ H', Same H H' → Q (.str (S (lineO L))) H'
theorem ok_write (T : Tx K mg) : FnK P w K mg base (L2.CX P w) 3 (He.ga K "write_order") 0 ["order"] (fun vs zs => vs ++ zs) (spWO K) := by
  obtain ⟨pp, pg, pfd, hp, G, hb⟩ := ok_costsP (P := P) (w := w) (base := base) T
  refine mkXK_write_order T.d 0 ["order"] (fun a b => a ++ b) (fun r1 r2 => r1.append r2) (fun kV doc pm an cdv ct us ws l1 l2 => ?_) (fun vs H Q E h => ?_) (fun cdv A outer s H vs Q E hg hr h => ?_)
  · match us, ws, l1, l2 with
    | [], [_], _, _ => rfl
  · obtain ⟨o, L, rfl, _⟩ := h
    rfl
  · obtain ⟨o, L, rfl, at_, q⟩ := h
    have nd := sc_write_order.nd
    have hu := hu_of hr
    refine ⟨_, PSs.nox (pss_cons (ps_set (i := 1) nd rfl (Or.inr rfl) (pe_prop (pv 0) T.o.cl hp G hr hb .nil pass0 (by rfl)))
      (pss_one (ps_ret (pe_join pe_str (pe_lock (pe_lc (own := [("letter", 2)]) (g := gName 2) (tt := tYes) rfl nd (pi_keys (pv 1)) (blkOk_by (N := n_write_order) (sc := defScope s_write_order) (by decide +kernel)) (fun _ _ _ _ _ => pg_name (i := 2) nd rfl (Or.inl rfl)) (fun _ _ _ _ _ => pts_nil)
        (te := teW)
        (fun _ _ _ _ _ => pe_joined (.cons (pe_fmt (pv 2)) (.cons pe_str (.cons (pe_fmt (pe_dget hu (pv 1) (pv 2) (fun _ _ => rfl))) .nil)))))))))), ?_⟩
    obtain ⟨dx, dc, fw, ho, _⟩ := id at_.ex
    have ok := at_.ok
    have ndL := asc_nodup ok.asc
    have l4 := ok.few
    have dl : (dOf L).length = L.length := List.length_map ..
    refine ⟨_, rfl, o, dx, _, rfl, ho, o, L, rfl, at_, fun d H1 hd nd1 s1 => ?_⟩
    refine ⟨⟨_, rfl⟩, d, _, hd, trivial, fun od => ?_⟩
    refine ⟨_, rfl, d, od, rfl, .inl ⟨dOf L, upd_same, fun D nD => lc_one (te := teW) wk_keys (fun j => .str (S (pw (L.getD j (0, 1))))) nD (by rw [dl]; omega) (fun H' s' => s' _ _ upd_same) (fun j x H2 R hj s' hx hR => ?_) (fun H2 s2 hD => ?_)⟩⟩
    · obtain ⟨k, v, hk, rfl⟩ := hx
      rw [dOf, List.getElem?_map] at hk
      cases hn : L[j]? with
      | none =>
        rw [hn] at hk
        cases hk
      | some pc =>
        rw [hn] at hk
        cases hk
        have e : L.getD j (0, 1) = pc := by rw [List.getD_eq_getElem?_getD, hn]; rfl
        rw [e] at hR
        have hpc := List.mem_of_getElem? hn
        have rc := ok.cost pc hpc
        have hv := getDK (k := Sum.inr (S [pc.1])) (s' _ _ upd_same)
        rw [valV_mem ndL hpc] at hv
        have lz : ∀ n : Nat, n ≤ 100 → n ≤ sizeLine := fun n h => sl_of (by omega)
        have ep := pw_text rc
        have l0 : (Str.empty ++ S [pc.1]).length ≤ sizeLine := by
          rw [show (Str.empty : Str) = S [] from rfl, S_cat, S_len]
          exact lz 1 (by decide)
        have l1 : ((Str.empty ++ S [pc.1]) ++ (":" : Str)).length ≤ sizeLine := by
          rw [show (Str.empty : Str) = S [] from rfl, show (":" : Str) = S [58] from rfl, S_cat, S_cat, S_len]
          exact lz 2 (by decide)
        refine ⟨_, rfl, .inl ⟨S [pc.1], rfl, lz _ (by rw [S_len]; show 1 ≤ 100; decide), _, rfl, l0, _, rfl, l1, _, rfl, _, rfl, d, _, rfl, hv, .inr ⟨pc.2, rfl, ?_, _, rfl, ?_, ?_⟩⟩⟩
        · have : ∀ n : Nat, n ≤ 9 → n.log2 < 1920 := fun n hn => Nat.lt_of_le_of_lt (Nat.log2_le_self n) (by omega)
          exact this _ (by omega)
        · rw [ep, S_len]
          exact lz 3 (by decide)
        · rw [ep]
          exact hR
    · refine ⟨s2 _ _ upd_same, ?_⟩
      have sc : Same H1 (upd H2 d (.dK (dOf L))) := lock_same hd s2
      have dD : d ≠ D := ne_of_none upd_same nD
      have e : ((List.range (dOf L).length).map fun j => V.str (S (pw (L.getD j (0, 1))))) = ((L.map pw).map S).map V.str := by
        rw [dl, range_map L (fun p => V.str (S (pw p))) _ fun i x hx => by rw [List.getD_eq_getElem?_getD, hx]; rfl]
        rw [List.map_map, List.map_map]
        rfl
      rw [e] at hD
      have hD2 : upd H2 d (.dK (dOf L)) D = some (.lst (((L.map pw).map S).map V.str)) := by rw [upd_ne (Ne.symm dD)]; exact hD
      refine ⟨_, D, _, rfl, rfl, .inl (SqL.of hD2), ?_, ?_⟩
      · have e3 : ((L.map pw).map S).map (·.length) = L.map fun _ => 3 := by
          rw [List.map_map, List.map_map]
          refine List.map_congr_left fun p _ => ?_
          show (S (pw p)).length = 3
          rw [S_len]
          rfl
        rw [e3, List.length_map, List.length_map, show (" " : Str).length = 1 from rfl]
        have e4 : (L.map fun _ => 3).sum = 3 * L.length := by
          have : ∀ M : LC, (M.map fun _ => 3).sum = 3 * M.length := fun M => by
            induction M with
            | nil => rfl
            | cons p M ih =>
              rw [List.map_cons, List.sum_cons, ih, List.length_cons]
              omega
          exact this L
        omega
      · rw [show (" " : Str) = S [32] from rfl, join_S]
        exact q _ (s1.trans sc)
end
end K84

namespace K84
open PySem PySem.Spec PyProof.Rows L2 Ver Num SX
/-- what a value tells, read as an order -/
def readD : PyData → Option LC
  | .str s => readO s.cps.toList
  | _ => none
theorem readD_S (u : Cd) : readD (.str (S u)) = readO u := by
  show readO (S u).cps.toList = _
  rw [chars_S]
/-- texts are short and of plain signs -/
def smallD (d : PyData) : Prop := ∀ s, d = .str s → As s.cps.toList ∧ s.length ≤ 1800
theorem merge_snoc (kvs : List (Key × V)) (L : LC) (p : Nat × Int) : mergeK kvs (dOf (L ++ [p])) = putK (mergeK kvs (dOf L)) (.inr (S [p.1])) (.int p.2) := by
  show mergeK kvs ((L ++ [p]).map _) = _
  rw [List.map_append]
  unfold mergeK
  rw [List.foldl_append]
  rfl
abbrev hp (p : Cd) : Nat × Int := (hd p, dg p)
theorem okP_no {p : Cd} (h : okP p = false) : p.length ≠ 3 ∨ ∃ a b c, p = [a, b, c] ∧ (b ≠ 58 ∨ b = 58 ∧ ¬ (49 ≤ c ∧ c ≤ 57)) := by
  match p, h with
  | [], _ => exact .inl (by decide)
  | [_], _ => exact .inl (by simp)
  | [_, _], _ => exact .inl (by simp)
  | [a, b, c], h =>
    refine .inr ⟨a, b, c, rfl, ?_⟩
    have h : (decide (b = 58) && (decide (49 ≤ c) && decide (c ≤ 57))) = false := h
    by_cases hb : b = 58
    · refine .inr ⟨hb, fun z => ?_⟩
      rw [decide_eq_true hb, decide_eq_true z.1, decide_eq_true z.2] at h
      cases h
    · exact .inl hb
  | _ :: _ :: _ :: _ :: _, _ => exact .inl (by simp)
theorem none_of {H H' : Hp} {o : Addr} (s : Same H H') (n : H' o = none) : H o = none := by
  cases e : H o with
  | none => rfl
  | some x =>
    have := s _ _ e
    rw [n] at this
    cases this
theorem in_costs (c : Nat) : decide (c ∈ ("123456789" : Str).cps.toList) = decide (49 ≤ c ∧ c ≤ 57) := by
  have e : ("123456789" : Str).cps.toList = [49, 50, 51, 52, 53, 54, 55, 56, 57] := by decide +kernel
  rw [e]
  by_cases h : 49 ≤ c ∧ c ≤ 57
  · rw [decide_eq_true h]
    refine decide_eq_true ?_
    simp only [List.mem_cons, List.not_mem_nil, or_false]
    omega
  · rw [decide_eq_false h]
    refine decide_eq_false fun z => h ?_
    simp only [List.mem_cons, List.not_mem_nil, or_false] at z
    omega
theorem int_dig : ∀ c : Nat, 49 ≤ c → c ≤ 57 → intText? (S [c]) = some ((c : Int) - 48) := fun c h1 h2 => by
  have h := int_S (a := [c]) (by simp; omega) (List.cons_ne_nil _ _) (by show 1 ≤ 4300; decide)
  rw [h]
  have : ∀ k : Nat, k ≤ 57 → 49 ≤ k → (some ((NumText.digitsVal [k] : Nat) : Int)) = some ((k : Int) - 48) := by decide +kernel
  exact this c h2 h1
theorem pieces_ok {ps : List Cd} (h : ps.all okP = true) (co : CsOk (ps.map hd)) : LOk (ps.map hp) := by
  have e1 : (ps.map hp).map (·.1) = ps.map hd := by
    rw [List.map_map]
    rfl
  have el : (ps.map hp).length = (ps.map hd).length := by rw [List.length_map, List.length_map]
  refine ⟨by rw [el]; exact co.pos, by rw [el]; exact co.few, by rw [e1]; exact co.asc, fun p hp' => ?_, fun p hp' => ?_⟩
  · refine co.rng p.1 ?_
    rw [← e1]
    exact List.mem_map.mpr ⟨p, hp', rfl⟩
  · obtain ⟨q, hq, rfl⟩ := List.mem_map.mp hp'
    obtain ⟨a, c, rfl, h1, h2⟩ := okP_at (List.all_eq_true.mp h q hq)
    show 1 ≤ ((c : Int) - 48) ∧ ((c : Int) - 48) ≤ 9
    omega
theorem le_sum : ∀ {l : List Nat} {n : Nat}, n ∈ l → n ≤ l.sum
  | m :: l, n, h => by
    rw [List.sum_cons]
    rcases List.mem_cons.mp h with rfl | h
    · omega
    · have := le_sum h
      omega
section
variable {P : Program} {w : World} {K : PySem.W.Frag} {mg : Str → Option Value} {base : Heap}
def spOO (K : PySem.W.Frag) : Sp := fun vs H Q E => ∃ (x : V) (d : PyData), vs = [x, .int 0] ∧ Do K H x d ∧ smallD d ∧
  (readD d = none → ∀ (dd : Addr) (H' : Hp), Same H H' → H' dd = some (.xd [(("line" : Str), .int 0)]) → E (.ref (He.ga K "InvalidText")) (some dd) H') ∧
  (∀ L, readD d = some L → ∀ (o : Addr) (H' : Hp), Same H H' → OrdAt K H' o L → H o = none → Q (.ref o) H')
theorem ok_orderOf (T : Tx K mg) : FnG P w K mg base (L2.CX P w) 6 (He.ga K "order_of") (spOO K) := by
  refine mkX_order_of T.d (fun vs H Q E h => ?_) (fun cdv A outer s H vs Q E hg hr h => ?_)
  · obtain ⟨x, d, rfl, _⟩ := h
    rfl
  · obtain ⟨x, d, rfl, hdo, sm, qe, q⟩ := h
    obtain ⟨fd, F1, bd⟩ := ok_InvalidText (P := P) (w := w) (base := base) T
    obtain ⟨cp, cg, fdc, cm, FDc⟩ := T.o.oc
    obtain ⟨tc, gc⟩ := T.cs
    have nd := sc_order_of.nd
    have hu := hu_of hr
    have zl := T.z "len" (by decide +kernel)
    have bl : bootBuiltins "len" = some (.builtin "len") := by decide +kernel
    refine ⟨_, C8.pss_cut (ps_set (i := 2) nd rfl (Or.inl rfl) (pe_ifExp (pt_val (pe_callB call_isi (by rfl) (T.z "isinstance" (by decide +kernel)) (by decide +kernel) (pa_cons (pv 0) (pa_cons (pe_bltn (v := .ty "str") (by rfl) (T.z "str" (by decide +kernel)) (by decide +kernel) rfl) pa_nil))))
        (pe_bm PySem.F.plainAttrs_str PySem.F.slot_str_split PySem.F.type_str_split mt_split (pv 0) (pa_cons pe_str pa_nil)) (pe_lst pa_nil)))
      (pss_cons (ps_par (i := 3) (j := 4) rfl nd rfl rfl (by decide) rfl rfl (pa_cons pe_str (pa_cons pe_dnewK pa_nil)) rfl)
      (pss_cons (ps_for (passes_of rfl) rfl (pi_list (pv 2)) (pg_name (i := 5) nd rfl (.inl rfl))
        (pss_cons (ps_if (PW.pt (pw_or (pt_cmpR op_ne (pe_callB call_len_str (by rfl) zl bl (pa_cons (pv 5) pa_nil)) pe_int (nomark _))
            (pw_or (pt_cmpR op_ne (pe_ix ix_str (pv 5) pe_int (fun _ _ => rfl)) pe_str (nomark _))
            (pw_or1 (pt_cmpR op_notIn_sign (pe_ix ix_str (pv 5) pe_int (fun _ _ => rfl)) (pe_glob (v := .str "123456789") (by rfl) gc ⟨_, rfl⟩) (by rfl))))))
          (pss_one (ps_raise rfl (takes_of rfl rfl rfl rfl) (pmk_oex T.eX.ox T.eX.iC T.eX.tI F1 (hr.mono (by decide)) bd .nil pass0 (by rfl) (T.g "InvalidText" (by decide +kernel)) (pa_cons (pv 1) pa_nil)))) pss_nil)
        (pss_cons (ps_set (i := 3) nd rfl (Or.inl rfl) (pe_op op_add_str (pv 3) (pe_ix ix_str (pv 5) pe_int (fun _ _ => rfl))))
        (pss_one (ps_dput hu (pv 4) (pe_ix ix_str (pv 5) pe_int (fun _ _ => rfl)) (pe_callTy call_int_str (by rfl) (T.z "int" (by decide +kernel)) (by decide +kernel) (pa_cons (pe_ix ix_str (pv 5) pe_int (fun _ _ => rfl)) pa_nil)) rfl)))))
      (pss_cons (ps_if (pt_not (pt_val (pe_callG (FnG.up (ok_is_lettersB T)) (hr.mono (by decide)) hg (by rfl) (T.g "is_letters" (by decide +kernel)) (kp_is_letters T.d) (passes_call (takes_of rfl rfl rfl rfl) fun _ _ _ _ z => z) (pa_cons (pv 3) pa_nil))))
        (pss_one (ps_raise rfl (takes_of rfl rfl rfl rfl) (pmk_oex T.eX.ox T.eX.iC T.eX.tI F1 (hr.mono (by decide)) bd .nil pass0 (by rfl) (T.g "InvalidText" (by decide +kernel)) (pa_cons (pv 1) pa_nil)))) pss_nil)
      (pss_one (ps_ret (pe_cmethG (by rfl) (T.g "Order" (by decide +kernel)) T.o.rd cm (FnG.up (ok_of_costs T FDc)) (hr.mono (by decide)) hg (passes_call (takes_of rfl rfl rfl rfl) fun _ _ _ _ z => z) (pa_cons (pv 4) pa_nil))))))), ?_⟩
    refine ⟨fun σ' H' => ∃ (a : Addr) (ps : List Cd), σ' = [some x, some (.int 0), some (.ref a), none, none, none] ∧ Same H H' ∧ H' a = some (.lst ((ps.map S).map V.str)) ∧ ps.length ≤ 1900 ∧ (∀ p ∈ ps, p.length ≤ 1900 ∧ As p) ∧
      readD d = (if ps.all okP && decide (CsOk (ps.map hd)) then some (ps.map hp) else none), ?_, ?_⟩
    · refine ⟨_, rfl, _, _, _, _, _, rfl, .ty "str", hdo.ty, kit_str d, _, rfl, ?_⟩
      cases es : is_str d with
      | true =>
        obtain ⟨s', rfl⟩ : ∃ s', d = .str s' := by
          cases d with
          | str s' => exact ⟨s', rfl⟩
          | _ => cases es
        cases hdo
        obtain ⟨u, rfl⟩ : ∃ u, s' = S u := ⟨TL.tl s', (S_tl s').symm⟩
        obtain ⟨as, lu⟩ := sm _ rfl
        rw [chars_S] at as
        rw [S_len] at lu
        have hw := wt_pcs u
        have lw : ∀ p ∈ pcs u, p.length + (pcs u).length ≤ wt (pcs u) := fun p hp => by
          have h1 : p.length ≤ ((pcs u).map (·.length)).sum := le_sum (List.mem_map.mpr ⟨p, hp, rfl⟩)
          unfold wt
          omega
        have lp : (pcs u).length ≤ wt (pcs u) := by
          unfold wt
          omega
        refine ifT rfl ⟨_, rfl, rfl, _, _, rfl, rfl, rfl, by rw [S_len]; exact sl_of (by omega), fun p np => ?_⟩
        refine ⟨p, pcs u, rfl, same_up np, ?_, by omega, fun r hr => ⟨by have := lw r hr; omega, fun c hc => as c (mem_pcs hr hc)⟩, readD_S u⟩
        rw [upd_same, split_pcs]
      | false =>
        refine ifF rfl ⟨by show 0 ≤ sizeLine; decide, fun p np => ?_⟩
        refine ⟨p, [], rfl, same_up np, upd_same, by decide, fun r hr => (nomatch hr), ?_⟩
        cases d with
        | str s => cases es
        | _ => rfl
    · rintro σ' H1 ⟨a, ps, rfl, s1, ha, lp, hps, er⟩
      refine fun p2 np2 => ?_
      have ap2 : a ≠ p2 := ne_of_none ha np2
      have s2 := same_up (o := .dK []) np2
      have xl : ((ps.map S).map V.str).length = ps.length := by rw [List.length_map, List.length_map]
      refine ⟨_, _, rfl, ?_⟩
      refine ⟨_, rfl, a, rfl, ⟨_, SqL.of (s2 _ _ ha)⟩, for_list (K := K) (a := a) (xs := (ps.map S).map V.str)
        (fun j σ H' => ∃ v5 : Option V, σ = [some x, some (.int 0), some (.ref a), some (.str (S ((ps.take j).map hd))), some (.ref p2), v5] ∧ Same H1 H' ∧ H' p2 = some (.dK (mergeK [] (dOf ((ps.take j).map hp)))) ∧ (ps.take j).all okP = true)
        ⟨none, rfl, s2, upd_same, rfl⟩ (fun j σ H' _ ⟨_, _, s, _⟩ => SqL.of (s _ _ ha)) ?_ ?_⟩
      · rintro j x0 σ H2 hx ⟨v5, rfl, s12, hp2, okj⟩
        rw [List.getElem?_map, List.getElem?_map] at hx
        cases hn : ps[j]? with
        | none =>
          rw [hn] at hx
          cases hx
        | some r =>
          rw [hn] at hx
          cases hx
          obtain ⟨lr, ar⟩ := hps r (List.mem_of_getElem? hn)
          have jl : j < ps.length := (List.getElem?_eq_some_iff.mp hn).1
          have tk : ps.take (j + 1) = ps.take j ++ [r] := by rw [List.take_add_one, hn]; rfl
          have slr : (S r).length ≤ sizeLine := by rw [S_len]; exact sl_of (by omega)
          refine ⟨_, rfl, _, rfl, slr, rfl, _, rfl, ?_⟩
          rw [iEq, S_len]
          have sA : Same H H2 := s1.trans s12
          have at1 : ∀ {a b c : Nat}, (S [a, b, c]).cps.toList = [a, b, c] := chars_S _
          cases hk : okP r with
          | false =>
            have bad : readD d = none := by
              rw [er, if_neg]
              intro z
              rw [Bool.and_eq_true] at z
              have := List.all_eq_true.mp z.1 r (List.mem_of_getElem? hn)
              rw [hk] at this
              cases this
            rcases okP_no hk with l3 | ⟨a', b, c, rfl, hb | ⟨hb, hc⟩⟩
            · refine ifT (by rw [decide_eq_false (show ¬ (r.length : Int) = 3 by omega)]; rfl) (ifT rfl ⟨_, rfl, by show 1 ≤ 1000; decide, fun a na => err_mk na fun dd H3 s3 hdd => qe bad dd H3 (sA.trans s3) hdd⟩)
            · refine ifF (by show (!decide (((3 : Nat) : Int) = 3)) = false; rfl) ⟨_, rfl, _, _, _, rfl, rfl, slr, by rw [chars_S]; rfl, rfl, _, rfl, ?_⟩
              rw [sEq]
              refine ifT ?_ (ifT rfl ⟨_, rfl, by show 1 ≤ 1000; decide, fun a na => err_mk na fun dd H3 s3 hdd => qe bad dd H3 (sA.trans s3) hdd⟩)
              show (!decide (S [b] = S [58])) = true
              rw [decide_eq_false fun z => hb (List.cons.inj (S_inj (a := [b]) (b := [58]) z)).1]
              rfl
            · refine ifF (by show (!decide (((3 : Nat) : Int) = 3)) = false; rfl) ⟨_, rfl, _, _, _, rfl, rfl, slr, by rw [chars_S]; rfl, rfl, _, rfl, ?_⟩
              rw [sEq]
              refine ifF (by rw [hb, decide_eq_true (show (S [58] : Str) = ":" from rfl)]; rfl) ⟨_, rfl, _, _, _, rfl, rfl, slr, by rw [chars_S]; rfl, c, _, rfl, rfl, _, rfl, ?_⟩
              rw [in_costs, decide_eq_false hc]
              refine ifT rfl ?_
              exact ⟨_, rfl, by show 1 ≤ 1000; decide, fun a na => err_mk na fun dd H3 s3 hdd => qe bad dd H3 (sA.trans s3) hdd⟩
          | true =>
            obtain ⟨a', c, rfl, c1, c2⟩ := okP_at hk
            refine ifF (by show (!decide (((3 : Nat) : Int) = 3)) = false; rfl) ⟨_, rfl, _, _, _, rfl, rfl, slr, by rw [chars_S]; rfl, rfl, _, rfl, ?_⟩
            rw [sEq]
            refine ifF (by rw [decide_eq_true (show (S [58] : Str) = ":" from rfl)]; rfl) ⟨_, rfl, _, _, _, rfl, rfl, slr, by rw [chars_S]; rfl, c, _, rfl, rfl, _, rfl, ?_⟩
            rw [in_costs, decide_eq_true (show 49 ≤ c ∧ c ≤ 57 from ⟨c1, c2⟩)]
            refine ifF rfl ?_
            refine ⟨_, rfl, _, rfl, _, _, _, rfl, rfl, slr, by rw [chars_S]; rfl, _, _, rfl, rfl, ?_, ?_⟩
            · show (S (List.map hd (List.take j ps))).length + (S [a']).length ≤ sizeLine
              rw [S_len, S_len, List.length_map, List.length_take]
              exact sl_of (by show _ + 1 ≤ _; omega)
            · refine ⟨_, rfl, _, _, _, rfl, rfl, slr, by rw [chars_S]; rfl, _, _, rfl, int_dig c c1 c2, by show 1 ≤ 640; decide, ?_⟩
              refine ⟨_, rfl, _, rfl, _, _, _, rfl, rfl, slr, by rw [chars_S]; rfl, p2, _, rfl, DPut.k (k := Sum.inr (S [a'])) hp2 ?_, ?_⟩
              · have h1 := length_mergeK (dOf ((ps.take j).map hp)) []
                rw [List.length_map, List.length_map, List.length_take, List.length_nil] at h1
                rw [sizeLine_eq]
                omega
              · refine ⟨some (.str (S [a', 58, c])), ?_, ?_, ?_, ?_⟩
                · rw [tk, List.map_append, ← S_cat]
                  rfl
                · exact fun b o e => by
                    rw [upd_ne (fun z => by rw [z, np2] at e; cases e)]
                    exact s12 b o e
                · rw [upd_same, tk, List.map_append]
                  show _ = some (HO.dK (mergeK [] (dOf (List.map hp (List.take j ps) ++ [(a', (c : Int) - 48)]))))
                  rw [merge_snoc]
                · rw [tk, List.all_append, okj]
                  show (true && ([[a', 58, c]].all okP)) = true
                  rw [List.all_cons, hk]
                  rfl
      · rintro σ H2 ⟨v5, rfl, s12, hp2, okj⟩
        rw [xl, List.take_length] at hp2 okj ⊢
        have sA : Same H H2 := s1.trans s12
        refine ⟨_, rfl, ps.map hd, rfl, fun c hc => ?_, by rw [List.length_map]; omega, fun H3 s3 => ⟨_, rfl, ?_⟩⟩
        · obtain ⟨p, hp', rfl⟩ := List.mem_map.mp hc
          obtain ⟨a', k, rfl, _, _⟩ := okP_at (List.all_eq_true.mp okj p hp')
          exact (hps _ hp').2 a' List.mem_cons_self
        · rw [okj, Bool.true_and] at er
          by_cases co : CsOk (ps.map hd)
          · rw [decide_eq_true co, if_pos rfl] at er
            rw [decide_eq_true co]
            have lo := pieces_ok okj co
            rw [merge0 (asc_nodup lo.asc)] at hp2
            exact ifF rfl ⟨_, rfl, _, p2, _, _, rfl, lo, List.Perm.refl _, s3 _ _ hp2, fun o H4 s4 at_ no => q _ er o H4 ((sA.trans s3).trans s4) at_ (none_of ((sA.trans s3)) no)⟩
          · rw [decide_eq_false co, if_neg Bool.false_ne_true] at er
            rw [decide_eq_false co]
            exact ifT rfl ⟨_, rfl, by show 1 ≤ 1000; decide, fun a na => err_mk na fun dd H4 s4 hdd => qe er dd H4 ((sA.trans s3).trans s4) hdd⟩
/-- read_order, by place -/
def spRO (K : PySem.W.Frag) : Sp := fun vs H Q E => ∃ (x : V) (d : PyData), vs = [x] ∧ Do K H x d ∧ smallD d ∧
  (readD d = none → ∀ (dd : Addr) (H' : Hp), Same H H' → H' dd = some (.xd [(("line" : Str), .int 0)]) → E (.ref (He.ga K "InvalidText")) (some dd) H') ∧
  (∀ L, readD d = some L → ∀ (o : Addr) (H' : Hp), Same H H' → OrdAt K H' o L → H o = none → Q (.ref o) H')
theorem ok_read (T : Tx K mg) : FnG P w K mg base (L2.CX P w) 7 (He.ga K "read_order") (spRO K) := by
  refine mkX_read_order T.d (fun vs H Q E h => ?_) (fun cdv A outer s H vs Q E hg hr h => ?_)
  · obtain ⟨x, d, rfl, _⟩ := h
    rfl
  · obtain ⟨x, d, rfl, hdo, sm, qe, q⟩ := h
    refine ⟨_, pss_one (ps_ret (pe_callG (ok_orderOf T) hr hg (by rfl) (T.g "order_of" (by decide +kernel)) (kp_order_of T.d) (passes_call (takes_of rfl rfl rfl rfl) fun _ _ _ _ z => z) (pa_cons (pv 0) (pa_cons pe_int pa_nil)))), ?_⟩
    exact ⟨_, rfl, x, d, rfl, hdo, sm, qe, q⟩
/-- by its name -/
theorem ok_readK (T : Tx K mg) : FnK P w K mg base (L2.CX P w) 7 (He.ga K "read_order") 0 ["text"] (fun vs zs => vs ++ zs) (spRO K) := by
  refine mkXK_read_order T.d 0 ["text"] (fun a b => a ++ b) (fun r1 r2 => r1.append r2) (fun kV doc pm an cdv ct us ws l1 l2 => ?_) (fun vs H Q E h => ?_) (fun cdv A outer s H vs Q E hg hr h => ?_)
  · match us, ws, l1, l2 with
    | [], [_], _, _ => rfl
  · obtain ⟨x, d, rfl, _⟩ := h
    rfl
  · obtain ⟨x, d, rfl, hdo, sm, qe, q⟩ := h
    refine ⟨_, pss_one (ps_ret (pe_callG (ok_orderOf T) hr hg (by rfl) (T.g "order_of" (by decide +kernel)) (kp_order_of T.d) (passes_call (takes_of rfl rfl rfl rfl) fun _ _ _ _ z => z) (pa_cons (pv 0) (pa_cons pe_int pa_nil)))), ?_⟩
    exact ⟨_, rfl, x, d, rfl, hdo, sm, qe, q⟩
end
end K84

namespace K84
open PySem PySem.Spec PyProof.Rows L2 Ver Num SX
/-! ### the law's own readings -/
def badK (cs : List Nat) (j : Nat) : Bool := decide (cs.getD (j + 1) 0 ≤ cs.getD j 0)
theorem asc_adj {cs : List Nat} (h1 : 1 ≤ cs.length) (h4 : cs.length ≤ 4) : decide (cs.Pairwise (· < ·)) = ((List.range (cs.length - 1)).filter (badK cs)).isEmpty := by
  match cs, h1, h4 with
  | [a], _, _ => simp
  | [a, b], _, _ =>
    by_cases h : a < b
    · simp [badK, h, List.range_succ, Nat.not_le.mpr h]
    · simp [badK, h, List.range_succ, Nat.not_lt.mp h]
  | [a, b, c], _, _ =>
    by_cases h : a < b
    · by_cases h2 : b < c
      · simp [badK, h, h2, Nat.lt_trans h h2, List.range_succ, Nat.not_le.mpr h, Nat.not_le.mpr h2]
      · simp [badK, h, h2, List.range_succ, Nat.not_le.mpr h, Nat.not_lt.mp h2]
    · simp [badK, h, List.range_succ, Nat.not_lt.mp h]
  | [a, b, c, d], _, _ =>
    by_cases h : a < b
    · by_cases h2 : b < c
      · by_cases h3 : c < d
        · simp [badK, h, h2, h3, Nat.lt_trans h h2, Nat.lt_trans h2 h3, Nat.lt_trans (Nat.lt_trans h h2) h3, List.range_succ, Nat.not_le.mpr h, Nat.not_le.mpr h2, Nat.not_le.mpr h3]
        · simp [badK, h, h2, h3, List.range_succ, Nat.not_le.mpr h, Nat.not_le.mpr h2, Nat.not_lt.mp h3]
      · simp [badK, h, h2, List.range_succ, Nat.not_le.mpr h, Nat.not_lt.mp h2]
    · simp [badK, h, List.range_succ, Nat.not_lt.mp h]
theorem cs_dec2 {cs : List Nat} (h1 : 1 ≤ cs.length) (h4 : cs.length ≤ 4) (ha : cs.all azB = true) : decide (CsOk cs) = ((List.range (cs.length - 1)).filter (badK cs)).isEmpty := by
  rw [← asc_adj h1 h4]
  by_cases h : cs.Pairwise (· < ·)
  · rw [decide_eq_true h, cs_dec h1 h4 h, ha]
  · rw [decide_eq_false h]
    exact decide_eq_false fun z => h z.asc
theorem in_alpha (c : Nat) : decide (c ∈ ("abcdefghijklmnopqrstuvwxyz" : Str).cps.toList) = azB c := by
  have e : ("abcdefghijklmnopqrstuvwxyz" : Str).cps.toList = (List.range 26).map (97 + ·) := alpha_eq
  rw [e]
  unfold azB
  by_cases h : 97 ≤ c ∧ c ≤ 122
  · rw [decide_eq_true h.1, decide_eq_true h.2]
    refine decide_eq_true (List.mem_map.mpr ⟨c - 97, List.mem_range.mpr (by omega), by show 97 + (c - 97) = c; omega⟩)
  · rw [← Bool.decide_and, decide_eq_false h]
    refine decide_eq_false fun z => h ?_
    obtain ⟨x, hx, hxc⟩ := List.mem_map.mp z
    have := List.mem_range.mp hx
    have e : 97 + x = c := hxc
    omega
theorem filter_empty {β : Type} (n : Nat) (k : Nat → Bool) (y : Nat → β) : (((List.range n).filter k).map y).isEmpty = ((List.range n).filter k).isEmpty := by
  cases (List.range n).filter k <;> rfl
theorem filter_all (n : Nat) (k : Nat → Bool) : ((List.range n).filter k).isEmpty = (List.range n).all fun j => !k j := by
  induction n with
  | zero => rfl
  | succ n ih =>
    rw [List.range_succ, List.filter_append, List.all_append, ← ih]
    cases h : (List.range n).filter k with
    | nil => cases hk : k n <;> simp [hk]
    | cons x xs => simp
theorem all_at {cs : List Nat} (p : Nat → Bool) : ((List.range cs.length).all fun j => p (cs.getD j 0)) = cs.all p := by
  have e : (List.range cs.length).map (fun j => cs.getD j 0) = cs := by
    refine List.ext_getElem (by rw [List.length_map, List.length_range]) fun i h1 h2 => ?_
    rw [List.getElem_map, List.getElem_range, List.getD_eq_getElem?_getD, List.getElem?_eq_getElem h2]
    rfl
  conv => rhs; rw [← e, List.all_map]
  rfl
section
variable {P : Program} {w : World} {K : PySem.W.Frag} {mg : Str → Option Value} {base : Heap}
def spLR : Sp := fun vs H Q _ => ∃ cs : List Nat, vs = [.str (S cs)] ∧ cs.length ≤ 2000 ∧ ∀ H', Same H H' → Q (.bl (decide (CsOk cs))) H'
theorem ok_lread (T : Tx K mg) : FnG P w K mg base CX0 1 (He.ga K "_law_letters_read") spLR := by
  refine mk__law_letters_read T.d (fun vs H Q E h => ?_) (fun cdv A outer s H vs Q E hg hr h => ?_)
  · obtain ⟨cs, rfl, _⟩ := h
    rfl
  · obtain ⟨cs, rfl, l2, q⟩ := h
    have nd := sc__law_letters_read.nd
    have hu := hr.units
    refine ⟨_, pss_cons (ps_if (PW.pt (pw_or (pt_not (pt_chain op_le op_le pe_int (pe_callB call_len_str (by rfl) (T.z "len" (by decide +kernel)) (by decide +kernel) (pa_cons (pv 0) pa_nil)) pe_int))
        (pw_or1 (pt_cmpR (op_neP T.sm hu) (pe_lc (own := [("_law_sign", 1)]) (g := gName 1) rfl nd (pi_str (pv 0)) (blkOk_by (N := n__law_letters_read) (sc := defScope s__law_letters_read) (by decide +kernel)) (fun _ _ _ _ _ => pg_name (i := 1) nd rfl (Or.inl rfl))
            (fun _ _ _ _ _ => pts_one (pt_cmpR op_notIn_sign (pv 1) pe_str (by rfl))) (fun _ _ _ _ _ => pv 1)) (pe_lst pa_nil) (nomark _))))) (pss_one (ps_ret pe_bl)) pss_nil)
      (pss_one (ps_ret (pe_cmpR (op_eqP T.sm hu) (pe_lc (own := [("_law_k", 2)]) (g := gName 2) rfl nd (pi_range2 (by rfl) (T.z "range" (by decide +kernel)) (pa_cons pe_int (pa_cons (pe_callB call_len_str (by rfl) (T.z "len" (by decide +kernel)) (by decide +kernel) (pa_cons (pv 0) pa_nil)) pa_nil)))
            (blkOk_by (N := n__law_letters_read) (sc := defScope s__law_letters_read) (by decide +kernel)) (fun _ _ _ _ _ => pg_name (i := 2) nd rfl (Or.inl rfl))
            (fun _ _ _ _ _ => pts_one (pt_cmpR op_ge_str (pe_ix ix_str (pv 0) (pe_op op_sub (pv 2) pe_int) (fun _ _ => rfl)) (pe_ix ix_str (pv 0) (pv 2) (fun _ _ => rfl)) (nomark _))) (fun _ _ _ _ _ => pv 2)) (pe_lst pa_nil) (nomark _)))), ?_⟩
    have ls := S_len cs
    have sl : (S cs).length ≤ sizeLine := by rw [ls]; exact sl_of (by omega)
    have asz : (S cs).cps.size = cs.length := by simp
    refine ⟨_, rfl, _, rfl, sl, _, _, rfl, rfl, _, rfl, ?_⟩
    rw [ls]
    by_cases l1 : 1 ≤ cs.length
    case neg =>
      have z := q H (Same.refl H)
      rw [decide_eq_false fun z : CsOk cs => l1 z.pos] at z
      exact ifF (decide_eq_false (by omega)) ⟨_, rfl, ifT rfl z⟩
    refine ifT (decide_eq_true (by omega)) ⟨_, _, rfl, rfl, _, rfl, ?_⟩
    by_cases l4 : cs.length ≤ 4
    case neg =>
      have z := q H (Same.refl H)
      rw [decide_eq_false fun z : CsOk cs => l4 z.few] at z
      rw [decide_eq_false (show ¬ (cs.length : Int) ≤ 4 by omega)]
      exact ifT rfl z
    rw [decide_eq_true (show (cs.length : Int) ≤ 4 by omega)]
    refine ifF rfl ?_
    refine ⟨_, rfl, S cs, rfl, fun D nD => lc_some wk_str (fun j => .str (S [cs.getD j 0])) (fun j => !azB (cs.getD j 0)) nD (by rw [asz]; omega) (fun _ _ => trivial) (fun j x H' R hj s' hx hR => ?_) (fun j x H' R hj hk s' hx hR => ?_) (fun H2 s2 hD => ?_)⟩
    · obtain ⟨c, hc, rfl⟩ := hx
      rw [← Array.getElem?_toList, chars_S] at hc
      have e : cs.getD j 0 = c := by rw [List.getD_eq_getElem?_getD, hc]; rfl
      rw [e] at hR
      refine ⟨_, rfl, c, _, rfl, rfl, _, rfl, ?_⟩
      rw [in_alpha]
      exact hR
    · obtain ⟨c, hc, rfl⟩ := hx
      rw [← Array.getElem?_toList, chars_S] at hc
      have e : cs.getD j 0 = c := by rw [List.getD_eq_getElem?_getD, hc]; rfl
      rw [e] at hR
      exact ⟨_, rfl, hR⟩
    · rw [asz] at hD
      have e1 : (((List.range cs.length).filter fun j => !azB (cs.getD j 0)).map fun j => V.str (S [cs.getD j 0])) = (((List.range cs.length).filter fun j => !azB (cs.getD j 0)).map fun j => S [cs.getD j 0]).map V.str := (List.map_map ..).symm
      rw [e1] at hD
      have e2 : ((((List.range cs.length).filter fun j => !azB (cs.getD j 0)).map fun j => S [cs.getD j 0]).map V.str).isEmpty = cs.all azB := by
        rw [List.map_map, filter_empty, filter_all, ← all_at azB]
        congr 1
        funext j
        rw [Bool.not_not]
      generalize ((List.range cs.length).filter fun j => !azB (cs.getD j 0)).map (fun j => S [cs.getD j 0]) = ss at hD e2
      have fl := flat_str ss
      have dep := depth_flat fl
      refine ⟨by show 0 ≤ sizeLine; decide, fun p np => ?_⟩
      have s3 := same_up (o := .lst []) np
      refine ⟨.list (datL (ss.map V.str)), .list [], .lst (SqL.of (s3 _ _ hD)) (do_flat fl), .lst (SqL.of upd_same) .nil, plain_flat fl, rfl, by simp only [PyData.depth]; omega, _, rfl, ?_⟩
      rw [eqv_flat fl, e2]
      have s23 := s2.trans s3
      cases ha : cs.all azB with
      | false =>
        have z := q _ s23
        rw [decide_eq_false fun z : CsOk cs => by
          have : cs.all azB = true := by
            rw [← cs_dec l1 l4 z.asc]
            exact decide_eq_true z
          rw [ha] at this
          cases this] at z
        exact ifT rfl z
      | true =>
        refine ifF rfl ⟨_, rfl, _, rfl, sl, _, _, rfl, ⟨by decide, by decide, by rw [ls]; omega, by rw [ls]; omega⟩, fun D2 nD2 => ?_⟩
        have en : (((S cs).length : Int) - 1).toNat = cs.length - 1 := by rw [ls]; omega
        rw [en]
        refine lc_some walk_range (fun j => .int (1 + (j : Int))) (badK cs) nD2 (by omega) (fun _ _ => trivial) (fun j x H' R hj s' hx hR => ?_) (fun j x H' R hj hk s' hx hR => ?_) (fun H4 s4 hD4 => ?_)
        · obtain ⟨rfl, rfl⟩ := hx
          have j1 : j + 1 < cs.length := by omega
          have e0 : (1 + (j : Int)) - 1 = ((j : Nat) : Int) := by omega
          have e1 : (1 + (j : Int)) = ((j + 1 : Nat) : Int) := by omega
          have a0 : atI (S cs).cps.toList ((1 + (j : Int)) - 1) = some (cs.getD j 0) := by
            rw [chars_S, e0]
            exact atI_nat (by rw [List.getD_eq_getElem?_getD, List.getElem?_eq_getElem (by omega)]; rfl)
          have a1 : atI (S cs).cps.toList (1 + (j : Int)) = some (cs.getD (j + 1) 0) := by
            rw [chars_S, e1]
            exact atI_nat (by rw [List.getD_eq_getElem?_getD, List.getElem?_eq_getElem j1]; rfl)
          refine ⟨_, rfl, _, rfl, _, _, rfl, rfl, _, _, _, rfl, rfl, sl, a0, _, rfl, _, rfl, _, _, _, rfl, rfl, sl, a1, _, _, rfl, rfl, _, rfl, ?_⟩
          have eb : (!decide ((⟨#[cs.getD j 0]⟩ : Str).cps.toList < (⟨#[cs.getD (j + 1) 0]⟩ : Str).cps.toList)) = badK cs j := by
            unfold badK
            by_cases h : cs.getD (j + 1) 0 ≤ cs.getD j 0
            · rw [decide_eq_true h, decide_eq_false (show ¬ ([cs.getD j 0] : List Nat) < [cs.getD (j + 1) 0] from fun z => by have := one_lt.mp z; omega)]
              rfl
            · rw [decide_eq_false h, decide_eq_true (show ([cs.getD j 0] : List Nat) < [cs.getD (j + 1) 0] from one_lt.mpr (by omega))]
              rfl
          rw [eb]
          exact hR
        · obtain ⟨rfl, rfl⟩ := hx
          exact ⟨_, rfl, hR⟩
        · have e1 : (((List.range (cs.length - 1)).filter (badK cs)).map fun j : Nat => V.int (1 + (j : Int))) = (((List.range (cs.length - 1)).filter (badK cs)).map fun j : Nat => (1 + (j : Int))).map V.int := (List.map_map ..).symm
          rw [e1] at hD4
          have e2 : ((((List.range (cs.length - 1)).filter (badK cs)).map fun j : Nat => (1 + (j : Int))).map V.int).isEmpty = decide (CsOk cs) := by
            rw [List.map_map, filter_empty, cs_dec2 l1 l4 ha]
          generalize ((List.range (cs.length - 1)).filter (badK cs)).map (fun j : Nat => (1 + (j : Int))) = is at hD4 e2
          have fl2 := flat_int is
          have dep2 := depth_flat fl2
          refine ⟨by show 0 ≤ sizeLine; decide, fun p4 np4 => ?_⟩
          have s5 := same_up (o := .lst []) np4
          refine ⟨.list (datL (is.map V.int)), .list [], .lst (SqL.of (s5 _ _ hD4)) (do_flat fl2), .lst (SqL.of upd_same) .nil, plain_flat fl2, rfl, by simp only [PyData.depth]; omega, ?_⟩
          rw [eqv_flat fl2, e2]
          exact q _ ((s23.trans s4).trans s5)
end
end K84

namespace K84
open PySem PySem.Spec PyProof.Rows L2 Ver Num SX
theorem paired_at {α β : Type} {R : α → β → Prop} : ∀ {xs : List α} {ys : List β}, xs.length = ys.length → (∀ (i : Nat) (x : α) (y : β), xs[i]? = some x → ys[i]? = some y → R x y) → Paired R xs ys
  | [], [], _, _ => .nil
  | x :: xs, y :: ys, hl, h => .cons (h 0 x y rfl rfl) (paired_at (by simpa using hl) fun i a b h1 h2 => h (i + 1) a b (by simpa using h1) (by simpa using h2))
  | [], _ :: _, hl, _ => by simp at hl
  | _ :: _, [], hl, _ => by simp at hl
theorem all_atL {α : Type} {xs : List α} (d : α) (p : α → Bool) : ((List.range xs.length).all fun j => p (xs.getD j d)) = xs.all p := by
  have e : (List.range xs.length).map (fun j => xs.getD j d) = xs := by
    refine List.ext_getElem (by rw [List.length_map, List.length_range]) fun i h1 h2 => ?_
    rw [List.getElem_map, List.getElem_range, List.getD_eq_getElem?_getD, List.getElem?_eq_getElem h2]
    rfl
  conv => rhs; rw [← e, List.all_map]
  rfl
section
variable {P : Program} {w : World} {K : PySem.W.Frag} {mg : Str → Option Value} {base : Heap}
def spOR (K : PySem.W.Frag) : Sp := fun vs H Q _ => ∃ u : Cd, vs = [.str (S u)] ∧ u.length ≤ 1800 ∧ (readO u = none → ∀ H', Same H H' → Q .non H') ∧
  (∀ L, readO u = some L → ∀ (p : Addr) (H' : Hp), Same H H' → H' p = some (.dK (dOf L)) → Q (.ref p) H')
theorem ok_oread (T : Tx K mg) : FnG P w K mg base CX0 2 (He.ga K "_law_order_read") (spOR K) := by
  refine mk__law_order_read T.d (fun vs H Q E h => ?_) (fun cdv A outer s H vs Q E hg hr h => ?_)
  · obtain ⟨u, rfl, _⟩ := h
    rfl
  · obtain ⟨u, rfl, lu, qn, q⟩ := h
    have nd := sc__law_order_read.nd
    have hu := hr.units
    have zl := T.z "len" (by decide +kernel)
    have bl : bootBuiltins "len" = some (.builtin "len") := by decide +kernel
    refine ⟨_, pss_cons (ps_set (i := 1) nd rfl (Or.inl rfl) (pe_bm PySem.F.plainAttrs_str PySem.F.slot_str_split PySem.F.type_str_split mt_split (pv 0) (pa_cons pe_str pa_nil)))
      (pss_cons (ps_if (pt_cmpR (op_neP T.sm hu) (pe_lc (own := [("_law_piece", 2)]) (g := gName 2) rfl nd (pi_list (pv 1)) (blkOk_by (N := n__law_order_read) (sc := defScope s__law_order_read) (by decide +kernel)) (fun _ _ _ _ _ => pg_name (i := 2) nd rfl (Or.inl rfl))
          (fun _ _ _ _ _ => pts_one (PW.pt (pw_or (pt_cmpR op_ne (pe_callB (r := fun xs H Q => ∃ z, xs = [V.str z] ∧ z.length ≤ sizeLine ∧ Q (V.int z.length) H) call_len_str (by rfl) zl bl (pa_cons (pv 2) pa_nil)) pe_int (nomark _))
            (pw_or (pt_cmpR op_ne (pe_ix ix_str (pv 2) pe_int (fun _ _ => rfl)) pe_str (nomark _))
            (pw_or1 (pt_cmpR op_notIn_sign (pe_ix ix_str (pv 2) pe_int (fun _ _ => rfl)) pe_str (by rfl)))))))
          (fun _ _ _ _ _ => pv 2)) (pe_lst pa_nil) (nomark _)) (pss_one (ps_ret pe_non)) pss_nil)
      (pss_cons (ps_if (pt_not (pt_val (pe_callG (ok_lread T) (hr.mono (by decide)) hg (by rfl) (T.g "_law_letters_read" (by decide +kernel)) (kp__law_letters_read T.d) pass0 (pa_cons
          (pe_join pe_str (pe_lc (own := [("_law_piece", 2)]) (g := gName 2) (tt := tYes) rfl nd (pi_list (pv 1)) (blkOk_by (N := n__law_order_read) (sc := defScope s__law_order_read) (by decide +kernel)) (fun _ _ _ _ _ => pg_name (i := 2) nd rfl (Or.inl rfl)) (fun _ _ _ _ _ => pts_nil)
            (fun _ _ _ _ _ => pe_ix ix_str (pv 2) pe_int (fun _ _ => rfl)))) pa_nil)))) (pss_one (ps_ret pe_non)) pss_nil)
      (pss_one (ps_ret (pe_callTy (call_dictP rfl) (by rfl) (T.z "dict" (by decide +kernel)) (by decide +kernel) (pa_cons
        (pe_lc (own := [("_law_piece", 2)]) (g := gName 2) (tt := tYes) rfl nd (pi_list (pv 1)) (blkOk_by (N := n__law_order_read) (sc := defScope s__law_order_read) (by decide +kernel)) (fun _ _ _ _ _ => pg_name (i := 2) nd rfl (Or.inl rfl)) (fun _ _ _ _ _ => pts_nil)
          (fun _ _ _ _ _ => pe_tup (pa_cons (pe_ix ix_str (pv 2) pe_int (fun _ _ => rfl)) (pa_cons (pe_callTy call_int_str (by rfl) (T.z "int" (by decide +kernel)) (by decide +kernel) (pa_cons (pe_ix ix_str (pv 2) pe_int (fun _ _ => rfl)) pa_nil)) pa_nil)))) pa_nil)))))), ?_⟩
    have hw := wt_pcs u
    have lp : (pcs u).length ≤ wt (pcs u) := by
      unfold wt
      omega
    have lw : ∀ p ∈ pcs u, p.length ≤ 1900 := fun p hp => by
      have h1 : p.length ≤ ((pcs u).map (·.length)).sum := le_sum (List.mem_map.mpr ⟨p, hp, rfl⟩)
      unfold wt at hw
      omega
    refine ⟨_, rfl, rfl, _, _, rfl, rfl, rfl, by rw [S_len]; exact sl_of (by omega), fun a na => ?_⟩
    rw [split_pcs]
    unfold readO at qn q
    generalize pcs u = ps at *
    have xl : ((ps.map S).map V.str).length = ps.length := by rw [List.length_map, List.length_map]
    have s1 := same_up (o := .lst ((ps.map S).map V.str)) na
    have ha1 : upd H a (.lst ((ps.map S).map V.str)) a = some (.lst ((ps.map S).map V.str)) := upd_same
    generalize upd H a (.lst ((ps.map S).map V.str)) = H1 at s1 ha1
    have at_ : ∀ {j : Nat} {x : V}, ((ps.map S).map V.str)[j]? = some x → ∃ r, ps[j]? = some r ∧ x = .str (S r) ∧ (S r).length ≤ sizeLine ∧ ps.getD j [] = r := fun {j x} hx => by
      rw [List.getElem?_map, List.getElem?_map] at hx
      cases hn : ps[j]? with
      | none =>
        rw [hn] at hx
        cases hx
      | some r =>
        rw [hn] at hx
        cases hx
        have := lw r (List.mem_of_getElem? hn)
        exact ⟨r, rfl, rfl, by rw [S_len]; exact sl_of (by omega), by rw [List.getD_eq_getElem?_getD, hn]; rfl⟩
    refine ⟨_, rfl, a, rfl, ⟨_, SqL.of ha1⟩, fun D nD => lc_some wk_list (fun j => .str (S (ps.getD j []))) (fun j => !okP (ps.getD j [])) nD (by rw [xl]; omega) (fun H' s' => SqL.of (s' _ _ ha1)) (fun j x H' R hj s' hx hR => ?_) (fun j x H' R hj hk s' hx hR => ?_) (fun H2 s2 hD => ?_)⟩
    · obtain ⟨r, hr', rfl, slr, e⟩ := at_ hx
      rw [e] at hR
      refine ⟨_, rfl, _, rfl, slr, rfl, _, rfl, ?_⟩
      rw [iEq, S_len]
      cases hk : okP r with
      | false =>
        rw [hk] at hR
        rcases okP_no hk with l3 | ⟨a', b, c, rfl, hb | ⟨hb, hc⟩⟩
        · exact ifT (by rw [decide_eq_false (show ¬ (r.length : Int) = 3 by omega)]; rfl) hR
        · refine ifF (by show (!decide (((3 : Nat) : Int) = 3)) = false; rfl) ⟨_, rfl, _, _, _, rfl, rfl, slr, by rw [chars_S]; rfl, rfl, _, rfl, ?_⟩
          rw [sEq]
          refine ifT ?_ hR
          show (!decide (S [b] = S [58])) = true
          rw [decide_eq_false fun z => hb (List.cons.inj (S_inj (a := [b]) (b := [58]) z)).1]
          rfl
        · refine ifF (by show (!decide (((3 : Nat) : Int) = 3)) = false; rfl) ⟨_, rfl, _, _, _, rfl, rfl, slr, by rw [chars_S]; rfl, rfl, _, rfl, ?_⟩
          rw [sEq]
          refine ifF (by rw [hb, decide_eq_true (show (S [58] : Str) = ":" from rfl)]; rfl) ⟨_, rfl, _, _, _, rfl, rfl, slr, by rw [chars_S]; rfl, c, _, rfl, rfl, _, rfl, ?_⟩
          rw [in_costs, decide_eq_false hc]
          exact hR
      | true =>
        rw [hk] at hR
        obtain ⟨a', c, rfl, c1, c2⟩ := okP_at hk
        refine ifF (by show (!decide (((3 : Nat) : Int) = 3)) = false; rfl) ⟨_, rfl, _, _, _, rfl, rfl, slr, by rw [chars_S]; rfl, rfl, _, rfl, ?_⟩
        rw [sEq]
        refine ifF (by rw [decide_eq_true (show (S [58] : Str) = ":" from rfl)]; rfl) ⟨_, rfl, _, _, _, rfl, rfl, slr, by rw [chars_S]; rfl, c, _, rfl, rfl, _, rfl, ?_⟩
        rw [in_costs, decide_eq_true (show 49 ≤ c ∧ c ≤ 57 from ⟨c1, c2⟩)]
        exact hR
    · obtain ⟨r, hr', rfl, slr, e⟩ := at_ hx
      rw [e] at hR
      exact ⟨_, rfl, hR⟩
    · rw [xl] at hD
      have e1 : (((List.range ps.length).filter fun j => !okP (ps.getD j [])).map fun j => V.str (S (ps.getD j []))) = (((List.range ps.length).filter fun j => !okP (ps.getD j [])).map fun j => S (ps.getD j [])).map V.str := (List.map_map ..).symm
      rw [e1] at hD
      have e2 : ((((List.range ps.length).filter fun j => !okP (ps.getD j [])).map fun j => S (ps.getD j [])).map V.str).isEmpty = ps.all okP := by
        rw [List.map_map, filter_empty, filter_all, ← all_atL [] okP]
        congr 1
        funext j
        rw [Bool.not_not]
      generalize ((List.range ps.length).filter fun j => !okP (ps.getD j [])).map (fun j => S (ps.getD j [])) = ss at hD e2
      have fl := flat_str ss
      have dep := depth_flat fl
      refine ⟨by show 0 ≤ sizeLine; decide, fun p np => ?_⟩
      have s3 := same_up (o := .lst []) np
      refine ⟨.list (datL (ss.map V.str)), .list [], .lst (SqL.of (s3 _ _ hD)) (do_flat fl), .lst (SqL.of upd_same) .nil, plain_flat fl, rfl, by simp only [PyData.depth]; omega, _, rfl, ?_⟩
      rw [eqv_flat fl, e2]
      have s13 := (s1.trans s2).trans s3
      cases ho : ps.all okP with
      | false =>
        rw [ho] at qn
        exact ifT rfl (qn rfl _ s13)
      | true =>
        rw [ho] at qn q
        have ha3 := (s2.trans s3) _ _ ha1
        refine ifF rfl ⟨⟨_, rfl⟩, _, rfl, a, rfl, ⟨_, SqL.of ha3⟩, fun D2 nD2 => lc_one wk_list (fun j => .str (S [hd (ps.getD j [])])) nD2 (by rw [xl]; omega) (fun H' s' => SqL.of (s' _ _ ha3)) (fun j x H' R hj s' hx hR => ?_) (fun H4 s4 hD4 => ?_)⟩
        · obtain ⟨r, hr', rfl, slr, e⟩ := at_ hx
          rw [e] at hR
          obtain ⟨a', c, rfl, c1, c2⟩ := okP_at (List.all_eq_true.mp ho r (List.mem_of_getElem? hr'))
          exact ⟨_, rfl, _, _, _, rfl, rfl, slr, by rw [chars_S]; rfl, hR⟩
        · have e3 : ((List.range ps.length).map fun j => V.str (S [hd (ps.getD j [])])) = (ones (ps.map hd)).map V.str := by
            rw [range_map ps (fun p => V.str (S [hd p])) _ fun i x hx => by rw [List.getD_eq_getElem?_getD, hx]; rfl]
            rw [List.map_map, List.map_map]
            rfl
          rw [xl, e3] at hD4
          have lh : (ps.map hd).length = ps.length := List.length_map ..
          refine ⟨_, D2, _, rfl, rfl, .inl (SqL.of hD4), ?_, ?_⟩
          · rw [ones_len, lh, show ("" : Str).length = 0 from rfl, Nat.mul_zero]
            omega
          · rw [show ("" : Str) = S [] from rfl, Ver.join_ones]
            refine ⟨_, rfl, by rw [lh]; omega, fun H5 s5 => ⟨_, rfl, ?_⟩⟩
            have s15 := (s13.trans s4).trans s5
            by_cases co : CsOk (ps.map hd)
            · rw [decide_eq_true co] at q
              rw [decide_eq_true co]
              have lo := pieces_ok ho co
              have ha5 := (s4.trans s5) _ _ ha3
              have l4 := co.few
              rw [lh] at l4
              refine ifF rfl ⟨_, rfl, a, rfl, ⟨_, SqL.of ha5⟩, fun D6 nD6 => lc_pair wk_list (fun j => .str (S [hd (ps.getD j [])])) (fun j => .int (dg (ps.getD j []))) nD6 (by rw [xl]; omega) (fun H' s' => SqL.of (s' _ _ ha5)) (fun j x H' R hj s' hx hR => ?_) (fun H7 ts s7 hD7 tl ht => ?_)⟩
              · obtain ⟨r, hr', rfl, slr, e⟩ := at_ hx
                rw [e] at hR
                obtain ⟨a', c, rfl, c1, c2⟩ := okP_at (List.all_eq_true.mp ho r (List.mem_of_getElem? hr'))
                exact ⟨_, rfl, _, _, _, rfl, rfl, slr, by rw [chars_S]; rfl, _, rfl, _, _, _, rfl, rfl, slr, by rw [chars_S]; rfl, _, _, rfl, int_dig c c1 c2, by show 1 ≤ 640; decide, by show 2 ≤ sizeLine; decide, fun t nt => hR t nt⟩
              · rw [xl] at tl
                refine ⟨D6, ts, dOf (ps.map hp), rfl, SqL.of hD7, paired_at (by rw [tl, List.length_map, List.length_map]) fun i t kv h1 h2 => ?_, fun r nr => ?_⟩
                · have h3 := (ht i t h1).1
                  rw [List.getElem?_map, List.getElem?_map] at h2
                  cases hn : ps[i]? with
                  | none =>
                    rw [hn] at h2
                    cases h2
                  | some r =>
                    rw [hn] at h2
                    cases h2
                    have e : ps.getD i [] = r := by rw [List.getD_eq_getElem?_getD, hn]; rfl
                    rw [e] at h3
                    exact SqT.of h3
                · rw [merge0 (asc_nodup lo.asc)]
                  exact q _ rfl r _ ((s15.trans s7).trans (same_up nr)) upd_same
            · rw [decide_eq_false co] at qn
              rw [decide_eq_false co]
              exact ifT rfl (qn rfl _ s15)
/-- the law's text of an order -/
def spOT (K : PySem.W.Frag) : Sp := fun vs H Q _ => ∃ (a : Addr) (L : LC), vs = [.ref a] ∧ LOk L ∧ H a = some (.dK (dOf L)) ∧ ∀ H', Same H H' → Q (.str (S (lineO L))) H'
def teO : TE := tOp (fun x y H Q => ∃ i j, x = V.str i ∧ y = V.str j ∧ i.length + j.length ≤ sizeLine ∧ Q (V.str (i ++ j)) H) (tOp (fun x y H Q => ∃ i j, x = V.str i ∧ y = V.str j ∧ i.length + j.length ≤ sizeLine ∧ Q (V.str (i ++ j)) H) (tVar 1) (tC (.str ":")))
  (tCB (fun xs H Q => ∃ i : Int, xs = [.int i] ∧ i.natAbs.log2 < 1920 ∧ Q (.str (toString i)) H) (tCons (tDGet (tVar 0) (tVar 1)) tNil))
theorem ok_otext (T : Tx K mg) : FnG P w K mg base CX0 1 (He.ga K "_law_order_text") (spOT K) := by
  refine mk__law_order_text T.d (fun vs H Q E h => ?_) (fun cdv A outer s H vs Q E hg hr h => ?_)
  · obtain ⟨a, L, rfl, _⟩ := h
    rfl
  · obtain ⟨a, L, rfl, ok, ha, q⟩ := h
    have nd := sc__law_order_text.nd
    have hu := hu_of hr
    refine ⟨_, pss_one (ps_ret (pe_join pe_str (pe_lock (pe_lc (own := [("_law_letter", 1)]) (g := gName 1) (tt := tYes) rfl nd (pi_keys (pv 0)) (blkOk_by (N := n__law_order_text) (sc := defScope s__law_order_text) (by decide +kernel)) (fun _ _ _ _ _ => pg_name (i := 1) nd rfl (Or.inl rfl)) (fun _ _ _ _ _ => pts_nil)
        (te := teO) (fun _ _ _ _ _ => pe_op op_add_str (pe_op op_add_str (pv 1) pe_str) (pe_callTy call_str_int (by rfl) (T.z "str" (by decide +kernel)) (by decide +kernel) (pa_cons (pe_dget hu (pv 0) (pv 1) (fun _ _ => rfl)) pa_nil))))))), ?_⟩
    have ndL := asc_nodup ok.asc
    have l4 := ok.few
    have dl : (dOf L).length = L.length := List.length_map ..
    refine ⟨⟨_, rfl⟩, a, _, ha, trivial, fun od => ?_⟩
    refine ⟨_, rfl, a, od, rfl, .inl ⟨dOf L, upd_same, fun D nD => lc_one (te := teO) wk_keys (fun j => .str (S (pw (L.getD j (0, 1))))) nD (by rw [dl]; omega) (fun H' s' => s' _ _ upd_same) (fun j x H2 R hj s' hx hR => ?_) (fun H2 s2 hD => ?_)⟩⟩
    · obtain ⟨k, v, hk, rfl⟩ := hx
      rw [dOf, List.getElem?_map] at hk
      cases hn : L[j]? with
      | none =>
        rw [hn] at hk
        cases hk
      | some pc =>
        rw [hn] at hk
        cases hk
        have e : L.getD j (0, 1) = pc := by rw [List.getD_eq_getElem?_getD, hn]; rfl
        rw [e] at hR
        have hpc := List.mem_of_getElem? hn
        have rc := ok.cost pc hpc
        have hv := getDK (k := Sum.inr (S [pc.1])) (s' _ _ upd_same)
        rw [valV_mem ndL hpc] at hv
        have lz : ∀ n : Nat, n ≤ 100 → n ≤ sizeLine := fun n h => sl_of (by omega)
        have ep : (S [pc.1] ++ (":" : Str)) ++ (toString pc.2 : Str) = S (pw pc) := by
          rw [← pw_text rc, show (Str.empty ++ S [pc.1] : Str) = S [pc.1] from by rw [show (Str.empty : Str) = S [] from rfl, S_cat]; rfl]
        have l1 : (S [pc.1]).length + (":" : Str).length ≤ sizeLine := by
          rw [S_len]
          exact lz 2 (by decide)
        have et := congrArg Str.length ep
        rw [strLen_append, S_len (pw pc)] at et
        refine ⟨_, rfl, _, _, rfl, rfl, l1, _, rfl, _, rfl, a, _, rfl, hv, pc.2, rfl, ?_, _, _, rfl, rfl, ?_, ?_⟩
        · have : ∀ n : Nat, n ≤ 9 → n.log2 < 1920 := fun n hn => Nat.lt_of_le_of_lt (Nat.log2_le_self n) (by omega)
          exact this _ (by omega)
        · exact Nat.le_trans (Nat.le_of_eq et) (lz 3 (by decide))
        · rw [ep]
          exact hR
    · refine ⟨s2 _ _ upd_same, ?_⟩
      have sc : Same H (upd H2 a (.dK (dOf L))) := lock_same ha s2
      have dD : a ≠ D := ne_of_none upd_same nD
      have e : ((List.range (dOf L).length).map fun j => V.str (S (pw (L.getD j (0, 1))))) = ((L.map pw).map S).map V.str := by
        rw [dl, range_map L (fun p => V.str (S (pw p))) _ fun i x hx => by rw [List.getD_eq_getElem?_getD, hx]; rfl]
        rw [List.map_map, List.map_map]
        rfl
      rw [e] at hD
      have hD2 : upd H2 a (.dK (dOf L)) D = some (.lst (((L.map pw).map S).map V.str)) := by rw [upd_ne (Ne.symm dD)]; exact hD
      refine ⟨_, D, _, rfl, rfl, .inl (SqL.of hD2), ?_, ?_⟩
      · have e3 : ((L.map pw).map S).map (·.length) = L.map fun _ => 3 := by
          rw [List.map_map, List.map_map]
          refine List.map_congr_left fun p _ => ?_
          show (S (pw p)).length = 3
          rw [S_len]
          rfl
        rw [e3, List.length_map, List.length_map, show (" " : Str).length = 1 from rfl]
        have e4 : (L.map fun _ => 3).sum = 3 * L.length := by
          have : ∀ M : LC, (M.map fun _ => 3).sum = 3 * M.length := fun M => by
            induction M with
            | nil => rfl
            | cons p M ih =>
              rw [List.map_cons, List.sum_cons, ih, List.length_cons]
              omega
          exact this L
        omega
      · rw [show (" " : Str) = S [32] from rfl, join_S]
        exact q _ sc
end
end K84

namespace K84
open PySem PySem.Spec PyProof.Rows L2 Ver Num SX
theorem But.keeps {d D : Addr} {H H' : Hp} {o : HO} (b : But d H H') (h : H D = some o) (ne : D ≠ d) : H' D = some o := b.1 D o h ne
/-! ### lines with a change -/
theorem wt_sub {ys ps : List Cd} (h : ys.Sublist ps) : wt ys ≤ wt ps := by
  induction h with
  | slnil => exact Nat.le_refl _
  | cons a _ ih => rw [wt_cons]; omega
  | cons_cons a _ ih => rw [wt_cons, wt_cons]; omega
abbrev vP (ps : List Cd) : List V := (ps.map S).map V.str
theorem cut_pcs (ps : List Cd) (lo hi : Option Int) : ∃ ys : List Cd, cutV (vP ps) lo hi = vP ys ∧ ys.Sublist ps := by
  refine ⟨(ps.drop (HT.sIx (vP ps).length 0 lo)).take (HT.sIx (vP ps).length (vP ps).length hi - HT.sIx (vP ps).length 0 lo), ?_, (List.take_sublist _ _).trans (List.drop_sublist _ _)⟩
  unfold cutV vP
  rw [List.map_take, List.map_take, List.map_drop, List.map_drop]
theorem join_wt (X : List Cd) : ((X.map S).map (·.length)).sum + (X.map S).length * (" " : Str).length = wt X := by
  have e : (X.map S).map (·.length) = X.map (·.length) := by
    rw [List.map_map]
    exact List.map_congr_left fun p _ => S_len p
  rw [e, List.length_map, show (" " : Str).length = 1 from rfl, Nat.mul_one]
  rfl
theorem vP_app (a b : List Cd) : vP a ++ vP b = vP (a ++ b) := by
  unfold vP
  rw [List.map_append, List.map_append]
theorem vP_len (a : List Cd) : (vP a).length = a.length := by rw [List.length_map, List.length_map]
theorem len_wt (a : List Cd) : a.length ≤ wt a := by
  unfold wt
  omega
def some1 : List Str := ["", "/", "-", "0", "-0", "1", "01", "2/4", "1/2", "3/1", "-1/3", ⟨(List.replicate 100 ("9" : Str).cps).foldl (· ++ ·) #[]⟩, ⟨(List.replicate 101 ("9" : Str).cps).foldl (· ++ ·) #[]⟩, "0/5", "1/"]
def some2 : List Str := ["machine", "start", "ends", "values", "answers", "modulo", "fractions", "7", "a:1", "b:0"]
def some3 : List Str := ["/2", "a", "z:9", "1/-2"]
def ends5 : List Str := [" ", "\n", " 0", " / 0", "\nends"]
def smS (n : Nat) (s : Str) : Bool := (s.cps.toList.all fun c => decide (c < 128)) && decide (s.length ≤ n)
theorem some_ok : (some1 ++ (some2 ++ some3)).all (smS 101) = true := by decide +kernel
theorem ends_ok : ends5.all (smS 5) = true := by decide +kernel
theorem smS_ok {n : Nat} {s : Str} (h : smS n s = true) : ∃ v, s = S v ∧ As v ∧ v.length ≤ n := by
  unfold smS at h
  rw [Bool.and_eq_true, decide_eq_true_eq] at h
  refine ⟨s.cps.toList, (S_tl s).symm, fun c hc => of_decide_eq_true (List.all_eq_true.mp h.1 c hc), ?_⟩
  rw [← S_len s.cps.toList, S_tl s]
  exact h.2
section
variable {P : Program} {w : World} {K : PySem.W.Frag} {mg : Str → Option Value} {base : Heap}
def spBent : Sp := fun vs H Q _ => ∃ (d : Addr) (k : Int) (u : Cd), vs = [.ref d, .str (S u)] ∧ PenAt H d k ∧ k < 100000000 ∧ As u ∧ u.length ≤ 600 ∧
  ∀ (v : Cd) (H' : Hp), As v → v.length ≤ 3 * u.length + 108 → But d H H' → PenAt H' d (k + 5) → Q (.str (S v)) H'
theorem ok_bent (T : Tx K mg) : FnG P w K mg base CX0 3 (He.ga K "_law_bent_line") spBent := by
  refine mk__law_bent_line T.d (fun vs H Q E h => ?_) (fun cdv A outer s H vs Q E hg hr h => ?_)
  · obtain ⟨d, k, u, rfl, _⟩ := h
    rfl
  · obtain ⟨d, k, u, rfl, pen, k9, as, lu, q⟩ := h
    have nd := sc__law_bent_line.nd
    have hu := hr.units
    have gd := T.g "_law_draw" (by decide +kernel)
    have gp := T.g "_law_pick" (by decide +kernel)
    have zl := T.z "len" (by decide +kernel)
    have bl : bootBuiltins "len" = some (.builtin "len") := by decide +kernel
    refine ⟨_, pss_cons (ps_par (i := 2) (j := 3) rfl nd rfl rfl (by decide) rfl rfl (pa_cons (pe_bm PySem.F.plainAttrs_str PySem.F.slot_str_split PySem.F.type_str_split mt_split (pv 1) (pa_cons pe_str pa_nil))
        (pa_cons (pe_callG (ok_draw T) (hr.mono (by decide)) hg (by rfl) gd (kp__law_draw T.d) pass0 (pa_cons (pv 0) (pa_cons pe_int pa_nil))) pa_nil)) rfl)
      (pss_cons (ps_par (i := 4) (j := 5) rfl nd rfl rfl (by decide) rfl rfl (pa_cons (pe_callG (ok_draw T) (hr.mono (by decide)) hg (by rfl) gd (kp__law_draw T.d) pass0 (pa_cons (pv 0) (pa_cons (pe_callB call_len_seq (by rfl) zl bl (pa_cons (pv 2) pa_nil)) pa_nil)))
        (pa_cons (pe_callG (ok_draw T) (hr.mono (by decide)) hg (by rfl) gd (kp__law_draw T.d) pass0 (pa_cons (pv 0) (pa_cons (pe_callB call_len_seq (by rfl) zl bl (pa_cons (pv 2) pa_nil)) pa_nil))) pa_nil)) rfl)
      (pss_cons (ps_set (i := 6) nd rfl (Or.inl rfl) (pe_lst (pa_cons pe_str (pa_cons pe_str (pa_cons pe_str (pa_cons pe_str (pa_cons pe_str (pa_cons pe_str (pa_cons pe_str (pa_cons pe_str (pa_cons pe_str (pa_cons pe_str (pa_cons pe_str
        (pa_cons (pe_op op_strMul pe_str pe_int) (pa_cons (pe_op op_strMul pe_str pe_int) (pa_cons pe_str (pa_cons pe_str pa_nil)))))))))))))))))
      (pss_cons (ps_set (i := 6) nd rfl (Or.inl rfl) (pe_op op_cat (pv 6) (pe_lst (pa_cons pe_str (pa_cons pe_str (pa_cons pe_str (pa_cons pe_str (pa_cons pe_str (pa_cons pe_str (pa_cons pe_str (pa_cons pe_str (pa_cons pe_str (pa_cons pe_str pa_nil)))))))))))))
      (pss_cons (ps_set (i := 7) nd rfl (Or.inl rfl) (pe_callG (ok_pick T) (hr.mono (by decide)) hg (by rfl) gp (kp__law_pick T.d) pass0 (pa_cons (pv 0) (pa_cons (pe_op op_cat (pv 6) (pe_lst (pa_cons pe_str (pa_cons pe_str (pa_cons pe_str (pa_cons pe_str
        (pa_cons (pe_ix ix_list (pv 2) (pv 5) (fun _ _ => rfl)) (pa_cons (pe_ix ix_list (pv 2) (pv 5) (fun _ _ => rfl)) pa_nil)))))))) pa_nil))))
      (pss_cons (ps_if (pt_cmpR op_eq (pv 3) pe_int (nomark _)) (pss_one (ps_ret (pe_join pe_str (pe_op op_cat (pe_slice sl_list (pv 2) po_none (po_some (pv 4))) (pe_slice sl_list (pv 2) (po_some (pe_op op_add (pv 4) pe_int)) po_none))))) pss_nil)
      (pss_cons (ps_if (pt_cmpR op_eq (pv 3) pe_int (nomark _)) (pss_one (ps_ret (pe_join pe_str (pe_op op_cat (pe_slice sl_list (pv 2) po_none (po_some (pe_op op_add (pv 4) pe_int))) (pe_slice sl_list (pv 2) (po_some (pv 4)) po_none))))) pss_nil)
      (pss_cons (ps_if (pt_cmpR op_eq (pv 3) pe_int (nomark _)) (pss_one (ps_ret (pe_join pe_str (pe_op op_cat (pe_op op_cat (pe_slice sl_list (pv 2) po_none (po_some (pv 4))) (pe_revL (pe_slice sl_list (pv 2) (po_some (pv 4)) (po_some (pe_op op_add (pv 4) pe_int)))))
        (pe_slice sl_list (pv 2) (po_some (pe_op op_add (pv 4) pe_int)) po_none))))) pss_nil)
      (pss_cons (ps_if (pt_cmpR op_lt (pv 3) pe_int (nomark _)) (pss_one (ps_ret (pe_join pe_str (pe_op op_cat (pe_op op_cat (pe_slice sl_list (pv 2) po_none (po_some (pv 4))) (pe_lst (pa_cons (pv 7) pa_nil)))
        (pe_slice sl_list (pv 2) (po_some (pe_op op_add (pv 4) (pe_callTy call_int1 (by rfl) (T.z "int" (by decide +kernel)) (by decide +kernel) (pa_cons (pe_cmpR op_gt (pv 3) pe_int (nomark _)) pa_nil)))) po_none))))) pss_nil)
      (pss_cons (ps_if (pt_cmpR op_eq (pv 3) pe_int (nomark _)) (pss_one (ps_ret (pe_join pe_str (pe_op op_cat (pe_op op_cat (pe_slice sl_list (pv 2) po_none (po_some (pv 4))) (pe_lst (pa_cons (pe_slice C8.sl_txt (pe_ix ix_list (pv 2) (pv 4) (fun _ _ => rfl)) po_none (po_some (pe_un un_neg pe_int))) pa_nil)))
        (pe_slice sl_list (pv 2) (po_some (pe_op op_add (pv 4) pe_int)) po_none))))) pss_nil)
      (pss_one (ps_ret (pe_op op_add_str (pv 1) (pe_callG (ok_pick T) (hr.mono (by decide)) hg (by rfl) gp (kp__law_pick T.d) pass0 (pa_cons (pv 0) (pa_cons (pe_lst (pa_cons pe_str (pa_cons pe_str (pa_cons pe_str (pa_cons pe_str (pa_cons pe_str pa_nil)))))) pa_nil))))))))))))))), ?_⟩
    have hw := wt_pcs u
    have lp := len_wt (pcs u)
    have pne := pcs_ne u
    have pas : ∀ p ∈ pcs u, As p := fun p hp c hc => as c (mem_pcs hp hc)
    refine ⟨_, rfl, rfl, _, _, rfl, rfl, rfl, by rw [S_len]; exact sl_of (by omega), fun a na => ?_⟩
    rw [split_pcs]
    generalize pcs u = ps at *
    have ps0 : 0 < ps.length := List.length_pos_iff.mpr pne
    have s1 := same_up (o := .lst (vP ps)) na
    have ha1 : upd H a (.lst (vP ps)) a = some (.lst (vP ps)) := upd_same
    have b1 := But.same (d := d) s1
    have pen1 := pen.same s1
    generalize upd H a (.lst (vP ps)) = H1 at s1 ha1 b1 pen1
    have ad : a ≠ d := fun z => by
      obtain ⟨c, cells, b, l, h1, _⟩ := pen1.ex
      rw [z, h1] at ha1
      cases ha1
    refine ⟨_, rfl, d, k, _, rfl, pen1, by omega, by omega, by omega, fun way H2 bt2 pen2 w0 w1 => ⟨_, _, rfl, ?_⟩⟩
    have ha2 := bt2.keeps ha1 ad
    refine ⟨_, rfl, _, rfl, a, _, rfl, .inl (SqL.of ha2), d, _, _, rfl, pen2, by omega, by rw [vP_len]; omega, by rw [vP_len]; omega, fun i3 H3 bt3 pen3 i0 i1 => ?_⟩
    have ha3 := bt3.keeps ha2 ad
    refine ⟨_, rfl, _, rfl, a, _, rfl, .inl (SqL.of ha3), d, _, _, rfl, pen3, by omega, by rw [vP_len]; omega, by rw [vP_len]; omega, fun i4 H4 bt4 pen4 j0 j1 => ⟨_, _, rfl, ?_⟩⟩
    have ha4 := bt4.keeps ha3 ad
    have bt14 := (((b1.trans bt2).trans bt3).trans bt4)
    rw [vP_len] at i1 j1
    obtain ⟨i, rfl⟩ : ∃ i : Nat, i3 = (i : Int) := ⟨i3.toNat, by omega⟩
    obtain ⟨j, rfl⟩ : ∃ j : Nat, i4 = (j : Int) := ⟨i4.toNat, by omega⟩
    have il : i < ps.length := by omega
    have jl : j < ps.length := by omega
    refine ⟨"9", 100, rfl, rfl, by decide, by decide, by decide, by decide, by decide +kernel, "9", 101, rfl, rfl, by decide, by decide, by decide, by decide, by decide +kernel, by show 15 ≤ sizeLine; decide, fun l1 n1 => ?_⟩
    have s5 := same_up (o := .lst (some1.map V.str)) n1
    have hl1 : upd H4 l1 (.lst (some1.map V.str)) l1 = some (.lst (some1.map V.str)) := upd_same
    refine ⟨_, rfl, by show 10 ≤ sizeLine; decide, fun l2 n2 => ?_⟩
    have s6 := same_up (H := upd H4 l1 (.lst (some1.map V.str))) (o := .lst (some2.map V.str)) n2
    have hl2 : upd (upd H4 l1 (.lst (some1.map V.str))) l2 (.lst (some2.map V.str)) l2 = some (.lst (some2.map V.str)) := upd_same
    refine ⟨l1, l2, some1.map V.str, some2.map V.str, rfl, rfl, s6 _ _ hl1, hl2, by show 25 ≤ sizeLine; decide, fun l3 n3 => ?_⟩
    have s7 := same_up (H := upd (upd H4 l1 (.lst (some1.map V.str))) l2 (.lst (some2.map V.str))) (o := .lst (some1.map V.str ++ some2.map V.str)) n3
    have hl3 : upd (upd (upd H4 l1 (.lst (some1.map V.str))) l2 (.lst (some2.map V.str))) l3 (.lst (some1.map V.str ++ some2.map V.str)) l3 = some (.lst (some1.map V.str ++ some2.map V.str)) := upd_same
    have s47 := (s5.trans s6).trans s7
    have ha7 := s47 _ _ ha4
    have hj : (vP ps)[j]? = some (.str (S (ps.getD j []))) := by
      rw [List.getElem?_map, List.getElem?_map, List.getElem?_eq_getElem jl, List.getD_eq_getElem?_getD, List.getElem?_eq_getElem jl]
      rfl
    refine ⟨_, rfl, _, rfl, _, rfl, _, rfl, a, _, _, _, rfl, rfl, SqL.of ha7, atI_nat hj, _, rfl, _, rfl, a, _, _, _, rfl, rfl, SqL.of ha7, atI_nat hj, by show 6 ≤ sizeLine; decide, fun l4 n4 => ?_⟩
    have s8 := same_up (o := .lst (some3.map V.str ++ [.str (S (ps.getD j [])), .str (S (ps.getD j []))])) n4
    refine ⟨l3, l4, some1.map V.str ++ some2.map V.str, some3.map V.str ++ [.str (S (ps.getD j [])), .str (S (ps.getD j []))], rfl, rfl, s8 _ _ hl3, upd_same, by show 31 ≤ sizeLine; decide, fun l5 n5 => ?_⟩
    have s9 := same_up (o := .lst ((some1.map V.str ++ some2.map V.str) ++ (some3.map V.str ++ [.str (S (ps.getD j [])), .str (S (ps.getD j []))]))) n5
    have s49 := (s47.trans s8).trans s9
    refine ⟨d, l5, _, _, rfl, pen4.same s49, by omega, upd_same, by show 0 < 31; decide, by show 31 < 1000; decide, fun y H6 hy bt6 pen6 => ?_⟩
    have ha6 := bt6.keeps (s49 _ _ ha4) ad
    have btA := (bt14.trans (But.same s49)).trans bt6
    have pj : ps.getD j [] ∈ ps := by
      rw [List.getD_eq_getElem?_getD, List.getElem?_eq_getElem jl]
      exact List.getElem_mem jl
    have lps : ∀ p ∈ ps, p.length ≤ u.length := fun p hp => by
      have h1 : p.length ≤ (ps.map (·.length)).sum := le_sum (List.mem_map.mpr ⟨p, hp, rfl⟩)
      unfold wt at hw
      omega
    obtain ⟨m, rfl, am, lm⟩ : ∃ m, y = .str (S m) ∧ As m ∧ m.length ≤ u.length + 101 := by
      have c1 : ∀ s : Str, s ∈ some1 ++ (some2 ++ some3) → ∃ m, V.str s = .str (S m) ∧ As m ∧ m.length ≤ u.length + 101 := fun s hs => by
        obtain ⟨v, rfl, h1, h2⟩ := smS_ok (List.all_eq_true.mp some_ok s hs)
        exact ⟨v, rfl, h1, by omega⟩
      rcases List.mem_append.mp hy with hy | hy
      · rcases List.mem_append.mp hy with hy | hy
        · obtain ⟨s, hs, rfl⟩ := List.mem_map.mp hy
          exact c1 s (List.mem_append_left _ hs)
        · obtain ⟨s, hs, rfl⟩ := List.mem_map.mp hy
          exact c1 s (List.mem_append_right _ (List.mem_append_left _ hs))
      · rcases List.mem_append.mp hy with hy | hy
        · obtain ⟨s, hs, rfl⟩ := List.mem_map.mp hy
          exact c1 s (List.mem_append_right _ (List.mem_append_right _ hs))
        · have e : y = .str (S (ps.getD j [])) := by simpa using hy
          have := lps _ pj
          exact ⟨_, e, pas _ pj, by omega⟩
    -- what is handed back
    have fin : ∀ (X : List Cd) (H' : Hp), Same H6 H' → (∀ p ∈ X, As p) → wt X ≤ 3 * u.length + 108 → Q (.str (S (TL.joinL [32] X))) H' := fun X H' s' hX lX => by
      refine q _ H' (fun c hc => ?_) (Nat.le_trans (joinL_wt X) lX) (btA.trans (But.same s')) ((pen6.same s').mono (by omega))
      rcases mem_joinL hc with rfl | ⟨p, hp, h⟩
      · decide
      · exact hX p hp c h
    refine ⟨_, rfl, rfl, _, rfl, ?_⟩
    rw [iEq]
    by_cases e0 : way = 0
    · refine ifT (decide_eq_true e0) ?_
      refine ⟨⟨_, rfl⟩, _, rfl, _, rfl, _, rfl, a, _, rfl, SqL.of ha6, fun pa npa => ?_⟩
      obtain ⟨y1, ey1, sy1⟩ := cut_pcs ps none (some (i : Int))
      rw [ey1]
      have t1 := same_up (o := .lst (vP y1)) npa
      refine ⟨_, rfl, _, rfl, _, _, rfl, rfl, _, rfl, a, _, rfl, SqL.of (t1 _ _ ha6), fun pb npb => ?_⟩
      obtain ⟨y2, ey2, sy2⟩ := cut_pcs ps (some ((i : Int) + 1)) none
      rw [ey2]
      have t2 := same_up (o := .lst (vP y2)) npb
      have w1 := wt_sub sy1
      have w2 := wt_sub sy2
      have l1' := len_wt y1
      have l2' := len_wt y2
      refine ⟨_, _, _, _, rfl, rfl, t2 _ _ upd_same, upd_same, by rw [vP_len, vP_len]; exact sl_of (by omega), fun pc npc => ?_⟩
      rw [vP_app]
      have t3 := same_up (o := .lst (vP (y1 ++ y2))) npc
      refine ⟨_, pc, (y1 ++ y2).map S, rfl, rfl, .inl (SqL.of upd_same), ?_, ?_⟩
      · rw [join_wt, wt_app]
        omega
      · rw [show (" " : Str) = S [32] from rfl, join_S]
        refine fin _ _ ((t1.trans t2).trans t3) (fun p hp => ?_) (by rw [wt_app]; omega)
        rcases List.mem_append.mp hp with h | h
        · exact pas p (sy1.subset h)
        · exact pas p (sy2.subset h)
    refine ifF (decide_eq_false e0) ⟨_, rfl, rfl, _, rfl, ?_⟩
    rw [iEq]
    by_cases e1 : way = 1
    · refine ifT (decide_eq_true e1) ?_
      refine ⟨⟨_, rfl⟩, _, rfl, _, rfl, _, _, rfl, rfl, _, rfl, a, _, rfl, SqL.of ha6, fun pa npa => ?_⟩
      obtain ⟨y1, ey1, sy1⟩ := cut_pcs ps none (some ((i : Int) + 1))
      rw [ey1]
      have t1 := same_up (o := .lst (vP y1)) npa
      refine ⟨_, rfl, _, rfl, _, rfl, a, _, rfl, SqL.of (t1 _ _ ha6), fun pb npb => ?_⟩
      obtain ⟨y2, ey2, sy2⟩ := cut_pcs ps (some (i : Int)) none
      rw [ey2]
      have t2 := same_up (o := .lst (vP y2)) npb
      have w1 := wt_sub sy1
      have w2 := wt_sub sy2
      have l1' := len_wt y1
      have l2' := len_wt y2
      refine ⟨_, _, _, _, rfl, rfl, t2 _ _ upd_same, upd_same, by rw [vP_len, vP_len]; exact sl_of (by omega), fun pc npc => ?_⟩
      rw [vP_app]
      have t3 := same_up (o := .lst (vP (y1 ++ y2))) npc
      refine ⟨_, pc, (y1 ++ y2).map S, rfl, rfl, .inl (SqL.of upd_same), ?_, ?_⟩
      · rw [join_wt, wt_app]
        omega
      · rw [show (" " : Str) = S [32] from rfl, join_S]
        refine fin _ _ ((t1.trans t2).trans t3) (fun p hp => ?_) (by rw [wt_app]; omega)
        rcases List.mem_append.mp hp with h | h
        · exact pas p (sy1.subset h)
        · exact pas p (sy2.subset h)
    refine ifF (decide_eq_false e1) ⟨_, rfl, rfl, _, rfl, ?_⟩
    rw [iEq]
    -- three parts, joined
    have tri : ∀ (y1 y2 y3 : List Cd) (pa pb : Addr) (Ha Hb : Hp), Same H6 Ha → y1.Sublist ps → y3.Sublist ps → (∀ p ∈ y2, As p) → wt y1 + wt y2 + wt y3 ≤ 3 * u.length + 108 → ∀ pd : Addr, (∀ p ∈ (y1 ++ y2) ++ y3, As p) ∧ wt ((y1 ++ y2) ++ y3) ≤ 3 * u.length + 108 := fun y1 y2 y3 pa pb Ha Hb sa s1 s3 h2 hw _ => by
      refine ⟨fun p hp => ?_, by rw [wt_app, wt_app]; exact hw⟩
      rcases List.mem_append.mp hp with h | h
      · rcases List.mem_append.mp h with h | h
        · exact pas p (s1.subset h)
        · exact h2 p h
      · exact pas p (s3.subset h)
    by_cases e2 : way = 2
    · refine ifT (decide_eq_true e2) ?_
      refine ⟨⟨_, rfl⟩, _, rfl, _, rfl, _, rfl, a, _, rfl, SqL.of ha6, fun pa npa => ?_⟩
      obtain ⟨y1, ey1, sy1⟩ := cut_pcs ps none (some (i : Int))
      rw [ey1]
      have t1 := same_up (o := .lst (vP y1)) npa
      refine ⟨_, rfl, _, rfl, _, rfl, _, rfl, _, _, rfl, rfl, _, rfl, a, _, rfl, SqL.of (t1 _ _ ha6), fun pb npb => ?_⟩
      obtain ⟨y2, ey2, sy2⟩ := cut_pcs ps (some (i : Int)) (some ((i : Int) + 2))
      rw [ey2]
      have t2 := same_up (o := .lst (vP y2)) npb
      refine ⟨pb, _, rfl, SqL.of upd_same, fun pb' npb' => ?_⟩
      have er : (vP y2).reverse = vP y2.reverse := by
        unfold vP
        rw [List.map_reverse, List.map_reverse]
      rw [er]
      have t2' := same_up (o := .lst (vP y2.reverse)) npb'
      have t12 := (t1.trans t2).trans t2'
      have w1 := wt_sub sy1
      have w2 := wt_sub sy2
      have wr : wt y2.reverse = wt y2 := by
        unfold wt
        rw [List.map_reverse, List.sum_reverse, List.length_reverse]
      have l1' := len_wt y1
      have l2' := len_wt y2.reverse
      refine ⟨_, _, _, _, rfl, rfl, (t2.trans t2') _ _ upd_same, upd_same, by rw [vP_len, vP_len]; exact sl_of (by omega), fun pc npc => ?_⟩
      rw [vP_app]
      have t3 := same_up (o := .lst (vP (y1 ++ y2.reverse))) npc
      refine ⟨_, rfl, _, rfl, _, _, rfl, rfl, _, rfl, a, _, rfl, SqL.of ((t12.trans t3) _ _ ha6), fun pd npd => ?_⟩
      obtain ⟨y3, ey3, sy3⟩ := cut_pcs ps (some ((i : Int) + 2)) none
      rw [ey3]
      have t4 := same_up (o := .lst (vP y3)) npd
      have w3 := wt_sub sy3
      have l3' := len_wt y3
      refine ⟨_, _, _, _, rfl, rfl, t4 _ _ upd_same, upd_same, by rw [vP_len, vP_len, List.length_append]; exact sl_of (by omega), fun pe npe => ?_⟩
      rw [vP_app]
      have t5 := same_up (o := .lst (vP ((y1 ++ y2.reverse) ++ y3))) npe
      obtain ⟨h1, h2⟩ := tri y1 y2.reverse y3 pa pb H6 H6 (Same.refl _) sy1 sy3 (fun p hp => pas p (sy2.subset (List.mem_reverse.mp hp))) (by omega) pe
      refine ⟨_, pe, ((y1 ++ y2.reverse) ++ y3).map S, rfl, rfl, .inl (SqL.of upd_same), ?_, ?_⟩
      · rw [join_wt]
        omega
      · rw [show (" " : Str) = S [32] from rfl, join_S]
        exact fin _ _ (((t12.trans t3).trans t4).trans t5) h1 h2
    refine ifF (decide_eq_false e2) ⟨_, rfl, _, _, rfl, rfl, _, rfl, ?_⟩
    by_cases e3 : way < 6
    · refine ifT (decide_eq_true e3) ?_
      refine ⟨⟨_, rfl⟩, _, rfl, _, rfl, _, rfl, a, _, rfl, SqL.of ha6, fun pa npa => ?_⟩
      obtain ⟨y1, ey1, sy1⟩ := cut_pcs ps none (some (i : Int))
      rw [ey1]
      have t1 := same_up (o := .lst (vP y1)) npa
      refine ⟨_, rfl, by show 1 ≤ sizeLine; decide, fun pb npb => ?_⟩
      have t2 := same_up (o := .lst (vP [m])) npb
      have w1 := wt_sub sy1
      have l1' := len_wt y1
      have wm : wt [m] = m.length + 1 := by
        rw [wt_cons]
        rfl
      refine ⟨_, _, _, _, rfl, rfl, t2 _ _ upd_same, upd_same, by rw [vP_len]; exact sl_of (by show _ + 1 ≤ _; omega), fun pc npc => ?_⟩
      have t3 := same_up (o := .lst (vP (y1 ++ [m]))) npc
      rw [← vP_app] at t3
      have t12 := t1.trans t2
      refine ⟨_, rfl, _, rfl, _, rfl, _, _, rfl, rfl, .inr ⟨_, rfl, _, _, rfl, rfl, _, rfl, a, _, rfl, SqL.of ((t12.trans t3) _ _ ha6), fun pd npd => ?_⟩⟩
      generalize ((i : Int) + if decide (way > 3) = true then 1 else 0) = n3 at *
      obtain ⟨y3, ey3, sy3⟩ := cut_pcs ps (some n3) none
      rw [ey3]
      have t4 := same_up (o := .lst (vP y3)) npd
      have w3 := wt_sub sy3
      have l3' := len_wt y3
      refine ⟨_, _, _, _, rfl, rfl, t4 _ _ upd_same, upd_same, ?_, fun pe npe => ?_⟩
      · show (vP y1 ++ vP [m]).length + (vP y3).length ≤ sizeLine
        rw [vP_app, vP_len, vP_len, List.length_append]
        exact sl_of (by show _ + 1 + _ ≤ _; omega)
      have t5 := same_up (o := .lst (vP ((y1 ++ [m]) ++ y3))) npe
      rw [← vP_app, ← vP_app] at t5
      obtain ⟨h1, h2⟩ := tri y1 [m] y3 pa pb H6 H6 (Same.refl _) sy1 sy3 (fun p hp => by rw [List.mem_singleton.mp hp]; exact am) (by omega) pe
      refine ⟨_, pe, ((y1 ++ [m]) ++ y3).map S, rfl, rfl, .inl (SqL.of ?_), ?_, ?_⟩
      · show upd _ pe (.lst ((vP y1 ++ vP [m]) ++ vP y3)) pe = some (.lst (vP ((y1 ++ [m]) ++ y3)))
        rw [upd_same, vP_app, vP_app]
      · rw [join_wt]
        omega
      · rw [show (" " : Str) = S [32] from rfl, join_S]
        exact fin _ _ (((t12.trans t3).trans t4).trans t5) h1 h2
    refine ifF (decide_eq_false e3) ⟨_, rfl, rfl, _, rfl, ?_⟩
    rw [iEq]
    by_cases e4 : way = 6
    · refine ifT (decide_eq_true e4) ?_
      have hi : (vP ps)[i]? = some (.str (S (ps.getD i []))) := by
        rw [List.getElem?_map, List.getElem?_map, List.getElem?_eq_getElem il, List.getD_eq_getElem?_getD, List.getElem?_eq_getElem il]
        rfl
      have pi : ps.getD i [] ∈ ps := by
        rw [List.getD_eq_getElem?_getD, List.getElem?_eq_getElem il]
        exact List.getElem_mem il
      generalize ps.getD i [] = r at hi pi
      have lr := lps r pi
      refine ⟨⟨_, rfl⟩, _, rfl, _, rfl, _, rfl, a, _, rfl, SqL.of ha6, fun pa npa => ?_⟩
      obtain ⟨y1, ey1, sy1⟩ := cut_pcs ps none (some (i : Int))
      rw [ey1]
      have t1 := same_up (o := .lst (vP y1)) npa
      refine ⟨_, rfl, _, rfl, a, _, _, _, rfl, rfl, SqL.of (t1 _ _ ha6), atI_nat hi, _, rfl, _, rfl, _, rfl, by rw [S_len]; exact sl_of (by omega), by show 1 ≤ sizeLine; decide, fun pb npb => ?_⟩
      obtain ⟨m2, em2, lm2, am2⟩ : ∃ m2 : Cd, Txt.slice (S r) none (some (-1)) = S m2 ∧ m2.length ≤ r.length ∧ As m2 := by
        by_cases hr0 : r = []
        · subst hr0
          exact ⟨[], by decide +kernel, Nat.le_refl _, fun c hc => nomatch hc⟩
        · exact ⟨r.take (r.length - 1), slice_butlast hr0, by rw [List.length_take]; omega, fun c hc => pas r pi c (List.mem_of_mem_take hc)⟩
      have ex : ∀ z : Int, z = -1 → Txt.slice (S r) none (some z) = S m2 := fun z hz => by rw [hz]; exact em2
      rw [ex _ rfl]
      have t2 := same_up (o := .lst (vP [m2])) npb
      have w1 := wt_sub sy1
      have l1' := len_wt y1
      have wm : wt [m2] = m2.length + 1 := by
        rw [wt_cons]
        rfl
      refine ⟨_, _, _, _, rfl, rfl, t2 _ _ upd_same, upd_same, by rw [vP_len]; exact sl_of (by show _ + 1 ≤ _; omega), fun pc npc => ?_⟩
      have t3 := same_up (o := .lst (vP (y1 ++ [m2]))) npc
      rw [← vP_app] at t3
      have t12 := t1.trans t2
      refine ⟨_, rfl, _, rfl, _, _, rfl, rfl, _, rfl, a, _, rfl, SqL.of ((t12.trans t3) _ _ ha6), fun pd npd => ?_⟩
      obtain ⟨y3, ey3, sy3⟩ := cut_pcs ps (some ((i : Int) + 1)) none
      rw [ey3]
      have t4 := same_up (o := .lst (vP y3)) npd
      have w3 := wt_sub sy3
      have l3' := len_wt y3
      refine ⟨_, _, _, _, rfl, rfl, t4 _ _ upd_same, upd_same, ?_, fun pe npe => ?_⟩
      · show (vP y1 ++ vP [m2]).length + (vP y3).length ≤ sizeLine
        rw [vP_app, vP_len, vP_len, List.length_append]
        exact sl_of (by show _ + 1 + _ ≤ _; omega)
      have t5 := same_up (o := .lst (vP ((y1 ++ [m2]) ++ y3))) npe
      rw [← vP_app, ← vP_app] at t5
      obtain ⟨h1, h2⟩ := tri y1 [m2] y3 pa pb H6 H6 (Same.refl _) sy1 sy3 (fun p hp => by rw [List.mem_singleton.mp hp]; exact am2) (by omega) pe
      refine ⟨_, pe, ((y1 ++ [m2]) ++ y3).map S, rfl, rfl, .inl (SqL.of ?_), ?_, ?_⟩
      · show upd _ pe (.lst ((vP y1 ++ vP [m2]) ++ vP y3)) pe = some (.lst (vP ((y1 ++ [m2]) ++ y3)))
        rw [upd_same, vP_app, vP_app]
      · rw [join_wt]
        omega
      · rw [show (" " : Str) = S [32] from rfl, join_S]
        exact fin _ _ (((t12.trans t3).trans t4).trans t5) h1 h2
    refine ifF (decide_eq_false e4) ?_
    refine ⟨_, rfl, _, rfl, by show 5 ≤ sizeLine; decide, fun l6 n6 => ?_⟩
    have s6' := same_up (o := .lst (ends5.map V.str)) n6
    refine ⟨d, l6, _, _, rfl, pen6.same s6', by omega, upd_same, by show 0 < 5; decide, by show 5 < 1000; decide, fun y H7 hy bt7 pen7 => ?_⟩
    obtain ⟨s, hs, rfl⟩ : ∃ s, s ∈ ends5 ∧ V.str s = y := List.mem_map.mp hy
    obtain ⟨v, rfl, av, lv⟩ := smS_ok (List.all_eq_true.mp ends_ok s hs)
    refine ⟨_, _, rfl, rfl, by rw [S_len, S_len]; exact sl_of (by omega), ?_⟩
    rw [S_cat]
    refine q _ H7 (fun c hc => ?_) (by rw [List.length_append]; omega) ((btA.trans (But.same s6')).trans bt7) (pen7.mono (by omega))
    rcases List.mem_append.mp hc with h | h
    · exact as c h
    · exact av c h
end
end K84

/-! Defs called by names alone. -/
namespace Ver
open PySem PySem.Spec PyProof.Rows L2
section
variable {X : Cx} {CX : CXT} {k : Nat} {f : Addr} {sp : Sp} {E : XK} {x : Str} {p pos : Pos} {kws : List Keyword} {ks : List Str} {gV : List V → List V → List V} {tk : TA}
/-- f(k = e, ..) -/
theorem pe_callK (F : FnK X.prog X.w X.K X.mg X.base CX k f 0 ks gV sp) (hr : Room k X.A) (hgd : X.A.guards = some []) (hg : Gl X x) (hm : X.mg x = some (.ref f)) (hk : PySem.W.keepIn X.K (.ref f) = true) (hx : Passes CX X E) (ha : PK X kws tk)
    (hdb : (x == ("__debug__" : Str)) = false := by decide)
    (hall : (backToKw pos (keywordEach kws X.env)).all (·.1.isSome) = true := by rfl) (hks : (backToKw pos (keywordEach kws X.env)).filterMap (·.1) = ks := by rfl)
    (hpl : ((backTo pos (starEach [] X.env)).any (·.1) || (backToKw pos (keywordEach kws X.env)).any (·.1.isNone)) = false := by rfl) :
    PE X (.Call (.Name x p) [] kws pos) (fun σ H Q => tk σ H fun zs H1 => zs.length = ks.length ∧ sp (gV [] zs) H1 Q E) := by
  refine ⟨fun pins s σ H Q I h => wpAny_Call_Name_kw (ld_glob I hg hm ?_ hdb)⟩
  refine PySem.W.callWith_KW0 (first := []) (h₀ := X.base) I.ok.mod.kin hk hall ?_ hpl
  refine thn (ha.run pos pins s σ H _ I h) fun ws s2 ⟨zs, H2, I2, rz, lz, q2⟩ => ⟨I2.kIn, ?_⟩
  rw [hks]
  exact wpAny_call (codeAny_mono (F X.A X.stack s2 H2 [] ws [] zs Q E hgd hr I2.env0 .nil rfl rz (rz.length.symm.trans lz) q2) fun rs s' hq => by
    match rs, hq with
    | .error e', hq => exact hx pins σ H2 s2 e' s' I2 hq
    | .ok (.ret u), hq => exact I2.after hq
    | .ok .next, hq => exact hq.elim
    | .ok .brk, hq => exact hq.elim
    | .ok .cont, hq => exact hq.elim)
end
end Ver

namespace K84
open PySem PySem.Spec PyProof.Rows L2 Ver Num SX LamX NdefX
/-! ### the law's lambda -/
def noE : Expr := .Name "" ⟨0, 0, 0, 0⟩
def stB : Stmt → List Stmt
  | .For (body := b) .. => b
  | _ => []
def valOf : Stmt → Expr
  | .Assign (value := v) .. => v
  | .Expr (value := v) .. => v
  | _ => noE
def el0 : Expr → Expr
  | .Call (args := e :: _) .. => e
  | e => e
def lamB : Expr → Expr
  | .Lambda (body := b) .. => b
  | _ => noE
def lamSc : Expr → Scope
  | .Lambda (scope := s) .. => s
  | _ => defScope (.Pass ⟨0, 0, 0, 0⟩)
def lamA : Expr → Arguments
  | .Lambda (args := a) .. => a
  | _ => defArgs (.Pass ⟨0, 0, 0, 0⟩)
abbrev inSt (st : Stmt) (i : Nat) : Stmt := (stB st).getD i (.Pass ⟨0, 0, 0, 0⟩)
def lamE : Expr := el0 (valOf (inSt (inSt ((defBody s_law).getD 1 (.Pass ⟨0, 0, 0, 0⟩)) 4) 4))
def frN : List Str := ["_law_thing"]
def jsN : List Nat := [9]
theorem lam_sc : NScope frN [] frN (lamSc lamE) := nscope_by (by decide +kernel)
theorem lam_in : LamS (defScope s_law) (lamSc lamE) := lamS_by (by decide +kernel)
/-- the lambda, its cells from these -/
def fam (q : Str) (cells : List (Str × Addr)) (c' : Addr) : LF := ⟨q, lamA lamE, lamB lamE, lamSc lamE, cloFrom cells (lamSc lamE).names [], c'⟩
theorem lam_bind (q0 : Str) (cells : List (Str × Addr)) (c' : Addr) (pm ct : Value) : bindArgs (PySem.W.kla_fn "<lambda>" (fam q0 cells c').qual (fam q0 cells c').params (fam q0 cells c').body (fam q0 cells c').scope (fam q0 cells c').cl pm (.ref (fam q0 cells c').c) ct) ⟨[], []⟩ = pure [] := rfl
def spLam (K : PySem.W.Frag) : LSp := fun ws H Q E => ∃ (x : V) (d : PyData), ws = [some x] ∧ Do K H x d ∧ smallD d ∧
  (readD d = none → ∀ (dd : Addr) (H' : Hp), Same H H' → H' dd = some (.xd [(("line" : Str), .int 0)]) → E (.ref (He.ga K "InvalidText")) (some dd) H') ∧
  (∀ L, readD d = some L → ∀ (o : Addr) (H' : Hp), Same H H' → OrdAt K H' o L → H o = none → Q (.ref o) H')
section
variable {P : Program} {w : World} {K : PySem.W.Frag} {mg : Str → Option Value} {base : Heap}
theorem lok (q0 : Str) (T : Tx K mg) (f c' : Addr) (cells : List (Str × Addr)) : Ver.LOk P w K mg base (L2.CX P w) 8 f (fam q0 cells c') frN (spLam K) := by
  refine lok_of lam_sc (fun pm ct => lam_bind q0 cells c' pm ct) fun A outer s H ws Q E hg hr hl h => ?_
  obtain ⟨x, d, rfl, hd, sm, qe, q⟩ := h
  refine ⟨_, pe_callK (ok_readK T) hr hg (by rfl) (T.g "read_order" (by decide +kernel)) (kp_read_order T.d) (passes_call (takes_of rfl rfl rfl rfl) fun _ _ _ _ z => z) (pk_cons (pe_var (i := 0) rfl (.inr (.inr rfl))) pk_nil), ?_⟩
  exact ⟨_, rfl, rfl, x, d, rfl, hd, sm, qe, q⟩
/-! ### _law_line_met -/
def tCau (K : PySem.W.Frag) (a dd : Addr) : TS := tRet (tIf (tB (tCB (rIsED K (He.ga K "InvalidText") a dd) (tCons (tVar 1) (tCons (tC (.ty "ValueError")) tNil))))
  (tTup (tCons (tC (.str "line")) (tCons (tXf a (.ref (He.ga K "InvalidText")) (some dd) (He.ga K "InvalidText") "line" (tVar 1)) tNil))) (tTup (tCons (tC (.str "odd")) (tCons (tC .non) tNil))))
def spMet (K : PySem.W.Frag) : LSp := fun ws H Q _ => ∃ (x : V) (d : PyData), ws = [some x] ∧ Do K H x d ∧ smallD d ∧
  (readD d = none → ∀ (p : Addr) (H' : Hp), Same H H' → H' p = some (.tup [.str "line", .int 0]) → Q (.ref p) H') ∧
  (∀ L, readD d = some L → ∀ (o p : Addr) (H' : Hp), Same H H' → OrdAt K H' o L → H' p = some (.tup [.str "told", .ref o]) → Q (.ref p) H')
theorem ok_met (q0 : Str) (T : Tx K mg) (cells : List (Str × Addr)) (f c' : Addr) : TOk P w K mg base CX0 9 (He.ga K "_law_line_met") f (fam q0 cells c') frN (spMet K) := by
  obtain ⟨fd, FD⟩ := T.d.def_ 20 (d := d__law_line_met) rfl
  refine tok_of (y := "_law_call") FD sc__law_line_met (FD.bindsA (ps := ["_law_call"]) fun _ _ _ _ _ _ us hl => match us, hl with | [_], _ => rfl) fun cdv A outer s H ws Q E hg hr hf hc C h => ?_
  obtain ⟨x, d, rfl, hd, sm, qb, q⟩ := h
  have nd := sc__law_line_met.nd
  have hu := hr.units
  refine ⟨_, PSs.nox (pss_one (ps_try_as (i := 1) (ts := fun a cls d D σ H => cls = .ref (He.ga K "InvalidText") ∧ ∃ dd, d = some dd ∧ tCau K a dd D σ H) rfl rfl nd rfl rfl
      ⟨rfl, by decide +kernel, .inl (T.g "InvalidText" (by decide +kernel))⟩ L2.takes0
      (fun W pn xe tk _ => pss_one (ps_ret (pe_tup (pa_cons pe_str (pa_cons (pe_lcall (E := WE W) (i := 0) (lok q0 T f c' cells) C rfl hr hg (passAt tk) rfl (.inl rfl)) pa_nil)))))
      (fun a oe cls d pn hz hf => ⟨fun pins s σ H D I h => by
        obtain ⟨rfl, dd, rfl, h⟩ := h
        exact (pss_one (ps_ret (pe_ifExp (pt_val (pe_callB (call_isED T.eX.ec hz hf) (by rfl) (T.z "isinstance" (by decide +kernel)) (by decide +kernel)
            (pa_cons (pv 1) (pa_cons (pe_bltn (v := .ty "ValueError") (by rfl) (T.z "ValueError" (by decide +kernel)) (by decide +kernel) rfl) pa_nil))))
          (pe_tup (pa_cons pe_str (pa_cons (pe_xf T.eX.xf T.eX.nf hz hf (pv 1)) pa_nil))) (pe_tup (pa_cons pe_str (pa_cons pe_non pa_nil)))))).run pins s σ H D I h⟩))), ?_⟩
  refine ⟨rfl, hf, hc, x, d, rfl, hd, sm, fun er dd H' sm' hdd => ?_, fun L er o H' sm' at_ no => ⟨by show 2 ≤ sizeLine; decide, fun p np => ?_⟩⟩
  · refine ⟨true, T.eX.te, fun _ a ha => ⟨rfl, dd, rfl, ?_⟩, fun z => nomatch z⟩
    refine ⟨_, rfl, _, _, true, _, rfl, fun u r => r, T.eX.isV, hdd, _, rfl, ifT rfl ?_⟩
    refine ⟨_, rfl, rfl, rfl, dd, _, .int 0, rfl, hdd, rfl, by show 2 ≤ sizeLine; decide, fun p np => ?_⟩
    exact qb er p _ (sm'.trans (same_up np)) upd_same
  · exact q L er o p _ (sm'.trans (same_up np)) (at_.same (same_up np)) upd_same
end
end K84

/-! Data, kept where tables alone grow. -/
namespace Ver
open PySem PySem.Spec PyProof.Rows L2 LamX
section
variable {K : PySem.W.Frag} {H H' : Hp}
theorem rd_ext (s : ExtN H H') {a : Addr} {o : HO} (n : ∀ ps, o ≠ .tbl ps) (h : Rd H a o) : Rd H' a o := by
  rcases h with h | ⟨ob, h⟩
  · exact .inl (s _ _ h n)
  · exact .inr ⟨ob, s _ _ h (fun ps z => by cases z)⟩
theorem sqt_ext (s : ExtN H H') {a : Addr} {xs : List V} (h : SqT K H a xs) : SqT K H' a xs := h.imp (rd_ext s fun ps z => by cases z) id
theorem sql_ext (s : ExtN H H') {a : Addr} {xs : List V} (h : SqL K H a xs) : SqL K H' a xs := h.imp (rd_ext s fun ps z => by cases z) id
mutual
theorem Do.ext (s : ExtN H H') : ∀ (d : PyData) (x : V), Do K H x d → Do K H' x d
  | .none, _, h => by cases h; exact .non
  | .bool b, _, h => by cases h; exact .bl b
  | .int i, _, h => by cases h; exact .int i
  | .str y, _, h => by cases h; exact .str y
  | .list ds, _, h => by
    cases h with
    | lst hs ha => exact .lst (sql_ext s hs) (DoAll.ext s ds _ ha)
  | .tuple ds, _, h => by
    cases h with
    | tup hs ha => exact .tup (sqt_ext s hs) (DoAll.ext s ds _ ha)
  | .dict kds, _, h => by
    cases h with
    | dic e hk => exact .dic (s _ _ e fun ps z => by cases z) (DoKv.ext s kds _ hk)
theorem DoAll.ext (s : ExtN H H') : ∀ (ds : List PyData) (xs : List V), DoAll K H xs ds → DoAll K H' xs ds
  | [], _, h => by cases h; exact .nil
  | d :: ds, _, h => by
    cases h with
    | cons h1 h2 => exact .cons (Do.ext s d _ h1) (DoAll.ext s ds _ h2)
theorem DoKv.ext (s : ExtN H H') : ∀ (kds : List (PyData × PyData)) (kvs : List (Key × V)), DoKv K H kvs kds → DoKv K H' kvs kds
  | [], _, h => by cases h; exact .nil
  | (dk, d) :: kds, _, h => by
    cases h with
    | cons h1 h2 => exact .cons (Do.ext s d _ h1) (DoKv.ext s kds _ h2)
end
end
section
variable {P : Program} {w : World} {K : PySem.W.Frag} {mg : Str → Option Value} {base : Heap} {k n : Nat} {f : Addr} {ks : List Str} {gV : List V → List V → List V} {sp : Sp}
theorem FnK.down {CX : CXT} (F : FnK P w K mg base (L2.CX P w) k f n ks gV sp) : FnK P w K mg base CX k f n ks gV (fun vs H Q _ => sp vs H Q fun _ _ _ => False) :=
  fun A outer s H us ws vs zs Q E g hr e0 r l1 rz l2 q => codeAny_mono (F A outer s H us ws vs zs Q _ g hr e0 r l1 rz l2 q) fun rs s' z => by
    match rs, z with
    | .error _, ⟨_, _, _, _, _, _, _, _, _, _, _, _, z⟩ => exact z.elim
    | .ok (.ret _), z => exact z
    | .ok .next, z => exact z.elim
    | .ok .brk, z => exact z.elim
    | .ok .cont, z => exact z.elim
end
end Ver

namespace K84
open PySem PySem.Spec PyProof.Rows L2 Ver Num SX LamX NdefX
section
variable {K : PySem.W.Frag} {H H' : Hp}
theorem PenAt.ext {d : Addr} {k : Int} (s : ExtN H H') (p : PenAt H d k) : PenAt H' d k := by
  obtain ⟨c, cells, b, l, h1, h2, r⟩ := p.ex
  exact ⟨c, cells, b, l, s _ _ h1 (fun ps z => by cases z), s _ _ h2 (fun ps z => by cases z), r⟩
theorem OrdAt.ext {o : Addr} {L : LC} (s : ExtN H H') (h : OrdAt K H o L) : OrdAt K H' o L := ⟨h.ok, by
  obtain ⟨dx, dc, fw, h1, h2, h3⟩ := h.ex
  exact ⟨dx, dc, fw, s _ _ h1 (fun ps z => by cases z), s _ _ h2 (fun ps z => by cases z), s _ _ h3 (fun ps z => by cases z)⟩⟩
/-- only lists and dicts are written -/
def Wr (H H' : Hp) : Prop := ∀ b o, H b = some o → (∀ k, o ≠ .dK k) → (∀ l, o ≠ .lst l) → H' b = some o
theorem Wr.same (s : Same H H') : Wr H H' := fun b o e _ _ => s b o e
theorem Wr.trans {H1 : Hp} (a : Wr H H1) (b : Wr H1 H') : Wr H H' := fun c o e n1 n2 => b c o (a c o e n1 n2) n1 n2
theorem Wr.but {d : Addr} {k : Int} (p : PenAt H d k) (b : But d H H') : Wr H H' := fun c o e n1 n2 => b.1 c o e fun z => by
  obtain ⟨cc, cells, b1, l, h1, _⟩ := p.ex
  rw [z, h1] at e
  exact n1 _ (Option.some.inj e).symm
theorem codeO_lst (c : Addr) (q : Str) (l : List V) : CodeO c q ≠ .lst l := by
  intro z
  unfold CodeO at z
  cases z
theorem codeO_dK (c : Addr) (q : Str) (l : List (Key × V)) : CodeO c q ≠ .dK l := by
  intro z
  unfold CodeO at z
  cases z
theorem Tabs.wr {T : List (Addr × Str)} (s : Wr H H') (t : Tabs T H) : Tabs T H' := fun p hp => by
  obtain ⟨ps, h1, h2, h3⟩ := t p hp
  refine ⟨ps, s _ _ h1 (fun k z => by cases z) (fun k z => by cases z), h2, fun pos cv hc => ?_⟩
  obtain ⟨c, e1, e2⟩ := h3 pos cv hc
  exact ⟨c, e1, s _ _ e2 (codeO_dK _ _) (codeO_lst _ _)⟩
end
theorem paired_snoc {α β : Type} {R : α → β → Prop} : ∀ {xs : List α} {ys : List β} {x : α} {y : β}, Paired R xs ys → R x y → Paired R (xs ++ [x]) (ys ++ [y])
  | [], _, _, _, .nil, h => .cons h .nil
  | _ :: _, _, _, _, .cons a r, h => .cons a (paired_snoc r h)
theorem dOf_snoc (L : LC) (p : Nat × Int) : dOf (L ++ [p]) = dOf L ++ [(Sum.inr (S [p.1]), V.int p.2)] := by
  rw [dOf, List.map_append]
  rfl
theorem paired_mono {α β : Type} {R R' : α → β → Prop} (f : ∀ a b, R a b → R' a b) : ∀ {xs : List α} {ys : List β}, Paired R xs ys → Paired R' xs ys
  | _, _, .nil => .nil
  | _, _, .cons h t => .cons (f _ _ h) (paired_mono f t)
/-! ### what is shown -/
def ShowOk (d : PyData) : Prop := d.showable = true ∧ d.shown.length ≤ sizeLine ∧ d.depth ≤ 60
theorem show_str {u : Cd} (as : As u) (l : u.length ≤ 2000) : ShowOk (.str (S u)) := by
  refine ⟨rfl, ?_, by simp [PyData.depth]⟩
  have a := PySem.StrLaws.reprText_len (S u) fun c hc => by
    rw [chars_S] at hc
    have := as c hc
    omega
  rw [S_len u] at a
  show (reprText (S u)).length ≤ sizeLine
  rw [sizeLine_eq]
  omega
theorem show_line0 : ShowOk (.tuple [.str "line", .int 0]) := by
  refine ⟨by decide +kernel, by decide +kernel, by decide +kernel⟩
abbrev kdOf (L : LC) : List (PyData × PyData) := L.map fun p => (PyData.str (S [p.1]), PyData.int p.2)
theorem do_kv {K : PySem.W.Frag} {H : Hp} : ∀ L : LC, DoKv K H (dOf L) (kdOf L)
  | [] => .nil
  | p :: L => .cons (k := .inr (S [p.1])) (.int p.2) (do_kv L)
theorem do_dOf {K : PySem.W.Frag} {H : Hp} {a : Addr} {L : LC} (h : H a = some (.dK (dOf L))) : Do K H (.ref a) (.dict (kdOf L)) := .dic h (do_kv L)
theorem show_kv : ∀ L : LC, (∀ p ∈ L, (97 ≤ p.1 ∧ p.1 ≤ 122) ∧ 1 ≤ p.2 ∧ p.2 ≤ 9) → PyData.showableKv (kdOf L) = true ∧ ((PyData.shownKv (kdOf L)).map (·.length)).sum ≤ 20 * L.length ∧ (PyData.shownKv (kdOf L)).length = L.length ∧ PyData.depthKv (kdOf L) ≤ 1
  | [], _ => by simp [PyData.showableKv, PyData.shownKv, PyData.depthKv]
  | p :: L, h => by
    obtain ⟨h1, h2, h3, h4⟩ := show_kv L fun q hq => h q (List.mem_cons_of_mem _ hq)
    obtain ⟨⟨r1, r2⟩, r3, r4⟩ := h p List.mem_cons_self
    have a := PySem.StrLaws.reprText_len (S [p.1]) fun c hc => by
      rw [chars_S, List.mem_singleton] at hc
      omega
    rw [S_len [p.1]] at a
    have li : (toString p.2 : Str).length = 1 := by
      have e : ∀ k : Fin 10, (Str.ofString (toString ((k.val : Nat) : Int))).length = 1 := by decide +kernel
      have e2 := e ⟨p.2.toNat, by omega⟩
      have e3 : ((p.2.toNat : Nat) : Int) = p.2 := by omega
      have e4 : (Str.ofString (toString ((p.2.toNat : Nat) : Int))).length = 1 := e2
      rw [e3] at e4
      exact e4
    refine ⟨?_, ?_, ?_, ?_⟩
    · have hz : decide (p.2.natAbs.log2 < 1920) = true := decide_eq_true (Nat.lt_of_le_of_lt (Nat.log2_le_self _) (by omega))
      show (PyData.showable (.str (S [p.1])) && PyData.showable (.int p.2) && PyData.showableKv (kdOf L)) = true
      rw [h1]
      show (true && decide (p.2.natAbs.log2 < 1920) && true) = true
      rw [hz]
      rfl
    · show (((reprText (S [p.1]) ++ ": " ++ (toString p.2 : Str)) :: PyData.shownKv (kdOf L)).map (·.length)).sum ≤ 20 * (p :: L).length
      rw [List.map_cons, List.sum_cons, strLen_append, strLen_append, li, List.length_cons]
      have e2 : (": " : Str).length = 2 := rfl
      have e1 : [p.1].length = 1 := rfl
      omega
    · show (PyData.shownKv (kdOf L)).length + 1 = _
      rw [h3, List.length_cons]
    · show max (max (PyData.depth (.str (S [p.1]))) (PyData.depth (.int p.2))) (PyData.depthKv (kdOf L)) ≤ 1
      simp only [PyData.depth]
      omega
theorem show_dict {L : LC} (ok : LOk L) : ShowOk (.dict (kdOf L)) := by
  obtain ⟨h1, h2, h3, h4⟩ := show_kv L fun p hp => ⟨ok.rng p hp, ok.cost p hp⟩
  have l4 := ok.few
  refine ⟨h1, ?_, ?_⟩
  · have a := dictText_len_le (PyData.shownKv (kdOf L))
    show (dictText (PyData.shownKv (kdOf L))).length ≤ sizeLine
    rw [h3] at a
    exact sl_of (by omega)
  · simp only [PyData.depth]
    omega
abbrev lawEnv (K : PySem.W.Frag) (L c : Addr) : Env := envOfC "law" (defScope s_law) L (He.ga K "law") (.ref c)
abbrev lq (K : PySem.W.Frag) (L c : Addr) : Str := (lawEnv K L c).qual ++ "<lambda>"
abbrev lfam (K : PySem.W.Frag) (L c : Addr) (c' : Addr) : LF := fam (lq K L c) (lawEnv K L c).cells c'
theorem fr_free : ∀ y ∈ frN, (y, NameKind.free) ∈ (lamSc lamE).names := by decide +kernel
theorem fr_at : jsN.map (fun i => n_law[i]?) = frN.map some := rfl
section
variable {P : Program} {w : World} {K : PySem.W.Frag} {mg : Str → Option Value} {base : Heap}
def spLaw (K : PySem.W.Frag) : Sp := fun vs H Q _ => ∃ (a : Addr) (ns : List Int), vs = [.ref a] ∧ H (lawC K).2 = some (.tbl #[]) ∧ SqL K H a (ns.map V.int) ∧ ns.length ≤ 63 ∧ ∀ H', Q (.bl true) H'
theorem ok_law (T : Tx K mg) (TB : TabB base mg (lawC K).1 (lawC K).2) : FnG P w K mg base CX0 10 (He.ga K "law") (spLaw K) := by
  obtain ⟨fd, F⟩ := T.d.def_ 21 (d := d_law) rfl
  have hb := F.bindsA (ps := ["_law_script"]) fun _ _ _ _ _ _ us hl => match us, hl with | [_], _ => rfl
  obtain ⟨oc, od, dV, kVv, doc, pm, an, cdv, ct, osl, rfl, lk, hcd, _⟩ := F.ex
  obtain ⟨c, rfl⟩ := He.codeIn_ref hcd
  have ec : (lawC K).1 = c := He.codeOf_eq lk rfl
  rw [ec] at TB
  intro A outer s0 H0 us vs Q E hg hr0 e0 r hsp
  obtain ⟨ad, ns, rfl, htb, hs, hl, q⟩ := hsp
  refine StX.run_bnd (G := fun xs H2 => xs = [.ref ad] ∧ H2 = H0) lk hcd sc_law hr0 e0 (fun A' Ex Q' q => ?_) fun s H xs g hr => ?_
  · exact hb s0 us (by rw [← r.length]; rfl) _ A' Ex Q' (q s0 H0 [.ref ad] us e0 Un.refl rfl (fun _ _ z => z) r rfl ⟨rfl, rfl⟩)
  · obtain ⟨rfl, rfl⟩ := g
    have nd := sc_law.nd
    have zg := T.z "range" (by decide +kernel)
    have zl := T.z "len" (by decide +kernel)
    have bl : bootBuiltins "len" = some (.builtin "len") := by decide +kernel
    have zr := T.z "repr" (by decide +kernel)
    have br : bootBuiltins "repr" = some (.builtin "repr") := by decide +kernel
    have hu := hr.units
    have gdr := T.g "_law_draw" (by decide +kernel)
    obtain ⟨cp, cg, fdc, cm, FDc⟩ := T.o.oc
    obtain ⟨pp, pg, pfd, hpP, GP, bP⟩ := ok_costsP (P := P) (w := w) (base := base) T
    refine ⟨_, PSs.nox (pss_cons (ps_set (i := 1) nd rfl (Or.inr rfl) (pe_callG (ok_pen T) (hr.mono (by decide)) hg (by rfl) (T.g "_law_pen" (by decide +kernel)) (kp__law_pen T.d) pass0 (pa_cons (pv 0) pa_nil)))
      (pss_cons (ps_for PassesOwn.never rfl (pi_range1 (by rfl) zg (pa_cons (pe_op op_add pe_int (pe_callB (call_min2 rfl) (by rfl) (T.z "min" (by decide +kernel)) (by decide +kernel) (pa_cons pe_int (pa_cons (pe_callB call_len_seq (by rfl) zl bl (pa_cons (pv 0) pa_nil)) pa_nil)))) pa_nil)) (pg_name (i := 2) nd rfl (.inl rfl))
        (pss_cons (ps_set (i := 3) nd rfl (Or.inl rfl) (pe_callG (ok_letters T) (hr.mono (by decide)) hg (by rfl) (T.g "_law_letters" (by decide +kernel)) (kp__law_letters T.d) pass0 (pa_cons (pv 1) (pa_cons pe_int pa_nil))))
        (pss_cons (ps_set (i := 4) nd rfl (Or.inl rfl) (pe_callTy (call_dictP rfl) (by rfl) (T.z "dict" (by decide +kernel)) (by decide +kernel) (pa_cons
          (pe_lc (own := [("_law_letter", 5)]) (g := gName 5) (tt := tYes) rfl nd (pi_str (pv 3)) (blkOk_by (N := n_law) (sc := defScope s_law) (by decide +kernel)) (fun _ _ _ _ _ => pg_name (i := 5) nd rfl (Or.inl rfl)) (fun _ _ _ _ _ => pts_nil)
            (fun _ _ _ _ _ => pe_tup (pa_cons (pv 5) (pa_cons (pe_op op_add pe_int (pe_callG (ok_draw T) (hr.mono (by decide)) hg (by rfl) gdr (kp__law_draw T.d) pass0 (pa_cons (pv 1) (pa_cons pe_int pa_nil)))) pa_nil)))) pa_nil)))
        (pss_cons (ps_par (i := 6) (j := 7) rfl nd rfl rfl (by decide) rfl rfl (pa_cons (pe_cmethG (by rfl) (T.g "Order" (by decide +kernel)) T.o.rd cm (ok_of_costs T FDc) (hr.mono (by decide)) hg pass0 (pa_cons (pv 4) pa_nil))
          (pa_cons (pe_callG (ok_otext T) (hr.mono (by decide)) hg (by rfl) (T.g "_law_order_text" (by decide +kernel)) (kp__law_order_text T.d) pass0 (pa_cons (pv 4) pa_nil)) pa_nil)) rfl)
        (pss_cons (ps_if (PW.pt (pw_or (pt_cmpR op_ne (pe_callB (call_reprO T.sm hg hu) (by rfl) zr br (pa_cons (pe_callK (FnK.down (CX := CX0) (ok_write T)) (hr.mono (by decide)) hg (by rfl) (T.g "write_order" (by decide +kernel)) (kp_write_order T.d) pass0 (pk_cons (pv 6) pk_nil)) pa_nil))
            (pe_callB (call_reprO T.sm hg hu) (by rfl) zr br (pa_cons (pv 7) pa_nil)) (nomark _))
          (pw_or1 (pt_cmpR (op_neOwn (ok_eqO T) (hr.mono (by decide)) hg pass0) (pe_callG (FnG.down (CX := CX0) (ok_read T)) (hr.mono (by decide)) hg (by rfl) (T.g "read_order" (by decide +kernel)) (kp_read_order T.d) pass0 (pa_cons (pv 7) pa_nil)) (pv 6) (nomark _))))) pss_never pss_nil)
        (pss_one (ps_for PassesOwn.never rfl (pi_range1 (by rfl) zg (pa_cons pe_int pa_nil)) (pg_name (i := 8) nd rfl (.inl rfl))
          (pss_cons (ps_set (i := 9) nd rfl (Or.inr rfl) (pv 7))
          (pss_cons (ps_for PassesOwn.never rfl (pi_range1 (by rfl) zg (pa_cons (pe_callG (ok_draw T) (hr.mono (by decide)) hg (by rfl) gdr (kp__law_draw T.d) pass0 (pa_cons (pv 1) (pa_cons pe_int pa_nil))) pa_nil)) (pg_name (i := 10) nd rfl (.inl rfl))
            (pss_one (ps_set (i := 9) nd rfl (Or.inr rfl) (pe_callG (ok_bent T) (hr.mono (by decide)) hg (by rfl) (T.g "_law_bent_line" (by decide +kernel)) (kp__law_bent_line T.d) pass0 (pa_cons (pv 1) (pa_cons (pv 9) pa_nil))))))
          (pss_cons (ps_set (i := 9) nd rfl (Or.inr rfl) (pe_callG (ok_pick T) (hr.mono (by decide)) hg (by rfl) (T.g "_law_pick" (by decide +kernel)) (kp__law_pick T.d) pass0 (pa_cons (pv 1) (pa_cons (pe_lst (pa_cons (pv 9) (pa_cons (pv 9) (pa_cons (pv 9)
              (pa_cons (pe_bm0 PySem.F.plainAttrs_str PySem.F.slot_str_upper PySem.F.type_str_upper mt_upper (pv 9)) (pa_cons (pe_lst (pa_cons (pv 9) pa_nil)) (pa_cons pe_non (pa_cons pe_int (pa_cons (pe_slice C8.sl_txt (pv 9) po_none (po_some (pe_un un_neg pe_int)))
              (pa_cons (pe_op op_add_str (pv 9) (pv 9)) pa_nil)))))))))) pa_nil))))
          (C8.pss_cut (ps_set (i := 11) nd rfl (Or.inl rfl) (pe_ifExp (pt_val (pe_callB call_isi (by rfl) (T.z "isinstance" (by decide +kernel)) (by decide +kernel) (pa_cons (pv 9) (pa_cons (pe_bltn (v := .ty "str") (by rfl) (T.z "str" (by decide +kernel)) (by decide +kernel) rfl) pa_nil))))
            (pe_callG (ok_oread T) (hr.mono (by decide)) hg (by rfl) (T.g "_law_order_read" (by decide +kernel)) (kp__law_order_read T.d) pass0 (pa_cons (pv 9) pa_nil)) pe_non))
          (pss_cons (ps_set (i := 12) nd rfl (Or.inl rfl) (pe_tcall (I0 := Unit) (fam := fun _ c' => lfam K s.heap.objs.size c c') (fr := fun _ => frN) (js := fun _ => jsN) (sp := fun _ => spMet K) (fun _ f c' => ok_met (lq K s.heap.objs.size c) T (lawEnv K s.heap.objs.size c).cells f c') (fun _ c' ok => Caps.made ok lam_in.free fr_free fr_at) hr hg (by rfl) (T.g "_law_line_met" (by decide +kernel)) (kp__law_line_met T.d) pass0
            (pa_cons (pe_lam (T := [((lawC K).2, lq K s.heap.objs.size c)]) (mk := fun c' => lfam K s.heap.objs.size c c') TB rfl (List.mem_singleton.mpr rfl) (fun p hp _ => by rw [List.mem_singleton.mp hp]; rfl) rfl lam_in rfl) pa_nil)))
          (pss_cons (ps_if (PW.pt (pw_and (pt_cmp (pc_isN (pv 11))) (pw_and1 (pt_cmpR op_ne (pe_callB (call_reprO T.sm hg hu) (by rfl) zr br (pa_cons (pv 12) pa_nil)) (pe_callB (call_reprO T.sm hg hu) (by rfl) zr br (pa_cons (pe_tup (pa_cons pe_str (pa_cons pe_int pa_nil))) pa_nil)) (nomark _))))) pss_never pss_nil)
          (pss_one (ps_if (PW.pt (pw_and (pt_cmp (pc_notN (pv 11))) (pw_and1 (PW.pt (pw_or (pt_cmpR op_ne (pe_ix ix_tup (pv 12) pe_int (fun _ _ => rfl)) pe_str (nomark _))
            (pw_or1 (pt_cmpR op_ne (pe_callB (call_reprO T.sm hg hu) (by rfl) zr br (pa_cons (pe_prop (pe_ix ix_tup (pv 12) pe_int (fun _ _ => rfl)) T.o.cl hpP GP (hr.mono (by decide)) bP .nil pass0 (by rfl)) pa_nil))
              (pe_callB (call_reprO T.sm hg hu) (by rfl) zr br (pa_cons (pv 11) pa_nil)) (nomark _)))))))) pss_never pss_nil)))))))))))))))
      (pss_one (ps_ret pe_bl)))), ?_⟩
    have tb0' : Tabs [((lawC K).2, lq K s.heap.objs.size c)] H := fun p hp => by
      rw [List.mem_singleton.mp hp]
      exact TabS.nil htb
    refine ⟨_, rfl, ad, ns, rfl, hs, hl, fun d H1 s1 hd pen1 => ?_⟩
    have hs1 := s1.seq hs
    refine ⟨_, rfl, ad, _, rfl, .inl hs1, _, _, rfl, _, _, rfl, rfl, _, rfl, ?_⟩
    obtain ⟨n, hn, ln⟩ : ∃ n : Nat, (8 + if (((ns.map V.int).length : Nat) : Int) < 8 then (((ns.map V.int).length : Nat) : Int) else 8) = (n : Int) ∧ n ≤ 16 := by
      split
      · exact ⟨8 + (ns.map V.int).length, by omega, by omega⟩
      · exact ⟨16, rfl, by omega⟩
    rw [hn]
    refine ⟨by omega, by omega, ?_⟩
    refine for_range (lo := 0) (n := n) (fun i σ H' => ∃ v2 v3 v4 v6 v7 v8 v9 v10 v11 v12 : Option V, PenAt H' d (100 * (i : Int)) ∧ Tabs [((lawC K).2, lq K s.heap.objs.size c)] H' ∧ σ = [some (.ref ad), some (.ref d), v2, v3, v4, none, v6, v7, v8, v9, v10, v11, v12]) ⟨_, _, _, _, _, _, _, _, _, _, pen1.mono (by omega), tb0'.ext s1, rfl⟩ ?_ ?_
    · rintro i σ H0 hi ⟨v2, v3, v4, v6, v7, v8, v9, v10, v11, v12, pen0, tb0, rfl⟩
      refine ⟨_, rfl, d, _, rfl, pen0, by omega, fun cs H2 co bt2 pen2 => ?_⟩
      have tb2 := Tabs.wr (Wr.but pen0 bt2) tb0
      -- the costs
      obtain ⟨c0, penC⟩ := pen2.c
      obtain ⟨cells, b0, l0, hd2, hc2, _⟩ := id penC.ex
      have lcs : (S cs).cps.size = cs.length := by simp
      have few4 := co.few
      refine ⟨_, rfl, S cs, rfl, fun D nD => lc_it wk_str (fun j H' => ∃ (ps : List Addr) (L : LC), L.map (·.1) = cs.take j ∧ (∀ p ∈ L, 1 ≤ p.2 ∧ p.2 ≤ 9) ∧ H' D = some (.lst (ps.map V.ref)) ∧
        Paired (fun (t : Addr) (kv : Key × V) => H' t = some (.tup [kV kv.1, kv.2])) ps (dOf L) ∧ But d H2 H' ∧ PenC H' d c0 (100 * (i : Int) + 27 + (j : Int))) ?_ (fun _ _ _ _ => trivial) ?_ ?_⟩
      · have s1 := same_up (o := .lst []) nD
        exact ⟨[], [], by simp, fun _ h => (by cases h), upd_same, .nil, But.same s1, (penC.same s1).mono (by omega)⟩
      · rintro j x J1 J1' hj ⟨ps, L, e1, cst, hD, pr, bt, pc⟩ ⟨rfl, ch, hcc, rfl⟩
        rw [lcs] at hj
        have dD : d ≠ D := ne_of_none hd2 nD
        have cD : c0 ≠ D := ne_of_none hc2 nD
        refine ⟨rfl, ?_⟩
        unfold tYes
        dsimp only
        rw [if_pos rfl]
        have pl : L.length = j := by
          have := congrArg List.length e1
          rw [List.length_map, List.length_take] at this
          omega
        have psl : ps.length = L.length := by
          have := pr.length
          rw [List.length_map] at this
          exact this
        refine ⟨_, rfl, _, rfl, d, _, 9, rfl, pc.at_, by omega, by decide, by decide, fun v J2 bt2' pen2' v0 v9 => ?_⟩
        have pc2 := pc.on bt2' pen2'
        have hD2 : J2 D = some (.lst (ps.map V.ref)) := bt2'.keeps hD (Ne.symm dD)
        refine ⟨_, _, rfl, rfl, by show 2 ≤ sizeLine; decide, fun t nt => ⟨_, (same_up (o := .tup [.str ⟨#[ch]⟩, .int (1 + v)]) nt) _ _ hD2, ?_, ?_⟩⟩
        · rw [List.length_map, psl, pl, sizeLine_eq]
          omega
        · have s3 := same_up (o := .tup [.str ⟨#[ch]⟩, .int (1 + v)]) nt
          have tD : t ≠ D := fun z => by
            rw [z, hD2] at nt
            cases nt
          refine ⟨ps ++ [t], L ++ [(ch, 1 + v)], ?_, ?_, ?_, ?_, ?_, ?_⟩
          · rw [List.map_append, e1]
            rw [← Array.getElem?_toList, chars_S] at hcc
            rw [List.take_add_one, hcc]
            rfl
          · intro p hp
            rcases List.mem_append.mp hp with h | h
            · exact cst p h
            · rw [List.mem_singleton.mp h]
              exact ⟨by show 1 ≤ 1 + v; omega, by show 1 + v ≤ 9; omega⟩
          · rw [upd_same, List.map_append]
            rfl
          · rw [dOf_snoc]
            refine paired_snoc (paired_mono (fun a b h => ?_) pr) ?_
            · have ad : a ≠ d := fun z => by
                rw [z] at h
                obtain ⟨_, _, _, h2, _⟩ := pc.ex
                rw [h2] at h
                cases h
              have aD : a ≠ D := fun z => by
                rw [z, hD] at h
                cases h
              rw [upd_ne aD]
              exact s3 _ _ (bt2'.keeps h ad)
            · rw [upd_ne tD, upd_same]
              rfl
          · exact ((bt.trans bt2').trans (But.same s3)).up nD dD
          · exact ((pc2.same s3).up dD cD).mono (by omega)
      · rintro H3 ⟨ps, L, e1, cst, hD, pr, bt3, pc3⟩
        rw [lcs] at e1 pc3
        rw [List.take_length] at e1
        have okL : LOk L := by
          have ll : L.length = cs.length := by
            have := congrArg List.length e1
            rwa [List.length_map] at this
          refine ⟨by rw [ll]; exact co.pos, by rw [ll]; exact co.few, by rw [e1]; exact co.asc, fun p hp => ?_, cst⟩
          exact co.rng p.1 (by rw [← e1]; exact List.mem_map.mpr ⟨p, hp, rfl⟩)
        refine ⟨D, ps, dOf L, rfl, SqL.of hD, paired_mono (fun a b h => SqT.of h) pr, fun a na => ?_⟩
        rw [merge0 (asc_nodup okL.asc)]
        have s4 := same_up (o := .dK (dOf L)) na
        have ha4 : upd H3 a (.dK (dOf L)) a = some (.dK (dOf L)) := upd_same
        have pen4 : PenAt (upd H3 a (.dK (dOf L))) d (100 * (i : Int) + 31) := (pc3.same s4).at_.mono (by omega)
        have tb4 := (Tabs.wr (Wr.but pen2 bt3) tb2).ext s4
        generalize upd H3 a (.dK (dOf L)) = H4 at ha4 pen4 tb4 ⊢
        refine ⟨_, rfl, _, a, L, L, rfl, okL, List.Perm.refl _, ha4, fun o H5 s5 at5 no => ?_⟩
        refine ⟨_, rfl, a, L, rfl, okL, s5 _ _ ha4, fun H6 s6 => ⟨_, _, rfl, ?_⟩⟩
        have as0 := line_as okL
        have ll := line_len okL
        have at6 := at5.same s6
        obtain ⟨sh1, sh2, sh3⟩ := show_str as0 (by omega)
        refine ⟨_, rfl, rfl, o, L, rfl, at6, fun H7 s7 => ?_⟩
        refine ⟨_, _, rfl, .str _, sh1, sh2, sh3, _, rfl, _, _, rfl, .str _, sh1, sh2, sh3, rfl, _, rfl, ?_⟩
        rw [sEq]
        refine ifF (by rw [decide_eq_true rfl]; rfl) ?_
        have at7 := at6.same s7
        refine ⟨_, rfl, _, .str (S (lineO L)), rfl, .str _, fun s hs => ?_, fun h => ?_, fun L' hL' o2 H8 s8 at8 no8 => ?_⟩
        · cases hs
          rw [chars_S, S_len]
          exact ⟨as0, by omega⟩
        · rw [readD_S, read_line okL] at h
          cases h
        rw [readD_S, read_line okL] at hL'
        obtain rfl := Option.some.inj hL'
        have at7' := at7.same s8
        obtain ⟨dx8, dc8, fw8, ho8, _⟩ := id at8.ex
        refine ⟨_, rfl, o2, OC K, dx8, _, _, rfl, ho8, T.tyO at7', T.ow, o2, o, L, rfl, at8, at7', true, rfl, _, rfl, ifF rfl ?_⟩
        have s48 := ((s5.trans s6).trans s7).trans s8
        have pen8 := pen4.same s48
        have tb8 := tb4.ext s48
        clear s48 s8 s7 s6 s5 at5 at6 at7 at7' at8
        -- three texts
        refine ⟨_, rfl, by decide, by decide, ?_⟩
        refine for_range (lo := 0) (fun j σ H' => ∃ v8 v9 v10 v11 v12 : Option V, PenAt H' d (100 * (i : Int) + 31 + 15 * (j : Int)) ∧ Tabs [((lawC K).2, lq K s.heap.objs.size c)] H' ∧
          σ = [some (.ref ad), some (.ref d), some (.int (0 + (i : Int))), some (.str (S cs)), some (.ref a), none, some (.ref o), some (.str (S (lineO L))), v8, v9, v10, v11, v12]) ⟨_, _, _, _, _, pen8.mono (by omega), tb8, rfl⟩ ?_ ?_
        · rintro j σ J0 hj ⟨v8, v9, v10, v11, v12, pn0, tn0, rfl⟩
          have hj3 : j < 3 := hj
          refine ⟨_, rfl, ?_⟩
          refine ⟨_, rfl, d, _, 3, rfl, pn0, by omega, by decide, by decide, fun v J1 bt1 pn1 v0 v3 => ⟨_, rfl, by omega, by omega, ?_⟩⟩
          have tn1 := Tabs.wr (Wr.but pn0 bt1) tn0
          refine for_range (lo := 0) (n := v.toNat) (fun m σ H' => ∃ (v10 : Option V) (u : Cd), PenAt H' d (100 * (i : Int) + 32 + 15 * (j : Int) + 5 * (m : Int)) ∧ Tabs [((lawC K).2, lq K s.heap.objs.size c)] H' ∧ As u ∧ u.length ≤ (if m = 0 then 16 else if m = 1 then 156 else 576) ∧
            σ = [some (.ref ad), some (.ref d), some (.int (0 + (i : Int))), some (.str (S cs)), some (.ref a), none, some (.ref o), some (.str (S (lineO L))), some (.int (0 + (j : Int))), some (.str (S u)), v10, v11, v12])
            ⟨_, lineO L, pn1.mono (by omega), tn1, as0, ll, rfl⟩ ?_ ?_
          · rintro m σ J2 hm ⟨v10, u, pn2, tn2, au, lu, rfl⟩
            have hm2 : m < 2 := by omega
            have lu6 : u.length ≤ 156 := by
              split at lu
              · omega
              · split at lu
                · exact lu
                · omega
            refine ⟨_, rfl, _, rfl, d, _, u, rfl, pn2, by omega, au, by omega, fun x J3 ax lx bt3 pn3 => ?_⟩
            refine ⟨_, x, pn3.mono (by omega), Tabs.wr (Wr.but pn2 bt3) tn2, ax, ?_, rfl⟩
            rcases (show m = 0 ∨ m = 1 by omega) with rfl | rfl
            · rw [if_pos rfl] at lu
              show x.length ≤ 156
              omega
            · show x.length ≤ 576
              omega
          · rintro σ J2 ⟨v10, u, pn2, tn2, au, lu, rfl⟩
            have lu5 : u.length ≤ 576 := by
              split at lu
              · omega
              · split at lu <;> omega
            have hv2 : (v.toNat : Int) ≤ 2 := by omega
            have pn2' : PenAt J2 d (100 * (i : Int) + 42 + 15 * (j : Int)) := pn2.mono (by omega)
            have slu : (S u).length ≤ sizeLine := by rw [S_len]; exact sl_of (by omega)
            have aup : (u.map PyProof.Rows.up1).length = u.length := List.length_map ..
            have eup : Txt.upper (S u) = S (u.map PyProof.Rows.up1) := upper_S (List.all_eq_true.mpr fun c hc => decide_eq_true (au c hc))
            refine ⟨_, rfl, _, rfl, _, rfl, _, rfl, _, rfl, rfl, _, rfl, rfl, by rw [S_len]; omega, ?_⟩
            rw [eup]
            refine ⟨_, rfl, by show 1 ≤ sizeLine; decide, fun l1 n1 => ?_⟩
            have s1' := same_up (o := .lst [.str (S u)]) n1
            refine ⟨_, rfl, _, rfl, _, rfl, _, rfl, slu, _, rfl, _, rfl, _, _, rfl, rfl, by rw [S_len]; exact sl_of (by omega), by show 9 ≤ sizeLine; decide, fun l2 n2 => ?_⟩
            obtain ⟨m2, em2, lm2, am2⟩ : ∃ m2 : Cd, Txt.slice (S u) none (some (-1)) = S m2 ∧ m2.length ≤ u.length ∧ As m2 := by
              by_cases hr0 : u = []
              · subst hr0
                exact ⟨[], by decide +kernel, Nat.le_refl _, fun c hc => nomatch hc⟩
              · exact ⟨u.take (u.length - 1), slice_butlast hr0, by rw [List.length_take]; omega, fun c hc => au c (List.mem_of_mem_take hc)⟩
            have ex : ∀ z : Int, z = -1 → Txt.slice (S u) none (some z) = S m2 := fun z hz => by rw [hz]; exact em2
            rw [ex _ rfl, S_cat] at *
            have s2' := same_up (H := upd J2 l1 (.lst [.str (S u)])) (o := .lst [.str (S u), .str (S u), .str (S u), .str (S (u.map PyProof.Rows.up1)), .ref l1, .non, .int 7, .str (S m2), .str (S (u ++ u))]) n2
            have s12' := s1'.trans s2'
            have hl1 := s2' _ _ (upd_same (H := J2) (a := l1) (o := .lst [.str (S u)]))
            have tn2' := tn2.ext s12'
            have pn2s := pn2'.same s12'
            have l1d : l1 ≠ d := fun z => by
              obtain ⟨_, _, _, _, h1, _⟩ := pn2'.ex
              rw [z, h1] at n1
              cases n1
            refine ⟨d, l2, _, _, rfl, pn2s, by omega, upd_same, by show 0 < 9; decide, by show 9 < 1000; decide, fun y J3 hy bt3 pn3 => ?_⟩
            have tn3 := Tabs.wr (Wr.but pn2s bt3) tn2'
            have hl3 := bt3.keeps hl1 l1d
            obtain ⟨dd, hdo, sdd⟩ : ∃ dd, Do K J3 y dd ∧ smallD dd := by
              have str_ok : ∀ u' : Cd, As u' → u'.length ≤ 1800 → smallD (.str (S u')) := fun u' h1 h2 s hs => by
                cases hs
                rw [chars_S, S_len]
                exact ⟨h1, h2⟩
              simp only [List.mem_cons, List.not_mem_nil, or_false] at hy
              rcases hy with rfl | rfl | rfl | rfl | rfl | rfl | rfl | rfl | rfl
              · exact ⟨_, .str _, str_ok u au (by omega)⟩
              · exact ⟨_, .str _, str_ok u au (by omega)⟩
              · exact ⟨_, .str _, str_ok u au (by omega)⟩
              · refine ⟨_, .str _, str_ok _ (fun x hx => ?_) (by rw [aup]; omega)⟩
                obtain ⟨x', hx', rfl⟩ := List.mem_map.mp hx
                have := au x' hx'
                unfold PyProof.Rows.up1
                split <;> omega
              · exact ⟨.list [.str (S u)], .lst (SqL.of hl3) (.cons (.str _) .nil), fun s hs => by cases hs⟩
              · exact ⟨_, .non, fun s hs => by cases hs⟩
              · exact ⟨_, .int 7, fun s hs => by cases hs⟩
              · exact ⟨_, .str _, str_ok m2 am2 (by omega)⟩
              · refine ⟨_, .str _, str_ok _ (fun x hx => ?_) (by rw [List.length_append]; omega)⟩
                rcases List.mem_append.mp hx with h | h
                · exact au x h
                · exact au x h
            refine ⟨fun σ' J => ∃ (z : V) (v12' : Option V), σ' = [some (.ref ad), some (.ref d), some (.int (0 + (i : Int))), some (.str (S cs)), some (.ref a), none, some (.ref o), some (.str (S (lineO L))), some (.int (0 + (j : Int))), some y, v10, some z, v12'] ∧
              PenAt J d (100 * (i : Int) + 43 + 15 * (j : Int)) ∧ Tabs [((lawC K).2, lq K s.heap.objs.size c)] J ∧ Do K J y dd ∧ ((readD dd = none ∧ z = .non) ∨ ∃ L' p, readD dd = some L' ∧ z = .ref p ∧ J p = some (.dK (dOf L'))), ?_, ?_⟩
            · refine ⟨_, rfl, _, _, _, _, _, rfl, .ty "str", hdo.ty, kit_str dd, _, rfl, ?_⟩
              cases es : is_str dd with
              | true =>
                obtain ⟨s', rfl⟩ : ∃ s', dd = .str s' := by
                  cases dd with
                  | str s' => exact ⟨s', rfl⟩
                  | _ => cases es
                obtain ⟨as', ls'⟩ := sdd _ rfl
                cases hdo
                obtain ⟨u', rfl⟩ : ∃ u', s' = S u' := ⟨TL.tl s', (S_tl s').symm⟩
                rw [S_len] at ls'
                refine ifT rfl ⟨_, rfl, u', rfl, ls', fun hn J4 s4' => ?_, fun L' hL p J4 s4' hp4 => ?_⟩
                · exact ⟨_, _, rfl, (pn3.same s4').mono (by omega), tn3.ext s4', .str _, .inl ⟨by rw [readD_S]; exact hn, rfl⟩⟩
                · exact ⟨_, _, rfl, (pn3.same s4').mono (by omega), tn3.ext s4', .str _, .inr ⟨L', p, by rw [readD_S]; exact hL, rfl, hp4⟩⟩
              | false =>
                refine ifF rfl ⟨_, _, rfl, pn3.mono (by omega), tn3, hdo, .inl ⟨?_, rfl⟩⟩
                cases dd with
                | str s => cases es
                | _ => rfl
            · rintro σ' J4 ⟨z, v12', rfl, pn4, tn4, hdo4, hz⟩
              refine ⟨tn4, fun f c' J5 x5 tn5 hf5 hc5 => ?_⟩
              have pn5 := pn4.ext x5
              refine ⟨(), f, c', rfl, hf5, hc5, y, dd, rfl, Do.ext x5 _ _ hdo4, sdd, fun er p J6 s6' hp6 => ?_, fun L' er o6 p J6 s6' at6 hp6 => ?_⟩
              · have ez : z = .non := by
                  rcases hz with ⟨_, e⟩ | ⟨L', _, e, _⟩
                  · exact e
                  · rw [er] at e
                    cases e
                subst ez
                have pn6 := pn5.same s6'
                have tn6 := tn5.ext s6'
                obtain ⟨w1, w2, w3⟩ := show_line0
                have dt : Do K J6 (.ref p) (.tuple [.str "line", .int 0]) := .tup (SqT.of hp6) (.cons (.str _) (.cons (.int _) .nil))
                refine ⟨_, rfl, _, rfl, ifT (decide_eq_true rfl) ⟨_, rfl, _, _, rfl, dt, w1, w2, w3, by show 2 ≤ sizeLine; decide, fun p7 np7 => ?_⟩⟩
                have s7' := same_up (o := .tup [.str "line", .int 0]) np7
                refine ⟨_, _, rfl, .tup (SqT.of upd_same) (.cons (.str _) (.cons (.int _) .nil)), w1, w2, w3, rfl, _, rfl, ?_⟩
                rw [sEq]
                refine ifF (by rw [decide_eq_true rfl]; rfl) ?_
                refine ⟨_, rfl, _, rfl, ifF (by rw [decide_eq_true rfl]; rfl) ?_⟩
                exact ⟨_, _, _, _, _, (pn6.same s7').mono (by omega), tn6.ext s7', rfl⟩
              · obtain ⟨a6, ez, ha6⟩ : ∃ a6, z = .ref a6 ∧ J4 a6 = some (.dK (dOf L')) := by
                  rcases hz with ⟨e, _⟩ | ⟨L2', a6, e, e2, h⟩
                  · rw [er] at e
                    cases e
                  · rw [er] at e
                    cases e
                    exact ⟨a6, e2, h⟩
                subst ez
                have pn6 := pn5.same s6'
                have tn6 := tn5.ext s6'
                have hd6 := s6' _ _ (x5 _ _ ha6 fun ps z => by cases z)
                refine ⟨_, rfl, _, rfl, ifF (decide_eq_false (by intro z; cases z)) ?_⟩
                refine ⟨_, rfl, _, rfl, ifT (by rw [decide_eq_false (by intro z; cases z)]; rfl) ?_⟩
                refine ⟨_, rfl, p, _, _, _, rfl, rfl, SqT.of hp6, rfl, rfl, _, rfl, ?_⟩
                rw [sEq]
                refine ifF (by rw [decide_eq_true rfl]; rfl) ?_
                obtain ⟨dx6, dc6, fw6, ho6, _⟩ := id at6.ex
                have ok6 := at6.ok
                refine ⟨_, rfl, p, _, _, _, rfl, rfl, SqT.of hp6, rfl, o6, dx6, _, rfl, ho6, o6, L', rfl, at6, fun p8 J8 hp8 np8 s8' => ?_⟩
                obtain ⟨w1, w2, w3⟩ := show_dict ok6
                refine ⟨_, _, rfl, do_dOf hp8, w1, w2, w3, _, rfl, _, _, rfl, do_dOf (s8' _ _ hd6), w1, w2, w3, rfl, _, rfl, ?_⟩
                rw [sEq]
                refine ifF (by rw [decide_eq_true rfl]; rfl) ?_
                exact ⟨_, _, _, _, _, (pn6.same s8').mono (by omega), tn6.ext s8', rfl⟩
        · rintro σ J ⟨v8, v9, v10, v11, v12, pn, tn, rfl⟩
          exact ⟨_, _, _, _, _, _, _, _, _, _, pn.mono (by omega), tn, rfl⟩
    · rintro σ H' ⟨v2, v3, v4, v6, v7, v8, v9, v10, v11, v12, _, _, rfl⟩
      exact q _
end
end K84

namespace K84
open PySem PySem.Spec PyProof.Rows L2 Ver Num
theorem all_cons_ok {b : Bool} {l : List Bool} (h : (b :: l).all id = true) : b = true ∧ l.all id = true := He.ba h
theorem ec_of {K : PySem.W.Frag} {x f : Str} (e : (xe K x f).all id = true) (hn : PySem.W.specialIn K (.builtin "object.__class__") "__get__" = some (some (.builtin "getset_descriptor.__get__"))) (ht : PySem.W.takesIn K (.builtin "object.__class__") = some true) : EC K (He.ga K x) f := by
  obtain ⟨a1, e⟩ := all_cons_ok e
  obtain ⟨a2, e⟩ := all_cons_ok e
  obtain ⟨a3, e⟩ := all_cons_ok e
  obtain ⟨a4, e⟩ := all_cons_ok e
  obtain ⟨a5, e⟩ := all_cons_ok e
  obtain ⟨a6, e⟩ := all_cons_ok e
  obtain ⟨a7, e⟩ := all_cons_ok e
  obtain ⟨a8, e⟩ := all_cons_ok e
  obtain ⟨a9, e⟩ := all_cons_ok e
  obtain ⟨a10, e⟩ := all_cons_ok e
  obtain ⟨a11, e⟩ := all_cons_ok e
  obtain ⟨a12, e⟩ := all_cons_ok e
  obtain ⟨a13, e⟩ := all_cons_ok e
  obtain ⟨a14, e⟩ := all_cons_ok e
  obtain ⟨a15, e⟩ := all_cons_ok e
  exact ⟨⟨oexB_ok a1, He.eqO_ok a2, of_decide_eq_true a3, of_decide_eq_true a4, a5⟩, He.eqO_ok a6, He.eqO_ok a7, of_decide_eq_true a8, ⟨He.eqO_ok a9, He.eqO_ok a10, of_decide_eq_true a3, a11⟩,
    ⟨He.eqO_ok a9, He.eqO_ok a10, of_decide_eq_true a3, a11, He.eqO_ok a12, hn, ht, of_decide_eq_true a13⟩, of_decide_eq_true a14, of_decide_eq_true a15⟩
theorem oc_of {K : PySem.W.Frag} (e : (xo K).all id = true) (v : fnA K (ofA K) = v1.1) : OrdC K := by
  obtain ⟨a1, e⟩ := all_cons_ok e
  obtain ⟨a2, e⟩ := all_cons_ok e
  obtain ⟨a3, e⟩ := all_cons_ok e
  obtain ⟨a4, e⟩ := all_cons_ok e
  obtain ⟨a5, e⟩ := all_cons_ok e
  obtain ⟨a6, e⟩ := all_cons_ok e
  obtain ⟨a7, e⟩ := all_cons_ok e
  obtain ⟨a8, e⟩ := all_cons_ok e
  obtain ⟨fd, F⟩ := fun_at (x := "of_costs") (q := "Order.of_costs") (st := s_Order_of_costs) v a8
  exact
    { cl := He.cls_ok a1
      na := fun f hf => He.noat_ok (List.all_eq_true.mp a2 f hf)
      mkr := He.mkr_ok a3
      rd := ⟨a4, He.eqO_ok a5⟩
      oc := ⟨_, ofA K, fd, He5.cmet_of a6 a7, F⟩ }
theorem tx_of {K : PySem.W.Frag} {h : Heap} {mg : Str → Option Value} (X : K.In h) (G : h.Ns mainGlobals mg) (S : Says h K) : Tx K mg := by
  obtain ⟨c, e, hd, out, _, v⟩ := S
  obtain ⟨e_1, e⟩ := He.ba e
  obtain ⟨e_o, e⟩ := He.ba e
  obtain ⟨e_p_costs, e⟩ := He.ba e
  obtain ⟨e_e_InvalidText, e⟩ := He.ba e
  have e_q := e
  obtain ⟨a1, e_1⟩ := all_cons_ok e_1
  obtain ⟨a2, e_1⟩ := all_cons_ok e_1
  obtain ⟨a3, e_1⟩ := all_cons_ok e_1
  obtain ⟨a4, e_1⟩ := all_cons_ok e_1
  obtain ⟨a5, e_1⟩ := all_cons_ok e_1
  obtain ⟨a6, e_1⟩ := all_cons_ok e_1
  obtain ⟨a7, e_1⟩ := all_cons_ok e_1
  obtain ⟨a8, e_1⟩ := all_cons_ok e_1
  obtain ⟨a9, e_1⟩ := all_cons_ok e_1
  obtain ⟨a10, e_1⟩ := all_cons_ok e_1
  obtain ⟨a11, e_1⟩ := all_cons_ok e_1
  obtain ⟨a12, e_1⟩ := all_cons_ok e_1
  obtain ⟨a13, e_1⟩ := all_cons_ok e_1
  exact
    { d := c
      g := fun x hx => He.glo_ok X G (He.SaysD.facts c (List.mem_append_left _ (List.mem_map_of_mem hx)))
      z := fun x hx => He.free_ok X G (He.SaysD.facts c (List.mem_append_right _ (List.mem_map_of_mem hx)))
      ml := He.int_ok X G a1
      gc := He.int_ok X G a2
      st := He.int_ok X G a3
      cs := He.str_ok X G a4
      gcd := PySem.W.mg_of X G (He.eqO_ok a5)
      sm := smTB_ok a6
      dgN := He.eqO_ok a7
      vV := vvB_ok a8
      clS := He.eqO_ok a9
      clT := of_decide_eq_true a10
      isO := of_decide_eq_true a11
      ccO := He.eqO_ok a12
      obO := of_decide_eq_true a13
      eX := ec_of e_e_InvalidText (He.eqO_ok a9) (of_decide_eq_true a10)
      pc := by
        obtain ⟨p1, e3⟩ := all_cons_ok e_p_costs
        obtain ⟨p2, e3⟩ := all_cons_ok e3
        obtain ⟨p3, e3⟩ := all_cons_ok e3
        obtain ⟨p4, e3⟩ := all_cons_ok e3
        obtain ⟨p5, e3⟩ := all_cons_ok e3
        obtain ⟨fd, F⟩ := fun_at (x := "costs") (q := "Order.costs") (st := s_Order_costs) (congrArg (fun z : W2 => z.2) v) p5
        exact ⟨pA_costs K, gA K (pA_costs K) "property", fd, ⟨He.eqO_ok p1, He.eqO_ok p2, of_decide_eq_true p3, gOk_ex p4⟩, F⟩
      ow := by
        obtain ⟨q1, e3⟩ := all_cons_ok e_q
        obtain ⟨q2, e3⟩ := all_cons_ok e3
        obtain ⟨q3, e3⟩ := all_cons_ok e3
        obtain ⟨q4, e3⟩ := all_cons_ok e3
        obtain ⟨q5, e3⟩ := all_cons_ok e3
        exact ⟨q1, He.eqO_ok q2, q3, He.eqO_ok q4, of_decide_eq_true q5⟩
      o := oc_of e_o (congrArg (fun z : W2 => z.1) v) }
end K84
open PySem PySem.W PySem.Calls PyProof.Rows
theorem PySem.Challenge.cw_firstanswers_k84_whole_texts_of_orders_holds : PySem.Challenge.rw_firstanswers_k84_whole_texts_of_orders.Holds := by
  w_on; o_law
  refine HandSHeadRun.head_imp (r := K84.R) (q := K84.qv) (H := K84.hook) (ob := K84.ob) (M := 8000) (loose := K84.lo) (d := HandSHeadRun.topDef K84.R.prog 36) (kwd := []) K84.ob_eq K84.run
    (by kernel_rfl) (by kernel_rfl) (by kernel_rfl) (by rfl) (by first | assumption | decide +kernel) (by decide +kernel) ⟨rfl, rfl, rfl, rfl, rfl, by decide +kernel⟩ ?hw ?hc
  case hw => w_witness2
  case hc =>
    refine Ver.walkT (l := PySem.Challenge.rw_firstanswers_k84_whole_texts_of_orders) (n := 63) (k := 10) rfl (by decide) (by kernel_rfl) ⟨rfl, by decide, by decide⟩ ?F
    intro w mg fa h Y G hmg0
    obtain ⟨K, KX, S⟩ := Y
    have hmg : mg ("law" : PySem.Str) = some (.ref fa) := by
      have q : (HandSHeadRun.topDef K84.R.prog 36).name = ("law" : PySem.Str) := by kernel_rfl
      rw [← q]
      exact hmg0
    have T := K84.tx_of KX G S
    have ef := hmg.symm.trans (T.g "law" (by decide +kernel))
    cases ef
    exact ⟨K, (K84.lawC K).1, (K84.lawC K).2, K84.spLaw K, KX, S.empty, S.out, PySem.W.codeHd_of_K KX S.hd, fun H a ns hl hT hS => ⟨a, ns, rfl, hT, hS, hl, fun _ => rfl⟩, fun base h1 h2 TB => K84.ok_law T TB⟩
